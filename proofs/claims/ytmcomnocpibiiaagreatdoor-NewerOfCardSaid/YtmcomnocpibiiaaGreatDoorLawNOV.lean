/-
  What this law alone needs, the law walked, and its statement.
  Conditions: each theorem's own.
-/
import Derived.Test.YtmcomnocpibiiaaGreatDoorRows
import Derived.Test.YtmcomnocpibiiaaGreatDoorCards
import Derived.Test.YtmcomnocpibiiaaGreatDoorTie
import Derived.Test.YtmcomnocpibiiaaGreatDoorNwrOfBA
import Derived.Test.YtmcomnocpibiiaaGreatDoorNwrOfBB
import Derived.Test.YtmcomnocpibiiaaGreatDoorNwrOfBC
import Derived.Test.YtmcomnocpibiiaaGreatDoorNwrOfBD
import Derived.Test.YtmcomnocpibiiaaGreatDoorNwrOfBE
import Derived.Test.YtmcomnocpibiiaaGreatDoorNwrOfBF
import Derived.Test.YtmcomnocpibiiaaGreatDoorNwrOfBG
namespace Go.Proofs.YtmcomnocpibiiaaGreatDoor
open Go.RowKit Go.Maps

theorem ownsRow_high11 {w : World} {b : Nat} {e size n : Nat} {v : Value} {xs : List Value} (h : w.ownsRow 0 e size v n xs) (hk : ∀ k, v.ownBlock = some k → b ≤ k) : w.ownsRow b e size v n xs := by
  refine ⟨h.1, ?_⟩
  rcases h.2 with hz | ⟨g, cap, cur, e1, _, rest⟩
  · exact .inl hz
  · exact .inr ⟨g, cap, cur, e1, hk g (by rw [e1]; rfl), rest⟩
def nrm11 (u : Us) : Us := { u with ga := none, gc := 0 }
theorem may_nrm11 : ∀ l : List Us, mayE11 (l.map nrm11) = mayE11 l
  | [] => rfl
  | u :: l => by
    show (if chk6 2 (nrm11 u) = 0 then mayE11 (l.map nrm11) else chk6 2 (nrm11 u)) = _
    rw [may_nrm11 l]
    rfl
theorem rest_nrm11 (G : List ByteArray) : ∀ (l pre : List Us), restD11 G (pre.map nrm11) (l.map nrm11) = restD11 G pre l
  | [], _ => rfl
  | u :: l, pre => by
    have h1 : oneD11 G (pre.map nrm11) (nrm11 u) = oneD11 G pre u := by
      unfold oneD11
      rw [List.any_map]
      rfl
    show (if oneD11 G (pre.map nrm11) (nrm11 u) = 0 then restD11 G (pre.map nrm11 ++ [nrm11 u]) (l.map nrm11) else oneD11 G (pre.map nrm11) (nrm11 u)) = _
    rw [h1, show pre.map nrm11 ++ [nrm11 u] = (pre ++ [u]).map nrm11 by rw [List.map_append]; rfl, rest_nrm11 G l]
    rfl
theorem of_nrm11 (l : List Us) (G : List ByteArray) : ofD11 (l.map nrm11) G = ofD11 l G := by
  have h1 : ofE11 (l.map nrm11) = ofE11 l := by
    unfold ofE11
    rw [may_nrm11, List.map_map, List.length_map]
    rfl
  unfold ofD11
  rw [h1]
  have h2 := rest_nrm11 G l []
  rw [List.map_nil] at h2
  rw [h2]
theorem pl_nrm11 (l : List Us) : plU11 (l.map nrm11) = plU11 l := by unfold plU11; rw [List.map_map]; rfl

structure Cp11 (w W : World) (l : List Us) (k : Nat) (v : Value) (l2 : List Us) : Prop where
  bel : Below w.heap.size w W
  same : l2.map nrm11 = (l.take k).map nrm11
  row : W.ownsRow w.heap.size 37 5 v k (ucells11 l2)
  txt : ∀ u ∈ l2, W.ownsRow w.heap.size 9 1 (.slice u.ga u.gs.length u.gc) u.gs.length (textCells u.gs)
section
variable {w W W' wr w3 w5 : World} {l l2 : List Us} {k : Nat} {v v' : Value}
theorem Cp11.later (h : Cp11 w W l k v l2) (hb : Below W.heap.size W W') : Cp11 w W' l k v l2 :=
  ⟨below_next h.bel hb, h.same, ownsRow_below11 h.row hb, fun u hu => ownsRow_below11 (h.txt u hu) hb⟩
theorem Cp11.row4 (h : Cp11 w wr l k v l2) (hb : Below wr.heap.size wr w3) (x : Value) : (w3.setCell ⟨wr.heap.size, 4, none⟩ x).ownsRow w.heap.size 37 5 v k (ucells11 l2) := by
  have h1 := ownsRow_below11 h.row hb
  refine ⟨h1.1, ?_⟩
  rcases h1.2 with hz | ⟨g, cap, cur, e, hb2, hg, rest⟩
  · exact .inl hz
  · have hlt := (h.row.lt g (by rw [e]; rfl)).2
    exact .inr ⟨g, cap, cur, e, hb2, (heap_setCell_other w3 ⟨wr.heap.size, 4, none⟩ g x (by intro e; have e' : g = wr.heap.size := e; omega)).trans hg, rest⟩
theorem keepS11 {b0 n : Nat} {e : TypeId} {xs ys : List Value} {u : Value} {a b c d x : Value} {B : Nat} {o : Obj} (hB : Blk5 w3 B a b c d x) (hv : w3.ownsRow b0 37 5 v n xs) (y : Value) (hg : ((w3.setCell ⟨B, 4, none⟩ y).alloc o).grownBy w5 v.ownBlock) {m : Nat} (h : w3.ownsRow m 9 1 u e ys) : w5.ownsRow m 9 1 u e ys := by
  refine ⟨h.1, ?_⟩
  rcases h.2 with hz | ⟨g, cap, cur, e1, h1, hgg, rest⟩
  · exact .inl hz
  · have hlt : g < w3.heap.size := (Array.getElem?_eq_some_iff.1 hgg).1
    have n1 : g ≠ B := fun e => by
      subst e
      have hB' : w3.heap[g]? = _ := hB
      rw [hgg] at hB'
      injection hB' with hB'
      injection hB' with _ hB'
      exact absurd hB' (by decide)
    have n2 : some g ≠ v.ownBlock := fun e => by
      rcases hv.2 with ⟨rfl, _⟩ | ⟨g2, cap2, cur2, rfl, _, hg2, _⟩
      · simp [Value.ownBlock] at e
      · simp [Value.ownBlock] at e
        subst e
        rw [hgg] at hg2
        injection hg2 with hg2
        injection hg2 with _ hg2
        exact absurd hg2 (by decide)
    refine .inr ⟨g, cap, cur, e1, h1, ?_, rest⟩
    rw [hg.block g (by simp; omega) n2]
    have hs : ((w3.setCell ⟨B, 4, none⟩ y).alloc o).heap[g]? = (w3.setCell ⟨B, 4, none⟩ y).heap[g]? := (below_alloc (Below.refl (w3.setCell ⟨B, 4, none⟩ y).heap.size _) o).block g (by simpa using hlt)
    rw [hs, heap_setCell_other w3 ⟨B, 4, none⟩ g y n1]
    exact hgg
theorem Cp11.next {a b c d e x : Value} {o : Obj} (h : Cp11 w wr l k v l2) (hb : Below wr.heap.size wr w3) (hB : Blk5 w3 wr.heap.size a b c d e) (hg : ((w3.setCell ⟨wr.heap.size, 4, none⟩ x).alloc o).grownBy w5 v.ownBlock) (u : Us)
    (ho : w5.ownsRow w.heap.size 37 5 v' (k + 1) (ucells11 l2 ++ u.cells.toList)) (ht : w3.ownsRow wr.heap.size 9 1 (.slice u.ga u.gs.length u.gc) u.gs.length (textCells u.gs)) (hk : k < l.length) (hu : nrm11 u = nrm11 l[k]) : Cp11 w w5 l (k + 1) v' (l2 ++ [u]) := by
  have hrow3 := ownsRow_below11 h.row hb
  have hb3 := below_next h.bel hb
  have hsz := h.bel.size
  refine ⟨?_, ?_, by rw [ucells11_snoc]; exact ho, fun z hz => ?_⟩
  · have h4 : Below w.heap.size w (w3.setCell ⟨wr.heap.size, 4, none⟩ x) := hb3.setCell (p := ⟨wr.heap.size, 4, none⟩) hsz _
    exact (below_next h4 (below_alloc (Below.refl _ _) o)).grown hg (by have := h4.size; simp at this ⊢; omega) (fun j hj => (hrow3.lt j hj).1)
  · rw [List.map_append, List.take_succ_eq_append_getElem hk, List.map_append, h.same]
    show _ ++ [nrm11 u] = _ ++ [nrm11 l[k]]
    rw [hu]
  · rcases List.mem_append.1 hz with hz | hz
    · exact keepS11 hB hrow3 x hg (ownsRow_below11 (h.txt z hz) hb)
    · rw [List.mem_singleton] at hz
      subst hz
      exact keepS11 hB hrow3 x hg (ownsRow_low10 ht hsz)
theorem Cp11.all (h : Cp11 w W l l.length v l2) (ho : ∀ u ∈ l, u.Ok w) : l2.length = l.length ∧ (∀ u ∈ l2, u.Ok W) ∧ (∀ G, ofD11 l2 G = ofD11 l G) ∧ plU11 l2 = plU11 l := by
  have hs := h.same
  rw [List.take_length] at hs
  have hlen : l2.length = l.length := by have := congrArg List.length hs; simpa using this
  refine ⟨hlen, fun u hu => ?_, fun G => by rw [← of_nrm11 l2, hs, of_nrm11], by rw [← pl_nrm11 l2, hs, pl_nrm11]⟩
  have hm : nrm11 u ∈ l.map nrm11 := by rw [← hs]; exact List.mem_map.2 ⟨u, hu, rfl⟩
  obtain ⟨z, hz, e⟩ := List.mem_map.1 hm
  have hz' := ho z hz
  have e1 : z.nm = u.nm := (congrArg Us.nm e : (nrm11 z).nm = (nrm11 u).nm)
  have e2 : z.hs = u.hs := (congrArg Us.hs e : (nrm11 z).hs = (nrm11 u).hs)
  have e3 : z.ml = u.ml := (congrArg Us.ml e : (nrm11 z).ml = (nrm11 u).ml)
  have e4 : z.gs = u.gs := (congrArg Us.gs e : (nrm11 z).gs = (nrm11 u).gs)
  have ht := h.txt u hu
  have hform : (u.ga = none → u.gc = 0) ∧ u.gs.length ≤ u.gc ∧ u.gc ≤ 9223372036854775807 := by
    rcases ht.2 with ⟨q, q2⟩ | ⟨g, cap, cur, q, _, _, q3, q4, _⟩
    · injection q with q0 _ q1
      exact ⟨fun _ => q1, by omega, by omega⟩
    · injection q with q0 _ q1
      unfold maxLen at q4
      exact ⟨fun hn => absurd (hn.symm.trans q0) (by simp), by omega, by omega⟩
  exact { rd := rds_of_own (ownsRow_low10 ht (Nat.zero_le _)), nm := e1 ▸ hz'.nm, hs := e2 ▸ hz'.hs, ml := e3 ▸ hz'.ml, nil := hform.1, len := hform.2.1, cap := hform.2.2, all := e4 ▸ hz'.all }
end

set_option maxHeartbeats 16000000 in
set_option maxRecDepth 100000 in
theorem nof_walk (A A2 : Option Addr) (c c2 n m : Nat) (l : List Us) (G : List ByteArray) (w : World) (hl : n = l.length) (hn : n ≤ 9223372036854775807) (hcap : n ≤ c) (hc63 : c ≤ 9223372036854775807) (hr : RdU7 w A l) (ho : ∀ u ∈ l, u.Ok w) (hm : m = G.length) (hm63 : m ≤ 9223372036854775807) (hg : RdS w A2 G) (hgs : ∀ g ∈ G, g.size ≤ 9223372036854775807) (h5 : Len5 w) :
    Calls Tryz.prog 5 #[.slice A n c, .slice A2 m c2] w (Tells5 true w) := by
  have hnot : ∀ (x : Bool) (w : World), (Op.unary .not (.bool x)).run Tryz.prog w = .ok (.bool (!x)) w := fun _ _ => rfl
  have HV : Hid (∀ W, Below w.heap.size w W → Calls Tryz.prog 11 #[] W (Tells5 true W)) := fun W hb => lives11_calls W (h5.later hb)
  obtain ⟨iu, hui, huz0, huz1, huz2⟩ := info_parts infoUser11
  obtain ⟨is_, hsi, hsz0, hsz1, hsz2⟩ := info_parts infoStr10
  have HR := Lib.hid hr
  have HL := Lib.hid hl
  have HO := Lib.hid ho
  have HM := Lib.hid hm
  have HG := Lib.hid hg
  have HGS := Lib.hid hgs
  have H5 := Lib.hid h5
  clear hr hl ho hm hg hgs h5
  go_enter Tryz.func5, Tryz.ntmps5
  go_wp2_with fail
  with_reducible refine (HV.out w (Below.refl _ _)).mono ?_
  rintro e w1 ⟨rfl, hb1⟩
  have HB1 := Lib.hid hb1
  clear hb1
  by_cases h30 : 30 < n
  · have z30 : (n : Int) > 30 := by omega
    go_wp2_with fail
    with_reducible refine (HV.out w1 HB1.out).mono ?_
    rintro e w2 ⟨rfl, hb2⟩
    have HB2 := Lib.hid (below_next HB1.out hb2)
    clear hb2
    go_wp2
    go_ret
    exact ⟨rfl, HB2.out⟩
  have z30 : ¬ (n : Int) > 30 := by omega
  by_cases h20 : 20 < m
  · have z20 : (m : Int) > 20 := by omega
    go_wp2_with fail
    with_reducible refine (HV.out w1 HB1.out).mono ?_
    rintro e w2 ⟨rfl, hb2⟩
    have HB2 := Lib.hid (below_next HB1.out hb2)
    clear hb2
    go_wp2
    go_ret
    exact ⟨rfl, HB2.out⟩
  have z20 : ¬ (m : Int) > 20 := by omega
  clear HV
  go_wp2
  go_loopg [5, 7, 32] n (fun gg s5 _ s32 wr => ∃ (k : Nat) (l2 : List Us), k ≤ n ∧ n - k ≤ gg ∧ s32 = .int .i64 k ∧ Hid (Cp11 w wr l k s5 l2) ∧ Hid (∀ j (h : j < l.length), j < k → fewU l[j] = true))
  case atStart => exact ⟨0, [], Nat.zero_le _, by omega, rfl, ⟨HB1.out, rfl, World.ownsRow_nil _ _ _ _, fun u hu => by cases hu⟩, fun j _ hj => absurd hj (Nat.not_lt_zero _)⟩
  case round =>
    clear HB1
    obtain ⟨k, l2, hk, hg, rfl, HCP, A0⟩ := hrel
    by_cases hlt : k < n
    · have hltz : (k : Int) < (n : Int) := by omega
      have hkl : k < l.length := HL.out ▸ hlt
      obtain ⟨b, off, rfl, hb, hc⟩ := (HR.out.later HCP.out.bel) (by intro e; rw [e] at hkl; exact absurd hkl (Nat.not_lt_zero _))
      have c0 : wr.cell? ⟨b, off + k * 5, none⟩ = some (.string l[k].nm) := hc k hkl 0 _ rfl
      have c1 : wr.cell? ⟨b, off + k * 5 + 1, none⟩ = some (.string l[k].hs) := hc k hkl 1 _ rfl
      have c2 : wr.cell? ⟨b, off + k * 5 + 2, none⟩ = some (.string l[k].ml) := hc k hkl 2 _ rfl
      have c3 : wr.cell? ⟨b, off + k * 5 + 3, none⟩ = some (.bool l[k].dis) := hc k hkl 3 _ rfl
      have c4 : wr.cell? ⟨b, off + k * 5 + 4, none⟩ = some (.slice l[k].ga l[k].gs.length l[k].gc) := hc k hkl 4 _ rfl
      have hb1 := below_next HCP.out.bel (below_alloc (Below.refl wr.heap.size wr) (.cells #[.string l[k].nm, .string l[k].hs, .string l[k].ml, .bool l[k].dis, .slice l[k].ga l[k].gs.length l[k].gc] 37))
      have HC : Hid (Calls Tryz.prog 26 #[.agg #[.string l[k].nm, .string l[k].hs, .string l[k].ml, .bool l[k].dis, .slice l[k].ga l[k].gs.length l[k].gc]] (wr.alloc (.cells #[.string l[k].nm, .string l[k].hs, .string l[k].ml, .bool l[k].dis, .slice l[k].ga l[k].gs.length l[k].gc] 37)) (Tells5 (fewU l[k]) (wr.alloc (.cells #[.string l[k].nm, .string l[k].hs, .string l[k].ml, .bool l[k].dis, .slice l[k].ga l[k].gs.length l[k].gc] 37)))) := few6U_calls l[k] _ ((HO.out _ (List.getElem_mem hkl)).below hb1)
      have HB2 := Lib.hid hb1
      have HBK : Hid (Blk5 (wr.alloc (.cells #[.string l[k].nm, .string l[k].hs, .string l[k].ml, .bool l[k].dis, .slice l[k].ga l[k].gs.length l[k].gc] 37)) wr.heap.size (.string l[k].nm) (.string l[k].hs) (.string l[k].ml) (.bool l[k].dis) (.slice l[k].ga l[k].gs.length l[k].gc)) := heap_alloc_new wr _
      have HX : Hid (fewU l[k] = true → ∀ j (h : j < l.length), j < k + 1 → fewU l[j] = true) := fun hq j h hj => by
        by_cases e : j = k
        · subst e; exact hq
        · exact A0.out j h (by omega)
      have HF5 : Hid (fewU l[k] = true → l[k].gs.length ≤ 20) := fun h => by have := fewU_facts h; omega
      have HNX : Hid (∀ A' c', nrm11 ⟨l[k].nm, l[k].hs, l[k].ml, l[k].dis, A', l[k].gs, c'⟩ = nrm11 l[k]) := fun _ _ => rfl
      have HRS : Hid (RdS w l[k].ga l[k].gs) := (HO.out _ (List.getElem_mem hkl)).rd
      clear hc hb hb1 A0
      generalize fewU l[k] = q at *
      generalize hun : nrm11 l[k] = un at *
      generalize l[k].nm = nm at *
      generalize l[k].hs = hs at *
      generalize l[k].ml = ml at *
      generalize l[k].dis = dis at *
      generalize l[k].ga = ga at *
      generalize l[k].gs = gs at *
      generalize l[k].gc = gc at *
      generalize hgl : gs.length = gl at *
      have HUN := Lib.hid hun
      have HGL := Lib.hid hgl
      clear hun hgl
      cases q with
      | true =>
        have HY := Lib.hid (HX.out rfl)
        have h20g := HF5.out rfl
        clear HX HF5
        go_wp2_with (first
          | (go_at_call 26; (with_reducible refine HC.out.mono ?_); rintro e w2 ⟨rfl, hb⟩
             have HB3 := Lib.hid (below_next HB2.out hb)
             have hbw : Below wr.heap.size wr w2 := below_next (below_alloc (Below.refl _ _) _) hb
             have hk2 : Blk5 w2 wr.heap.size (.string nm) (.string hs) (.string ml) (.bool dis) (.slice ga gl gc) := (hb.block wr.heap.size (by simp)).trans HBK.out
             have hk3 : Blk5 (w2.alloc (.cells #[] 9)) wr.heap.size (.string nm) (.string hs) (.string ml) (.bool dis) (.slice ga gl gc) := ((below_alloc (Below.refl w2.heap.size w2) (.cells #[] 9)).block wr.heap.size hk2.lt).trans hk2
             have x4 : _ = some (.slice ga gl gc : Value) := hk3.at_ 4
             have HK3 := Lib.hid hk3
             have HBW := Lib.hid hbw
             have HLT := Lib.hid hk2.lt
             have HSRC : Hid (Src Tryz.prog 1 28 (.slice ga gl gc) gl (textCells gs) (w2.alloc (.cells #[] 9))) := by
               have := ((HRS.out.below HB3.out).below (below_alloc (Below.refl w2.heap.size w2) (.cells #[] 9))).src11 gc
               rwa [HGL.out] at this
             have HMD : Hid ((w2.alloc (.cells #[] 9)).ownsRow 0 9 1 (.slice (some ⟨w2.heap.size, 0, none⟩) 0 0) 0 []) := World.ownsRow_made w2 #[] 0 (Nat.zero_le _) (Nat.zero_le _) rfl
             clear hb hbw hk2 hk3 HC HBK HB2)
          | (at_builtin; refine wpList_append_src _ rfl (.tmp 39) (.tmp 41) 28 28 (by rfl) 9 is_ _ 1 16 Tryz.underlying28 hsi hsz0 hsz1 hsz2 rfl (.slice (some ⟨w2.heap.size, 0, none⟩) 0 0) 0 [] (by rfl) HMD.out (.slice ga gl gc) gl (textCells gs) (by rfl) HSRC.out (by simp only [maxLen]; omega) (by omega) ?_; intro A3 c3 w3 ho3 hg3 ha3; rw [Nat.zero_add, List.nil_append] at ho3; rw [Nat.zero_add] at ha3 ⊢; have hB3 : Blk5 w3 wr.heap.size (.string nm) (.string hs) (.string ml) (.bool dis) (.slice ga gl gc) := (hg3.block wr.heap.size HK3.out.lt (by intro e; injection e with e; have e' : wr.heap.size = w2.heap.size := e; have := HLT.out; omega)).trans HK3.out; have hbw3 : Below wr.heap.size wr w3 := (below_next HBW.out (below_alloc (Below.refl w2.heap.size w2) (.cells #[] 9))).grown hg3 (by have := HLT.out; simp; omega) (fun j hj => by injection hj with hj; have e' : w2.heap.size = j := hj; have := HLT.out; omega); have HT3 : Hid (w3.ownsRow wr.heap.size 9 1 (.slice A3 gl c3) gl (textCells gs)) := ownsRow_high11 ho3 (fun j hj => by have h9 := HLT.out; rcases ha3 with h2 | h2 <;> (rw [h2] at hj; simp [Value.ownBlock] at hj; omega)); have HB3' := Lib.hid hB3; have HBW3 := Lib.hid hbw3; have HR4 := Lib.hid (HCP.out.row4 hbw3 (.slice A3 gl c3)); have y4 : _ = some (.slice ga gl gc : Value) := hB3.at_ 4; have fr4 := hB3.free; have hB4 := hB3.set4 (.slice A3 gl c3); have d0 : _ = some (.string nm : Value) := hB4.at_ 0; have d1 : _ = some (.string hs : Value) := hB4.at_ 1; have d2 : _ = some (.string ml : Value) := hB4.at_ 2; have d3 : _ = some (.bool dis : Value) := hB4.at_ 3; have d4 : _ = some (.slice A3 gl c3 : Value) := hB4.at_ 4; clear ho3 hg3 ha3 hB3 hbw3 hB4 x4 HK3 HBW HLT HSRC HMD HB3)
          | (at_builtin; refine wpList_append_own _ rfl _ _ 27 rfl w.heap.size 37 iu (.agg #[.string ⟨#[]⟩, .string ⟨#[]⟩, .string ⟨#[]⟩, .bool false, .slice none 0 0]) 5 80 Tryz.underlying27 hui huz0 huz1 huz2 rfl (by decide) _ _ _ rfl (HR4.out.alloc _) ⟨_, 0, none⟩ 1 1 [.string nm, .string hs, .string ml, .bool dis, .slice A3 gl c3] rfl rfl (fun j u hu => by rw [Addr.add_lit, Nat.zero_add, World.cell?_alloc_at _ _ _ _ (by simp)]; simpa using hu) (by simp [Value.oneCell']) (by unfold maxLen; omega) (by omega) (by have := HCP.out.bel.size; have := HBW3.out.size; simp; omega) ?_; intro v' w5 hown' hgrow _; have HO5 := Lib.hid hown'; have HG5 := Lib.hid hgrow; clear hown' hgrow)
          | fail)
        have HN : Hid (Cp11 w w5 l (k + 1) v' (l2 ++ [⟨nm, hs, ml, dis, A3, gs, c3⟩])) := by
          refine HCP.out.next HBW3.out HB3'.out HG5.out ⟨nm, hs, ml, dis, A3, gs, c3⟩ ?_ ?_ hkl (by rw [HNX.out, HUN.out])
          · have e : (Us.cells ⟨nm, hs, ml, dis, A3, gs, c3⟩).toList = [.string nm, .string hs, .string ml, .bool dis, .slice A3 gl c3] := by rw [← HGL.out]; rfl
            rw [e]
            exact HO5.out
          · show w3.ownsRow wr.heap.size 9 1 (.slice A3 gs.length c3) gs.length (textCells gs)
            rw [HGL.out]
            exact HT3.out
        clear HO5 HG5 HCP HBW3 HB3' HT3 HR4 HNX HUN HGL HRS
        go_roundg (n - (k + 1))
        case measure => omega
        case rel => exact ⟨k + 1, _, by omega, by omega, by go_num, HN, HY⟩
      | false =>
        clear HX HF5
        go_wp2_with (go_at_call 26; (with_reducible refine HC.out.mono ?_); rintro e w2 ⟨rfl, hb⟩; have HB3 := Lib.hid (below_next HB2.out hb); clear hb)
        go_ret
        exact ⟨rfl, HB3.out⟩
    · have hltz : ¬ (k : Int) < (n : Int) := by omega
      obtain rfl : k = n := by omega
      have HFW : Hid (∀ u ∈ l, fewU u = true) := fun u hu => by
        obtain ⟨j, hj, rfl⟩ := List.getElem_of_mem hu
        exact A0.out j hj (by have := HL.out; omega)
      clear A0 hg hk
      go_wp2
      go_loopg [9, 51] m (fun gg _ s51 w9 => ∃ j : Nat, j ≤ m ∧ m - j ≤ gg ∧ s51 = .int .i64 j ∧ Hid (Cp11 w w9 l k u5 l2) ∧ Hid (∀ i (h : i < G.length), i < j → G[i].size ≤ 50))
      case atStart => exact ⟨0, Nat.zero_le _, by omega, rfl, HCP.out, fun i _ hi => absurd hi (Nat.not_lt_zero _)⟩
      case round =>
        clear HCP hlt hltz
        obtain ⟨j, hj, hg, rfl, HCP, A0⟩ := hrel
        by_cases hlt : j < m
        · have hltz : (j : Int) < (m : Int) := by omega
          have hjG : j < G.length := HM.out ▸ hlt
          obtain ⟨b, off, rfl, hcell⟩ := (HG.out.below HCP.out.bel).at6 j hjG
          by_cases h50 : 50 < G[j].size
          · have z50 : ((G[j].size : Nat) : Int) > 50 := by omega
            have HF := Lib.hid HCP.out.bel
            clear A0 HCP
            generalize G[j] = g at *
            go_wp2
            go_ret
            exact ⟨rfl, HF.out⟩
          · have z50 : ¬ ((G[j].size : Nat) : Int) > 50 := by omega
            have HY : Hid (∀ i (h : i < G.length), i < j + 1 → G[i].size ≤ 50) := fun i h hi => by
              by_cases e : i = j
              · subst e; omega
              · exact A0.out i h (by omega)
            clear A0
            generalize G[j] = g at *
            go_wp2
            go_roundg (m - (j + 1))
            case measure => omega
            case rel => exact ⟨j + 1, by omega, by omega, by go_num, HCP, HY⟩
        · have hltz : ¬ (j : Int) < (m : Int) := by omega
          obtain rfl : j = m := by omega
          have HG50 : Hid (∀ g ∈ G, g.size ≤ 50) := fun g hg => by
            obtain ⟨i, hi, rfl⟩ := List.getElem_of_mem hg
            exact A0.out i hi (by have := HM.out; omega)
          have hcp := HCP.out
          rw [HL.out] at hcp
          obtain ⟨hlen, hok, hofd, hpl⟩ := hcp.all HO.out
          have hrow := HCP.out.row
          obtain ⟨A5, c5, rfl⟩ : ∃ A5 c5, u5 = .slice A5 k c5 := by
            rcases hrow.2 with ⟨e, e2⟩ | ⟨g, cap, cur, e, _⟩
            · exact ⟨none, 0, by rw [e, e2]⟩
            · exact ⟨_, _, e⟩
          have hln : k = l2.length := by rw [hlen]; exact HL.out
          have hrd5 : RdU7 wr A5 l2 := owns_users11 (ownsRow_low10 hrow (Nat.zero_le _)) hln
          have HOF := Lib.hid (nof11_calls A5 A2 c5 c2 k j l2 G wr hln (by omega) hrd5 hok HM.out (by omega) (HG.out.below HCP.out.bel) HGS.out (H5.out.later HCP.out.bel))
          have HRO : Hid (∀ W, Below w.heap.size w W → Calls Tryz.prog 28 #[.slice A k c, .slice A2 j c2] W (Errs5 (ofD11 l G) W)) := fun W hW => rofd11_calls A A2 c c2 k j l G W HL.out (by omega) hcap hc63 (HR.out.later hW) (fun u hu => (HO.out u hu).below hW) (fun u hu => by
            obtain ⟨f1, f2, f3, _, f5⟩ := fewU_facts (HFW.out u hu)
            exact ⟨by omega, by omega, by omega, fun g hg => Nat.le_trans (f5 g hg) (by omega)⟩) HM.out (by omega) (HG.out.below hW) (fun g hg => Nat.le_trans (HG50.out g hg) (by decide))
          have HOFD := Lib.hid (hofd G)
          have HPL := Lib.hid hpl
          have HLN := Lib.hid hln
          have HB := Lib.hid HCP.out.bel
          have HCP' := Lib.hid HCP.out
          clear hcp hlen hok hofd hpl hrow hln hrd5 HFW A0 HGS H5 HG50 HCP hg hj hlt hltz
          unfold Of11 at HOF
          rw [HOFD.out] at HOF
          generalize ofD11 l G = r at *
          go_wp2_with fail
          with_reducible refine HOF.out.mono ?_
          rintro e w3 hcase
          clear HOF
          rcases hcase with ⟨hne, rfl, hb⟩ | ⟨h0, D, P, M, Gr, Ac, Lc, Sc, kc, rfl, hown, hst, hk200⟩
          · have HB3 := Lib.hid (below_next HB.out hb)
            have HRO2 := Lib.hid (HRO.out w3 HB3.out)
            have hx1 : (r != 0) = true := by simpa using hne
            have hx2 : (r != r) = false := by simp
            clear hb HRO HCP'
            go_wp2_with fail
            with_reducible refine HRO2.out.mono ?_
            rintro e w4 ⟨rfl, hb⟩
            have HB4 := Lib.hid (below_next HB3.out hb)
            clear hb HRO2
            go_wp2
            go_ret
            exact ⟨rfl, HB4.out⟩
          subst h0
          have hb3 : Below w.heap.size w w3 := below_next HB.out hown.below
          have HRO2 := Lib.hid (HRO.out w3 hb3)
          have HST : Hid (St11 Ac Lc Sc l G kc) := by
            obtain ⟨⟨s1, s2, s3⟩, s4⟩ := hst
            refine ⟨⟨s1, by rw [s2, HPL.out], s3⟩, ?_⟩
            rw [← HL.out, HLN.out]
            exact s4
          have HZ : Hid (Zz11 w w3 D P M Gr Ac Lc Sc (.slice A5 k c5) k l2) := ⟨hown.base HB.out, HLN.out.symm, ownsRow_low10 (ownsRow_below11 HCP'.out.row hown.below) (Nat.zero_le _), fun u hu => (Wt11.of (HCP'.out.txt u hu)).below hown.below⟩
          clear hown hst hk200 hb3 HRO HCP' HB HOFD HPL
          go_wp2_with fail
          with_reducible refine HRO2.out.mono ?_
          rintro e w4 ⟨rfl, hb⟩
          have HZ4 := Lib.hid (HZ.out.later hb)
          clear hb HRO2 HZ
          go_wp2
          go_loopg [12, 13, 76, 85] k (fun gg _ _ s76 _ w9 => ∃ i : Nat, i ≤ k ∧ k - i ≤ gg ∧ s76 = .int .i64 i ∧ Hid (Zz11 w w9 D P M Gr Ac Lc Sc (.slice A5 k c5) k l2))
          case atStart => exact ⟨0, Nat.zero_le _, by omega, rfl, HZ4.out⟩
          case round =>
            clear HZ4
            obtain ⟨i, hi, hg, rfl, HW⟩ := hrel
            by_cases hlt : i < k
            · have hltz : (i : Int) < (k : Int) := by omega
              have hil : i < l2.length := HLN.out ▸ hlt
              obtain ⟨g5, rfl, hc4⟩ := HW.out.at_ hil
              have HGN : Hid (∀ W, Zz11 w W D P M Gr Ac Lc Sc (.slice (some ⟨g5, 0, none⟩) k c5) k l2 → W.cell? ⟨g5, i * 5 + 4, none⟩ = some (.slice l2[i].ga l2[i].gs.length l2[i].gc)) := fun W h => by
                obtain ⟨g', e, hc'⟩ := h.at_ hil
                injection e with e
                injection e with e
                subst e
                exact hc'
              have HSTO : Hid (∀ W t, Zz11 w W D P M Gr Ac Lc Sc (.slice (some ⟨g5, 0, none⟩) k c5) k l2 → t < l2[i].gs.length → ∃ g, l2[i].ga = some ⟨g, 0, none⟩ ∧ (∃ x, W.cell? ⟨g, t, none⟩ = some x) ∧ W.frozen? ⟨g, t, none⟩ = false ∧ Zz11 w (W.setCell ⟨g, t, none⟩ (.string ⟨#[122, 122, 122]⟩)) D P M Gr Ac Lc Sc (.slice (some ⟨g5, 0, none⟩) k c5) k l2) := fun W t h ht => h.store hil ht _
              have hgl63 : l2[i].gs.length ≤ 9223372036854775807 := (HW.out.txt _ (List.getElem_mem hil)).few
              generalize l2[i].ga = ga at *
              generalize l2[i].gs.length = gl at *
              generalize l2[i].gc = gc at *
              go_wp2
              go_loopg [13, 85] gl (fun gg _ s85 w9 => ∃ t : Nat, t ≤ gl ∧ gl - t ≤ gg ∧ s85 = .int .i64 t ∧ Hid (Zz11 w w9 D P M Gr Ac Lc Sc (.slice (some ⟨g5, 0, none⟩) k c5) k l2))
              case atStart => exact ⟨0, Nat.zero_le _, by omega, rfl, HW.out⟩
              case round =>
                clear HW hc4
                obtain ⟨t, ht, hg2, rfl, HW⟩ := hrel
                by_cases htl : t < gl
                · have htz : (t : Int) < (gl : Int) := by omega
                  have hc4 := HGN.out _ HW.out
                  obtain ⟨g, rfl, ⟨x, hcx⟩, hfx, hz⟩ := HSTO.out _ t HW.out htl
                  have HZ5 := Lib.hid hz
                  clear hz HW
                  go_wp2
                  go_roundg (gl - (t + 1))
                  case measure => omega
                  case rel => exact ⟨t + 1, by omega, by omega, by go_num, HZ5⟩
                · have htz : ¬ (t : Int) < (gl : Int) := by omega
                  go_wp2
                  go_roundg (k - (i + 1))
                  case measure => omega
                  case rel => exact ⟨i + 1, by omega, by omega, by go_num, HW⟩
            · have hltz : ¬ (i : Int) < (k : Int) := by omega
              have HAL := Lib.hid (nall11_calls HW.out.own HST.out.1.1)
              go_wp2_with fail
              with_reducible refine HAL.out.mono ?_
              rintro e w5 ⟨v, R, rfl, hrc, hpr, hb⟩
              obtain ⟨A6, c6, rfl⟩ := hrc.rw.us.shape
              have hRn : R.length = k := by
                have := congrArg List.length hpr
                rw [plainR_len, tell_len] at this
                rw [this, HST.out.len]
                exact HL.out.symm
              have HRN : Hid (k = (R.map us11).length) := by
                show _ = _
                rw [List.length_map]; exact hRn.symm
              have HZ6 : Hid (Zz11 w w5 D P M Gr Ac Lc Sc (.slice A6 k c6) k (R.map us11)) := by
                have hbw := HW.out.own.below
                refine ⟨HW.out.own.later hb, HRN.out.symm, ?_, fun u hu => ?_⟩
                · have := ownsRow_low10 hrc.1 (Nat.zero_le _)
                  rw [us11_ucells, hRn] at this
                  exact this
                · obtain ⟨q, hq, rfl⟩ := List.mem_map.1 hu
                  have h1 := hrc.2 q hq
                  have e : (us11 q).gs.length = q.2.gs.length := by show (q.2.gs.map tx10).length = _; rw [List.length_map]
                  rw [e]
                  exact (Wt11.of h1).low hbw.size
              rw [hRn]
              generalize hl3 : R.map us11 = l3 at *
              clear hRn hrc hpr hb HAL HW hl3 hlt hltz hg hi
              go_wp2
              go_loopg [15, 16, 101, 110] k (fun gg _ _ s101 _ w9 => ∃ i : Nat, i ≤ k ∧ k - i ≤ gg ∧ s101 = .int .i64 i ∧ Hid (Zz11 w w9 D P M Gr Ac Lc Sc (.slice A6 k c6) k l3))
              case atStart => exact ⟨0, Nat.zero_le _, by omega, rfl, HZ6.out⟩
              case round =>
                clear HZ6
                obtain ⟨i, hi, hg, rfl, HW⟩ := hrel
                by_cases hlt : i < k
                · have hltz : (i : Int) < (k : Int) := by omega
                  have hil : i < l3.length := HRN.out ▸ hlt
                  obtain ⟨g5, rfl, hc4⟩ := HW.out.at_ hil
                  have HGN : Hid (∀ W, Zz11 w W D P M Gr Ac Lc Sc (.slice (some ⟨g5, 0, none⟩) k c6) k l3 → W.cell? ⟨g5, i * 5 + 4, none⟩ = some (.slice l3[i].ga l3[i].gs.length l3[i].gc)) := fun W h => by
                    obtain ⟨g', e, hc'⟩ := h.at_ hil
                    injection e with e
                    injection e with e
                    subst e
                    exact hc'
                  have HSTO : Hid (∀ W t, Zz11 w W D P M Gr Ac Lc Sc (.slice (some ⟨g5, 0, none⟩) k c6) k l3 → t < l3[i].gs.length → ∃ g, l3[i].ga = some ⟨g, 0, none⟩ ∧ (∃ x, W.cell? ⟨g, t, none⟩ = some x) ∧ W.frozen? ⟨g, t, none⟩ = false ∧ Zz11 w (W.setCell ⟨g, t, none⟩ (.string ⟨#[121, 121, 121]⟩)) D P M Gr Ac Lc Sc (.slice (some ⟨g5, 0, none⟩) k c6) k l3) := fun W t h ht => h.store hil ht _
                  have hgl63 : l3[i].gs.length ≤ 9223372036854775807 := (HW.out.txt _ (List.getElem_mem hil)).few
                  generalize l3[i].ga = ga at *
                  generalize l3[i].gs.length = gl at *
                  generalize l3[i].gc = gc at *
                  go_wp2
                  go_loopg [16, 110] gl (fun gg _ s110 w9 => ∃ t : Nat, t ≤ gl ∧ gl - t ≤ gg ∧ s110 = .int .i64 t ∧ Hid (Zz11 w w9 D P M Gr Ac Lc Sc (.slice (some ⟨g5, 0, none⟩) k c6) k l3))
                  case atStart => exact ⟨0, Nat.zero_le _, by omega, rfl, HW.out⟩
                  case round =>
                    clear HW hc4
                    obtain ⟨t, ht, hg2, rfl, HW⟩ := hrel
                    by_cases htl : t < gl
                    · have htz : (t : Int) < (gl : Int) := by omega
                      have hc4 := HGN.out _ HW.out
                      obtain ⟨g, rfl, ⟨x, hcx⟩, hfx, hz⟩ := HSTO.out _ t HW.out htl
                      have HZ5 := Lib.hid hz
                      clear hz HW
                      go_wp2
                      go_roundg (gl - (t + 1))
                      case measure => omega
                      case rel => exact ⟨t + 1, by omega, by omega, by go_num, HZ5⟩
                    · have htz : ¬ (t : Int) < (gl : Int) := by omega
                      go_wp2
                      go_roundg (k - (i + 1))
                      case measure => omega
                      case rel => exact ⟨i + 1, by omega, by omega, by go_num, HW⟩
                · have hltz : ¬ (i : Int) < (k : Int) := by omega
                  have hbw := HW.out.own.below
                  have HSM := Lib.hid (lsameV11_calls A A2 c c2 k j HW.out.own HST.out HL.out (HR.out.later hbw) (fun u hu => (HO.out u hu).below hbw) HM.out (by omega) (HG.out.below hbw))
                  have HBW := Lib.hid hbw
                  clear hbw HW
                  go_wp2_with fail
                  with_reducible refine HSM.out.mono ?_
                  rintro e w6 ⟨rfl, hb⟩
                  have HF := Lib.hid (below_next HBW.out hb)
                  clear hb HSM
                  go_wp2
                  go_ret
                  exact ⟨rfl, HF.out⟩
end Go.Proofs.YtmcomnocpibiiaaGreatDoor


namespace Go.Proofs.YtmcomnocpibiiaaGreatDoor
open Go.ChangeShapes Go.WideShapes Go.ChangeAt Go.RowKit Go.Deep

section
variable {H : Type} {enc : TypeId × Value → H} {W : World} {base : Nat} {sp : Nat → Bool} {hd : Bool}
theorem usersC_of {a : Option Addr} {len cap : Nat} {d : DataW H} {p : List MemPlace} (h : DataW.Trod enc Tryz.prog W base sp hd 27 (.slice a len cap) d p) (hw : ∀ n ∈ d.weights Tryz.prog 27, n ≤ reachBytes) :
  ∃ l, IsUsers W a len l ∧ len ≤ cap ∧ cap ≤ 9223372036854775807 := by
 obtain ⟨l, hl⟩ := users_of h hw
 obtain ⟨fuel, hf⟩ := h
 rcases open_slice Tryz.underlying27 hf with ⟨hcs, _⟩ | ⟨x, l2, c, m, n, D, Pl, hcs, _, hl2, hm, _⟩
 ·
  simp [Value.cells] at hcs
  obtain ⟨rfl, rfl, rfl⟩ := hcs
  exact ⟨l, hl, Nat.le_refl _, Nat.zero_le _⟩
 ·
  simp [Value.cells] at hcs
  obtain ⟨rfl, rfl, rfl⟩ := hcs
  exact ⟨l, hl, hl2, by simpa [maxLen] using hm⟩
def IsTexts (w : World) (A : Option Addr) (len : Nat) (ss : List ByteArray) : Prop := len = ss.length ∧ ss.length ≤ 9223372036854775807 ∧ RdS w A ss ∧ ∀ s ∈ ss, s.size ≤ 9223372036854775807
theorem textsC_of {a : Option Addr} {len cap : Nat} {d : DataW H} {p : List MemPlace} (h : DataW.Trod enc Tryz.prog W base sp hd 28 (.slice a len cap) d p) : ∃ ss, IsTexts W a len ss := by
 obtain ⟨fuel, hf⟩ := h
 obtain ⟨a', len', cap', ss, hcs, h1, h2, h3, _, h4, h5⟩ := texts6_of hf
 simp [Value.cells] at hcs
 obtain ⟨rfl, rfl, rfl⟩ := hcs
 exact ⟨ss, h1, by omega, h4, h5⟩
end
end Go.Proofs.YtmcomnocpibiiaaGreatDoor


namespace Go.Proofs.YtmcomnocpibiiaaGreatDoor.newerOf
open Go.ChangeShapes Go.WideShapes Go.ChangeAt Go.RowKit
set_option linter.unusedVariables false

theorem own : ownKnob Tryz.prog.godebug = none := by kernel_rfl
theorem laidOut : laidOutB Tryz.prog = true := by kernel_rfl

theorem walk (w : World) (hm : Len5 w) (a0 : Option Addr) (len0 cap0 : Nat) (l0 : List Us) (s0 : IsUsers w a0 len0 l0 ∧ len0 ≤ cap0 ∧ cap0 ≤ 9223372036854775807) (a1 : Option Addr) (len1 cap1 : Nat) (l1 : List ByteArray) (s1 : IsTexts w a1 len1 l1) :
  Calls Tryz.prog 5 #[.slice a0 len0 cap0, .slice a1 len1 cap1] w fun e w' => e = .returned (.bool true) ∧ Below w.heap.size w w' := by
 obtain ⟨⟨h1, h2, h3, h4⟩, h5, h6⟩ := s0
 obtain ⟨g1, g2, g3, g4⟩ := s1
 exact nof_walk a0 a1 cap0 cap1 len0 len1 l0 l1 w h1 (by omega) h5 h6 h3 h4 g1 (by omega) g3 g4 hm

set_option maxRecDepth 100000 in
theorem lifted (os : Os) (started : os.Started) (H : Type) (enc : TypeId × Value → H) :
  ReturnsInHanded {} Tryz.checked os 5 .any (fun w args => (Rows.newerOfSpec.pre enc Tryz.prog Tryz.f5 Rows.newerOfRow.domain false w args ∧ laidMetH Tryz.prog Rows.newerOfRow.laid w) ∧ sizedMet enc Tryz.prog Tryz.f5 (OpenSpec.ofChange Rows.newerOfSpec) false w args)
   (Rows.newerOfSpec.post enc Tryz.prog Tryz.f5 false true false false) := by
 refine returns_laid6 (C := Tryz.checked) (X := fun w _ => laidMetH Tryz.prog Rows.newerOfRow.laid w) own started (by kernel_rfl) Tryz.func5
  (ChangeSpec.witness_shaped (enc := enc) (C := Tryz.checked) (os := os) (X := fun w _ => laidMetH Tryz.prog Rows.newerOfRow.laid w) false (World.laidAll Tryz.prog os Rows.newerOfRow.laid) #[.slice none 0 0, .slice none 0 0] 8 (World.laidAll_os _ _ _)
   (World.shaped_of_ZipB (by kernel_rfl) (by kernel_rfl)) (by kernel_rfl) (by kernel_rfl) (by kernel_rfl)
   (by rw [MakeChecks.laidMetH_plain _ _ _ (by kernel_rfl)]; exact laidMet_laidAll _ (by kernel_rfl) (by kernel_rfl))) ?_
 intro W base args ds gs before hval0 hW hwt0 hsh
 have hval : ∀ (j : Nat) t v, Tryz.f5.params[j]? = some t → args[j]? = some v → Value.okWide Tryz.prog W .any base t v := hval0
 have hW' := hW
 obtain ⟨p, q, hA0, hV, rfl, hfz, hnd⟩ := hW
 have hA : DataW.TrodAll enc Tryz.prog W 0 (fun _ => true) true Tryz.f5.params.toList args.toList ds p := hA0
 have hwt : (DataW.weightsEach Tryz.prog (Tryz.f5.params.toList ++ (OpenSpec.ofChange Rows.newerOfSpec).bare.plain.varTypes Tryz.prog) (ds ++ gs)).all (· ≤ reachBytes) = true := hwt0
 rw [Tryz.params5] at hA hval hwt
 obtain ⟨v0, vs0, d0, ds0, p0, q0, hargs, rfl, rfl, h0, r0⟩ := trodAll_cons hA
 obtain ⟨v1, vs1, d1, ds1, p1, q1, rfl, rfl, rfl, h1, r1⟩ := trodAll_cons r0
 obtain ⟨rfl, rfl, rfl⟩ := trodAll_nil r1
 obtain rfl : args = #[v0, v1] := by cases args; simp_all
 obtain ⟨rfl, rfl⟩ := trodVars_none hV
 obtain ⟨a0, len0, cap0, rfl⟩ := okWide_slice Tryz.underlying27 (hval 0 27 v0 rfl rfl)
 have lt0 : ∀ x ∈ p0, x.block < W.heap.size := by obtain ⟨m, hm⟩ := h0; exact DataW.trod_lt m _ _ _ hm
 obtain ⟨l0, s0⟩ := usersC_of h0 (fun n hn => by simpa using List.all_eq_true.1 hwt n (DataW.weights_mem_each (j := 0) rfl rfl n hn))
 obtain ⟨a1, len1, cap1, rfl⟩ := okWide_slice Tryz.underlying28 (hval 1 28 v1 rfl rfl)
 have lt1 : ∀ x ∈ p1, x.block < W.heap.size := by obtain ⟨m, hm⟩ := h1; exact DataW.trod_lt m _ _ _ hm
 obtain ⟨l1, s1⟩ := textsC_of h1
 clear hA0 hval0 hwt0
 refine (walk W (len5_of hsh) a0 len0 cap0 l0 s0 a1 len1 cap1 l1 s1).mono fun e W' ⟨he, bel⟩ => ?_
 subst he
 exact ⟨_, rfl, _, _, _, [], _, [], hW', trodAll_mk1 (shut_bool Tryz.underlying4 _), (trodAll_cons_mk (Below.trod laidOut (by kernel_rfl) (of_decide_eq_true (by kernel_rfl)) h0 bel lt0) (trodAll_cons_mk (Below.trod laidOut (by kernel_rfl) (of_decide_eq_true (by kernel_rfl)) h1 bel lt1) trodAll_mk0)), rfl, bel.frame _, fun h => by cases h⟩

theorem row_holds : Rows.NewerOfSaid :=
 OpenClaim.holds_of_wide 5 Tryz.f5 rfl rfl rfl rfl rfl rfl rfl ⟨rfl, rfl, rfl, rfl, rfl⟩ rfl rfl rfl rfl rfl (by kernel_rfl) Tryz.func5 (by kernel_rfl)
  (of_decide_eq_true (by kernel_rfl)) (by unfold Func.isWrapper; first | (rw [if_pos (by decide +kernel)]; kernel_rfl) | (rw [if_neg (by decide +kernel)]; exact ⟨rfl, rfl⟩))
  (fun os started H enc _ => lifted os started H enc)

theorem proved : Rows.NewerOfCardSaid :=
 Claim7.holds_tied_plain_at .later [] Rows.newerOfCard.laidKinds true Rows.newerOfCard.stood.harness Rows.newerOfCard.stood.looks row_holds (fun _ h => by cases h) (by kernel_rfl) (fun _ h => by cases h) newerOf_row_tie rfl ⟨rfl, rfl⟩ (by kernel_rfl) rfl
  (fun f fn hf hfn => by
   obtain rfl : f = 5 := Option.some.inj ((show Tryz.prog.funcNamed Rows.newerOfRow.func = some 5 by kernel_rfl).symm.trans hf) |>.symm
   obtain rfl : fn = Tryz.f5 := (Option.some.inj (Tryz.func5.symm.trans hfn)).symm
   exact ⟨by kernel_rfl, fun j t ht => by
    rw [Tryz.params5] at ht
    have hm : t ∈ [27, 28] := by simpa using Array.mem_of_getElem? ht
    have hall : ([27, 28].all fun u => !Tryz.prog.wantsStandIn u) = true := by kernel_rfl
    exact (show Tryz.prog.wantsStandIn t = false by simpa using List.all_eq_true.1 hall t hm)⟩)
  (by kernel_rfl)
end Go.Proofs.YtmcomnocpibiiaaGreatDoor.newerOf
