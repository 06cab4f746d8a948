/-
  Names of the index: an iterator over what there was when it was called: the names, sorted, and a clone of the map.
  Conditions: none.
-/
import Derived.RangeFuncNested
import Derived.RangeFuncBound
import Derived.RangeFuncLeaves
import Derived.Shelf.Abstract
import Derived.Shelf.RegionOpen
import Derived.WalkKit
import Derived.OwnWalkIn
import Derived.TacticsInMore
import Derived.LoopNIn
import Derived.LoopIn
import Derived.Maps.AppendAt
import Derived.Test.YtiodbghokiajjaaDoorMailCopy
import Derived.Test.YtiodbghokiajjaaDoorElderNames
namespace Go.Proofs.YtiodbghokiajjaaDoor
open Go.RowKit Go.Maps Go.Sort Go.Shelf

attribute [local go_sem] Oper.semAt_some

theorem mem_of_row9 {w : World} {base n : Nat} {v : Value} {xs : List (List UInt8)} (h : w.ownsRow base 9 1 v n (xs.map encStr)) (hn : n = xs.length) :
    (v = .slice none 0 0 ∧ xs = []) ∨ ∃ g cap, v = .slice (some ⟨g, 0, none⟩) xs.length cap ∧ base ≤ g ∧ g < w.heap.size ∧ ∀ j (h : j < xs.length), w.cell? ⟨g, j, none⟩ = some (.string (tx7 xs[j])) := by
  subst hn
  rcases h.2 with ⟨rfl, hz⟩ | ⟨g, cap, cur, rfl, hb, hg, r1, r2, r3, r4⟩
  · exact .inl ⟨rfl, List.eq_nil_of_length_eq_zero hz⟩
  · refine .inr ⟨g, cap, rfl, hb, (Array.getElem?_eq_some_iff.1 hg).1, fun j hj => ?_⟩
    have h2 : (List.take (xs.length * 1) cur.toList)[j]? = some (.string (tx7 xs[j])) := by rw [r4]; simp [hj, encStr, tx7]
    rw [List.getElem?_take, if_pos (by omega)] at h2
    simpa [World.cell?, hg] using h2

/-- What Names hands back: a function over two variables, in blocks from n on, below m: the names, rising; the addresses by names. -/
structure Its9 (n m : Nat) (W : World) (L : Row7) (G H : Nat) : Prop where
  g0 : n ≤ G ∧ G < m
  h0 : n ≤ H ∧ H < m
  sz : m ≤ W.heap.size
  row : ∃ v, W.cell? ⟨G, 0, none⟩ = some v ∧ W.ownsRow n 9 1 v L.length ((L.map (·.1)).map encStr) ∧ ∀ k, v.ownBlock = some k → k < m
  map : ∃ p, W.cell? ⟨H, 0, none⟩ = some (.map p) ∧ MapOr9 W p L ∧ ∀ b, p = some b → n ≤ b ∧ b < m

/-- The blocks from n on, below m, lie as they lay. -/
def Lies9 (n m : Nat) (A B : World) : Prop := A.heap.size ≤ B.heap.size ∧ ∀ i, n ≤ i → i < m → B.heap[i]? = A.heap[i]?
theorem Lies9.trans {n m : Nat} {A B C : World} (h : Lies9 n m A B) (k : Lies9 n m B C) : Lies9 n m A C := ⟨Nat.le_trans h.1 k.1, fun i h1 h2 => (k.2 i h1 h2).trans (h.2 i h1 h2)⟩
theorem Lies9.refl (n m : Nat) (A : World) : Lies9 n m A A := ⟨Nat.le_refl _, fun _ _ _ => rfl⟩
theorem Lies9.put {n m : Nat} {w : World} (hm : m ≤ w.heap.size) (W : World) (l : Nat) (o o' : Obj) (hl : w.heap.size ≤ l) (_ : W.heap[l]? = some o) (_ : o.isCells = false) (_ : o.isWalk = false) : Lies9 n m W (W.putObj l o') := by
  refine ⟨by simp [World.putObj], fun i _ h2 => ?_⟩
  exact World.putObj_heap_other (by omega)
theorem Lies9.of_below {n m : Nat} {A B : World} (h : Below A.heap.size A B) (hm : m ≤ A.heap.size) : Lies9 n m A B := ⟨h.size, fun i _ h2 => h.block i (by omega)⟩
theorem Its9.lies {n m : Nat} {A B : World} {L : Row7} {G H : Nat} (h : Its9 n m A L G H) (hk : Lies9 n m A B) : Its9 n m B L G H := by
  obtain ⟨v, hv, hr, hvb⟩ := h.row
  obtain ⟨p, hp, hmo, hpb⟩ := h.map
  have hG := hk.2 G h.g0.1 h.g0.2
  have hH := hk.2 H h.h0.1 h.h0.2
  refine ⟨h.g0, h.h0, Nat.le_trans h.sz hk.1, ⟨v, (World.cell?_of_block hG).trans hv, ⟨hr.1, ?_⟩, hvb⟩, ⟨p, (World.cell?_of_block hH).trans hp, ⟨hmo.nil, fun b e => (hmo.map b e).kept (hk.2 b (hpb b e).1 (hpb b e).2)⟩, hpb⟩⟩
  rcases hr.2 with hn | ⟨g, cap, cur, e, hbs, hg, rest⟩
  · exact .inl hn
  · exact .inr ⟨g, cap, cur, e, hbs, (hk.2 g hbs (hvb g (by rw [e]; rfl))).trans hg, rest⟩

/-- What a round is handed. -/
def enc9 (x : List UInt8 × List UInt8) : Array Value := #[.string (tx7 x.1), .string (tx7 x.2)]

set_option maxRecDepth 100000 in
set_option maxHeartbeats 2000000 in
theorem names91_in (n : Nat) (hn : 1 ≤ n) (n0 m : Nat) (L : Row7) (hL : Rise7 L) (hsz : ∀ x ∈ L, x.1.length ≤ 1000) (hfew : L.length ≤ 1000) (G H l : Nat) (J Jx : Row7 → World → Prop) (W : World) (hI : Its9 n0 m W L G H)
    (hY : ∀ pre x V, J pre V → pre.length < L.length → YieldAt Fence.wide (n - 1) Tryd.prog l (enc9 x) V fun e V' =>
      (e = .returned (.bool true) ∧ J (pre ++ [x]) V' ∧ Lies9 n0 m V V') ∨ (e = .returned (.bool false) ∧ Jx (pre ++ [x]) V'))
    (h0 : J [] W) :
    CallsIn Fence.wide n Tryd.prog 42 #[.func (.yield l) #[] #[], .pointer (some ⟨G, 0, none⟩), .pointer (some ⟨H, 0, none⟩)] W fun e W' => (∃ v, e = .returned v) ∧
      ((∃ ys, ys = L ∧ J ys W') ∨ (∃ pre, pre <+: L ∧ Jx pre W')) := by
  obtain ⟨v, hv, hr, _⟩ := hI.row
  have hrow := mem_of_row9 hr (by simp)
  refine callsIn_of_wp Tryd.func42 rfl trivial ?_ rfl
  simp only [Tryd.ntmps42, List.size_toArray, List.length_cons, List.length_nil, Nat.reduceAdd, Nat.reduceSub, Array.replicate_succ, Array.replicate_zero, List.push_toArray, List.append_toArray, List.nil_append, List.cons_append]
  rcases hrow with ⟨rfl, hnil⟩ | ⟨g, cap, rfl, hgb, hgl, hcs⟩
  · have hLn : L = [] := by simpa using hnil
    subst hLn
    clear hr hI
    gi_wp2
    gi_loopw [8] (fun i wr => i = .int .i64 0 ∧ J [] wr) (fun _ _ => 0)
    case atStart => exact ⟨rfl, h0⟩
    case round =>
      obtain ⟨rfl, hJs⟩ := hrel
      gi_wp2
      go_end0
      exact ⟨⟨_, rfl⟩, .inl ⟨[], rfl, hJs⟩⟩
  · have hlen : (L.map (·.1)).length = L.length := by simp
    rw [hlen] at hv
    clear hr hcs hgl
    obtain ⟨len, hlz⟩ : ∃ len, len = L.length := ⟨_, rfl⟩
    rw [← hlz] at hv hfew
    gi_wp2
    gi_loopw [8] (fun i wr => ∃ k : Nat, k ≤ len ∧ i = .int .i64 k ∧ J (L.take k) wr ∧ Lies9 n0 m W wr)
      (fun i _ => len - (intOf i).toNat)
    case atStart => exact ⟨0, Nat.zero_le _, rfl, h0, Lies9.refl _ _ _⟩
    case round =>
      obtain ⟨k, hk, rfl, hJs, hnx⟩ := hrel
      by_cases hlt : k < len
      · have hkl : k < L.length := hlz ▸ hlt
        have hIr := hI.lies hnx
        obtain ⟨v', hv', hr', _⟩ := hIr.row
        have hG := hnx.2 G hI.g0.1 hI.g0.2
        rw [World.cell?_of_block hG, hv] at hv'
        cases hv'
        obtain ⟨g2, cap2, e2, _, _, hcs⟩ := (mem_of_row9 hr' (by simp)).resolve_left (fun h => by cases h.1)
        cases e2
        have hcx := hcs k (by simpa using hkl)
        have hnm : (L.map (·.1))[k]'(by simpa using hkl) = L[k].1 := by simp
        rw [hnm] at hcx
        obtain ⟨p, hp, hmo, _⟩ := hIr.map
        have hlk := look91 hmo (tx7 L[k].1) (by rw [tx7_size]; exact Nat.le_trans (hsz _ (List.getElem_mem hkl)) (by decide))
        rw [tx7_list, get_mem hL (List.getElem_mem hkl)] at hlk
        obtain ⟨fn, tmps, assign, body, hy, hR⟩ := hY _ L[k] wr hJs (by rw [List.length_take]; omega)
        have htk : L.take (k + 1) = L.take k ++ [L[k]] := List.take_succ_eq_append_getElem hkl
        unfold enc9 at hy
        clear hcs hr' hIr
        generalize tx7 L[k].1 = sn at *
        generalize tx7 L[k].2 = sm at *
        gi_wp2
        refine hR.mono ?_
        rintro e W3 (⟨rfl, hJ3, hk3⟩ | ⟨rfl, hJx3⟩)
        · gi_wp2
          go_roundw
          case rel => exact ⟨k + 1, by omega, by simp, by rw [htk]; exact hJ3, hnx.trans hk3⟩
          case measure => simp [intOf]; omega
        · gi_wp2
          refine bodyPost_ret (results_none rfl _ _ _) rfl ?_
          exact ⟨⟨_, rfl⟩, .inr ⟨_, by rw [← htk]; exact List.take_prefix _ _, hJx3⟩⟩
      · obtain rfl : k = len := by omega
        gi_wp2
        go_end0
        refine ⟨⟨_, rfl⟩, .inl ⟨_, ?_, hJs⟩⟩
        rw [hlz]; exact List.take_length

set_option maxRecDepth 100000 in
/-- Names, all in all. -/
theorem names9_calls (B : Nat) (p q : Option Nat) (L M : Row7) (w : World) (h : Idx9 w B p q L M) : Calls Tryd.prog 30 #[.pointer (some ⟨B, 0, none⟩)] w fun e W =>
    ∃ G H, e = .returned (.func (.func 42) #[] #[.pointer (some ⟨G, 0, none⟩), .pointer (some ⟨H, 0, none⟩)]) ∧ Its9 w.heap.size W.heap.size W L G H ∧ Below w.heap.size w W := by
  have hmf := mkf
  have hfew := h.few
  have hrise := h.rise
  have HCL := Lib.hid (cloned9_calls p L w h.mapp)
  have hc0 := h.cell0
  have eg : ∀ args w, (callFunc 52 args).run Tryd.prog w = .ok (.enter 52 args) w := enters_of Tryd.func52 (by kernel_rfl) rfl
  have HK : Hid (∀ p w, Calls Tryd.prog 40 #[.map p] w fun e w' => e = .returned (.func (.func 52) #[] #[.pointer (some ⟨w.heap.size, 0, none⟩)]) ∧ w' = w.alloc (.cells #[.map p] 52)) :=
    fun p w => (callsIn_wide (n := 4)).1 (AnyZ.keys_in Tryd.keys7 Fence.wide 4 trivial rfl p w)
  have HSF : Hid (∀ p w N, N = w.heap.size → MapOr9 w p L → Calls Tryd.prog 39 #[.func (.func 52) #[] #[.pointer (some ⟨N, 0, none⟩)], .func (.func 41) #[] #[]] (w.alloc (.cells #[.map p] 52)) fun e w' =>
      ∃ v : Value, e = .returned v ∧ w'.ownsRow w.heap.size 9 1 v L.length ((L.map (·.1)).map encStr) ∧ Below w.heap.size w w') := fun p w N hN hmo => by
    subst hN
    have bl : Below w.heap.size w (w.alloc (.cells #[.map p] 52)) := below_alloc (Below.refl _ _) _
    have cS : ∃ S : List (List UInt8) → Prop, (∀ ss, S ss → ss.Perm (L.map (·.1))) ∧ SeqGives Fence.wide 2 Tryd.prog 52 #[.pointer (some ⟨w.heap.size, 0, none⟩)] encStr S L.length (w.alloc (.cells #[.map p] 52)) := by
      cases p with
      | none =>
        have hL := hmo.nil rfl
        rw [hL]
        exact ⟨fun ss => ss = [], fun ss h => by subst h; exact List.Perm.refl _, AnyZ.keys_gives_nil (ρ := Tryd.keys7_ren) { Tryd.keys7 with } Fence.wide 2 trivial rfl w.heap.size _ (by simp) (by simp)⟩
      | some b =>
        have hown := (hmo.map b rfl).alloc (.cells #[.map (some b)] 52)
        have h := AnyZ.keys_gives (ρ := Tryd.keys7_ren) { Tryd.keys7 with } Fence.wide 2 trivial rfl (by omega) w.heap.size b _ (datE L) _ (by simp) (by simp) hown
        rw [datE_size] at h
        exact ⟨_, fun ss h => by rw [datE_keys] at h; exact h, h⟩
    obtain ⟨S, hS, hseq⟩ := cS
    refine (sortedf7_calls _ _ S L.length _ eg (by omega) (fun ss h => by rw [(hS ss h).length_eq, List.length_map]; omega) hseq).mono ?_
    rintro e w' ⟨v, ss, rfl, hss, hrow, _, hb⟩
    have hpm := hS ss hss
    rw [sort_names hrise hpm _ (fun x y => by rw [lt7]), hpm.length_eq, List.length_map] at hrow
    exact ⟨v, rfl, ownsRow_base_a hrow (by simp), below_next bl hb⟩
  clear h
  go_enter Tryd.func30, Tryd.ntmps30
  go_wp2_with fail
  with_reducible refine HCL.out.mono ?_
  rintro e w1 ⟨p', rfl, hm1, _, hz1, hb1⟩
  have HM1 := Lib.hid hm1
  have HZ1 := Lib.hid hz1
  have HB1 := Lib.hid hb1
  have hk := HK.out p' (w1.alloc (.cells #[.map p'] 52))
  have hm2 : MapOr9 (w1.alloc (.cells #[.map p'] 52)) p' L := hm1.later (below_alloc (Below.refl _ _) _)
  have HS2 := Lib.hid (HSF.out p' _ (w1.heap.size + 1) (by simp) hm2)
  have HK2 := Lib.hid hk
  have hbl : Below w1.heap.size w1 (w1.alloc (.cells #[.map p'] 52)) := below_alloc (Below.refl _ _) _
  have HBL := Lib.hid hbl
  have hcl : (w1.alloc (.cells #[.map p'] 52)).cell? ⟨w1.heap.size, 0, none⟩ = some (.map p') := by rw [World.cell?_alloc_at _ _ _ _ rfl]; rfl
  have HCC := Lib.hid hcl
  have hlt : w1.heap.size < (w1.alloc (.cells #[.map p'] 52)).heap.size := by simp
  have HM2 := Lib.hid hm2
  clear hm1 hz1 hb1 hk hbl hcl HCL HK HSF hm2 hc0
  go_wp2_with fail
  with_reducible refine HK2.out.mono ?_
  rintro e w2 ⟨rfl, rfl⟩
  go_wp2_with fail
  with_reducible refine HS2.out.mono ?_
  rintro e w3 ⟨v, rfl, hr, hb⟩
  obtain ⟨A, c, rfl⟩ : ∃ A c, v = .slice A L.length c := by
    rcases mem_of_row9 hr (by simp) with ⟨rfl, hn⟩ | ⟨g, cap, rfl, _⟩
    · exact ⟨none, 0, by rw [show L.length = 0 from by have := congrArg List.length hn; simpa using this]⟩
    · exact ⟨_, cap, by rw [List.length_map]⟩
  have hb4 : Below w3.heap.size w3 (w3.alloc (.cells #[.slice A L.length c] 67)) := below_alloc (Below.refl _ _) _
  have hb14 := below_next HBL.out (below_next hb hb4)
  have hrl : ∀ k, (Value.slice A L.length c).ownBlock = some k → k < w3.heap.size := fun k e => (hr.lt k e).2
  have HF : Hid (Its9 w.heap.size (w3.alloc (.cells #[.slice A L.length c] 67)).heap.size (w3.alloc (.cells #[.slice A L.length c] 67)) L w3.heap.size w1.heap.size ∧ Below w.heap.size w (w3.alloc (.cells #[.slice A L.length c] 67))) := by
    have hm3 := HM2.out.later (below_next hb hb4)
    refine ⟨⟨⟨Nat.le_trans HB1.out.size (Nat.le_trans HBL.out.size hb.size), by simp⟩, ⟨HB1.out.size, Nat.lt_of_lt_of_le hlt (Nat.le_trans hb.size (by simp))⟩, Nat.le_refl _, ⟨_, by rw [World.cell?_alloc_at _ _ _ _ rfl]; rfl, ?_, fun k e => by have := hrl k e; simp; omega⟩, ⟨p', ?_, hm3, fun b e => ⟨HZ1.out b e, hm3.lt b e⟩⟩⟩, below_next HB1.out hb14⟩
    · exact (ownsRow_base_a hr (Nat.le_trans HB1.out.size HBL.out.size)).alloc _
    · exact ((below_next hb hb4).cell (p := ⟨w1.heap.size, 0, none⟩) hlt).trans HCC.out
  clear hr hrl hb hb4 hb14 HS2 HK2 HM1 HZ1 HB1 HBL HCC hlt HM2
  go_wp2
  go_ret
  exact ⟨_, _, rfl, HF.out⟩
end Go.Proofs.YtiodbghokiajjaaDoor
