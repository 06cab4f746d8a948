/-
  Rename and Remove of the groups: group by group, of those that have the name.
  Conditions: texts are no longer than they may be; sets of at most 1000 names.
-/
import Derived.Test.YtmjmglakpnjfkaaGroupDo
namespace Go.Proofs.Ytmjmglakpnjfkaa
open Go.RowKit Go.Maps

/-- The sets of these groups are changed. -/
def stepT (f : Set10 → Set10) (ls : List (List UInt8)) (T : Rows10) : Rows10 := T.map fun x => if x.1 ∈ ls then (x.1, (x.2.1, f x.2.2)) else x
theorem stepT_nil (f : Set10 → Set10) (T : Rows10) : stepT f [] T = T := by
  unfold stepT
  simp
theorem stepT_mem {f : Set10 → Set10} {ls : List (List UInt8)} {T : Rows10} {x : List UInt8 × (Nat × Set10)} (hx : x ∈ T) (hn : x.1 ∉ ls) : x ∈ stepT f ls T := List.mem_map.2 ⟨x, hx, if_neg hn⟩
theorem stepT_blk {f : Set10 → Set10} {ls : List (List UInt8)} {T : Rows10} {y : List UInt8 × (Nat × Set10)} (hy : y ∈ stepT f ls T) : ∃ x ∈ T, x.2.1 = y.2.1 := by
  obtain ⟨x, hx, rfl⟩ := List.mem_map.1 hy
  refine ⟨x, hx, ?_⟩
  split <;> rfl
theorem stepT_snoc {f : Set10 → Set10} {ls : List (List UInt8)} {T : Rows10} {k : List UInt8} (hk : k ∉ ls) : updV (fun v => (v.1, f v.2)) (stepT f ls T) k = stepT f (ls ++ [k]) T := by
  unfold stepT updV
  rw [List.map_map]
  refine List.map_congr_left fun x _ => ?_
  by_cases e : x.1 ∈ ls
  · have hne : x.1 ≠ k := fun e' => hk (e' ▸ e)
    simp [e, hne]
  · by_cases e' : x.1 = k
    · subst e'
      simp [e]
    · simp [e, e']
theorem updV_twice {V : Type} (f g : V → V) (L : RowV V) (k : List UInt8) : updV g (updV f L k) k = updV (fun v => g (f v)) L k := by
  unfold updV
  rw [List.map_map]
  refine List.map_congr_left fun x _ => ?_
  by_cases e : x.1 = k <;> simp [e]
theorem stepT_plain (f : Set10 → Set10) (ls : List (List UInt8)) (T : Rows10) : plain10 (stepT f ls T) = (plain10 T).map fun p => if p.1 ∈ ls then (p.1, f p.2) else p := by
  unfold plain10 stepT
  rw [List.map_map, List.map_map]
  refine List.map_congr_left fun x _ => ?_
  by_cases e : x.1 ∈ ls <;> simp [e]
theorem stepT_of {S : Grs10} (hr : RiseV S) (n : List UInt8) {p : List UInt8 × Set10} (hp : p ∈ S) : p.1 ∈ of10 S n ↔ hasV p.2 n = true := by
  rw [of10_mem hr]
  unfold in10
  rw [mem10_at hr hp]
theorem removed_all {T : Rows10} (hr : RiseV (plain10 T)) (n : List UInt8) : plain10 (stepT (fun l => delV l n) (of10 (plain10 T) n) T) = rmS10 (plain10 T) n := by
  rw [stepT_plain]
  unfold rmS10
  refine List.map_congr_left fun p hp => ?_
  by_cases e : p.1 ∈ of10 (plain10 T) n
  · rw [if_pos e]
  · rw [if_neg e, delV_of_not]
    cases h : hasV p.2 n
    · rfl
    · exact absurd ((stepT_of hr n hp).2 h) e
theorem renamed_all {T : Rows10} (hr : RiseV (plain10 T)) (o n : List UInt8) : plain10 (stepT (fun l => putV (delV l o) n ()) (of10 (plain10 T) o) T) = (plain10 T).map fun p => (p.1, ren10 o n p.2) := by
  rw [stepT_plain]
  refine List.map_congr_left fun p hp => ?_
  unfold ren10
  by_cases e : p.1 ∈ of10 (plain10 T) o
  · rw [if_pos e, if_pos ((stepT_of hr o hp).1 e)]
  · rw [if_neg e]
    cases h : hasV p.2 o
    · rfl
    · exact absurd ((stepT_of hr o hp).2 h) e
theorem riseT_take {l : List (List UInt8)} (h : RiseT l) {k : Nat} (hk : k < l.length) : l[k] ∉ l.take k := by
  intro hm
  obtain ⟨j, hj, e⟩ := List.getElem_of_mem hm
  rw [List.getElem_take] at e
  have hjk : j < k := by simp at hj; omega
  have := List.pairwise_iff_getElem.1 h j k (by omega) hk hjk
  rw [e, before_irrefl] at this
  cases this
/-- A row of texts, in memory. -/
theorem row10 {w : World} {base : Nat} {v : Value} {ls : List (List UInt8)} (h : w.ownsRow base 9 1 v ls.length (ls.map encStr)) :
    (v = .slice none 0 0 ∧ ls = []) ∨ ∃ g cap cur, v = .slice (some ⟨g, 0, none⟩) ls.length cap ∧ base ≤ g ∧ w.heap[g]? = some (.cells cur 9 (0, 0)) ∧ ∀ j (h : j < ls.length), cur[j]? = some (.string (tx10 ls[j])) := by
  rcases h.2 with ⟨rfl, hz⟩ | ⟨g, cap, cur, rfl, hb, hg, r1, r2, r3, r4⟩
  · exact .inl ⟨rfl, List.eq_nil_of_length_eq_zero hz⟩
  · refine .inr ⟨g, cap, cur, rfl, hb, hg, fun j hj => ?_⟩
    have h2 : (List.take (ls.length * 1) cur.toList)[j]? = some (.string (tx10 ls[j])) := by rw [r4]; simp [hj, encStr, tx10]
    rw [List.getElem?_take, if_pos (by omega)] at h2
    simpa using h2
theorem row10_at {w wr : World} {base : Nat} {v : Value} {ls : List (List UInt8)} {S : Nat → Prop} (h : w.ownsRow base 9 1 v ls.length (ls.map encStr)) (ht : Turns S w wr) (hS : ∀ i c T fr, w.heap[i]? = some (.cells c T fr) → T = 9 → ¬ S i) {k : Nat} (hk : k < ls.length) :
    ∃ g cap, v = .slice (some ⟨g, 0, none⟩) ls.length cap ∧ wr.cell? ⟨g, k, none⟩ = some (.string (tx10 ls[k])) := by
  rcases row10 h with ⟨_, rfl⟩ | ⟨g, cap, cur, rfl, _, hg, hc⟩
  · exact absurd hk (Nat.not_lt_zero _)
  · refine ⟨g, cap, rfl, ?_⟩
    have h1 : wr.heap[g]? = some (.cells cur 9 (0, 0)) := (ht.block g (Array.getElem?_eq_some_iff.1 hg).1 (hS g _ _ _ hg rfl)).trans hg
    have h2 := hc k hk
    simp [World.cell?, h1, h2]
theorem row10_shape {w : World} {base : Nat} {v : Value} {ls : List (List UInt8)} (h : w.ownsRow base 9 1 v ls.length (ls.map encStr)) : ∃ A c, v = .slice A ls.length c := by
  rcases row10 h with ⟨rfl, rfl⟩ | ⟨g, cap, cur, rfl, _⟩
  · exact ⟨none, 0, rfl⟩
  · exact ⟨_, cap, rfl⟩
theorem Grp10.step {w w' : World} {B : Nat} {p : Option Nat} {T : Rows10} {f : Set10 → Set10} {ls : List (List UInt8)} (h : Grp10 w B p (stepT f ls T)) {x : List UInt8 × (Nat × Set10)} (hx : x ∈ T) (hn : x.1 ∉ ls) (hs : Set10At w' x.2.1 (f x.2.2)) (ht : Turns (fun i => i = x.2.1) w w') : Grp10 w' B p (stepT f (ls ++ [x.1]) T) := by
  have := h.turned (stepT_mem hx hn) f hs ht
  rwa [stepT_snoc hn] at this

set_option maxRecDepth 100000 in
set_option maxHeartbeats 2000000 in
theorem remove10_calls (B : Nat) (p : Option Nat) (T : Rows10) (n : ByteArray) (w : World) (h : Grp10 w B p T) (hf : T.length ≤ 1000) (hnm : ∀ x ∈ T, x.1.length ≤ 1000) (hn : n.size ≤ 9223372036854775807) :
    Calls Try.prog 21 #[.pointer (some ⟨B, 0, none⟩), .string n] w fun e w' => e = .returned (.int .i64 ((of10 (plain10 T) n.data.toList).length : Nat)) ∧ Goes10 w B p T (rmS10 (plain10 T) n.data.toList) w' := by
  have HOF := Lib.hid (of10_calls B p T n w h hf hn)
  have hrs : RiseV (plain10 T) := riseV_names h.rise (plain10_names T)
  have HRM := Lib.hid (removed_all hrs n.data.toList)
  have HNZ : Hid (n.size ≤ maxLen) := Nat.le_trans hn (by decide)
  have HI := Lib.hid h
  have HTL0 : Hid (∀ g ∈ of10 (plain10 T) n.data.toList, ∃ x ∈ T, x.1 = g) := fun g hg => by
    have := of10_sub hg
    rw [plain10_names] at this
    obtain ⟨x, hx, e⟩ := List.mem_map.1 this
    exact ⟨x, hx, e⟩
  have HRL : Hid (RiseT (of10 (plain10 T) n.data.toList)) := of10_rise hrs _
  obtain ⟨l, hl⟩ : ∃ l, of10 (plain10 T) n.data.toList = l := ⟨_, rfl⟩
  rw [hl] at HOF HRM HTL0 HRL ⊢
  have HL := Lib.hid hl
  have HTL : Hid (∀ k (h : k < l.length), ∃ x ∈ T, x.1 = l[k]) := fun k hk => HTL0.out _ (List.getElem_mem hk)
  have HLN : Hid (∀ g ∈ l, g.length ≤ maxLen) := fun g hg => by
    obtain ⟨x, hx, e⟩ := HTL0.out g hg
    rw [← e]
    exact Nat.le_trans (hnm x hx) (by decide)
  have HB1 := Lib.hid (Below.refl w.heap.size w)
  clear h hrs hl HTL0 hn hnm
  go_enter Try.func21, Try.ntmps21
  go_wp2_with fail
  with_reducible refine HOF.out.mono ?_
  rintro e w1 ⟨v, rfl, hr, hb⟩
  have HRO := Lib.hid hr
  have HB2 := Lib.hid (below_next HB1.out hb)
  have HI2 := Lib.hid (HI.out.later (below_next HB1.out hb))
  obtain ⟨A, c, rfl⟩ := row10_shape hr
  have hcl : l.length ≤ T.length := by rw [← HL.out]; exact Nat.le_trans (of10_le _ _) (Nat.le_of_eq (plain10_len T))
  obtain ⟨len, hlen⟩ : ∃ len, len = l.length := ⟨_, rfl⟩
  rw [← hlen] at hcl ⊢
  have HLEN := Lib.hid hlen
  have hlz : len ≤ 1000 := by omega
  have HCL := Lib.hid hcl
  clear hr hb hlen hcl
  clear HOF
  go_wp2
  go_loopg [13] len (fun gg s13 wr => ∃ k : Nat, k ≤ len ∧ len - k ≤ gg ∧ s13 = .int .i64 k ∧ Hid (Grp10 wr B p (stepT (fun l => delV l n.data.toList) (l.take k) T)) ∧ Hid (Turns (fun i => ∃ x ∈ T, x.2.1 = i) w1 wr))
  case atStart => exact ⟨0, Nat.zero_le _, by omega, rfl, (by show Grp10 _ _ _ _; rw [List.take_zero, stepT_nil]; exact HI2.out), Turns.refl _ _⟩
  case round =>
    obtain ⟨k, hk, hg, rfl, HG, HT⟩ := hrel
    by_cases hlt : k < len
    · have hltz : (k : Int) < (len : Int) := by omega
      have hkl : k < l.length := HLEN.out ▸ hlt
      obtain ⟨x, hx, hxn⟩ := HTL.out k hkl
      have hnot : l[k] ∉ l.take k := riseT_take HRL.out hkl
      have hxk : x ∈ stepT (fun l => delV l n.data.toList) (l.take k) T := stepT_mem hx (by rw [hxn]; exact hnot)
      obtain ⟨g, cap, e2, x0⟩ := row10_at HRO.out HT.out (fun i c0 T0 fr hi _ hS => by obtain ⟨y, hy, e⟩ := hS; exact map_ne_cells10 (HI2.out.sets y hy) hi e) hkl
      injection e2 with e2 e2n e2c
      subst e2
      clear e2n e2c
      have c0 := HG.out.cell
      have htk : l.take (k + 1) = l.take k ++ [x.1] := by rw [List.take_succ_eq_append_getElem hkl, hxn]
      have l1 := look101 HG.out (tx10 l[k]) (by rw [tx10_size]; exact HLN.out _ (List.getElem_mem hkl))
      rw [tx10_list, ← hxn, blk10_some HG.out.rise hxk] at l1
      rw [← hxn] at x0
      obtain ⟨w5, hrun, hs5, ht5⟩ := drop10 (HG.out.sets x hxk) n HNZ.out 0
      have ht5' : Turns (fun i => i = x.2.1) wr w5 := (Turns.refl _ wr).grown ht5.grown (fun k hk _ => by cases hk; rfl)
      have HG2 : Hid (Grp10 w5 B p (stepT (fun l => delV l n.data.toList) (l.take (k + 1)) T)) := by
        show Grp10 _ _ _ _
        rw [htk]
        exact HG.out.step hx (by rw [hxn]; exact hnot) hs5 ht5'
      have HT2 : Hid (Turns (fun i => ∃ x ∈ T, x.2.1 = i) w1 w5) := HT.out.next ht5' (fun i _ e => ⟨x, hx, e.symm⟩)
      clear hs5 ht5 ht5' htk hxk hx hnot HG HT hxn hkl
      generalize tx10 x.1 = sx at *
      generalize x.2.1 = bx at *
      go_wp2
      go_roundg (len - (k + 1))
      case measure => omega
      case rel => exact ⟨k + 1, by omega, by omega, by go_num, HG2, HT2⟩
    · have hltz : ¬ (k : Int) < (len : Int) := by omega
      obtain rfl : k = len := by omega
      have hgd := HG.out
      rw [List.take_of_length_le (by have := HLEN.out; omega)] at hgd
      have HF : Hid (Goes10 w B p T (rmS10 (plain10 T) n.data.toList) wr) := ⟨p, _, hgd, HRM.out, (fun _ e => .inl e), fun y hy => .inl (by obtain ⟨x, hx, e⟩ := stepT_blk hy; exact ⟨x, hx, e⟩), (Turns.of_below HB2.out _).next HT.out (fun i _ e => .inr (.inr e))⟩
      clear hgd HG HT
      go_wp2
      go_ret
      exact ⟨by rw [← HLEN.out]; rfl, HF.out⟩

set_option maxRecDepth 100000 in
set_option maxHeartbeats 4000000 in
theorem rename10_calls (B : Nat) (p : Option Nat) (T : Rows10) (o n : ByteArray) (w : World) (h : Grp10 w B p T) (hf : T.length ≤ 1000) (hnm : ∀ x ∈ T, x.1.length ≤ 1000) (hlt : ∀ x ∈ T, x.2.2.length ≤ 1000) (ho : o.size ≤ 9223372036854775807) (hn : n.size ≤ 9223372036854775807) :
    Calls Try.prog 18 #[.pointer (some ⟨B, 0, none⟩), .string o, .string n] w fun e w' => e = .returned (.int .i64 (reE10 (plain10 T) o.data.toList n.data.toList)) ∧ Goes10 w B p T (reS10 (plain10 T) o.data.toList n.data.toList) w' := by
  have HOFO : Hid (∀ W, Below w.heap.size w W → Calls Try.prog 14 #[.pointer (some ⟨B, 0, none⟩), .string o] W (Names10 (of10 (plain10 T) o.data.toList) W)) := fun W hb => of10_calls B p T o W (h.later hb) hf ho
  have HOFN : Hid (∀ W, Below w.heap.size w W → Calls Try.prog 14 #[.pointer (some ⟨B, 0, none⟩), .string n] W (Names10 (of10 (plain10 T) n.data.toList) W)) := fun W hb => of10_calls B p T n W (h.later hb) hf hn
  have HB0 : Hid (Below w.heap.size w (w.alloc (.cells #[.string n] 9))) := below_alloc (Below.refl _ _) _
  have HN := Lib.hid (areNames_one w.heap.size n _ hn (show (w.alloc (.cells #[.string n] 9)).cell? ⟨w.heap.size, 0, none⟩ = some (.string n) by rw [World.cell?_alloc_at _ _ _ _ rfl]; rfl))
  have hrs : RiseV (plain10 T) := riseV_names h.rise (plain10_names T)
  have HRM := Lib.hid (renamed_all hrs o.data.toList n.data.toList)
  have HNZ : Hid (o.size ≤ maxLen) := Nat.le_trans ho (by decide)
  have HI := Lib.hid h
  have HLT := Lib.hid hlt
  have HTL0 : Hid (∀ g ∈ of10 (plain10 T) o.data.toList, ∃ x ∈ T, x.1 = g) := fun g hg => by
    have := of10_sub hg
    rw [plain10_names] at this
    obtain ⟨x, hx, e⟩ := List.mem_map.1 this
    exact ⟨x, hx, e⟩
  have HRL : Hid (RiseT (of10 (plain10 T) o.data.toList)) := of10_rise hrs _
  obtain ⟨l, hl⟩ : ∃ l, of10 (plain10 T) o.data.toList = l := ⟨_, rfl⟩
  rw [hl] at HOFO HRM HTL0 HRL
  have HL := Lib.hid hl
  have HTL : Hid (∀ k (h : k < l.length), ∃ x ∈ T, x.1 = l[k]) := fun k hk => HTL0.out _ (List.getElem_mem hk)
  have HLN : Hid (∀ g ∈ l, g.length ≤ maxLen) := fun g hg => by
    obtain ⟨x, hx, e⟩ := HTL0.out g hg
    rw [← e]
    exact Nat.le_trans (hnm x hx) (by decide)
  unfold reS10 reE10
  clear h hrs hl HTL0 ho hn hnm hlt
  cases hnn : name5 n.data.toList with
  | false =>
    rw [hnn] at HN
    show Calls _ _ _ _ fun e w' => e = .returned (.int .i64 10) ∧ Goes10 w B p T (plain10 T) w'
    clear hnn
    go_enter Try.func18, Try.ntmps18
    go_wp2_with fail
    with_reducible refine HN.out.mono ?_
    rintro e w1 ⟨rfl, hb⟩
    have HB := Lib.hid (below_next HB0.out hb)
    clear hb HN
    go_wp2
    go_ret
    exact ⟨rfl, Goes10.still HI.out HB.out⟩
  | true =>
    have HSZ := Lib.hid (name10_size hnn)
    rw [hnn] at HN
    clear hnn
    by_cases e : n.data.toList = o.data.toList
    · have hon : n = o := by rw [← tx10_back n, e, tx10_back]
      have e0 : (if true = true then if n.data.toList ≠ o.data.toList ∧ of10 (plain10 T) n.data.toList ≠ [] then (9 : Int) else 0 else 10) = 0 := by simp [e]
      rw [e0, if_pos rfl]
      clear e e0 HOFN
      subst hon
      have n1 : (n.toList != n.toList) = false := by simp
      have n2 : (n.toList == n.toList) = true := by simp
      go_enter Try.func18, Try.ntmps18
      go_wp2_with fail
      with_reducible refine HN.out.mono ?_
      rintro e w9 ⟨rfl, hb⟩
      have HB1 := Lib.hid (below_next HB0.out hb)
      have HOF := Lib.hid (HOFO.out _ HB1.out)
      clear hb HN HOFO
      go_wp2_with fail
      with_reducible refine HOF.out.mono ?_
      rintro e w1 ⟨v, rfl, hr, hb⟩
      have HRO := Lib.hid hr
      have HB2 := Lib.hid (below_next HB1.out hb)
      have HI2 := Lib.hid (HI.out.later (below_next HB1.out hb))
      obtain ⟨A, c, rfl⟩ := row10_shape hr
      have hcl : l.length ≤ T.length := by rw [← HL.out]; exact Nat.le_trans (of10_le _ _) (Nat.le_of_eq (plain10_len T))
      obtain ⟨len, hlen⟩ : ∃ len, len = l.length := ⟨_, rfl⟩
      rw [← hlen] at hcl ⊢
      have HLEN := Lib.hid hlen
      have hlz : len ≤ 1000 := by omega
      have HCL := Lib.hid hcl
      clear hr hb hlen hcl
      clear HOF
      go_wp2
      go_loopg [27] len (fun gg s27 wr => ∃ k : Nat, k ≤ len ∧ len - k ≤ gg ∧ s27 = .int .i64 k ∧ Hid (Grp10 wr B p (stepT (fun l => putV (delV l n.data.toList) n.data.toList ()) (l.take k) T)) ∧ Hid (Turns (fun i => ∃ x ∈ T, x.2.1 = i) w1 wr))
      case atStart => exact ⟨0, Nat.zero_le _, by omega, rfl, (by show Grp10 _ _ _ _; rw [List.take_zero, stepT_nil]; exact HI2.out), Turns.refl _ _⟩
      case round =>
        obtain ⟨k, hk, hg, rfl, HG, HT⟩ := hrel
        by_cases hlt : k < len
        · have hltz : (k : Int) < (len : Int) := by omega
          have hkl : k < l.length := HLEN.out ▸ hlt
          obtain ⟨x, hx, hxn⟩ := HTL.out k hkl
          have hnot : l[k] ∉ l.take k := riseT_take HRL.out hkl
          have hxk : x ∈ stepT (fun l => putV (delV l n.data.toList) n.data.toList ()) (l.take k) T := stepT_mem hx (by rw [hxn]; exact hnot)
          obtain ⟨g, cap, e2, x0⟩ := row10_at HRO.out HT.out (fun i c0 T0 fr hi _ hS => by obtain ⟨y, hy, e⟩ := hS; exact map_ne_cells10 (HI2.out.sets y hy) hi e) hkl
          injection e2 with e2 e2n e2c
          subst e2
          clear e2n e2c
          have c0 := HG.out.cell
          have htk : l.take (k + 1) = l.take k ++ [x.1] := by rw [List.take_succ_eq_append_getElem hkl, hxn]
          have l1 := look101 HG.out (tx10 l[k]) (by rw [tx10_size]; exact HLN.out _ (List.getElem_mem hkl))
          rw [tx10_list, ← hxn, blk10_some HG.out.rise hxk] at l1
          rw [← hxn] at x0
          obtain ⟨w5, hrun, hs5, ht5⟩ := drop10 (HG.out.sets x hxk) n HNZ.out 0
          have ht5' : Turns (fun i => i = x.2.1) wr w5 := (Turns.refl _ wr).grown ht5.grown (fun k hk _ => by cases hk; rfl)
          have hg5 := HG.out.turned hxk (fun l => delV l n.data.toList) hs5 ht5'
          have hx5 : (x.1, (x.2.1, delV x.2.2 n.data.toList)) ∈ updV (fun v : Nat × Set10 => (v.1, delV v.2 n.data.toList)) (stepT (fun l => putV (delV l n.data.toList) n.data.toList ()) (l.take k) T) x.1 := List.mem_map.2 ⟨x, hxk, if_pos rfl⟩
          have l5 := look101 hg5 (tx10 x.1) (by rw [tx10_size, hxn]; exact HLN.out _ (List.getElem_mem hkl))
          rw [tx10_list, blk10_some hg5.rise hx5] at l5
          have c5 := hg5.cell
          have HAD : Hid (Calls Try.prog 39 #[.map (some x.2.1), .string n] w5 fun e w' => e = .returned (.tuple #[]) ∧ Grp10 w' B p (stepT (fun l => putV (delV l n.data.toList) n.data.toList ()) (l.take (k + 1)) T) ∧ Turns (fun i => ∃ x ∈ T, x.2.1 = i) w1 w') :=
            (setadd10_calls x.2.1 (delV x.2.2 n.data.toList) n w5 hs5 (Nat.le_trans (delV_le _ _) (HLT.out x hx)) HSZ.out).mono fun e w' ⟨he, h2, h3⟩ => by
              refine ⟨he, ?_, HT.out.next (ht5'.next h3 (fun i _ e => e)) (fun i _ e => ⟨x, hx, e.symm⟩)⟩
              rw [htk]
              exact HG.out.step hx (by rw [hxn]; exact hnot) h2 (ht5'.next h3 (fun i _ e => e))
          clear hs5 ht5 ht5' htk hxk hx hnot HG HT hxn hkl hg5 hx5
          generalize tx10 x.1 = sx at *
          generalize x.2.1 = bx at *
          go_wp2_with (go_at_call 39; (with_reducible refine HAD.out.mono ?_); rintro e w6 ⟨rfl, hg6, ht6⟩; have HG2 := Lib.hid hg6; have HT2 := Lib.hid ht6; clear hg6 ht6)
          go_roundg (len - (k + 1))
          case measure => omega
          case rel => exact ⟨k + 1, by omega, by omega, by go_num, HG2, HT2⟩
        · have hltz : ¬ (k : Int) < (len : Int) := by omega
          obtain rfl : k = len := by omega
          have hgd := HG.out
          rw [List.take_of_length_le (by have := HLEN.out; omega)] at hgd
          have HF : Hid (Goes10 w B p T ((plain10 T).map fun p => (p.1, ren10 n.data.toList n.data.toList p.2)) wr) := ⟨p, _, hgd, HRM.out, (fun _ e => .inl e), fun y hy => .inl (by obtain ⟨x, hx, e⟩ := stepT_blk hy; exact ⟨x, hx, e⟩), (Turns.of_below HB2.out _).next HT.out (fun i _ e => .inr (.inr e))⟩
          clear hgd HG HT
          go_wp2
          go_ret
          exact ⟨rfl, HF.out⟩
    · have n2 : (n.toList == o.toList) = false := by rw [Lib.toList_data, Lib.toList_data]; simpa using e
      have n1 : ¬ n.toList = o.toList := by simpa using n2
      by_cases h9 : of10 (plain10 T) n.data.toList = []
      · have e0 : (if true = true then if n.data.toList ≠ o.data.toList ∧ of10 (plain10 T) n.data.toList ≠ [] then (9 : Int) else 0 else 10) = 0 := by simp [h9]
        rw [e0, if_pos rfl]
        rw [h9] at HOFN
        clear e e0 h9
        go_enter Try.func18, Try.ntmps18
        go_wp2_with fail
        with_reducible refine HN.out.mono ?_
        rintro e w7 ⟨rfl, hb⟩
        have HB7 := Lib.hid (below_next HB0.out hb)
        have HON := Lib.hid (HOFN.out _ HB7.out)
        clear hb HN HOFN
        go_wp2_with fail
        with_reducible refine HON.out.mono ?_
        rintro e w8 ⟨v8, rfl, hr8, hb⟩
        obtain ⟨A8, c8, rfl⟩ := row10_shape hr8
        have HB1 := Lib.hid (below_next HB7.out hb)
        have HOF := Lib.hid (HOFO.out _ HB1.out)
        clear hb hr8 HON HOFO
        go_wp2_with fail
        with_reducible refine HOF.out.mono ?_
        rintro e w1 ⟨v, rfl, hr, hb⟩
        have HRO := Lib.hid hr
        have HB2 := Lib.hid (below_next HB1.out hb)
        have HI2 := Lib.hid (HI.out.later (below_next HB1.out hb))
        obtain ⟨A, c, rfl⟩ := row10_shape hr
        have hcl : l.length ≤ T.length := by rw [← HL.out]; exact Nat.le_trans (of10_le _ _) (Nat.le_of_eq (plain10_len T))
        obtain ⟨len, hlen⟩ : ∃ len, len = l.length := ⟨_, rfl⟩
        rw [← hlen] at hcl ⊢
        have HLEN := Lib.hid hlen
        have hlz : len ≤ 1000 := by omega
        have HCL := Lib.hid hcl
        clear hr hb hlen hcl
        clear HOF
        go_wp2
        go_loopg [27] len (fun gg s27 wr => ∃ k : Nat, k ≤ len ∧ len - k ≤ gg ∧ s27 = .int .i64 k ∧ Hid (Grp10 wr B p (stepT (fun l => putV (delV l o.data.toList) n.data.toList ()) (l.take k) T)) ∧ Hid (Turns (fun i => ∃ x ∈ T, x.2.1 = i) w1 wr))
        case atStart => exact ⟨0, Nat.zero_le _, by omega, rfl, (by show Grp10 _ _ _ _; rw [List.take_zero, stepT_nil]; exact HI2.out), Turns.refl _ _⟩
        case round =>
          obtain ⟨k, hk, hg, rfl, HG, HT⟩ := hrel
          by_cases hlt : k < len
          · have hltz : (k : Int) < (len : Int) := by omega
            have hkl : k < l.length := HLEN.out ▸ hlt
            obtain ⟨x, hx, hxn⟩ := HTL.out k hkl
            have hnot : l[k] ∉ l.take k := riseT_take HRL.out hkl
            have hxk : x ∈ stepT (fun l => putV (delV l o.data.toList) n.data.toList ()) (l.take k) T := stepT_mem hx (by rw [hxn]; exact hnot)
            obtain ⟨g, cap, e2, x0⟩ := row10_at HRO.out HT.out (fun i c0 T0 fr hi _ hS => by obtain ⟨y, hy, e⟩ := hS; exact map_ne_cells10 (HI2.out.sets y hy) hi e) hkl
            injection e2 with e2 e2n e2c
            subst e2
            clear e2n e2c
            have c0 := HG.out.cell
            have htk : l.take (k + 1) = l.take k ++ [x.1] := by rw [List.take_succ_eq_append_getElem hkl, hxn]
            have l1 := look101 HG.out (tx10 l[k]) (by rw [tx10_size]; exact HLN.out _ (List.getElem_mem hkl))
            rw [tx10_list, ← hxn, blk10_some HG.out.rise hxk] at l1
            rw [← hxn] at x0
            obtain ⟨w5, hrun, hs5, ht5⟩ := drop10 (HG.out.sets x hxk) o HNZ.out 0
            have ht5' : Turns (fun i => i = x.2.1) wr w5 := (Turns.refl _ wr).grown ht5.grown (fun k hk _ => by cases hk; rfl)
            have hg5 := HG.out.turned hxk (fun l => delV l o.data.toList) hs5 ht5'
            have hx5 : (x.1, (x.2.1, delV x.2.2 o.data.toList)) ∈ updV (fun v : Nat × Set10 => (v.1, delV v.2 o.data.toList)) (stepT (fun l => putV (delV l o.data.toList) n.data.toList ()) (l.take k) T) x.1 := List.mem_map.2 ⟨x, hxk, if_pos rfl⟩
            have l5 := look101 hg5 (tx10 x.1) (by rw [tx10_size, hxn]; exact HLN.out _ (List.getElem_mem hkl))
            rw [tx10_list, blk10_some hg5.rise hx5] at l5
            have c5 := hg5.cell
            have HAD : Hid (Calls Try.prog 39 #[.map (some x.2.1), .string n] w5 fun e w' => e = .returned (.tuple #[]) ∧ Grp10 w' B p (stepT (fun l => putV (delV l o.data.toList) n.data.toList ()) (l.take (k + 1)) T) ∧ Turns (fun i => ∃ x ∈ T, x.2.1 = i) w1 w') :=
              (setadd10_calls x.2.1 (delV x.2.2 o.data.toList) n w5 hs5 (Nat.le_trans (delV_le _ _) (HLT.out x hx)) HSZ.out).mono fun e w' ⟨he, h2, h3⟩ => by
                refine ⟨he, ?_, HT.out.next (ht5'.next h3 (fun i _ e => e)) (fun i _ e => ⟨x, hx, e.symm⟩)⟩
                rw [htk]
                exact HG.out.step hx (by rw [hxn]; exact hnot) h2 (ht5'.next h3 (fun i _ e => e))
            clear hs5 ht5 ht5' htk hxk hx hnot HG HT hxn hkl hg5 hx5
            generalize tx10 x.1 = sx at *
            generalize x.2.1 = bx at *
            go_wp2_with (go_at_call 39; (with_reducible refine HAD.out.mono ?_); rintro e w6 ⟨rfl, hg6, ht6⟩; have HG2 := Lib.hid hg6; have HT2 := Lib.hid ht6; clear hg6 ht6)
            go_roundg (len - (k + 1))
            case measure => omega
            case rel => exact ⟨k + 1, by omega, by omega, by go_num, HG2, HT2⟩
          · have hltz : ¬ (k : Int) < (len : Int) := by omega
            obtain rfl : k = len := by omega
            have hgd := HG.out
            rw [List.take_of_length_le (by have := HLEN.out; omega)] at hgd
            have HF : Hid (Goes10 w B p T ((plain10 T).map fun p => (p.1, ren10 o.data.toList n.data.toList p.2)) wr) := ⟨p, _, hgd, HRM.out, (fun _ e => .inl e), fun y hy => .inl (by obtain ⟨x, hx, e⟩ := stepT_blk hy; exact ⟨x, hx, e⟩), (Turns.of_below HB2.out _).next HT.out (fun i _ e => .inr (.inr e))⟩
            clear hgd HG HT
            go_wp2
            go_ret
            exact ⟨rfl, HF.out⟩
      · have e9 : (if true = true then if n.data.toList ≠ o.data.toList ∧ of10 (plain10 T) n.data.toList ≠ [] then (9 : Int) else 0 else 10) = 9 := by simp [h9, e]
        rw [e9, if_neg (by decide)]
        have hpos : 0 < (of10 (plain10 T) n.data.toList).length := List.length_pos_iff.2 h9
        clear e e9 h9
        generalize of10 (plain10 T) n.data.toList = ln at *
        go_enter Try.func18, Try.ntmps18
        go_wp2_with fail
        with_reducible refine HN.out.mono ?_
        rintro e w7 ⟨rfl, hb⟩
        have HB7 := Lib.hid (below_next HB0.out hb)
        have HON := Lib.hid (HOFN.out _ HB7.out)
        clear hb HN HOFN
        go_wp2_with fail
        with_reducible refine HON.out.mono ?_
        rintro e w8 ⟨v8, rfl, hr8, hb⟩
        obtain ⟨A8, c8, rfl⟩ := row10_shape hr8
        have HB1 := Lib.hid (below_next HB7.out hb)
        clear hb hr8 HON HOFO
        generalize ln.length = q at *
        have hposz : (q : Int) > 0 := by omega
        have hposd : decide ((q : Int) > 0) = true := decide_eq_true hposz
        go_wp2
        go_ret
        exact ⟨rfl, Goes10.still HI.out HB1.out⟩
end Go.Proofs.Ytmjmglakpnjfkaa
