/-
  Names that stand in a map, of those with what is asked for, rising: collected in any order, and sorted.
  Conditions: maps of at most 1000 names.
-/
import Derived.Test.YtmjmglakpnjfkaaGroupAsk
import Derived.Test.YtmjmglakpnjfkaaGroupSrt
import Derived.Sort.OwnSorted
import Derived.Maps.RangeWalk
import Derived.Maps.AppendAt
namespace Go.Proofs.Ytmjmglakpnjfkaa
open Go.RowKit Go.Maps Go.Sort Go.Shelf

/-- What has been collected: the names with what is asked for that are no longer to come. -/
def Coll10 {V : Type} (T : RowV V) (q : List UInt8 × V → Bool) (left : Lit → Bool) (ss : List (List UInt8)) : Prop := ss.Nodup ∧ ∀ x, x ∈ ss ↔ ∃ p ∈ T, p.1 = x ∧ q p = true ∧ left (.string x) = false
section
variable {V : Type} {T : RowV V} {q : List UInt8 × V → Bool} {left : Lit → Bool} {ss : List (List UInt8)}
theorem Coll10.start (e : V → DataW Unit) : Coll10 T q (Maps.has (datV e T)) [] := ⟨List.nodup_nil, fun x => by
  constructor
  · intro h; cases h
  · rintro ⟨p, hp, rfl, _, h⟩
    rw [datV_has, hasV_iff.2 ⟨p, hp, rfl⟩] at h
    cases h⟩
theorem coll10_at {e : V → DataW Unit} (hr : RiseV T) {x : List UInt8} {y : DataW Unit} (hat : ∀ zd, (datV e T).atKey (.string x) zd = y) : ∃ p ∈ T, p.1 = x ∧ e p.2 = y := by
  have h1 : Maps.has (datV e T) (.string x) = true := has_true_of_atKey hat
  rw [datV_has] at h1
  obtain ⟨v, hv⟩ := getV_has h1
  have h2 := hat .nil
  rw [atV_some _ hv] at h2
  exact ⟨(x, v), (getV_some hr).1 hv, rfl, h2⟩
theorem Coll10.hit (h : Coll10 T q left ss) {p : List UInt8 × V} (hp : p ∈ T) (hq : q p = true) (hlk : left (.string p.1) = true) : Coll10 T q (fun z => left z && !z.sameKey (.string p.1)) (ss ++ [p.1]) := by
  have hnew : p.1 ∉ ss := fun hx => by obtain ⟨_, _, _, _, h'⟩ := (h.2 _).1 hx; rw [hlk] at h'; cases h'
  refine ⟨List.nodup_append.2 ⟨h.1, by simp, fun a ha b hb => by simp at hb; subst hb; exact fun e => hnew (e ▸ ha)⟩, fun y => ?_⟩
  by_cases hy : y = p.1
  · subst hy
    constructor
    · intro _; exact ⟨p, hp, rfl, hq, by simp [Lit.sameKey]⟩
    · intro _; simp
  · simp [h.2 y, hy, Lit.sameKey]
theorem Coll10.miss (hr : RiseV T) (h : Coll10 T q left ss) {p : List UInt8 × V} (hp : p ∈ T) (hq : q p = false) : Coll10 T q (fun z => left z && !z.sameKey (.string p.1)) ss := by
  refine ⟨h.1, fun y => ?_⟩
  rw [h.2 y]
  refine exists_congr fun p' => and_congr_right fun hp' => and_congr_right fun e => and_congr_right fun hq' => ?_
  have : y ≠ p.1 := fun ey => by
    have := riseV_one hr hp' hp (e.trans ey)
    rw [this, hq] at hq'
    cases hq'
  simp [Lit.sameKey, this]
theorem Coll10.perm (hr : RiseV T) (h : Coll10 T q left ss) (hl : ∀ kl, left kl = false) : ss.Perm (names10 (T.filter q)) := by
  refine (List.perm_ext_iff_of_nodup h.1 ?_).2 fun x => ?_
  · have h1 : RiseT (names10 (T.filter q)) := RiseV.names (hr.filter _)
    exact h1.imp fun {a b} hab e => by subst e; rw [before_irrefl] at hab; cases hab
  · rw [h.2 x]
    unfold names10
    simp only [List.mem_map, List.mem_filter, hl]
    constructor
    · rintro ⟨p, hp, rfl, hq, _⟩; exact ⟨p, ⟨hp, hq⟩, rfl⟩
    · rintro ⟨p, ⟨hp, hq⟩, rfl⟩; exact ⟨p, hp, rfl, hq, trivial⟩
end
theorem ranges_below10 {w w' : World} {P : Program} {k : TypeId} {R : Value → Option (DataW Unit × List MemPlace)} {b r n : Nat} {D : DataW Unit} {left : Lit → Bool} {cnt : Nat} (h : w.ranges P k R b r n D left cnt) (hb : Below w.heap.size w w') : w'.ranges P k R b r n D left cnt := by
  have h1 := h.owns.lt
  have h2 := h.lt
  obtain ⟨es, clock, since, seen, c0, hb', F, hs, hD, hr, rest⟩ := h
  exact ⟨es, clock, since, seen, c0, (hb.block b h1).trans hb', F, hs, hD, (hb.block r h2).trans hr, rest⟩
theorem infoStr10 : (Try.prog.info? 9).map (fun i => (i.zero, i.size, i.bytes)) = some (some (.string ⟨#[]⟩), 1, 16) := by kernel_rfl

/-- A truth, by a number. -/
def mkb10 (n : Nat) : Value := .bool (n == 0)
theorem mkb10_ex (c : Bool) : ∃ n, Value.bool c = mkb10 n := by
  cases c
  · exact ⟨1, rfl⟩
  · exact ⟨0, rfl⟩

/-- A new row of these texts. -/
def Names10 (ls : List (List UInt8)) (w : World) (e : Ending) (w' : World) : Prop :=
  ∃ v, e = .returned v ∧ w'.ownsRow w.heap.size 9 1 v ls.length (ls.map encStr) ∧ Below w.heap.size w w'
theorem ownsRow_low10 {w : World} {a b : Nat} {e size n : Nat} {v : Value} {xs : List Value} (h : w.ownsRow b e size v n xs) (hab : a ≤ b) : w.ownsRow a e size v n xs := by
  refine ⟨h.1, ?_⟩
  rcases h.2 with hn | ⟨g, cap, cur, e1, h0, hg, hr⟩
  · exact .inl hn
  · exact .inr ⟨g, cap, cur, e1, Nat.le_trans hab h0, hg, hr⟩
theorem ownsRow_below10 {w w' : World} {b : Nat} {e size n : Nat} {v : Value} {xs : List Value} (h : w.ownsRow b e size v n xs) (hb : Below w.heap.size w w') : w'.ownsRow b e size v n xs := by
  refine ⟨h.1, ?_⟩
  rcases h.2 with hn | ⟨g, cap, cur, e1, h0, hg, hr⟩
  · exact .inl hn
  · exact .inr ⟨g, cap, cur, e1, h0, (hb.block g (Array.getElem?_eq_some_iff.1 hg).1).trans hg, hr⟩

set_option maxRecDepth 100000 in
set_option maxHeartbeats 2000000 in
theorem rises10_calls (b : Nat) (T : RowV (Nat × Set10)) (q : List UInt8 × (Nat × Set10) → Bool) (av : Value) (w : World) (hr : RiseV T) (hf : T.length ≤ 1000) (hown : w.ownsMap Try.prog 9 (R10) b T.length (datV eb10 T))
    (hev : ∀ W, Below w.heap.size w W → ∀ x ∈ T, Calls Try.prog 44 #[.map (some x.2.1), av] W (Tells5 (q x) W)) :
    Calls Try.prog 31 #[.map (some b), av] w (Names10 (names10 (T.filter q)) w) := by
  obtain ⟨i0, hi, hz0, hz1, hz2⟩ := info_parts infoStr10
  have hbl := hown.lt
  have HEV := Lib.hid hev
  have HR := Lib.hid hr
  clear hev hr
  have hsz : Maps.size (datV eb10 T) = T.length := datV_size eb10 T
  have HSRT : Hid (∀ blk cap (ss ls : List (List UInt8)) (W : World), RiseT ls → ss.Perm ls → Holds encStr W blk 0 ss.toArray → blk < W.heap.size → ss.length < 4611686018427387904 → Calls Try.prog 45 #[.slice (some ⟨blk, 0, none⟩) ss.length cap, .func (.func 46) #[] #[]] W fun e w' => e = .returned (.tuple #[]) ∧ ∃ n os, w' = grow (putRow encStr (Sort.ahead W n) blk 0 ls.toArray) os) := sort10_calls
  have HSRT0 : Hid (∀ cap W, Calls Try.prog 45 #[.slice none 0 cap, .func (.func 46) #[] #[]] W fun e w' => e = .returned (.tuple #[]) ∧ w' = W) := sort10_none
  go_enter Try.func31, Try.ntmps31
  go_wp2_with (first
    | (at_range; refine wpList_range_own _ rfl _ 51 rfl 9 59 keyed10 Try.underlying51 _ b _ _ rfl hown ?_; intro w0 hrg0 hg0 hs0)
    | go_in)
  go_frame
  rw [hsz] at hrg0
  have hs1 : w0.heap.size = w.heap.size + 1 := hs0
  obtain ⟨len, hlen⟩ : ∃ len, len = T.length := ⟨_, rfl⟩
  rw [← hlen] at hrg0 hf
  have HLN := Lib.hid hlen
  clear hs0 hown hlen hsz
  go_loopw [5] (fun v wr => ∃ (left : Lit → Bool) (cnt : Nat) (ss : List (List UInt8)), Hid (wr.ranges Try.prog 9 (R10) b w.heap.size len (datV eb10 T) left cnt) ∧ ss.length + cnt ≤ len ∧
      Hid (wr.ownsRow w.heap.size 9 1 v ss.length (ss.map encStr)) ∧ Hid (Coll10 T q left ss) ∧ Hid (Below w.heap.size w wr))
    (fun _ wr => wr.rangeLeft b w.heap.size)
  case atStart =>
    exact ⟨_, _, [], hrg0, by simp, World.ownsRow_nil _ _ _ _, Coll10.start eb10, (Below.refl _ _).grown hg0 (Nat.le_refl _) (fun j hj => by cases hj)⟩
  case round =>
    obtain ⟨left, cnt, ss, HRG, hcs, HROW, HC, HNX⟩ := hrel
    have hrg := HRG.out
    go_wp2_with (first
      | (at_next; refine wpList_next_ranges _ rfl _ rfl 9 keyed10 (R10) encStr Value.map (fun key kl hk => by obtain ⟨x, hx, _⟩ := Maps.keyOf_str Try.underlying9 hk; exact ⟨x, hx⟩) (fun v y hv => by obtain ⟨c, rfl, _⟩ := r10_inv hv; exact ⟨c, rfl⟩) b w.heap.size len _ _ _ rfl hrg ?_ ?_)
      | go_in)
    · intro hc0 hl0
      have hp := HC.out.perm HR.out hl0
      have hrt : RiseT (names10 (T.filter q)) := RiseV.names (HR.out.filter _)
      have hpl := hp.length_eq
      have hrow := HROW.out
      rcases hrow.2 with ⟨hnil, hz⟩ | ⟨g, cap, cur, rfl, hbase, hgb, r1, r2, r3, r4⟩
      · subst hnil
        have hss : ss = [] := List.eq_nil_of_length_eq_zero hz
        subst hss
        have hne : names10 (T.filter q) = [] := List.eq_nil_of_length_eq_zero hpl.symm
        have HF : Hid (Names10 (names10 (T.filter q)) w (.returned (.slice none 0 0)) wr) := by
          rw [hne]
          exact ⟨_, rfl, World.ownsRow_nil _ _ _ _, HNX.out⟩
        clear hrow hz hne hpl hrt hp hrg hl0
        go_wp2_with (go_at_call 45; (with_reducible refine (HSRT0.out _ _).mono ?_); rintro e w' ⟨rfl, rfl⟩)
        go_ret
        exact HF.out
      · have hH : Holds encStr wr g 0 ss.toArray := holds_of_block hgb (by simpa using r4)
        have hgl : g < wr.heap.size := (Array.getElem?_eq_some_iff.1 hgb).1
        have cS := Lib.hid (HSRT.out g cap ss _ wr hrt hp hH hgl (by omega))
        have HF : Hid (∀ n os, Names10 (names10 (T.filter q)) w (.returned (.slice (some ⟨g, 0, none⟩) ss.length cap)) (grow (putRow encStr (Sort.ahead wr n) g 0 (names10 (T.filter q)).toArray) os)) := fun n os => by
          refine ⟨_, rfl, ?_, HNX.out.grown (grownBy_sorted _) HNX.out.size (fun j hj => by cases hj; exact hbase)⟩
          have := ownsRow_sorted (ts := names10 (T.filter q)) (n := n) (os := os) hpl.symm hbase hgb r1 r2 r3
          rw [← hpl]; exact this
        clear hrow hbase hgb r1 r2 r3 r4 hH hgl hpl hp hrt hrg hl0
        generalize ss.length = n at *
        go_wp2_with (go_at_call 45; (with_reducible refine cS.out.mono ?_); rintro e w' ⟨rfl, nn, os, rfl⟩)
        go_ret
        exact HF.out nn os
    · intro x c kl yd yp w2 cnt2 hkey hlk hv hat hrg2 hlt hg2 hs2 hen
      obtain ⟨x', ex, rfl, _⟩ := Maps.keyOf_str Try.underlying9 hkey
      obtain rfl : x = x' := encStr_inj ex
      obtain ⟨p, hpT, rfl, hpe⟩ := coll10_at HR.out hat
      obtain rfl : (some p.2.1) = c := by
        obtain ⟨o, ho, hz⟩ := r10_inv hv
        have e1 : c = o := by injection ho
        have e2 : ob10 (some p.2.1) = ob10 o := hpe.trans hz
        rw [e1]; exact ob10_inj e2
      have hnx2 : Below w.heap.size w w2 := HNX.out.grown hg2 HNX.out.size (fun j hj => by cases hj; exact Nat.le_refl _)
      have hrow2 := HROW.out.kept hg2 (Or.inr (row_ne_iter HROW.out hrg).symm)
      have HEV2 := Lib.hid (HEV.out w2 hnx2 p hpT)
      have HNX2 := Lib.hid hnx2
      have HROW2 := Lib.hid hrow2
      have HRG2 := Lib.hid hrg2
      have hkz : (fun l : List UInt8 => (Value.string ⟨l.toArray⟩)) p.1 = encStr p.1 := rfl
      have HLT : Hid (cnt2 < wr.rangeLeft b w.heap.size) := by rw [show wr.rangeLeft b w.heap.size = cnt from hrg.left_eq]; exact hlt
      have HPT := Lib.hid hpT
      have HLK := Lib.hid hlk
      clear hs2 hnx2 hrow2 hrg2 hkz hpT hat hv hpe hkey hg2 HROW HRG hrg HNX HEV hlk
      have hlt2 : ss.length + cnt2 + 1 ≤ len := by omega
      have hkv : encStr p.1 = .string (tx10 p.1) := rfl
      have HKV := Lib.hid hkv
      rw [hkv] at hen ⊢
      clear hkv
      cases hq : q p with
      | true =>
        rw [hq] at HEV2
        have HC2 := Lib.hid (HC.out.hit HPT.out hq HLK.out)
        clear HC hq HLK
        generalize tx10 p.1 = kv at *
        go_wp2_with (first
          | (go_at_call 44; (with_reducible refine HEV2.out.mono ?_); rintro e w3 ⟨rfl, hb3⟩; have HROW3 := Lib.hid (ownsRow_below10 HROW2.out hb3); have HRG3 := Lib.hid (ranges_below10 HRG2.out hb3); have HNX3 := Lib.hid (below_next HNX2.out hb3); clear hb3)
          | (at_builtin; refine wpList_append_own _ rfl _ _ 27 rfl w.heap.size 9 i0 (.string ⟨#[]⟩) 1 16 Try.underlying27 hi hz0 hz1 hz2 rfl (by decide) _ _ _ rfl (HROW3.out.alloc _) ⟨w3.heap.size, 0, none⟩ 1 1 [.string kv] rfl rfl (cell_one_new _ _ _) (by simp [Value.oneCell']) (by unfold maxLen at *; omega) (by omega) (by have := HNX3.out.size; simp; omega) ?_; intro v' w4 hown' hg4 hnil4; have HOW := Lib.hid hown'; have HG4 := Lib.hid hg4; clear hown' hg4 hnil4; go_frame)
          | go_in)
        have HRG4 := Lib.hid ((HRG3.out.alloc _).kept HG4.out (row_ne_low HROW3.out hbl) (row_ne_iter HROW3.out HRG3.out))
        have ho := HOW.out
        rw [← HKV.out] at ho
        have HB4 := Lib.hid ((below_next HNX3.out (below_alloc (Below.refl _ _) _)).grown HG4.out (by have := HNX3.out.size; simp; omega) (fun j hj => (HROW3.out.lt j hj).1))
        have HO4 : Hid (w4.ownsRow w.heap.size 9 1 v' (ss ++ [p.1]).length ((ss ++ [p.1]).map encStr)) := by
          show w4.ownsRow _ _ _ _ _ _
          simpa using ho
        clear ho
        go_roundw
        case rel => exact ⟨_, cnt2, ss ++ [p.1], HRG4, by simp; omega, HO4, HC2, HB4⟩
        case measure => rw [HRG4.out.left_eq]; exact HLT.out
      | false =>
        rw [hq] at HEV2
        have HC2 := Lib.hid (HC.out.miss HR.out HPT.out hq)
        clear HC hq HLK
        generalize tx10 p.1 = kv at *
        go_wp2_with (first
          | (go_at_call 44; (with_reducible refine HEV2.out.mono ?_); rintro e w3 ⟨rfl, hb3⟩; have HROW3 := Lib.hid (ownsRow_below10 HROW2.out hb3); have HRG3 := Lib.hid (ranges_below10 HRG2.out hb3); have HNX3 := Lib.hid (below_next HNX2.out hb3); clear hb3)
          | go_in)
        go_roundw
        case rel => exact ⟨_, cnt2, ss, HRG3, by omega, HROW3, HC2, HNX3⟩
        case measure => rw [HRG3.out.left_eq]; exact HLT.out

set_option maxRecDepth 100000 in
theorem rises10_nil (av : Value) (w : World) : Calls Try.prog 31 #[.map none, av] w (Names10 [] w) := by
  have hrg := run_range_nilMap (P := Try.prog) w 51 9 59 Try.underlying51
  have hnx : ∀ ty, (Instr.next (.pointer (some ⟨w.heap.size, 0, none⟩)) false ty).run Try.prog (w.alloc (.mapIter none 0 #[] 0)) = _ := fun ty => run_next_nilMap _ ty 0 0 #[]
  have HSRT0 : Hid (∀ cap W, Calls Try.prog 45 #[.slice none 0 cap, .func (.func 46) #[] #[]] W fun e w' => e = .returned (.tuple #[]) ∧ w' = W) := sort10_none
  have HB := Lib.hid (below_alloc (Below.refl w.heap.size w) (.mapIter none 0 #[] 0))
  go_enter Try.func31, Try.ntmps31
  go_wp2
  refine wp_loop_rounds 1 ?_
  rw [rounds_succ]
  go_wp2_with (go_at_call 45; (with_reducible refine (HSRT0.out _ _).mono ?_); rintro e w' ⟨rfl, rfl⟩)
  go_ret
  exact ⟨_, rfl, World.ownsRow_nil _ _ _ _, HB.out⟩

set_option maxRecDepth 100000 in
set_option maxHeartbeats 2000000 in
theorem riseb10_calls (b : Nat) (T : RowV (Unit)) (q : List UInt8 × (Unit) → Bool) (av : Value) (w : World) (hr : RiseV T) (hf : T.length ≤ 1000) (hown : w.ownsMap Try.prog 9 (plainElem Try.prog 4) b T.length (datV et10 T))
    (hev : ∀ W, Below w.heap.size w W → ∀ x ∈ T, Calls Try.prog 47 #[.bool true, av] W (Tells5 (q x) W)) :
    Calls Try.prog 33 #[.map (some b), av] w (Names10 (names10 (T.filter q)) w) := by
  obtain ⟨i0, hi, hz0, hz1, hz2⟩ := info_parts infoStr10
  have hbl := hown.lt
  have HEV := Lib.hid hev
  have HR := Lib.hid hr
  clear hev hr
  have hsz : Maps.size (datV et10 T) = T.length := datV_size et10 T
  have HSRT : Hid (∀ blk cap (ss ls : List (List UInt8)) (W : World), RiseT ls → ss.Perm ls → Holds encStr W blk 0 ss.toArray → blk < W.heap.size → ss.length < 4611686018427387904 → Calls Try.prog 45 #[.slice (some ⟨blk, 0, none⟩) ss.length cap, .func (.func 46) #[] #[]] W fun e w' => e = .returned (.tuple #[]) ∧ ∃ n os, w' = grow (putRow encStr (Sort.ahead W n) blk 0 ls.toArray) os) := sort10_calls
  have HSRT0 : Hid (∀ cap W, Calls Try.prog 45 #[.slice none 0 cap, .func (.func 46) #[] #[]] W fun e w' => e = .returned (.tuple #[]) ∧ w' = W) := sort10_none
  go_enter Try.func33, Try.ntmps33
  go_wp2_with (first
    | (at_range; refine wpList_range_own _ rfl _ 58 rfl 9 4 keyed10 Try.underlying58 _ b _ _ rfl hown ?_; intro w0 hrg0 hg0 hs0)
    | go_in)
  go_frame
  rw [hsz] at hrg0
  have hs1 : w0.heap.size = w.heap.size + 1 := hs0
  obtain ⟨len, hlen⟩ : ∃ len, len = T.length := ⟨_, rfl⟩
  rw [← hlen] at hrg0 hf
  have HLN := Lib.hid hlen
  clear hs0 hown hlen hsz
  go_loopw [5] (fun v wr => ∃ (left : Lit → Bool) (cnt : Nat) (ss : List (List UInt8)), Hid (wr.ranges Try.prog 9 (plainElem Try.prog 4) b w.heap.size len (datV et10 T) left cnt) ∧ ss.length + cnt ≤ len ∧
      Hid (wr.ownsRow w.heap.size 9 1 v ss.length (ss.map encStr)) ∧ Hid (Coll10 T q left ss) ∧ Hid (Below w.heap.size w wr))
    (fun _ wr => wr.rangeLeft b w.heap.size)
  case atStart =>
    exact ⟨_, _, [], hrg0, by simp, World.ownsRow_nil _ _ _ _, Coll10.start et10, (Below.refl _ _).grown hg0 (Nat.le_refl _) (fun j hj => by cases hj)⟩
  case round =>
    obtain ⟨left, cnt, ss, HRG, hcs, HROW, HC, HNX⟩ := hrel
    have hrg := HRG.out
    go_wp2_with (first
      | (at_next; refine wpList_next_ranges _ rfl _ rfl 9 keyed10 (plainElem Try.prog 4) encStr mkb10 (fun key kl hk => by obtain ⟨x, hx, _⟩ := Maps.keyOf_str Try.underlying9 hk; exact ⟨x, hx⟩) (fun v y hv => by obtain ⟨c, rfl, _⟩ := plainb_inv10 hv; exact mkb10_ex c) b w.heap.size len _ _ _ rfl hrg ?_ ?_)
      | go_in)
    · intro hc0 hl0
      have hp := HC.out.perm HR.out hl0
      have hrt : RiseT (names10 (T.filter q)) := RiseV.names (HR.out.filter _)
      have hpl := hp.length_eq
      have hrow := HROW.out
      rcases hrow.2 with ⟨hnil, hz⟩ | ⟨g, cap, cur, rfl, hbase, hgb, r1, r2, r3, r4⟩
      · subst hnil
        have hss : ss = [] := List.eq_nil_of_length_eq_zero hz
        subst hss
        have hne : names10 (T.filter q) = [] := List.eq_nil_of_length_eq_zero hpl.symm
        have HF : Hid (Names10 (names10 (T.filter q)) w (.returned (.slice none 0 0)) wr) := by
          rw [hne]
          exact ⟨_, rfl, World.ownsRow_nil _ _ _ _, HNX.out⟩
        clear hrow hz hne hpl hrt hp hrg hl0
        go_wp2_with (go_at_call 45; (with_reducible refine (HSRT0.out _ _).mono ?_); rintro e w' ⟨rfl, rfl⟩)
        go_ret
        exact HF.out
      · have hH : Holds encStr wr g 0 ss.toArray := holds_of_block hgb (by simpa using r4)
        have hgl : g < wr.heap.size := (Array.getElem?_eq_some_iff.1 hgb).1
        have cS := Lib.hid (HSRT.out g cap ss _ wr hrt hp hH hgl (by omega))
        have HF : Hid (∀ n os, Names10 (names10 (T.filter q)) w (.returned (.slice (some ⟨g, 0, none⟩) ss.length cap)) (grow (putRow encStr (Sort.ahead wr n) g 0 (names10 (T.filter q)).toArray) os)) := fun n os => by
          refine ⟨_, rfl, ?_, HNX.out.grown (grownBy_sorted _) HNX.out.size (fun j hj => by cases hj; exact hbase)⟩
          have := ownsRow_sorted (ts := names10 (T.filter q)) (n := n) (os := os) hpl.symm hbase hgb r1 r2 r3
          rw [← hpl]; exact this
        clear hrow hbase hgb r1 r2 r3 r4 hH hgl hpl hp hrt hrg hl0
        generalize ss.length = n at *
        go_wp2_with (go_at_call 45; (with_reducible refine cS.out.mono ?_); rintro e w' ⟨rfl, nn, os, rfl⟩)
        go_ret
        exact HF.out nn os
    · intro x c kl yd yp w2 cnt2 hkey hlk hv hat hrg2 hlt hg2 hs2 hen
      obtain ⟨x', ex, rfl, _⟩ := Maps.keyOf_str Try.underlying9 hkey
      obtain rfl : x = x' := encStr_inj ex
      obtain ⟨p, hpT, rfl, hpe⟩ := coll10_at HR.out hat
      have hcv : mkb10 c = .bool true := by
        obtain ⟨o, ho, hz⟩ := plainb_inv10 hv
        have e2 : (.lit (.bool true) : DataW Unit) = .lit (.bool o) := hpe.trans (congrArg Prod.fst hz)
        injection e2 with e2
        injection e2 with e2
        rw [ho, ← e2]
      rw [hcv] at hen ⊢
      clear hcv
      have hnx2 : Below w.heap.size w w2 := HNX.out.grown hg2 HNX.out.size (fun j hj => by cases hj; exact Nat.le_refl _)
      have hrow2 := HROW.out.kept hg2 (Or.inr (row_ne_iter HROW.out hrg).symm)
      have HEV2 := Lib.hid (HEV.out w2 hnx2 p hpT)
      have HNX2 := Lib.hid hnx2
      have HROW2 := Lib.hid hrow2
      have HRG2 := Lib.hid hrg2
      have hkz : (fun l : List UInt8 => (Value.string ⟨l.toArray⟩)) p.1 = encStr p.1 := rfl
      have HLT : Hid (cnt2 < wr.rangeLeft b w.heap.size) := by rw [show wr.rangeLeft b w.heap.size = cnt from hrg.left_eq]; exact hlt
      have HPT := Lib.hid hpT
      have HLK := Lib.hid hlk
      clear hs2 hnx2 hrow2 hrg2 hkz hpT hat hv hpe hkey hg2 HROW HRG hrg HNX HEV hlk
      have hlt2 : ss.length + cnt2 + 1 ≤ len := by omega
      have hkv : encStr p.1 = .string (tx10 p.1) := rfl
      have HKV := Lib.hid hkv
      rw [hkv] at hen ⊢
      clear hkv
      cases hq : q p with
      | true =>
        rw [hq] at HEV2
        have HC2 := Lib.hid (HC.out.hit HPT.out hq HLK.out)
        clear HC hq HLK
        generalize tx10 p.1 = kv at *
        go_wp2_with (first
          | (go_at_call 47; (with_reducible refine HEV2.out.mono ?_); rintro e w3 ⟨rfl, hb3⟩; have HROW3 := Lib.hid (ownsRow_below10 HROW2.out hb3); have HRG3 := Lib.hid (ranges_below10 HRG2.out hb3); have HNX3 := Lib.hid (below_next HNX2.out hb3); clear hb3)
          | (at_builtin; refine wpList_append_own _ rfl _ _ 27 rfl w.heap.size 9 i0 (.string ⟨#[]⟩) 1 16 Try.underlying27 hi hz0 hz1 hz2 rfl (by decide) _ _ _ rfl (HROW3.out.alloc _) ⟨w3.heap.size, 0, none⟩ 1 1 [.string kv] rfl rfl (cell_one_new _ _ _) (by simp [Value.oneCell']) (by unfold maxLen at *; omega) (by omega) (by have := HNX3.out.size; simp; omega) ?_; intro v' w4 hown' hg4 hnil4; have HOW := Lib.hid hown'; have HG4 := Lib.hid hg4; clear hown' hg4 hnil4; go_frame)
          | go_in)
        have HRG4 := Lib.hid ((HRG3.out.alloc _).kept HG4.out (row_ne_low HROW3.out hbl) (row_ne_iter HROW3.out HRG3.out))
        have ho := HOW.out
        rw [← HKV.out] at ho
        have HB4 := Lib.hid ((below_next HNX3.out (below_alloc (Below.refl _ _) _)).grown HG4.out (by have := HNX3.out.size; simp; omega) (fun j hj => (HROW3.out.lt j hj).1))
        have HO4 : Hid (w4.ownsRow w.heap.size 9 1 v' (ss ++ [p.1]).length ((ss ++ [p.1]).map encStr)) := by
          show w4.ownsRow _ _ _ _ _ _
          simpa using ho
        clear ho
        go_roundw
        case rel => exact ⟨_, cnt2, ss ++ [p.1], HRG4, by simp; omega, HO4, HC2, HB4⟩
        case measure => rw [HRG4.out.left_eq]; exact HLT.out
      | false =>
        rw [hq] at HEV2
        have HC2 := Lib.hid (HC.out.miss HR.out HPT.out hq)
        clear HC hq HLK
        generalize tx10 p.1 = kv at *
        go_wp2_with (first
          | (go_at_call 47; (with_reducible refine HEV2.out.mono ?_); rintro e w3 ⟨rfl, hb3⟩; have HROW3 := Lib.hid (ownsRow_below10 HROW2.out hb3); have HRG3 := Lib.hid (ranges_below10 HRG2.out hb3); have HNX3 := Lib.hid (below_next HNX2.out hb3); clear hb3)
          | go_in)
        go_roundw
        case rel => exact ⟨_, cnt2, ss, HRG3, by omega, HROW3, HC2, HNX3⟩
        case measure => rw [HRG3.out.left_eq]; exact HLT.out

set_option maxRecDepth 100000 in
theorem riseb10_nil (av : Value) (w : World) : Calls Try.prog 33 #[.map none, av] w (Names10 [] w) := by
  have hrg := run_range_nilMap (P := Try.prog) w 58 9 4 Try.underlying58
  have hnx : ∀ ty, (Instr.next (.pointer (some ⟨w.heap.size, 0, none⟩)) false ty).run Try.prog (w.alloc (.mapIter none 0 #[] 0)) = _ := fun ty => run_next_nilMap _ ty 0 0 #[]
  have HSRT0 : Hid (∀ cap W, Calls Try.prog 45 #[.slice none 0 cap, .func (.func 46) #[] #[]] W fun e w' => e = .returned (.tuple #[]) ∧ w' = W) := sort10_none
  have HB := Lib.hid (below_alloc (Below.refl w.heap.size w) (.mapIter none 0 #[] 0))
  go_enter Try.func33, Try.ntmps33
  go_wp2
  refine wp_loop_rounds 1 ?_
  rw [rounds_succ]
  go_wp2_with (go_at_call 45; (with_reducible refine (HSRT0.out _ _).mono ?_); rintro e w' ⟨rfl, rfl⟩)
  go_ret
  exact ⟨_, rfl, World.ownsRow_nil _ _ _ _, HB.out⟩
end Go.Proofs.Ytmjmglakpnjfkaa
