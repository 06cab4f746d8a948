/-
  The texts that the laws of this seat share, part 5: what the code and the document's own answers tell, walked function by function.
  Conditions: each theorem's own.
-/
import Derived.Test.YtoeepbmbfambcaaGreatDoorProg
import Derived.Test.YtoeepbmbfambcaaGreatDoorRows
import Derived.ProofKit
import Derived.OpenShut
import Derived.ChangeOld
import Derived.SliceStrings
import Derived.Deep.Slices
import Derived.Test.YtoeepbmbfambcaaGreatDoorShotAllA
import Derived.Test.YtoeepbmbfambcaaGreatDoorShotAllB
import Derived.Test.YtoeepbmbfambcaaGreatDoorShotAllC
import Derived.Test.YtoeepbmbfambcaaGreatDoorShotAllD
namespace Go.Proofs.YtoeepbmbfambcaaGreatDoor
open Go.RowKit Go.Maps Go.Sort Go.Shelf

theorem numS1_left (st : St) (n : Nat) : (numS st n).1.bs.length ≤ st.bs.length := numS_left st n
theorem schemaS_left (st : St) : (schemaS st).bs.length ≤ st.bs.length := by
  unfold schemaS
  split
  · exact numS_left st 1
  · exact Nat.le_trans (failS_length _ _) (numS_left st 1)
theorem countS_left (st : St) : (countS st).1.bs.length ≤ st.bs.length := by
  unfold countS
  split
  · exact Nat.le_trans (failS_length _ _) (numS_left st 2)
  · exact numS_left st 2
theorem countS_few (st : St) : (countS st).2 ≤ 12 := by
  unfold countS
  split
  · exact Nat.zero_le _
  · omega

set_option maxRecDepth 100000 in
set_option maxHeartbeats 1000000 in
theorem schema8_calls (B : Nat) (st : St) (w : World) (h : Rdr w B st) (hl : st.bs.length ≤ 1000) :
    Calls Tryz.prog 25 #[.pointer (some ⟨B, 0, none⟩)] w (Void w B (schemaS st)) := by
  have HN := Lib.hid (rbyte_calls B st w h (by omega))
  obtain ⟨s0, hs0⟩ : ∃ s0, s0 = schemaS st := ⟨_, rfl⟩
  have HS : Hid (s0 = if (numS st 1).2 = 1 then (numS st 1).1 else failS (numS st 1).1 6) := hs0
  rw [← hs0]
  clear hs0 h hl
  generalize (numS st 1).2 = x at *
  generalize (numS st 1).1 = s1 at *
  go_enter Tryz.func25, Tryz.ntmps25
  go_wp2_with fail
  with_reducible refine HN.out.mono ?_
  rintro e w1 ⟨rfl, hd⟩
  have HD := Lib.hid hd
  clear hd HN
  by_cases hx : x = 1
  · have hs := HS.out
    rw [if_pos hx] at hs
    subst hx
    subst hs
    clear HS
    go_wp2
    go_end0
    exact ⟨rfl, HD.out⟩
  · have hs := HS.out
    rw [if_neg hx] at hs
    have hz : ((x : Int) != 1) = true := by simp; omega
    have HF := Lib.hid (fail_calls B s1 6 w1 HD.out.rdr)
    rw [← hs] at HF
    clear hs HS
    go_wp2_with fail
    with_reducible refine HF.out.mono ?_
    rintro e w2 ⟨rfl, hd2⟩
    have HD2 := Lib.hid (HD.out.next hd2)
    clear hd2 HF HD
    go_wp2
    go_end0
    exact ⟨rfl, HD2.out⟩

set_option maxRecDepth 100000 in
set_option maxHeartbeats 1000000 in
theorem count8_calls (B : Nat) (st : St) (w : World) (h : Rdr w B st) (hl : st.bs.length ≤ 1000) :
    Calls Tryz.prog 27 #[.pointer (some ⟨B, 0, none⟩)] w fun e w' => e = .returned (.int .i64 (countS st).2) ∧ Did w B (countS st).1 w' := by
  have HN := Lib.hid (rtwo_calls B st w h (by omega))
  have hx2 : (numS st 2).2 < 65536 := numS_lt st 2
  obtain ⟨c, hc⟩ : ∃ c, c = countS st := ⟨_, rfl⟩
  have HS : Hid (c = if 12 < (numS st 2).2 then (failS (numS st 2).1 7, 0) else ((numS st 2).1, (numS st 2).2)) := hc
  rw [← hc]
  clear hc h hl
  generalize (numS st 2).2 = x at *
  generalize (numS st 2).1 = s1 at *
  obtain ⟨s2, n⟩ := c
  go_enter Tryz.func27, Tryz.ntmps27
  go_wp2_with fail
  with_reducible refine HN.out.mono ?_
  rintro e w1 ⟨rfl, hd⟩
  have HD := Lib.hid hd
  clear hd HN
  by_cases hx : 12 < x
  · have hs := HS.out
    rw [if_pos hx] at hs
    have hz : (x : Int) > 12 := by omega
    obtain ⟨h1, h2⟩ := Prod.mk.inj hs
    have HF := Lib.hid (fail_calls B s1 7 w1 HD.out.rdr)
    rw [← h1] at HF
    subst h2
    clear hs HS h1
    go_wp2_with fail
    with_reducible refine HF.out.mono ?_
    rintro e w2 ⟨rfl, hd2⟩
    have HD2 := Lib.hid (HD.out.next hd2)
    clear hd2 HF HD
    go_wp2
    go_ret
    exact ⟨rfl, HD2.out⟩
  · have hs := HS.out
    rw [if_neg hx] at hs
    have hz : ¬ (x : Int) > 12 := by omega
    obtain ⟨h1, h2⟩ := Prod.mk.inj hs
    subst h1
    subst h2
    clear hs HS
    go_wp2
    go_ret
    exact ⟨rfl, HD.out⟩

theorem get8_calls (B : Nat) (st : St) (w : World) (h : Rdr w B st) (hl : st.bs.length ≤ 1000) (hm : Len5 w) (hBg : B ≠ 0) :
    Calls Tryz.prog 48 #[.pointer (some ⟨B, 0, none⟩), .int .i64 1] w fun e w' => e = .returned (bare7 (tell8 st)).v ∧ Did w B (getS 1 st).1 w' := by
  have l1 := textS_left st 65535
  have f1 := textS_few6 st 65535
  have hg := getS18 st
  have ht : tell8 st = if (getS 1 st).1.e = 0 then ((textS st 65535).2, (textS (textS st 65535).1 65535).2) else ([], []) := rfl
  rw [ht, hg]
  clear ht hg
  rcases h1 : textS st 65535 with ⟨s1, nm⟩
  rw [h1] at l1 f1
  have f2 := textS_few6 s1 65535
  dsimp only at l1 f1 ⊢
  rcases h2 : textS s1 65535 with ⟨s2, hs⟩
  rw [h2] at f2
  dsimp only at f2 ⊢
  refine (get61_one B st w h (by omega) hm hBg nm hs s1 s2 _ h1 h2 rfl (by omega) (by omega)).mono fun e w' ⟨he, hd⟩ => ⟨?_, hd⟩
  rw [he]
  split <;> rfl

/-- A row of users is no block of a Reader's. -/
theorem users_ne_reader {w : World} {B b0 : Nat} {st : St} {v : Value} {n : Nat} {xs : List Value} (hr : Rdr w B st) (h : w.ownsRow b0 43 5 v n xs) : v.ownBlock ≠ some B := by
  obtain ⟨u, hb, _⟩ := hr
  rcases h.2 with ⟨rfl, _⟩ | ⟨g, cap, cur, rfl, _, hg, _⟩
  · simp [Value.ownBlock]
  · intro he
    have : g = B := by simpa [Value.ownBlock] using he
    subst this
    have := hb.symm.trans hg
    simp at this
/-- A Reader beside a row of users that grows. -/
theorem Rdr.beside {w w' : World} {B b0 : Nat} {st : St} {v : Value} {n : Nat} {xs : List Value} (hr : Rdr w B st) (ho : w.ownsRow b0 43 5 v n xs) (ht : Turns (fun i => v.ownBlock = some i) w w') : Rdr w' B st := by
  have hne := users_ne_reader hr ho
  have hB := hr.lt
  obtain ⟨u, hu, hru⟩ := hr
  refine ⟨u, (ht.block B hB hne).trans hu, ?_⟩
  rcases hru with h0 | ⟨g, off, cc, rfl, h1, h2, h3, h4, hbk, h5⟩
  · exact .inl h0
  · have hgn : v.ownBlock ≠ some g := by
      obtain ⟨cur, fr, hcur⟩ := hbk
      intro he
      rcases ho.2 with ⟨hv, _⟩ | ⟨g', cap', cur', hv, _, hg', _⟩
      · rw [hv] at he; simp [Value.ownBlock] at he
      · rw [hv] at he
        have : g' = g := by simpa [Value.ownBlock] using he
        subst this
        have := hcur.symm.trans hg'
        simp at this
    exact .inr ⟨g, off, cc, rfl, h1, h2, Nat.lt_of_lt_of_le h3 ht.size, h4, hbk.keep ht hgn, fun j hj => (ht.cell (p := ⟨g, off + j, none⟩) h3 hgn).trans (h5 j hj)⟩

theorem ucells_snoc (l : List Us) (u : Us) : ucells (l ++ [u]) = ucells l ++ u.cells.toList := by
  unfold ucells
  rw [List.flatMap_append]
  simp

/-- So many users, new in memory. -/
def Users8 (w : World) (B : Nat) (n : Nat) (st : St) (L : Row7) (e : Ending) (w' : World) : Prop :=
  ∃ v, e = .returned v ∧ w'.ownsRow w.heap.size 43 5 v n (ucells (L.map bare7)) ∧ Did w B st w'

set_option maxRecDepth 100000 in
set_option maxHeartbeats 2000000 in
theorem users8_calls (B n : Nat) (st : St) (w : World) (h : Rdr w B st) (hl : st.bs.length ≤ 1000) (hn : n ≤ 12) (hm : Len5 w) (hBg : B ≠ 0) :
    Calls Tryz.prog 26 #[.pointer (some ⟨B, 0, none⟩), .int .i64 n] w (Users8 w B n (usersS n st).1 (usersS n st).2) := by
  obtain ⟨i0, hi, hz0, hz1, hz2⟩ := info_parts infoUser7
  have hB := h.lt
  have HR := Lib.hid (Did.refl h)
  have HM : Hid (∀ W s, Did w B s W → Len5 W) := fun W s hd => by
    obtain ⟨hlt, m, hcm⟩ := hm
    exact ⟨Nat.lt_of_lt_of_le hlt hd.2.size, m, (hd.2.cell (p := ⟨0, 0, none⟩) hlt (fun e => hBg e.symm)).trans hcm⟩
  have HBG := Lib.hid hBg
  obtain ⟨us, hus⟩ : ∃ us, us = usersS n st := ⟨_, rfl⟩
  rw [← hus]
  have HUS : Hid (∃ acc : Row7, acc.length = 0 ∧ st.bs.length ≤ 1000 ∧ us = ((usersS (n - 0) st).1, acc ++ (usersS (n - 0) st).2)) := ⟨[], rfl, hl, hus⟩
  have HLN : Hid (us.2.length = n) := by rw [hus]; exact usersS_length8 n st
  clear hus h hl hm hBg
  go_enter Tryz.func26, Tryz.ntmps26
  go_wp2
  go_loopg [5, 7] n (fun gg s5 s7 wr => ∃ (k : Nat) (acc : Row7) (s1 : St), k ≤ n ∧ n - k ≤ gg ∧ s7 = .int .i64 k ∧ Hid (acc.length = k ∧ s1.bs.length ≤ 1000 ∧ us = ((usersS (n - k) s1).1, acc ++ (usersS (n - k) s1).2)) ∧ Hid (Did w B s1 wr) ∧ Hid (wr.ownsRow w.heap.size 43 5 s5 k (ucells (acc.map bare7))))
  case atStart =>
    obtain ⟨acc, h0, h1, h2⟩ := HUS.out
    have : acc = [] := List.eq_nil_of_length_eq_zero h0
    subst this
    exact ⟨0, [], st, Nat.zero_le _, by omega, rfl, ⟨rfl, h1, h2⟩, HR.out, World.ownsRow_nil _ _ _ _⟩
  case round =>
    clear HUS HR
    obtain ⟨k, acc, s1, hk, hg, rfl, HAC, HD, HO⟩ := hrel
    by_cases hlt : k < n
    · have hltz : (k : Int) < (n : Int) := by omega
      have hac := HAC.out
      rw [show n - k = (n - (k + 1)) + 1 by omega] at hac
      have HAC2 : Hid ((acc ++ [tell8 s1]).length = k + 1 ∧ (getS 1 s1).1.bs.length ≤ 1000 ∧ us = ((usersS (n - (k + 1)) (getS 1 s1).1).1, (acc ++ [tell8 s1]) ++ (usersS (n - (k + 1)) (getS 1 s1).1).2)) :=
        ⟨by rw [List.length_append, hac.1]; rfl, Nat.le_trans (getS1_left8 s1) hac.2.1, by rw [List.append_assoc]; exact hac.2.2⟩
      have HG : Hid (Calls Tryz.prog 48 #[.pointer (some ⟨B, 0, none⟩), .int .i64 1] wr fun e w' => e = .returned (.agg #[.string (tx7 (tell8 s1).1), .string (tx7 (tell8 s1).2), .string ⟨#[]⟩, .bool false, .slice none 0 0]) ∧ Did wr B (getS 1 s1).1 w') := get8_calls B s1 wr HD.out.1 hac.2.1 (HM.out wr s1 HD.out) HBG.out
      have HT : Hid (ucells ((acc ++ [tell8 s1]).map bare7) = ucells (acc.map bare7) ++ [.string (tx7 (tell8 s1).1), .string (tx7 (tell8 s1).2), .string ⟨#[]⟩, .bool false, .slice none 0 0]) := by
        show _ = _
        rw [List.map_append]
        exact ucells_snoc _ _
      clear hac HAC
      generalize acc ++ [tell8 s1] = acc2 at *
      generalize (getS 1 s1).1 = s2 at *
      generalize tx7 (tell8 s1).1 = sn at *
      generalize tx7 (tell8 s1).2 = sh at *
      go_wp2_with fail
      with_reducible refine HG.out.mono ?_
      rintro e w2 ⟨rfl, hd⟩
      have HD2 := Lib.hid (HD.out.next hd)
      have HO2 := Lib.hid (owns_turns (b1 := w.heap.size) HO.out (Nat.le_refl _) hd.2 (fun j hj he => by have he' : j = B := he; omega))
      have hsz := HD2.out.2.size
      clear hd HG HD HO
      go_wp2_with (first
        | (at_builtin; refine wpList_append_own _ rfl _ _ 22 rfl w.heap.size 43 i0 (.agg #[.string ⟨#[]⟩, .string ⟨#[]⟩, .string ⟨#[]⟩, .bool false, .slice none 0 0]) 5 80 Tryz.underlying22 hi hz0 hz1 hz2 rfl (by decide) _ _ _ rfl (HO2.out.alloc _) ⟨w2.heap.size, 0, none⟩ 1 1 [.string sn, .string sh, .string ⟨#[]⟩, .bool false, .slice none 0 0] rfl rfl
            (fun j u hu => by rw [Addr.add_lit, Nat.zero_add, World.cell?_alloc_at _ _ _ _ rfl]; simpa using hu) (by simp [Value.oneCell']) (by unfold maxLen; omega) (by omega) (by simp; omega) ?_
           intro v' w3 hown' hgrow _
           have HO3 := Lib.hid hown'
           have HG3 := Lib.hid hgrow
           clear hown' hgrow)
        | fail)
      go_roundg (n - (k + 1))
      case measure => omega
      case rel =>
        refine ⟨k + 1, acc2, s2, by omega, by omega, by go_num, HAC2, ?_, (show Hid _ from by rw [HT.out]; exact HO3.out)⟩
        have ht0 : Turns (fun i => u5.ownBlock = some i) w2 w3 := (((Turns.refl _ w2).alloc _).grown HG3.out (fun k hk _ => hk))
        exact Lib.hid ⟨HD2.out.1.beside HO2.out ht0, HD2.out.2.next ht0 (fun i hi he => by have := (HO2.out.lt i he).1; omega)⟩
    · have hltz : ¬ (k : Int) < (n : Int) := by omega
      obtain rfl : k = n := by omega
      have hac := HAC.out
      rw [Nat.sub_self] at hac
      have e1 : us.1 = s1 := by rw [hac.2.2]; rfl
      have e2 : us.2 = acc := by rw [hac.2.2]; exact List.append_nil acc
      have HF : Hid (Users8 w B k us.1 us.2 (.returned u5) wr) := ⟨u5, rfl, by rw [e2]; exact HO.out, by rw [e1]; exact HD.out⟩
      clear hac e1 e2 HAC HO HD
      go_wp2
      go_ret
      exact HF.out
end Go.Proofs.YtoeepbmbfambcaaGreatDoor

namespace Go.Proofs.YtoeepbmbfambcaaGreatDoor
open Go.RowKit Go.Maps Go.Sort Go.Shelf

/-- A directory is told that is new, or the first error. -/
def Read8 (w : World) (r : Int × Row7) (e : Ending) (w' : World) : Prop :=
  (r.1 ≠ 0 ∧ e = .returned (.tuple #[.pointer none, .int .i64 r.1]) ∧ Below w.heap.size w w') ∨ (r.1 = 0 ∧ ∃ B, e = .returned (.tuple #[.pointer (some ⟨B, 0, none⟩), .int .i64 0]) ∧ Own7 w w' B r.2)

theorem bare_ok_short {q : List UInt8 × List UInt8} {w : World} (h : q.1.length ≤ 1000 ∧ q.2.length ≤ 1000) : (bare7 q).Ok w := by
  have s1 : (tx7 q.1).size ≤ 1000 := by rw [← size_list]; simpa [tx7] using h.1
  have s2 : (tx7 q.2).size ≤ 1000 := by rw [← size_list]; simpa [tx7] using h.2
  exact { rd := fun h => absurd rfl h, nm := Nat.le_trans s1 (by decide), hs := Nat.le_trans s2 (by decide), ml := Nat.zero_le _, nil := fun _ => rfl, len := Nat.le_refl _, cap := Nat.zero_le _, all := fun s hs => by cases hs }
theorem tell8_short (st : St) (h : st.bs.length ≤ 1000) : (tell8 st).1.length ≤ 1000 ∧ (tell8 st).2.length ≤ 1000 := by
  have l1 := textS_left st 65535
  have f1 := textS_few6 st 65535
  have f2 := textS_few6 (textS st 65535).1 65535
  unfold tell8
  split
  · exact ⟨by dsimp only; omega, by dsimp only; omega⟩
  · exact ⟨Nat.zero_le _, Nat.zero_le _⟩
theorem usersS_short : ∀ (k : Nat) (st : St), st.bs.length ≤ 1000 → ∀ q ∈ (usersS k st).2, q.1.length ≤ 1000 ∧ q.2.length ≤ 1000
  | 0, _, _, q, hq => by cases hq
  | k + 1, st, h, q, hq => by
    rcases List.mem_cons.1 hq with rfl | hq
    · exact tell8_short st h
    · exact usersS_short k (getS 1 st).1 (Nat.le_trans (getS1_left8 st) h) q hq

set_option maxRecDepth 100000 in
set_option maxHeartbeats 4000000 in
theorem read8_calls (u : Value) (bs : List UInt8) (w : World) (hu : Rd w u bs) (hl : bs.length ≤ 1000) (hm : Len5 w) :
    Calls Tryz.prog 10 #[u] w (Read8 w (readS bs)) := by
  rw [← readS_code]
  have HOF := Lib.hid (of_calls u bs w hu (by omega))
  have HM := Lib.hid hm
  have hc := countS_few (schemaS ⟨bs, 0⟩)
  have l1 := schemaS_left ⟨bs, 0⟩
  have l2 := countS_left (schemaS ⟨bs, 0⟩)
  have l0 : (⟨bs, 0⟩ : St).bs.length ≤ 1000 := hl
  have HSC : Hid (∀ W R, Rdr W R ⟨bs, 0⟩ → Calls Tryz.prog 25 #[.pointer (some ⟨R, 0, none⟩)] W (Void W R (schemaS ⟨bs, 0⟩))) := fun W R hr => schema8_calls R _ W hr l0
  generalize schemaS ⟨bs, 0⟩ = s1 at *
  have HCT : Hid (∀ W R, Rdr W R s1 → Calls Tryz.prog 27 #[.pointer (some ⟨R, 0, none⟩)] W fun e w' => e = .returned (.int .i64 (countS s1).2) ∧ Did W R (countS s1).1 w') := fun W R hr => count8_calls R s1 W hr (by omega)
  generalize hcs : countS s1 = cs at *
  obtain ⟨s2, n⟩ := cs
  dsimp only at *
  clear hcs
  have hsh := usersS_short n s2 (by omega)
  have hln := usersS_length8 n s2
  have HUR : Hid (∀ W R, Rdr W R s2 → Len5 W → R ≠ 0 → Calls Tryz.prog 26 #[.pointer (some ⟨R, 0, none⟩), .int .i64 n] W (Users8 W R n (usersS n s2).1 (usersS n s2).2)) := fun W R hr hm hR => users8_calls R n s2 W hr (by omega) hc hm hR
  generalize hus : usersS n s2 = us at *
  obtain ⟨s3, L⟩ := us
  dsimp only at *
  clear hus
  have HER : Hid (∀ W R, Rdr W R s3 → Calls Tryz.prog 28 #[.pointer (some ⟨R, 0, none⟩)] W fun e w' => e = .returned (.int .i64 s3.e) ∧ W = w') := fun W R hr => rerr_calls R s3 W hr
  have HEN : Hid (∀ W R, Rdr W R s3 → Calls Tryz.prog 29 #[.pointer (some ⟨R, 0, none⟩)] W fun e w' => e = .returned (.int .i64 (endS s3)) ∧ W = w') := fun W R hr => rend_calls R s3 W hr
  have HLB : Hid (n = (L.map bare7).length) := by show n = _; rw [List.length_map, hln]
  have HOU : Hid (∀ A c W, RdU7 W A (L.map bare7) → Len5 W → Calls Tryz.prog 18 #[.slice A n c] W fun e w' => (ofE (L.map bare7) ≠ 0 ∧ e = .returned (.tuple #[.pointer none, .int .i64 (ofE (L.map bare7))]) ∧ Below W.heap.size W w') ∨ (ofE (L.map bare7) = 0 ∧ ∃ B, e = .returned (.tuple #[.pointer (some ⟨B, 0, none⟩), .int .i64 0]) ∧ Own7 W w' B L)) := fun A c W hr hm => by
    have := of7_calls A c n (L.map bare7) W HLB.out (by omega) hr (fun u hu => by
      obtain ⟨q, hq, rfl⟩ := List.mem_map.1 hu
      exact bare_ok_short (hsh q hq)) hm
    rwa [rowU_bare] at this
  obtain ⟨out, hout⟩ : ∃ out, out = codeS (s3, L) := ⟨_, rfl⟩
  have HO : Hid (out = if s3.e ≠ 0 then (s3.e, []) else if ofE (L.map bare7) ≠ 0 then (ofE (L.map bare7), []) else if endS s3 ≠ 0 then (endS s3, []) else (0, L)) := hout
  rw [← hout]
  obtain ⟨A0, c0, rfl⟩ := hu.shape
  clear hout hu hm hl l0 l1 l2 hsh hln hc
  generalize ofE (L.map bare7) = oe at *
  generalize endS s3 = en at *
  go_enter Tryz.func10, Tryz.ntmps10
  go_wp2_with fail
  with_reducible refine HOF.out.mono ?_
  rintro e w1 ⟨R, hR, rfl, hr, ht⟩
  have hb1 := ht.below (fun _ f => f.elim)
  have HB1 := Lib.hid hb1
  have HR1 := Lib.hid (Did.refl hr)
  have hRM : R ≠ 0 := by have := HM.out.1; omega
  have HRM := Lib.hid hRM
  have HM1 : Hid (∀ W s, Did w1 R s W → Len5 W) := fun W s hd => by
    obtain ⟨hlt, m, hcm⟩ := HM.out.later HB1.out
    exact ⟨Nat.lt_of_lt_of_le hlt hd.2.size, m, (hd.2.cell (p := ⟨0, 0, none⟩) hlt (fun e => hRM e.symm)).trans hcm⟩
  have HBW : Hid (∀ W s, Did w1 R s W → Below w.heap.size w W) := fun W s hd => ((ht.mono (S' := fun i => i = R) (fun _ _ f => f.elim)).next hd.2 (fun _ _ h => h)).below (fun i hi => by omega)
  clear hr ht hb1 HOF hRM HM HB1
  go_wp2_with fail
  with_reducible refine (HSC.out w1 R HR1.out.rdr).mono ?_
  rintro e w2 ⟨rfl, hd⟩
  have HR2 := Lib.hid (HR1.out.next hd)
  clear hd HSC HR1
  go_wp2_with fail
  with_reducible refine (HCT.out w2 R HR2.out.rdr).mono ?_
  rintro e w3 ⟨rfl, hd⟩
  have HR3 := Lib.hid (HR2.out.next hd)
  clear hd HCT HR2
  go_wp2_with fail
  with_reducible refine (HUR.out w3 R HR3.out.rdr (HM1.out w3 _ HR3.out) HRM.out).mono ?_
  rintro e w4 ⟨v, rfl, ho, hd⟩
  have HR4 := Lib.hid (HR3.out.next hd)
  obtain ⟨A, c, rfl⟩ := owns_shape (owns_turns (b1 := 0) ho (Nat.zero_le _) (Turns.refl (fun _ => False) w4) (fun _ _ f => f))
  have HU4 := Lib.hid (owns_users ho HLB.out)
  clear hd ho HUR HR3
  go_wp2_with fail
  with_reducible refine (HER.out w4 R HR4.out.rdr).mono ?_
  rintro e w5 ⟨rfl, rfl⟩
  clear HER
  by_cases h0 : s3.e = 0
  case neg =>
    have hz : (s3.e != 0) = true := by simpa using h0
    have ho := HO.out
    rw [if_pos h0] at ho
    have HF : Hid (Read8 w out (.returned (.tuple #[.pointer none, .int .i64 s3.e])) w4) := .inl ⟨by rw [ho]; exact h0, by rw [ho], HBW.out w4 _ HR4.out⟩
    clear ho HO h0
    go_wp2
    go_ret2
    exact HF.out
  have hz : (s3.e != 0) = false := by simpa using h0
  have ho := HO.out
  rw [if_neg (by simpa using h0)] at ho
  have HO2 := Lib.hid ho
  have HOU4 := Lib.hid (HOU.out A c w4 HU4.out (HM1.out w4 _ HR4.out))
  clear ho HO h0 HOU
  go_wp2_with fail
  with_reducible refine HOU4.out.mono ?_
  rintro e w6 hcase
  clear HOU4
  rcases hcase with ⟨hne, rfl, hb⟩ | ⟨h0, B, rfl, hown⟩
  · have ho := HO2.out
    rw [if_pos hne] at ho
    have hx1 : (oe != 0) = true := by simpa using hne
    have HF : Hid (Read8 w out (.returned (.tuple #[.pointer none, .int .i64 oe])) w6) := .inl ⟨by rw [ho]; exact hne, by rw [ho], below_next (HBW.out w4 _ HR4.out) hb⟩
    clear ho HO2 hne hb
    go_wp2
    go_ret2
    exact HF.out
  subst h0
  have ho := HO2.out
  rw [if_neg (by simp)] at ho
  have HO3 := Lib.hid ho
  have HEN6 := Lib.hid (HEN.out w6 R (HR4.out.rdr.still (Turns.of_below hown.below _)))
  have HOW : Hid (Own7 w w6 B L) := by
    obtain ⟨p, q0, q1, q2, q3⟩ := hown
    have hb := HBW.out w4 _ HR4.out
    exact ⟨p, q0, Nat.le_trans hb.size q1, fun b hb' => Nat.le_trans hb.size (q2 b hb'), below_next hb q3⟩
  clear ho HO2 hown HEN HU4
  go_wp2_with fail
  with_reducible refine HEN6.out.mono ?_
  rintro e w7 ⟨rfl, rfl⟩
  clear HEN6
  by_cases h0 : en = 0
  · have hz2 : (en != 0) = false := by simpa using h0
    have ho := HO3.out
    rw [if_neg (by simpa using h0)] at ho
    have HF : Hid (Read8 w out (.returned (.tuple #[.pointer (some ⟨B, 0, none⟩), .int .i64 0])) w6) := .inr ⟨by rw [ho], B, rfl, by rw [ho]; exact HOW.out⟩
    clear ho HO3 h0
    go_wp2
    go_ret2
    exact HF.out
  · have hz2 : (en != 0) = true := by simpa using h0
    have ho := HO3.out
    rw [if_pos h0] at ho
    have HF : Hid (Read8 w out (.returned (.tuple #[.pointer none, .int .i64 en])) w6) := .inl ⟨by rw [ho]; exact h0, by rw [ho], HOW.out.below⟩
    clear ho HO3 h0
    go_wp2
    go_ret2
    exact HF.out

/-- The schema that the first byte says. -/
def schema8 : List UInt8 → Int
  | [] => 0
  | b :: _ => if b.toNat = 1 ∨ b.toNat = 2 then b.toNat else 0
set_option maxRecDepth 100000 in
theorem sch8_calls (u : Value) (bs : List UInt8) (w : World) (hu : Rd w u bs) :
    Calls Tryz.prog 12 #[u] w fun e w' => e = .returned (.int .i64 (schema8 bs)) ∧ w = w' := by
  obtain ⟨A0, c0, rfl⟩ := hu.shape
  cases bs with
  | nil =>
    clear hu
    show Calls Tryz.prog 12 #[.slice A0 0 c0] w fun e w' => e = .returned (.int .i64 0) ∧ w = w'
    go_enter Tryz.func12, Tryz.ntmps12
    go_wp2
    go_ret
    exact ⟨rfl, rfl⟩
  | cons b r =>
    obtain ⟨g, off, c, he, hc⟩ := hu.at_ 0 (by simp)
    injection he with e1 _ e3
    subst e1 e3
    rw [Nat.add_zero] at hc
    have hcell : w.cell? ⟨g, off, none⟩ = some (.int .u8 (b.toNat : Int)) := hc
    have hs : schema8 (b :: r) = if b.toNat = 1 ∨ b.toNat = 2 then (b.toNat : Int) else 0 := rfl
    rw [hs]
    have hb : b.toNat < 256 := b.toNat_lt
    clear hc hs hu
    obtain ⟨n, hn⟩ : ∃ n, n = (b :: r).length := ⟨_, rfl⟩
    have hp : 0 < n := by rw [hn]; simp
    have hpz : (n : Int) > 0 := by omega
    rw [← hn]
    clear hn
    generalize b.toNat = x at *
    by_cases h1 : x = 1
    · subst h1
      go_enter Tryz.func12, Tryz.ntmps12
      go_wp2
      go_ret
      exact ⟨rfl, rfl⟩
    · by_cases h2 : x = 2
      · subst h2
        go_enter Tryz.func12, Tryz.ntmps12
        go_wp2
        go_ret
        exact ⟨rfl, rfl⟩
      · have z1 : ((x : Int) == 1) = false := by simp; omega
        have z2 : ((x : Int) == 2) = false := by simp; omega
        rw [if_neg (by omega)]
        go_enter Tryz.func12, Tryz.ntmps12
        go_wp2
        go_ret
        exact ⟨rfl, rfl⟩
end Go.Proofs.YtoeepbmbfambcaaGreatDoor

namespace Go.Proofs.YtoeepbmbfambcaaGreatDoor
open Go.RowKit Go.Maps Go.Sort Go.Shelf

/-- The Writer is told, with so much. -/
def Grows8 (w : World) (B : Nat) (bs : List UInt8) (e : Ending) (w' : World) : Prop := e = .returned (.pointer (some ⟨B, 0, none⟩)) ∧ NW6 w B bs w'
theorem NW6.byte8 {w W : World} {B : Nat} {bs : List UInt8} (xi : Int) (x : Nat) (h : NW6 w B bs W) (ex : xi = x) (hx : x < 256) (hr : bs.length ≤ 500000) :
    Calls Tryz.prog 20 #[.pointer (some ⟨B, 0, none⟩), .int .u8 xi] W (Grows8 w B (bs ++ le x 1)) := by
  subst ex
  obtain ⟨hB, ⟨v, hw, hv⟩, ht⟩ := h
  exact (byte_calls B v bs x W hw hx (by omega)).mono fun e w' ⟨he, hg⟩ => ⟨he, hg.nw6 hB hv ht⟩
theorem NW6.two8 {w W : World} {B : Nat} {bs : List UInt8} (xi : Int) (x : Nat) (h : NW6 w B bs W) (ex : xi = x) (hx : x < 65536) (hr : bs.length ≤ 500000) :
    Calls Tryz.prog 21 #[.pointer (some ⟨B, 0, none⟩), .int .u16 xi] W (Grows8 w B (bs ++ le x 2)) := by
  subst ex
  obtain ⟨hB, ⟨v, hw, hv⟩, ht⟩ := h
  exact (two_calls B v bs x W hw hx (by omega)).mono fun e w' ⟨he, hg⟩ => ⟨he, hg.nw6 hB hv ht⟩

set_option maxRecDepth 100000 in
theorem bytes80_calls (w : World) : Calls Tryz.prog 9 #[.pointer none] w fun e w' => e = .returned (.slice none 0 0) ∧ w = w' := by
  go_enter Tryz.func9, Tryz.ntmps9
  go_wp2
  go_ret
  exact ⟨rfl, rfl⟩

set_option maxRecDepth 100000 in
set_option maxHeartbeats 2000000 in
theorem bytes8_calls (B : Nat) (p : Option Nat) (L : Row7) (w : World) (hd : Dir7 w B p L) (hk : ∀ q ∈ L, chk6 1 (bare7 q) = 0) (hm : Len5 w) :
    Calls Tryz.prog 9 #[.pointer (some ⟨B, 0, none⟩)] w (Told6 w (shotR L)) := by
  have HAL := Lib.hid (all7_calls B p L w hd)
  have hfew := hd.few
  have HALL := Lib.hid hd.all
  have HK := Lib.hid hk
  have HM := Lib.hid hm
  have hbl : ∀ k, ((L.take k).flatMap pairB).length ≤ 28 * 12 := fun k => by
    have := pairsB_length8 (L := L.take k) (fun q hq => hk q (List.mem_of_mem_take hq))
    have h2 : (L.take k).length ≤ L.length := by rw [List.length_take]; omega
    omega
  have HBL := Lib.hid hbl
  obtain ⟨n, hn⟩ : ∃ n, n = L.length := ⟨_, rfl⟩
  have HLN : Hid (n = L.length) := hn
  rw [← hn] at hfew
  obtain ⟨out, hout⟩ : ∃ out, out = shotR L := ⟨_, rfl⟩
  have HSH : Hid (out = le 1 1 ++ le n 2 ++ L.flatMap pairB) := by show out = _; rw [hout, hn, List.append_assoc]; rfl
  rw [← hout]
  clear hd hk hm hn hbl hout
  go_enter Tryz.func9, Tryz.ntmps9
  go_wp2_with fail
  with_reducible refine HAL.out.mono ?_
  rintro e w1 ⟨v, rfl, hu, hb⟩
  obtain ⟨A, c, rfl⟩ : ∃ A c, v = .slice A n c := by
    obtain ⟨A, c, e, _⟩ := Us7.of_users hu
    exact ⟨A, c, by rw [e, ← HLN.out]⟩
  have HR := Lib.hid (Us7.of_users hu).rd.2
  have HB1 := Lib.hid hb
  clear hu hb HAL
  have HZ := Lib.hid (NW6.zero w1)
  go_wp2_with fail
  with_reducible refine (NW6.byte8 _ 1 HZ.out (by simp) (by omega) (by simp)).mono ?_
  rintro e w2 ⟨rfl, h1⟩
  rw [List.nil_append] at h1
  have H1 := Lib.hid h1
  clear h1 HZ
  go_wp2_with fail
  with_reducible refine (NW6.two8 _ n H1.out (by go_num) (by omega) (by rw [le_length]; omega)).mono ?_
  rintro e w3 ⟨rfl, h1⟩
  have H2 := Lib.hid h1
  have hpre : (le 1 1 ++ le n 2).length = 3 := by rw [List.length_append, le_length, le_length]
  clear h1 H1
  generalize le 1 1 ++ le n 2 = pre at *
  generalize hB : w1.heap.size = BW at *
  have HBW := Lib.hid hB
  clear hB
  go_wp2
  go_loopg [6, 18] n (fun gg _ s18 wr => ∃ k : Nat, k ≤ n ∧ n - k ≤ gg ∧ s18 = .int .i64 k ∧ Hid (NW6 w1 BW (pre ++ (L.take k).flatMap pairB) wr))
  case atStart => exact ⟨0, Nat.zero_le _, by omega, rfl, by show NW6 w1 BW (pre ++ []) w3; rw [List.append_nil]; exact H2.out⟩
  case round =>
    clear H2
    obtain ⟨k, hk, hg, rfl, HW⟩ := hrel
    have hbw := HW.out.2.2
    by_cases hlt : k < n
    · have hltz : (k : Int) < (n : Int) := by omega
      have hkl : k < L.length := HLN.out ▸ hlt
      have hkm : k < (L.map bare7).length := by rw [List.length_map]; exact hkl
      have hgm : (L.map bare7)[k]'hkm = bare7 L[k] := List.getElem_map _
      obtain ⟨b, off, rfl, hb, hc⟩ := (HR.out.later hbw) (by intro e; rw [e] at hkm; exact absurd hkm (Nat.not_lt_zero _))
      have hc' := hc k hkm
      rw [hgm] at hc'
      have c0 : wr.cell? ⟨b, off + k * 5, none⟩ = some (.string (tx7 L[k].1)) := hc' 0 _ rfl
      have c1 : wr.cell? ⟨b, off + k * 5 + 1, none⟩ = some (.string (tx7 L[k].2)) := hc' 1 _ rfl
      have c2 : wr.cell? ⟨b, off + k * 5 + 2, none⟩ = some (.string ⟨#[]⟩) := hc' 2 _ rfl
      have c3 : wr.cell? ⟨b, off + k * 5 + 3, none⟩ = some (.bool false) := hc' 3 _ rfl
      have c4 : wr.cell? ⟨b, off + k * 5 + 4, none⟩ = some (.slice none 0 0) := hc' 4 _ rfl
      have hb1 := below_alloc (Below.refl wr.heap.size wr) (.cells #[.string (tx7 L[k].1), .string (tx7 L[k].2), .string ⟨#[]⟩, .bool false, .slice none 0 0] 43)
      have hq := HALL.out L[k] (List.getElem_mem hkl)
      have hch := HK.out L[k] (List.getElem_mem hkl)
      have hlen : (pre ++ (L.take k).flatMap pairB).length ≤ 1000 := by have := HBL.out k; rw [List.length_append]; omega
      have HP : Hid (Calls Tryz.prog 22 #[.pointer (some ⟨BW, 0, none⟩), .int .i64 1, .agg #[.string (tx7 L[k].1), .string (tx7 L[k].2), .string ⟨#[]⟩, .bool false, .slice none 0 0]] (wr.alloc (.cells #[.string (tx7 L[k].1), .string (tx7 L[k].2), .string ⟨#[]⟩, .bool false, .slice none 0 0] 43)) fun e w' => e = .returned (.bool true) ∧ NW6 w1 BW (pre ++ (L.take (k + 1)).flatMap pairB) w') := by
        refine (put6_calls w1 BW _ 1 (bare7 L[k]) _ (HW.out.below hb1) (bare7_ok hq) (HM.out.later HB1.out) hlen).mono fun e w' h => ?_
        rcases h with ⟨_, he, hn⟩ | ⟨h0, _⟩
        · refine ⟨he, ?_⟩
          rw [List.take_succ_eq_append_getElem hkl, List.flatMap_append, List.flatMap_singleton, ← List.append_assoc]
          exact hn
        · exact absurd hch h0
      clear hc hc' hb hb1 hq hch hlen hbw HW hgm
      generalize tx7 L[k].1 = sn at *
      generalize tx7 L[k].2 = sh at *
      go_wp2_with (go_at_call 22; (with_reducible refine HP.out.mono ?_); rintro e w4 ⟨rfl, h4⟩; have H4 := Lib.hid h4; clear h4)
      go_roundg (n - (k + 1))
      case measure => omega
      case rel => exact ⟨k + 1, by omega, by omega, by go_num, H4⟩
    · have hltz : ¬ (k : Int) < (n : Int) := by omega
      obtain rfl : k = n := by omega
      have hw := HW.out
      rw [List.take_of_length_le (by have := HLN.out; omega), ← HSH.out] at hw
      have hol : out.length ≤ 1000000 := by
        have := HBL.out k
        rw [List.take_of_length_le (by have := HLN.out; omega)] at this
        rw [HSH.out, List.length_append]
        omega
      have HBY := Lib.hid (hw.bytes hol)
      have HBB := Lib.hid (below_next HB1.out hw.2.2)
      have hszb := HBB.out.size
      clear hw hol hbw HW
      go_wp2_with fail
      with_reducible refine HBY.out.mono ?_
      rintro e w5 ⟨v5, rfl, ho, hn, hb⟩
      have HF : Hid (Told6 w out (.returned v5) w5) := ⟨v5, rfl, ho, fun j hj => Nat.le_trans hszb (hn j hj), below_next HBB.out hb⟩
      clear ho hn hb HBY
      go_wp2
      go_ret
      exact HF.out

set_option maxRecDepth 100000 in
theorem lives8_calls (w : World) (hm : Len5 w) : Calls Tryz.prog 7 #[] w (Tells5 true w) := by
  have HN := Lib.hid (new7_calls w)
  have HBY : Hid (Calls Tryz.prog 9 #[.pointer (some ⟨w.heap.size, 0, none⟩)] (w.alloc (.cells #[.map none] 66)) (Told6 (w.alloc (.cells #[.map none] 66)) [1, 0, 0])) := bytes8_calls w.heap.size none [] _ (dir7_new w) (fun q hq => by cases hq) (hm.later (below_alloc (Below.refl _ _) _))
  have HB0 := Lib.hid (below_alloc (Below.refl w.heap.size w) (.cells #[.map none] 66))
  clear hm
  go_enter Tryz.func7, Tryz.ntmps7
  go_wp2_with fail
  with_reducible refine HN.out.mono ?_
  rintro e w1 ⟨rfl, rfl⟩
  go_wp2_with fail
  with_reducible refine HBY.out.mono ?_
  rintro e w2 ⟨v2, rfl, ho, _, hb⟩
  have hrd := (Rd.of_own ho).string (P := Tryz.prog) (src := 27) (dst := 9) Tryz.underlying27 Tryz.underlying5 Tryz.underlying9
  obtain ⟨A2, c2, rfl⟩ := owns_shape ho
  have HB2 := Lib.hid (below_next HB0.out hb)
  clear ho hb HBY HN
  have hrd6 : (convert 27 9 (.slice A2 3 c2)).run Tryz.prog w2 = .ok (.string ⟨#[1, 0, 0]⟩) w2 := hrd
  clear hrd
  go_wp2
  go_ret
  exact ⟨rfl, HB2.out⟩
end Go.Proofs.YtoeepbmbfambcaaGreatDoor

namespace Go.Proofs.YtoeepbmbfambcaaGreatDoor
open Go.ChangeShapes Go.WideShapes Go.ChangeAt Go.RowKit Go.Deep

theorem cellsOfByte2 : Tryz.prog.cellsOf 5 = 1 := by kernel_rfl
/-- What is known of a slice of bytes that came in. -/
def IsBytes (w : World) (A : Option Addr) (len cap : Nat) (bl : List UInt8) : Prop := len = bl.length ∧ bl.length ≤ 9223372036854775807 ∧ Rd w (.slice A len cap) bl

theorem bytes_in {H : Type} {enc : TypeId × Value → H} {W : World} {base : Nat} {sp : Nat → Bool} {hd : Bool} {fuel : Nat} {a : Option Addr} {len cap : Nat} {x : DataW H × List MemPlace}
    (hf : DataW.trod enc Tryz.prog W base sp hd fuel 27 [.slice a len cap] = some x) : ∃ bl, IsBytes W a len cap bl := by
  rcases open_ints Tryz.underlying27 Tryz.underlying5 cellsOfByte2 hf with ⟨hcs, _⟩ | ⟨x, l, c, zs, hcs, _, hl, hm, hz, _, hcell, hwz⟩
  · simp at hcs
    obtain ⟨rfl, rfl, rfl⟩ := hcs
    exact ⟨[], rfl, by simp, none, 0, rfl, fun h => absurd rfl h⟩
  · simp at hcs
    obtain ⟨rfl, rfl, rfl⟩ := hcs
    have hlen : len ≤ zs.length := by rw [hz]; split <;> omega
    have hlt : ((zs.take len).map fun z => UInt8.ofNat z.toNat).length = len := by rw [List.length_map, List.length_take]; omega
    have hmx : cap ≤ 9223372036854775807 := by simpa [maxLen] using hm
    refine ⟨(zs.take len).map fun z => UInt8.ofNat z.toNat, hlt.symm, by omega, some x, cap, by rw [hlt], fun hne => ?_⟩
    have hp : 0 < zs.length := by
      rcases Nat.eq_zero_or_pos zs.length with h | h
      · exact absurd (by rw [List.eq_nil_of_length_eq_zero h]; simp) hne
      · exact h
    refine ⟨x, rfl, ?_, fun j u hu => ?_⟩
    · have := World.block_lt_of_cell? W _ (hcell 0 hp)
      rwa [add_block] at this
    · rw [cellsOf, List.map_map, List.getElem?_map] at hu
      obtain ⟨z, hz', rfl⟩ := Option.map_eq_some_iff.1 hu
      obtain ⟨hj, he⟩ := List.getElem?_eq_some_iff.1 hz'
      rw [List.length_take] at hj
      rw [List.getElem_take] at he
      have hj' : j < zs.length := by omega
      rw [hcell j hj']
      have hb := bounds_u8 (hwz z (by rw [← he]; exact List.getElem_mem hj'))
      simp only [List.getD_eq_getElem?_getD, List.getElem?_eq_getElem hj', he, Function.comp, Option.getD_some, UInt8.toNat_ofNat']
      congr 2
      omega
theorem bytes_of {H : Type} {enc : TypeId × Value → H} {W : World} {base : Nat} {sp : Nat → Bool} {hd : Bool} {a : Option Addr} {len cap : Nat} {d : DataW H} {p : List MemPlace}
    (h : DataW.Trod enc Tryz.prog W base sp hd 27 (.slice a len cap) d p) : ∃ bl, IsBytes W a len cap bl := by
  obtain ⟨fuel, hf⟩ := h
  exact bytes_in hf
end Go.Proofs.YtoeepbmbfambcaaGreatDoor
