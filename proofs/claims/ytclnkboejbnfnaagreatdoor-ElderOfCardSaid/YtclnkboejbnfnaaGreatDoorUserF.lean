/-
  The chapter's example holds; the law's Few tells whether a user is little.
  Conditions: texts and rows are no longer than they may be; the library's own variable MaxLen holds some number.
-/
import Derived.Test.YtclnkboejbnfnaaGreatDoorUserE
namespace Go.Proofs.YtclnkboejbnfnaaGreatDoor
open Go.RowKit

/-- New bytes, told. -/
def Told6 (w : World) (l : List UInt8) (e : Ending) (w' : World) : Prop :=
  ∃ v', e = .returned v' ∧ w'.ownsRow 0 5 1 v' l.length (cellsOf l) ∧ (∀ k, v'.ownBlock = some k → w.heap.size ≤ k) ∧ Below w.heap.size w w'
theorem NW6.bytes {w W : World} {B : Nat} {bs : List UInt8} (h : NW6 w B bs W) (hl : bs.length ≤ 1000000) : Calls Tryz.prog 55 #[.pointer (some ⟨B, 0, none⟩)] W (Told6 W bs) := by
  obtain ⟨v, hw, hv⟩ := h.2.1
  exact (bytes_calls B v bs W hw (by omega)).mono fun e W' ⟨v', he, ho, hb, ht⟩ => ⟨v', he, ho, hb, ht.below (fun _ f => f.elim)⟩

/-- The chapter's example. -/
def ex6 : Us := ⟨⟨#[97]⟩, ⟨#[49]⟩, ⟨#[]⟩, false, none, [], 0⟩
theorem ex6_ok (w : World) : ex6.Ok w := ⟨fun e => absurd rfl e, by decide, by decide, by decide, fun _ => rfl, by decide, by decide, fun s hs => by cases hs⟩
theorem ex6_chk : chk6 1 ex6 = 0 := by decide +kernel
theorem ex6_bytes : userB 1 ex6 = [1, 0, 97, 1, 0, 49] := by decide +kernel

/-- How much the groups that are looked at count for. -/
def sum6 (gs : List ByteArray) : Nat := (gs.map fun g => min g.size 1000).sum
/-- A user is little. -/
def fewU (u : Us) : Bool := decide (u.nm.size + u.hs.size + u.ml.size + sum6 (u.gs.take 30) ≤ 400) && decide (u.gs.length ≤ 20)
theorem sum6_le (gs : List ByteArray) : sum6 gs ≤ 1000 * gs.length := by
  induction gs with
  | nil => simp [sum6]
  | cons g gs ih =>
    have : sum6 (g :: gs) = min g.size 1000 + sum6 gs := by simp [sum6]
    rw [this, List.length_cons]
    omega
theorem sum6_snoc (gs : List ByteArray) (k : Nat) (hk : k < gs.length) : sum6 (gs.take (k + 1)) = sum6 (gs.take k) + min gs[k].size 1000 := by
  unfold sum6
  rw [List.take_succ_eq_append_getElem hk, List.map_append, List.sum_append]
  simp
theorem sum6_mem (gs : List ByteArray) : ∀ g ∈ gs, min g.size 1000 ≤ sum6 gs := by
  induction gs with
  | nil => intro g h; cases h
  | cons x gs ih =>
    intro g h
    have e : sum6 (x :: gs) = min x.size 1000 + sum6 gs := by simp [sum6]
    rw [e]
    rcases List.mem_cons.1 h with rfl | h
    · omega
    · have := ih g h; omega
theorem fewU_facts {u : Us} (h : fewU u = true) : u.nm.size ≤ 400 ∧ u.hs.size ≤ 400 ∧ u.ml.size ≤ 400 ∧ u.gs.length ≤ 20 ∧ ∀ g ∈ u.gs, g.size ≤ 400 := by
  unfold fewU at h
  simp only [Bool.and_eq_true, decide_eq_true_eq] at h
  refine ⟨by omega, by omega, by omega, h.2, fun g hg => ?_⟩
  have ht : u.gs.take 30 = u.gs := List.take_of_length_le (by omega)
  rw [ht] at h
  have := sum6_mem u.gs g hg
  omega

set_option maxRecDepth 100000 in
set_option maxHeartbeats 1000000 in
theorem few6U_calls (u : Us) (w : World) (h : u.Ok w) : Calls Tryz.prog 12 #[u.v] w (Tells5 (fewU u) w) := by
  have hat := UsAt.new w u 26
  have hb0 := below_alloc (Below.refl w.heap.size w) (.cells #[.string u.nm, .string u.hs, .string u.ml, .bool u.dis, .slice u.ga u.gs.length u.gc] 26)
  have hrd := h.rd.below hb0
  have hn1 := h.nm
  have hn2 := h.hs
  have hn3 := h.ml
  have hlen := h.len
  have hcap := h.cap
  have HALL := Lib.hid h.all
  have HRD := Lib.hid hrd
  have HB0 := Lib.hid hb0
  have c0 := hat.c0
  have c1 := hat.c1
  have c2 := hat.c2
  have c4 := hat.c4
  obtain ⟨r, hr⟩ : ∃ r, r = fewU u := ⟨_, rfl⟩
  rw [← hr]
  unfold fewU at hr
  have HR := Lib.hid hr
  clear h hat hb0 hrd hr
  show Calls _ _ #[.agg #[.string u.nm, .string u.hs, .string u.ml, .bool u.dis, .slice u.ga u.gs.length u.gc]] _ _
  obtain ⟨nm, hs, ml, dis, A, gs, c⟩ := u
  dsimp only at *
  obtain ⟨n, hn⟩ : ∃ n, n = gs.length := ⟨_, rfl⟩
  rw [← hn] at hlen c4 HR HB0 HRD c0 c1 c2 ⊢
  have HN := Lib.hid hn
  clear hn
  obtain ⟨m, hm⟩ : ∃ m, m = min n 30 := ⟨_, rfl⟩
  have hmn : m ≤ n := by omega
  have hm30 : m ≤ 30 := by omega
  have hmi : min (n : Int) 30 = (m : Int) := by omega
  have HM := Lib.hid hm
  clear hm
  have HS : Hid (∀ k, k ≤ 30 → sum6 (gs.take k) ≤ 30000) := fun k hk => by
    have h1 := sum6_le (gs.take k)
    have h2 : (gs.take k).length ≤ k := List.length_take_le _ _
    omega
  go_enter Tryz.func12, Tryz.ntmps12
  go_wp2
  generalize w.alloc (.cells #[.string nm, .string hs, .string ml, .bool dis, .slice A n c] 26) = w1 at *
  obtain ⟨t0, ht0⟩ : ∃ t0, t0 = nm.size + hs.size + ml.size := ⟨_, rfl⟩
  have hz0 : (nm.size : Int) + (hs.size : Int) + (ml.size : Int) = (t0 : Int) := by omega
  have ht9 : t0 ≤ 500000000000000 := by omega
  rw [hz0]
  rw [← ht0] at HR
  clear c0 c1 c2 hz0 ht0
  go_loopg [3, 5, 25] m (fun gg s3 _ s25 wr => ∃ k t : Nat, k ≤ m ∧ m - k ≤ gg ∧ s25 = .int .i64 k ∧ s3 = .int .i64 t ∧ Hid (t = t0 + sum6 (gs.take k)) ∧ wr = w1)
  case atStart => exact ⟨0, t0, Nat.zero_le _, by omega, rfl, rfl, rfl, rfl⟩
  case round =>
    obtain ⟨k, t, hk, hg, rfl, rfl, HT, rfl⟩ := hrel
    have hts := HS.out k (by omega)
    have ht := HT.out
    have htb : t ≤ 500000000030000 := by omega
    clear hts ht
    by_cases hlt : k < m
    · have hltz : (k : Int) < (m : Int) := by omega
      have hkl : k < gs.length := by have := HN.out; omega
      obtain ⟨b, off, rfl, hcell⟩ := HRD.out.at6 k hkl
      have hx9 := HALL.out _ (List.getElem_mem hkl)
      have HX : Hid (t + min gs[k].size 1000 = t0 + sum6 (gs.take (k + 1))) := by
        show _ = _
        rw [sum6_snoc gs k hkl, HT.out]; omega
      generalize gs[k] = x at *
      obtain ⟨y, hy⟩ : ∃ y, y = min x.size 1000 := ⟨_, rfl⟩
      have hyi : min (x.size : Int) 1000 = (y : Int) := by omega
      have hy1 : y ≤ 1000 := by omega
      rw [← hy] at HX
      clear hy HT
      go_wp2
      go_roundg (m - (k + 1))
      case measure => omega
      case rel => exact ⟨k + 1, t + y, by omega, by omega, by go_num, by go_num, HX, rfl⟩
    · have hltz : ¬ (k : Int) < (m : Int) := by omega
      obtain rfl : k = m := by omega
      have hr : r = (decide (t ≤ 400) && decide (n ≤ 20)) := by
        rw [HR.out, HT.out]
        have e : gs.take k = gs.take 30 := by
          by_cases h30 : n ≤ 30
          · have : k = n := by have := HM.out; omega
            rw [this, HN.out, List.take_length, List.take_of_length_le (by have := HN.out; omega)]
          · have : k = 30 := by have := HM.out; omega
            rw [this]
        rw [e]
      by_cases h4 : t ≤ 400
      · have h4z : (t : Int) ≤ 400 := by omega
        by_cases h20 : n ≤ 20
        · have h20z : (n : Int) ≤ 20 := by omega
          have hr1 : r = true := by rw [hr, decide_eq_true h4, decide_eq_true h20]; rfl
          subst hr1
          clear hr HR HT
          go_wp2
          go_ret
          exact ⟨rfl, HB0.out⟩
        · have h20z : ¬ (n : Int) ≤ 20 := by omega
          have hr1 : r = false := by rw [hr, decide_eq_false h20, Bool.and_false]
          subst hr1
          clear hr HR HT
          go_wp2
          go_ret
          exact ⟨rfl, HB0.out⟩
      · have h4z : ¬ (t : Int) ≤ 400 := by omega
        have hr1 : r = false := by rw [hr, decide_eq_false h4]; rfl
        subst hr1
        clear hr HR HT
        go_wp2
        go_ret
        exact ⟨rfl, HB0.out⟩
end Go.Proofs.YtclnkboejbnfnaaGreatDoor
