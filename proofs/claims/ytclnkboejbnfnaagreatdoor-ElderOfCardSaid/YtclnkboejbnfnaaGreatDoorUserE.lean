/-
  What Put of package user writes, and the chapter's example.
  Conditions: texts and rows are no longer than they may be; the library's own variable MaxLen holds some number; the Writer is new.
-/
import Derived.Test.YtclnkboejbnfnaaGreatDoorUserD
import Derived.Test.YtclnkboejbnfnaaGreatDoorPlain
namespace Go.Proofs.YtclnkboejbnfnaaGreatDoor
open Go.RowKit

/-- A Writer that is new since w, with all that it wrote. -/
def NW6 (w : World) (B : Nat) (bs : List UInt8) (wr : World) : Prop :=
  w.heap.size ≤ B ∧ (∃ v, Wtr wr B v bs ∧ ∀ k, v.ownBlock = some k → w.heap.size ≤ k) ∧ Below w.heap.size w wr
theorem NW6.zero (w : World) : NW6 w w.heap.size [] (w.alloc (.cells #[.slice none 0 0] 93)) :=
  ⟨Nat.le_refl _, ⟨_, ⟨heap_alloc_new w _, World.ownsRow_nil _ _ _ _⟩, fun k hk => by simp [Value.ownBlock] at hk⟩, below_alloc (Below.refl _ _) _⟩
theorem Went.nw6 {w w1 w2 : World} {B : Nat} {v : Value} {bs : List UInt8} (hB : w.heap.size ≤ B) (hv : ∀ k, v.ownBlock = some k → w.heap.size ≤ k) (ht : Below w.heap.size w w1) (h : Went w1 B v bs w2) : NW6 w B bs w2 := by
  obtain ⟨v', hw, ho, ht2⟩ := h
  refine ⟨hB, ⟨v', hw, fun k hk => ?_⟩, ht.trans ((ht2.below_at ht.size (fun i hs => ?_)))⟩
  · rcases ho with ho | ⟨k', ho, hk'⟩
    · exact hv k (ho ▸ hk)
    · rw [ho] at hk; injection hk with hk; have := ht.size; omega
  · rcases hs with hs | hs
    · omega
    · exact hv i hs
theorem Wtr.below {w W : World} {B : Nat} {v : Value} {bs : List UInt8} (h : Wtr w B v bs) (hb : Below w.heap.size w W) : Wtr W B v bs := by
  refine ⟨(hb.block B h.lt).trans h.1, (Turns.of_below hb (fun _ => False)).owns h.2 (fun _ _ f => f)⟩
theorem NW6.below {w w1 w2 : World} {B : Nat} {bs : List UInt8} (h : NW6 w B bs w1) (hb : Below w1.heap.size w1 w2) : NW6 w B bs w2 := by
  obtain ⟨hB, ⟨v, hw, hv⟩, ht⟩ := h
  exact ⟨hB, ⟨v, hw.below hb, hv⟩, below_next ht hb⟩

/-- A user's block, whole. -/
def UsB (w : World) (B : Nat) (u : Us) : Prop := w.heap[B]? = some (.cells #[.string u.nm, .string u.hs, .string u.ml, .bool u.dis, .slice u.ga u.gs.length u.gc] 26 (0, 0))
theorem UsB.at_ {w : World} {B : Nat} {u : Us} (h : UsB w B u) : UsAt w B u := by
  refine ⟨(Array.getElem?_eq_some_iff.1 h).1, ?_, ?_, ?_, ?_, ?_⟩
  all_goals
    rw [cell_of_row w B _ _ _ (0, 0) h]
    rfl
theorem UsB.new (w : World) (u : Us) : UsB (w.alloc (.cells #[.string u.nm, .string u.hs, .string u.ml, .bool u.dis, .slice u.ga u.gs.length u.gc] 26)) w.heap.size u := heap_alloc_new w _
theorem UsB.below {w W : World} {B : Nat} {u : Us} (h : UsB w B u) (hb : Below w.heap.size w W) : UsB W B u := (hb.block B (Array.getElem?_eq_some_iff.1 h).1).trans h

/-- A new Writer beside a user's block. -/
def St6 (w : World) (B B5 : Nat) (u : Us) (bs : List UInt8) (W : World) : Prop := NW6 w B bs W ∧ UsB W B5 u
theorem St6.drew {w W : World} {B B5 : Nat} {u : Us} {bs : List UInt8} (h : St6 w B B5 u bs W) : St6 w B B5 u bs W.drew := ⟨h.1.below (below_drew (Below.refl _ _)), h.2⟩
/-- What a write leaves of them. -/
theorem St6.went {w W W' : World} {B B5 : Nat} {u : Us} {bs bs' : List UInt8} {v : Value} (h : St6 w B B5 u bs W) (hw : Wtr W B v bs) (hv : ∀ k, v.ownBlock = some k → w.heap.size ≤ k) (hg : Went W B v bs' W') : St6 w B B5 u bs' W' := by
  obtain ⟨⟨hB, _, hb⟩, hu⟩ := h
  refine ⟨hg.nw6 hB hv hb, ?_⟩
  obtain ⟨_, _, _, ht⟩ := hg
  have hlt := (Array.getElem?_eq_some_iff.1 hu).1
  refine (ht.block B5 hlt ?_).trans hu
  rintro (he | he)
  · subst he
    have := hw.1.symm.trans hu
    simp at this
  · rcases hw.2.2 with ⟨rfl, _⟩ | ⟨g, cap, cur, rfl, _, hg', _⟩
    · simp [Value.ownBlock] at he
    · have : g = B5 := by simpa [Value.ownBlock] using he
      subst this
      have := hg'.symm.trans hu
      simp at this
def Goes6 (w : World) (B B5 : Nat) (u : Us) (bs : List UInt8) (e : Ending) (W : World) : Prop := e = .returned (.pointer (some ⟨B, 0, none⟩)) ∧ St6 w B B5 u bs W
theorem St6.text {w W : World} {B B5 : Nat} {u : Us} {bs : List UInt8} (s : ByteArray) (hs : s.size ≤ 65535) (hr : bs.length ≤ 500000) (h : St6 w B B5 u bs W) :
    Calls Tryz.prog 128 #[.pointer (some ⟨B, 0, none⟩), .string s] W (Goes6 w B B5 u (bs ++ textB s)) := by
  obtain ⟨v, hw, hv⟩ := h.1.2.1
  exact (text_calls B v bs s W hw hs (by omega)).mono fun e W' ⟨he, hg⟩ => ⟨he, h.went hw hv hg⟩
theorem St6.truth {w W : World} {B B5 : Nat} {u : Us} {bs : List UInt8} (is : Bool) (hr : bs.length ≤ 500000) (h : St6 w B B5 u bs W) :
    Calls Tryz.prog 129 #[.pointer (some ⟨B, 0, none⟩), .bool is] W (Goes6 w B B5 u (bs ++ le is.toNat 1)) := by
  obtain ⟨v, hw, hv⟩ := h.1.2.1
  exact (truth_calls B v bs is W hw (by omega)).mono fun e W' ⟨he, hg⟩ => ⟨he, h.went hw hv hg⟩
theorem St6.row {w W : World} {B B5 : Nat} {u : Us} {bs : List UInt8} (A : Option Addr) (c : Nat) (ss : List ByteArray) (hA : RdS w A ss) (hc : ss.length ≤ c) (hm : c ≤ 9223372036854775807) (hl : ss.length ≤ 65535) (hs : ∀ s ∈ ss, s.size ≤ 65535) (hr : bs.length ≤ 500000) (h : St6 w B B5 u bs W) :
    Calls Tryz.prog 76 #[.pointer (some ⟨B, 0, none⟩), .slice A ss.length c] W (Goes6 w B B5 u (bs ++ rowB ss)) := by
  obtain ⟨v, hw, hv⟩ := h.1.2.1
  refine (row_calls B v bs A ss.length c ss W hw hc hm (by omega) (hA.below h.1.2.2) (fun hne a ha => ?_) hs (by omega)).mono fun e W' ⟨he, hg⟩ => ⟨he, h.went hw hv hg⟩
  obtain ⟨b, off, rfl, hb, _⟩ := hA hne
  injection ha with ha
  subst ha
  have h1 := h.1.1
  rintro (he | he)
  · simp only at he; omega
  · have := hv _ he; simp only at this; omega

/-- A user that may be is little. -/
structure Us.Little (u : Us) : Prop where
  nm : u.nm.size ≤ 12
  hs : u.hs.size ≤ 12
  ml : u.ml.size ≤ 20
  len : u.gs.length ≤ 6
  all : ∀ s ∈ u.gs, s.size ≤ 12
theorem err5_zero {b : Bool} {n : Int} (hn : n ≠ 0) (h : err5 b n = 0) : b = true := by
  cases b with
  | true => rfl
  | false => exact absurd h hn
theorem first6_zero : ∀ {l : List Int}, first6 l = 0 → ∀ e ∈ l, e = 0
  | [], _, e, h => by cases h
  | x :: l, h, e, he => by
    unfold first6 at h
    by_cases hx : x = 0
    · rw [if_pos hx] at h
      rcases List.mem_cons.1 he with rfl | he
      · exact hx
      · exact first6_zero h e he
    · rw [if_neg hx] at h
      exact absurd h hx
theorem name5_size {s : ByteArray} (h : name5 s.data.toList = true) : s.size ≤ 12 := by
  unfold name5 pref5 at h
  simp only [Bool.and_eq_true, decide_eq_true_eq, size_list] at h
  exact h.1.1.2.1
theorem hash5_size {s : ByteArray} (h : hash5 s.data.toList = true) : s.size ≤ 12 := by
  unfold hash5 at h
  simp only [Bool.and_eq_true, decide_eq_true_eq, size_list] at h
  exact h.1.2
theorem fold6_size {s : ByteArray} (h : fold6 s = true) : s.size ≤ 20 := by
  unfold fold6 mail5 at h
  simp only [Bool.and_eq_true, Bool.or_eq_true, decide_eq_true_eq, size_list] at h
  rcases h with h | h
  · omega
  · exact h.1.1.1.1
theorem chk6_head {s : Int} {u : Us} (h : chk6 s u = 0) : know6 s = true ∧ name5 u.nm.data.toList = true ∧ hash5 u.hs.data.toList = true := by
  have h0 : first6 [err5 (know6 s) 6, err5 (name5 u.nm.data.toList) 10, err5 (hash5 u.hs.data.toList) 4] = 0 := by
    unfold chk6 at h
    by_cases h1 : s = 1
    · rw [if_pos h1] at h
      exact first6_zero h _ (by simp)
    · rw [if_neg h1] at h
      exact first6_zero h _ (by simp)
  exact ⟨err5_zero (n := 6) (by decide) (first6_zero h0 _ (by simp)), err5_zero (n := 10) (by decide) (first6_zero h0 _ (by simp)), err5_zero (n := 4) (by decide) (first6_zero h0 _ (by simp))⟩
theorem bare6_eq {u : Us} (h : bare6 u = true) : u.ml = ⟨#[]⟩ ∧ u.dis = false ∧ u.gs = [] := by
  unfold bare6 sameU upU at h
  simp only [Bool.and_eq_true, decide_eq_true_eq] at h
  exact ⟨h.1.1.2, h.1.2, h.2⟩
theorem chk6_one {u : Us} (h : chk6 1 u = 0) : bare6 u = true := by
  unfold chk6 at h
  rw [if_pos rfl] at h
  exact err5_zero (by decide) (first6_zero h (err5 (bare6 u) 12) (by simp))
theorem chk6_two {u : Us} (h : chk6 2 u = 0) : fold6 u.ml = true ∧ u.gs.length ≤ 6 ∧ names6 u.gs = true ∧ rise6 u.gs = true := by
  unfold chk6 at h
  rw [if_neg (by decide)] at h
  refine ⟨err5_zero (by decide) (first6_zero h (err5 (fold6 u.ml) 11) (by simp)), ?_, err5_zero (n := 10) (by decide) (first6_zero h (err5 (names6 u.gs) 10) (by simp)), err5_zero (by decide) (first6_zero h (err5 (rise6 u.gs) 9) (by simp))⟩
  exact of_decide_eq_true (err5_zero (by decide) (first6_zero h (err5 (decide (u.gs.length ≤ 6)) 7) (by simp)))
theorem chk6_little {s : Int} {u : Us} (h : chk6 s u = 0) : u.Little ∧ (s = 1 ∨ s = 2) := by
  obtain ⟨h1, h2, h3⟩ := chk6_head h
  have hs : s = 1 ∨ s = 2 := by simpa [know6] using h1
  refine ⟨?_, hs⟩
  rcases hs with rfl | rfl
  · obtain ⟨e1, _, e3⟩ := bare6_eq (chk6_one h)
    exact ⟨name5_size h2, hash5_size h3, by rw [e1]; exact Nat.zero_le _, by rw [e3]; exact Nat.zero_le _, fun s hs => by rw [e3] at hs; cases hs⟩
  · obtain ⟨e1, e2, e3, _⟩ := chk6_two h
    exact ⟨name5_size h2, hash5_size h3, fold6_size e1, e2, fun s hs => name5_size (List.all_eq_true.1 e3 s hs)⟩

/-- A user's bytes. -/
def userB (s : Int) (u : Us) : List UInt8 := textB u.nm ++ textB u.hs ++ (if s = 2 then textB u.ml ++ le u.dis.toNat 1 ++ rowB u.gs else [])
/-- It is written, or it isn't. -/
def Put6 (w : World) (B : Nat) (bs : List UInt8) (s : Int) (u : Us) (e : Ending) (w' : World) : Prop :=
  (chk6 s u = 0 ∧ e = .returned (.bool true) ∧ NW6 w B (bs ++ userB s u) w') ∨ (chk6 s u ≠ 0 ∧ e = .returned (.bool false) ∧ NW6 w B bs w')

/-- What each operation makes. -/
def YPutA (B B5 : Nat) (u : Us) : Nat → Value → World → Prop
  | 0, v, _ => v = .pointer (some ⟨B, 0, none⟩)
  | 1, v, _ => v = .pointer (some ⟨B5, 0, none⟩)
  | 2, v, _ => v = .string u.nm
  | 3, v, _ => v = .pointer (some ⟨B, 0, none⟩)
  | 4, v, _ => v = .pointer (some ⟨B5, 1, none⟩)
  | 5, v, _ => v = .string u.hs
  | _, v, _ => v = .pointer (some ⟨B, 0, none⟩)
theorem YPutA_keep {B B5 : Nat} {u : Us} {W W' : World} (j : Nat) (z : Value) (h : YPutA B B5 u j z W) : YPutA B B5 u j z W' := by
  match j, h with
  | 0, h => exact h
  | 1, h => exact h
  | 2, h => exact h
  | 3, h => exact h
  | 4, h => exact h
  | 5, h => exact h
  | _ + 6, h => exact h
/-- What each operation makes. -/
def YPutB (B B5 : Nat) (u : Us) : Nat → Value → World → Prop
  | 0, v, _ => v = .pointer (some ⟨B, 0, none⟩)
  | 1, v, _ => v = .pointer (some ⟨B5, 2, none⟩)
  | 2, v, _ => v = .string u.ml
  | 3, v, _ => v = .pointer (some ⟨B, 0, none⟩)
  | 4, v, _ => v = .pointer (some ⟨B5, 3, none⟩)
  | 5, v, _ => v = .bool u.dis
  | 6, v, _ => v = .pointer (some ⟨B, 0, none⟩)
  | 7, v, _ => v = .pointer (some ⟨B5, 4, none⟩)
  | 8, v, _ => v = .slice u.ga u.gs.length u.gc
  | _, v, _ => v = .pointer (some ⟨B, 0, none⟩)
theorem YPutB_keep {B B5 : Nat} {u : Us} {W W' : World} (j : Nat) (z : Value) (h : YPutB B B5 u j z W) : YPutB B B5 u j z W' := by
  match j, h with
  | 0, h => exact h
  | 1, h => exact h
  | 2, h => exact h
  | 3, h => exact h
  | 4, h => exact h
  | 5, h => exact h
  | 6, h => exact h
  | 7, h => exact h
  | 8, h => exact h
  | _ + 9, h => exact h
/-- What has been written, step by step. -/
def pA6 (bs : List UInt8) (u : Us) : Nat → List UInt8
  | 0 => bs
  | 1 => bs ++ textB u.nm
  | _ => bs ++ textB u.nm ++ textB u.hs
def pB6 (bs : List UInt8) (u : Us) : Nat → List UInt8
  | 0 => bs
  | 1 => bs ++ textB u.ml
  | 2 => bs ++ textB u.ml ++ le u.dis.toNat 1
  | _ => bs ++ textB u.ml ++ le u.dis.toNat 1 ++ rowB u.gs
theorem SeqG.any {cs : List Nat} {St : Nat → World → Prop} {L : Nat → Bool} {W : World} {p : Prop} (h : SeqG cs St L W) (hp : ∀ m, St m W → p) : p := by
  obtain ⟨m, _, hs, _⟩ := h
  exact hp m hs
theorem SeqG.last {cs : List Nat} {St : Nat → World → Prop} {L : Nat → Bool} {W : World} (h : SeqG cs St L W) (hL : ∀ r, r < cs.length → L (cs.getD r 0) = true) : St cs.length W := by
  obtain ⟨m, hm, hs, hr⟩ := h
  have : m = cs.length := by
    by_cases e : m = cs.length
    · exact e
    · have h1 := hr m (by omega)
      rw [hL m (by omega)] at h1
      simp at h1
  rw [← this]
  exact hs

set_option maxRecDepth 100000 in
set_option maxHeartbeats 2000000 in
theorem put6_wide (w : World) (B : Nat) (bs : List UInt8) (s : Int) (u : Us) (W0 : World) (hw : NW6 w B bs W0) (h : u.Ok w) (hm : Len5 w) (hl : bs.length ≤ 100000) :
    Calls Tryz.prog 54 #[.pointer (some ⟨B, 0, none⟩), .int .i64 s, u.v] W0 (Put6 w B bs s u) := by
  have HC : Hid (∀ W, Below W0.heap.size W0 W → Calls Tryz.prog 116 #[.int .i64 s, u.v] W (Errs5 (chk6 s u) W)) := fun W hb => check6_calls s u W (h.below (below_next hw.2.2 hb)) (hm.later (below_next hw.2.2 hb))
  have HB0 := Lib.hid (below_alloc (Below.refl W0.heap.size W0) (.cells #[.string u.nm, .string u.hs, .string u.ml, .bool u.dis, .slice u.ga u.gs.length u.gc] 26))
  have HS0 : Hid (St6 w B W0.heap.size u bs (W0.alloc (.cells #[.string u.nm, .string u.hs, .string u.ml, .bool u.dis, .slice u.ga u.gs.length u.gc] 26))) := ⟨hw.below HB0.out, UsB.new W0 u⟩
  have HO := Lib.hid h
  have huv : Hid (u.v = .agg #[.string u.nm, .string u.hs, .string u.ml, .bool u.dis, .slice u.ga u.gs.length u.gc]) := rfl
  obtain ⟨ck, hck⟩ : ∃ ck, ck = chk6 s u := ⟨_, rfl⟩
  rw [← hck] at HC
  have HCK := Lib.hid hck
  have hcall := HC.out (W0.alloc (.cells #[.string u.nm, .string u.hs, .string u.ml, .bool u.dis, .slice u.ga u.gs.length u.gc] 26)) HB0.out
  rw [huv.out] at hcall ⊢
  have HC1 := Lib.hid hcall
  clear hw h hm hck hcall HC
  have hat := HS0.out.2.at_
  have c0 := hat.c0
  have c1 := hat.c1
  have c2 := hat.c2
  have c3 := hat.c3
  have c4 := hat.c4
  clear hat
  go_enter Tryz.func54, Tryz.ntmps54
  go_wp2_with fail
  with_reducible refine HC1.out.mono ?_
  rintro e w2 ⟨rfl, hb⟩
  have HS2 : Hid (St6 w B W0.heap.size u bs w2) := ⟨HS0.out.1.below hb, HS0.out.2.below hb⟩
  clear hb HC1 HS0 c0 c1 c2 c3 c4
  by_cases h0 : ck = 0
  · obtain ⟨hli, hs12⟩ := chk6_little (HCK.out.symm.trans h0)
    have hn1 := hli.nm
    have hn2 := hli.hs
    have hn3 := hli.ml
    have htl : ∀ t : ByteArray, (textB t).length = t.size + 2 := textB_length
    have HP : Hid (∀ w', NW6 w B (bs ++ userB s u) w' → Put6 w B bs s u (.returned (.bool true)) w') := fun w' h => .inl ⟨HCK.out.symm.trans h0, rfl, h⟩
    clear HCK
    subst h0
    have HG0 : Hid (SeqG [3, 6] (fun m W => St6 w B W0.heap.size u (pA6 bs u m) W) (fun _ => false) w2.drew) := SeqG.start HS2.out.drew
    have HUB : Hid (∀ L W, SeqG [3, 6] (fun m W => St6 w B W0.heap.size u (pA6 bs u m) W) L W → UsAt W W0.heap.size u) := fun L W hG => hG.any fun m hs => hs.2.at_
    have HT0 : Hid (∀ W, St6 w B W0.heap.size u (pA6 bs u 0) W → _) := fun W hs => St6.text u.nm (by omega) (show bs.length ≤ _ by omega) hs
    have HT1 : Hid (∀ W, St6 w B W0.heap.size u (pA6 bs u 1) W → _) := fun W hs => St6.text u.hs (by omega) (show (bs ++ textB u.nm).length ≤ _ by rw [List.length_append, htl]; omega) hs
    go_wp2_with fail
    refine wp_region_st (by kernel_rfl) (YPutA B W0.heap.size u) (SeqG [3, 6] (fun m W => St6 w B W0.heap.size u (pA6 bs u m) W)) ?F ?hF (by kernel_rfl) (by kernel_rfl) HG0.out ?step ?fin
    case hF =>
      intro x
      simp only [List.map_cons, List.map_nil, putL, Act.put, List.setIfInBounds_toArray, List.set_cons_zero, List.set_cons_succ, Nat.zero_add, Nat.reduceAdd]
      exact rfl
    case step =>
      refine ⟨?_, ?_, ?_, ?_, ?_, ?_, ?_, trivial⟩
      all_goals intro L y W hL hd hcl hG hY K hK
      · clear hd hcl hY
        go_simp
        exact hK _ _ rfl (hG.same 0 rfl (fun _ h => h)) (fun _ _ h => h)
      · clear hd hcl hY
        go_simp
        exact hK _ _ rfl (hG.same 1 rfl (fun _ h => h)) (fun _ _ h => h)
      · have h1 : y 1 = _ := hY 1 (hd 1 rfl)
        have c := (HUB.out L W hG).c0
        clear hd hcl hY
        simp only [h1] at hK
        go_simp
        exact hK _ _ rfl (hG.same 2 rfl (fun _ h => h)) (fun _ _ h => h)
      · have h0 : y 0 = _ := hY 0 (hd 0 rfl)
        have h2 : y 2 = _ := hY 2 (hd 2 rfl)
        have hst := hG.at_ 0 (by decide) hL (.inl rfl)
        have HNX := Lib.hid (fun W' h => hG.next (W' := W') 0 3 (by decide) rfl hL (.inl rfl) (by decide) h)
        have HCALL := Lib.hid (HT0.out W hst)
        clear hst
        clear hd hcl hY
        simp only [h0, h2] at hK
        go_simp
        refine HCALL.out.mono ?_
        rintro e W' ⟨rfl, hst⟩
        exact hK _ _ rfl (HNX.out W' hst) (fun j _ h => YPutA_keep j _ h)
      · clear hd hcl hY
        go_simp
        exact hK _ _ rfl (hG.same 4 rfl (fun _ h => h)) (fun _ _ h => h)
      · have h4 : y 4 = _ := hY 4 (hd 4 rfl)
        have c := (HUB.out L W hG).c1
        clear hd hcl hY
        simp only [h4] at hK
        go_simp
        exact hK _ _ rfl (hG.same 5 rfl (fun _ h => h)) (fun _ _ h => h)
      · have h3 : y 3 = _ := hY 3 (hd 3 rfl)
        have h5 : y 5 = _ := hY 5 (hd 5 rfl)
        have hst := hG.at_ 1 (by decide) hL (.inr (hd 3 rfl))
        have HNX := Lib.hid (fun W' h => hG.next (W' := W') 1 6 (by decide) rfl hL (.inr (hd 3 rfl)) (by decide) h)
        have HCALL := Lib.hid (HT1.out W hst)
        clear hst
        clear hd hcl hY
        simp only [h3, h5] at hK
        go_simp
        refine HCALL.out.mono ?_
        rintro e W' ⟨rfl, hst⟩
        exact hK _ _ rfl (HNX.out W' hst) (fun j _ h => YPutA_keep j _ h)
    case fin =>
      intro L y W hL hG hY
      have hst := hG.last (fun r hr => hL _ (by match r, hr with | 0, _ => decide | 1, _ => decide))
      have HS3 : Hid (St6 w B W0.heap.size u (bs ++ textB u.nm ++ textB u.hs) W) := hst
      clear hY hG hL hst HT0 HT1 HUB HG0 HS2
      rcases hs12 with rfl | rfl
      · have HP1 : Hid (∀ w', NW6 w B (bs ++ textB u.nm ++ textB u.hs) w' → Put6 w B bs 1 u (.returned (.bool true)) w') := fun w' h => HP.out w' (by
          rw [userB, if_neg (by decide), List.append_nil, ← List.append_assoc]; exact h)
        clear HP
        go_wp2
        go_ret
        exact HP1.out _ HS3.out.1
      · have HP1 : Hid (∀ w', NW6 w B (bs ++ textB u.nm ++ textB u.hs ++ textB u.ml ++ le u.dis.toNat 1 ++ rowB u.gs) w' → Put6 w B bs 2 u (.returned (.bool true)) w') := fun w' h => HP.out w' (by
          rw [userB, if_pos rfl]
          simpa only [List.append_assoc] using h)
        clear HP
        obtain ⟨b2, hb2⟩ : ∃ b2, b2 = bs ++ textB u.nm ++ textB u.hs := ⟨_, rfl⟩
        have hl2 : b2.length ≤ 200000 := by rw [hb2, List.length_append, List.length_append, htl, htl]; omega
        rw [← hb2] at HS3 HP1
        clear hb2
        have HG0 : Hid (SeqG [3, 6, 9] (fun m W => St6 w B W0.heap.size u (pB6 b2 u m) W) (fun _ => false) W.drew) := SeqG.start HS3.out.drew
        have HUB : Hid (∀ L W, SeqG [3, 6, 9] (fun m W => St6 w B W0.heap.size u (pB6 b2 u m) W) L W → UsAt W W0.heap.size u) := fun L W hG => hG.any fun m hs => hs.2.at_
        have HT0 : Hid (∀ W, St6 w B W0.heap.size u (pB6 b2 u 0) W → _) := fun W hs => St6.text u.ml (by omega) (show b2.length ≤ _ by omega) hs
        have HT1 : Hid (∀ W, St6 w B W0.heap.size u (pB6 b2 u 1) W → _) := fun W hs => St6.truth u.dis (show (b2 ++ textB u.ml).length ≤ _ by rw [List.length_append, htl]; omega) hs
        have HT2 : Hid (∀ W, St6 w B W0.heap.size u (pB6 b2 u 2) W → _) := fun W hs => St6.row u.ga u.gc u.gs HO.out.rd HO.out.len HO.out.cap (by have := hli.len; omega) (fun s h => by have := hli.all s h; omega) (show (b2 ++ textB u.ml ++ le u.dis.toNat 1).length ≤ _ by rw [List.length_append, List.length_append, htl, le_length]; omega) hs
        clear HO hli HS3
        go_wp2_with fail
        refine wp_region_st (by kernel_rfl) (YPutB B W0.heap.size u) (SeqG [3, 6, 9] (fun m W => St6 w B W0.heap.size u (pB6 b2 u m) W)) ?F2 ?hF2 (by kernel_rfl) (by kernel_rfl) HG0.out ?step2 ?fin2
        case hF2 =>
          intro x
          simp only [List.map_cons, List.map_nil, putL, Act.put, List.setIfInBounds_toArray, List.set_cons_zero, List.set_cons_succ, Nat.zero_add, Nat.reduceAdd]
          exact rfl
        case step2 =>
          refine ⟨?_, ?_, ?_, ?_, ?_, ?_, ?_, ?_, ?_, ?_, trivial⟩
          all_goals intro L y W hL hd hcl hG hY K hK
          · clear hd hcl hY
            go_simp
            exact hK _ _ rfl (hG.same 0 rfl (fun _ h => h)) (fun _ _ h => h)
          · clear hd hcl hY
            go_simp
            exact hK _ _ rfl (hG.same 1 rfl (fun _ h => h)) (fun _ _ h => h)
          · have h1 : y 1 = _ := hY 1 (hd 1 rfl)
            have c := (HUB.out L W hG).c2
            clear hd hcl hY
            simp only [h1] at hK
            go_simp
            exact hK _ _ rfl (hG.same 2 rfl (fun _ h => h)) (fun _ _ h => h)
          · have h0 : y 0 = _ := hY 0 (hd 0 rfl)
            have h2 : y 2 = _ := hY 2 (hd 2 rfl)
            have hst := hG.at_ 0 (by decide) hL (.inl rfl)
            have HNX := Lib.hid (fun W' h => hG.next (W' := W') 0 3 (by decide) rfl hL (.inl rfl) (by decide) h)
            have HCALL := Lib.hid (HT0.out W hst)
            clear hst
            clear hd hcl hY
            simp only [h0, h2] at hK
            go_simp
            refine HCALL.out.mono ?_
            rintro e W' ⟨rfl, hst⟩
            exact hK _ _ rfl (HNX.out W' hst) (fun j _ h => YPutB_keep j _ h)
          · clear hd hcl hY
            go_simp
            exact hK _ _ rfl (hG.same 4 rfl (fun _ h => h)) (fun _ _ h => h)
          · have h4 : y 4 = _ := hY 4 (hd 4 rfl)
            have c := (HUB.out L W hG).c3
            clear hd hcl hY
            simp only [h4] at hK
            go_simp
            exact hK _ _ rfl (hG.same 5 rfl (fun _ h => h)) (fun _ _ h => h)
          · have h3 : y 3 = _ := hY 3 (hd 3 rfl)
            have h5 : y 5 = _ := hY 5 (hd 5 rfl)
            have hst := hG.at_ 1 (by decide) hL (.inr (hd 3 rfl))
            have HNX := Lib.hid (fun W' h => hG.next (W' := W') 1 6 (by decide) rfl hL (.inr (hd 3 rfl)) (by decide) h)
            have HCALL := Lib.hid (HT1.out W hst)
            clear hst
            clear hd hcl hY
            simp only [h3, h5] at hK
            go_simp
            refine HCALL.out.mono ?_
            rintro e W' ⟨rfl, hst⟩
            exact hK _ _ rfl (HNX.out W' hst) (fun j _ h => YPutB_keep j _ h)
          · clear hd hcl hY
            go_simp
            exact hK _ _ rfl (hG.same 7 rfl (fun _ h => h)) (fun _ _ h => h)
          · have h7 : y 7 = _ := hY 7 (hd 7 rfl)
            have c := (HUB.out L W hG).c4
            clear hd hcl hY
            simp only [h7] at hK
            go_simp
            exact hK _ _ rfl (hG.same 8 rfl (fun _ h => h)) (fun _ _ h => h)
          · have h6 : y 6 = _ := hY 6 (hd 6 rfl)
            have h8 : y 8 = _ := hY 8 (hd 8 rfl)
            have hst := hG.at_ 2 (by decide) hL (.inr (hd 6 rfl))
            have HNX := Lib.hid (fun W' h => hG.next (W' := W') 2 9 (by decide) rfl hL (.inr (hd 6 rfl)) (by decide) h)
            have HCALL := Lib.hid (HT2.out W hst)
            clear hst
            clear hd hcl hY
            simp only [h6, h8] at hK
            go_simp
            refine HCALL.out.mono ?_
            rintro e W' ⟨rfl, hst⟩
            exact hK _ _ rfl (HNX.out W' hst) (fun j _ h => YPutB_keep j _ h)
        case fin2 =>
          intro L y W hL hG hY
          have hst := hG.last (fun r hr => hL _ (by match r, hr with | 0, _ => decide | 1, _ => decide | 2, _ => decide))
          have HS4 : Hid (St6 w B W0.heap.size u (b2 ++ textB u.ml ++ le u.dis.toNat 1 ++ rowB u.gs) W) := hst
          clear hY hG hL hst HT0 HT1 HT2 HUB HG0
          go_wp2
          go_ret
          exact HP1.out _ HS4.out.1
  · have HP : Hid (∀ w', NW6 w B bs w' → Put6 w B bs s u (.returned (.bool false)) w') := fun w' h => .inr ⟨fun e => h0 (HCK.out.trans e), rfl, h⟩
    clear HCK
    have h0d : (ck != 0) = true := by simpa using h0
    go_wp2
    go_ret
    exact HP.out _ HS2.out.1
theorem put6_calls (w : World) (B : Nat) (bs : List UInt8) (s : Int) (u : Us) (W0 : World) (hw : NW6 w B bs W0) (h : u.Ok w) (hm : Len5 w) (hl : bs.length ≤ 1000) :
    Calls Tryz.prog 54 #[.pointer (some ⟨B, 0, none⟩), .int .i64 s, u.v] W0 (Put6 w B bs s u) := put6_wide w B bs s u W0 hw h hm (by omega)
end Go.Proofs.YtclnkboejbnfnaaGreatDoor
