/-
  An index of the law's own: what its deeds tell, what stays as it was. The chapter's example holds. Acts that are few, and little.
  Conditions: texts are no longer than they may be.
-/
import Derived.Test.YtiodbghokiajjaaDoorMailSame
import Derived.Test.YtiodbghokiajjaaDoorOpenM
namespace Go.Proofs.YtiodbghokiajjaaDoor
open Go.RowKit Go.Maps

/-- Rows and variables that are no index stay as they were. -/
def Keeps9 (W w' : World) : Prop := ∀ (k : Nat) (c : Array Value) (T : TypeId) (fr : Nat × Nat), W.heap[k]? = some (.cells c T fr) → T ≠ 54 → w'.heap[k]? = some (.cells c T fr)
theorem Keeps9.of_below {W w' : World} (hb : Below W.heap.size W w') : Keeps9 W w' := fun k _ _ _ h _ => (hb.block k (Array.getElem?_eq_some_iff.1 h).1).trans h
theorem Keeps9.trans {a b c : World} (h : Keeps9 a b) (k : Keeps9 b c) : Keeps9 a c := fun i x T fr hi hT => k i x T fr (h i x T fr hi hT) hT
theorem Goes9.keeps {W w' : World} {B : Nat} {p q : Option Nat} {L M L' : Row7} (hd : Idx9 W B p q L M) (hg : Goes9 W B p q L' w') : Keeps9 W w' := by
  obtain ⟨_, _, _, _, _, _, ht⟩ := hg
  intro k c T fr hk hT
  refine (ht.block k (Array.getElem?_eq_some_iff.1 hk).1 ?_).trans hk
  rintro (rfl | e | e)
  · rw [hd.blk] at hk
    injection hk with hk
    injection hk with _ h
    exact hT h.symm
  · exact map_ne_cells (hd.mapp.map k e) hk rfl
  · exact map_ne_cells (hd.mapq.map k e) hk rfl

/-- An index that has come about since w0, in W; nothing that was there in w0 has turned. -/
def Own9 (w0 W : World) (B : Nat) (L : Row7) : Prop := ∃ p q M, New9 w0 W B p q L M ∧ Below w0.heap.size w0 W
section
variable {w0 W W' : World} {B : Nat} {L : Row7}
theorem Own9.below (h : Own9 w0 W B L) : Below w0.heap.size w0 W := by obtain ⟨_, _, _, _, h⟩ := h; exact h
theorem Own9.few (h : Own9 w0 W B L) : L.length ≤ 100 := by obtain ⟨_, _, _, h, _⟩ := h; exact h.1.few
theorem Own9.rise (h : Own9 w0 W B L) : Rise7 L := by obtain ⟨_, _, _, h, _⟩ := h; exact h.1.rise
theorem Own9.all (h : Own9 w0 W B L) : ∀ x ∈ L, May9 x := by obtain ⟨_, _, _, h, _⟩ := h; exact h.1.all
theorem Own9.mir (h : Own9 w0 W B L) : ∃ M, Mirror9 L M := by obtain ⟨_, _, M, h, _⟩ := h; exact ⟨M, h.1.mir⟩
theorem Own9.later (h : Own9 w0 W B L) (hb : Below W.heap.size W W') : Own9 w0 W' B L := by
  obtain ⟨p, q, M, hd, h3⟩ := h
  exact ⟨p, q, M, hd.later hb, below_next h3 hb⟩
theorem Own9.goes {L' M : Row7} {p q : Option Nat} (hd : New9 w0 W B p q L M) (h3 : Below w0.heap.size w0 W) (hg : Goes9 W B p q L' W') : Own9 w0 W' B L' := by
  obtain ⟨p', q', M', hd', hp, hq, ht⟩ := hg
  obtain ⟨hi, h1, h2, h4⟩ := hd
  refine ⟨p', q', M', ⟨hd', h1, fun b hb => ?_, fun b hb => ?_⟩, h3.trans (Turns.below_at ht h3.size ?_)⟩
  · rcases hp b hb with h | h
    · exact h2 b h
    · exact Nat.le_trans h3.size h
  · rcases hq b hb with h | h
    · exact h4 b h
    · exact Nat.le_trans h3.size h
  · rintro i (rfl | e | e)
    · exact h1
    · exact h2 i e
    · exact h4 i e
theorem own9_new (w : World) : Own9 w (w.alloc (.cells #[.map none, .map none] 54)) w.heap.size [] := ⟨none, none, [], ⟨idx9_new w, Nat.le_refl _, (fun _ h => nomatch h), (fun _ h => nomatch h)⟩, below_alloc (Below.refl _ _) _⟩

theorem Own9.set (h : Own9 w0 W B L) (n m : ByteArray) (hn : n.size ≤ 9223372036854775807) (hm : m.size ≤ 9223372036854775807) (hl : L.length < 100) (h5 : Len5 W) :
    Calls Tryd.prog 15 #[.pointer (some ⟨B, 0, none⟩), .string n, .string m] W fun e w' => e = .returned (.int .i64 (seE9 L n.data.toList m.data.toList)) ∧ Own9 w0 w' B (seL9 L n.data.toList m.data.toList) ∧ Keeps9 W w' := by
  obtain ⟨p, q, M, hd, h3⟩ := h
  exact (set9_calls B p q L M n m W hd.1 hn hm hl h5).mono fun e w' ⟨he, hg⟩ => ⟨he, Own9.goes hd h3 hg, hg.keeps hd.1⟩
theorem Own9.rename (h : Own9 w0 W B L) (o n : ByteArray) (ho : o.size ≤ 9223372036854775807) (hn : n.size ≤ 9223372036854775807) :
    Calls Tryd.prog 13 #[.pointer (some ⟨B, 0, none⟩), .string o, .string n] W fun e w' => e = .returned (.int .i64 (reE9 L o.data.toList n.data.toList)) ∧ Own9 w0 w' B (reL9 L o.data.toList n.data.toList) ∧ Keeps9 W w' := by
  obtain ⟨p, q, M, hd, h3⟩ := h
  exact (rename9_calls B p q L M o n W hd.1 ho hn).mono fun e w' ⟨he, hg⟩ => ⟨he, Own9.goes hd h3 hg, hg.keeps hd.1⟩
theorem Own9.drop (h : Own9 w0 W B L) (n : ByteArray) (hn : n.size ≤ 9223372036854775807) :
    Calls Tryd.prog 11 #[.pointer (some ⟨B, 0, none⟩), .string n] W fun e w' => e = .returned (.bool (hasE L n.data.toList)) ∧ Own9 w0 w' B (delE L n.data.toList) ∧ Keeps9 W w' := by
  obtain ⟨p, q, M, hd, h3⟩ := h
  refine (drop9_calls B p q L M n W hd.1 (Nat.le_trans hn (by decide))).mono fun e w' ⟨he, ⟨M', hi⟩, ht⟩ => ?_
  have hg : Goes9 W B p q (delE L n.data.toList) w' := ⟨p, q, M', hi, fun _ e => .inl e, fun _ e => .inl e, ht⟩
  exact ⟨he, Own9.goes hd h3 hg, hg.keeps hd.1⟩
theorem Own9.of_ (h : Own9 w0 W B L) (n : ByteArray) (hn : n.size ≤ 9223372036854775807) :
    Calls Tryd.prog 17 #[.pointer (some ⟨B, 0, none⟩), .string n] W fun e w' => e = .returned (.tuple #[.string (tx7 (getE L n.data.toList)), .bool (hasE L n.data.toList)]) ∧ w' = W := by
  obtain ⟨p, q, M, hd, _⟩ := h
  exact of9_calls B p q L M n W hd.1 (Nat.le_trans hn (by decide))
theorem Own9.find (h : Own9 w0 W B L) (n : ByteArray) (hn : n.size ≤ 9223372036854775807) (h5 : Len5 W) :
    Calls Tryd.prog 18 #[.pointer (some ⟨B, 0, none⟩), .string n] W fun e w' => e = .returned (.tuple #[.string (tx7 (fiS9 L n.data.toList)), .int .i64 (fiE9 L n.data.toList)]) ∧ Below W.heap.size W w' := by
  obtain ⟨p, q, M, hd, _⟩ := h
  exact find9_calls B p q L M n W hd.1 hn h5
theorem Own9.len (h : Own9 w0 W B L) : Calls Tryd.prog 20 #[.pointer (some ⟨B, 0, none⟩)] W fun e w' => e = .returned (.int .i64 L.length) ∧ w' = W := by
  obtain ⟨p, q, M, hd, _⟩ := h
  exact len9_calls B p q L M W hd.1
theorem Own9.copy (h : Own9 w0 W B L) : Calls Tryd.prog 14 #[.pointer (some ⟨B, 0, none⟩)] W fun e w' => ∃ b, e = .returned (.pointer (some ⟨b, 0, none⟩)) ∧ Own9 W w' b L := by
  obtain ⟨p, q, M, hd, _⟩ := h
  exact (copy9_calls B p q L M W hd.1).mono fun e w' ⟨b, p', q', M', he, hz, hb⟩ => ⟨b, he, p', q', M', hz, hb⟩
theorem Own9.pairs (h : Own9 w0 W B L) (most : Int) : Calls Tryd.prog 22 #[.pointer (some ⟨B, 0, none⟩), .int .i64 most] W fun e w' => ∃ v, e = .returned v ∧ Prs9 W.heap.size w' v (L.take most.toNat) ∧ Below W.heap.size W w' := by
  obtain ⟨p, q, M, hd, _⟩ := h
  exact pairs9_calls B p q L M most W hd.1
theorem Own9.pairs100 (h : Own9 w0 W B L) : Calls Tryd.prog 22 #[.pointer (some ⟨B, 0, none⟩), .int .i64 100] W fun e w' => ∃ v, e = .returned v ∧ Prs9 W.heap.size w' v L ∧ Below W.heap.size W w' := by
  have hf := h.few
  refine (h.pairs 100).mono fun e w' ⟨v, he, hp, hb⟩ => ⟨v, he, ?_, hb⟩
  rwa [List.take_of_length_le (by show L.length ≤ (100 : Int).toNat; exact hf)] at hp
end

/-- A row of pairs, whole. -/
def Row9 (L : Row7) (w : World) (v : Value) : Prop := Prs9 0 w v L
theorem Row9.of_own {L : Row7} {w : World} {b : Nat} {v : Value} (h : Prs9 b w v L) : Row9 L w v := ownsRow_base_a h (Nat.zero_le _)
theorem Row9.keeps {L : Row7} {w w' : World} {v : Value} (h : Row9 L w v) (hk : Keeps9 w w') : Row9 L w' v := by
  refine ⟨h.1, ?_⟩
  rcases h.2 with hn | ⟨g, cap, cur, e, h0, hg, hr⟩
  · exact .inl hn
  · exact .inr ⟨g, cap, cur, e, h0, hk g _ _ _ hg (by decide), hr⟩
theorem Row9.later {L : Row7} {w w' : World} {v : Value} (h : Row9 L w v) (hb : Below w.heap.size w w') : Row9 L w' v := h.keeps (Keeps9.of_below hb)
theorem Row9.pv {L : Row7} {w : World} {v : Value} (h : Row9 L w v) : Pv9 w v L := Pv9.of_own h
theorem Row9.shape {L : Row7} {w : World} {v : Value} (h : Row9 L w v) : ∃ A c, v = .slice A L.length c := by
  obtain ⟨A, c, e, _⟩ := h.pv
  exact ⟨A, c, e⟩
theorem Row9.nil (w : World) : Row9 [] w (.slice none 0 0) := World.ownsRow_nil _ _ _ _

def ann9 : List UInt8 × List UInt8 := ([97, 110, 110], [97, 64, 98, 46, 99])
theorem ex9_1 : seE9 [] [97, 110, 110] [65, 64, 98, 46, 99] = 0 ∧ seL9 [] [97, 110, 110] [65, 64, 98, 46, 99] = [ann9] := by decide +kernel
theorem ex9_2 : seE9 [ann9] [98, 111, 98] [97, 64, 66, 46, 99] = 9 ∧ seL9 [ann9] [98, 111, 98] [97, 64, 66, 46, 99] = [ann9] := by decide +kernel
theorem ex9_3 : fiE9 [ann9] [97, 64, 98, 46, 67] = 0 ∧ fiS9 [ann9] [97, 64, 98, 46, 67] = [97, 110, 110] := by decide +kernel

set_option maxRecDepth 100000 in
set_option maxHeartbeats 1000000 in
theorem lives9_calls (w : World) (h5 : Len5 w) : Calls Tryd.prog 6 #[] w (Tells5 true w) := by
  have HN := Lib.hid (new9_calls w)
  have HC1 : Hid (∀ W B, Own9 w W B [] → Calls Tryd.prog 15 #[.pointer (some ⟨B, 0, none⟩), .string ⟨#[97, 110, 110]⟩, .string ⟨#[65, 64, 98, 46, 99]⟩] W fun e w' => e = .returned (.int .i64 0) ∧ Own9 w w' B [ann9]) := fun W B h => by
    have := h.set ⟨#[97, 110, 110]⟩ ⟨#[65, 64, 98, 46, 99]⟩ (by decide) (by decide) (by decide) (h5.later h.below)
    rw [show seE9 [] (ByteArray.mk #[97, 110, 110]).data.toList (ByteArray.mk #[65, 64, 98, 46, 99]).data.toList = 0 from ex9_1.1, show seL9 [] (ByteArray.mk #[97, 110, 110]).data.toList (ByteArray.mk #[65, 64, 98, 46, 99]).data.toList = [ann9] from ex9_1.2] at this
    exact this.mono fun e w' ⟨he, ho, _⟩ => ⟨he, ho⟩
  have HC2 : Hid (∀ W B, Own9 w W B [ann9] → Calls Tryd.prog 15 #[.pointer (some ⟨B, 0, none⟩), .string ⟨#[98, 111, 98]⟩, .string ⟨#[97, 64, 66, 46, 99]⟩] W fun e w' => e = .returned (.int .i64 9) ∧ Own9 w w' B [ann9]) := fun W B h => by
    have := h.set ⟨#[98, 111, 98]⟩ ⟨#[97, 64, 66, 46, 99]⟩ (by decide) (by decide) (by decide) (h5.later h.below)
    rw [show seE9 [ann9] (ByteArray.mk #[98, 111, 98]).data.toList (ByteArray.mk #[97, 64, 66, 46, 99]).data.toList = 9 from ex9_2.1, show seL9 [ann9] (ByteArray.mk #[98, 111, 98]).data.toList (ByteArray.mk #[97, 64, 66, 46, 99]).data.toList = [ann9] from ex9_2.2] at this
    exact this.mono fun e w' ⟨he, ho, _⟩ => ⟨he, ho⟩
  have HC3 : Hid (∀ W B, Own9 w W B [ann9] → Calls Tryd.prog 18 #[.pointer (some ⟨B, 0, none⟩), .string ⟨#[97, 64, 98, 46, 67]⟩] W fun e w' => e = .returned (.tuple #[.string ⟨#[97, 110, 110]⟩, .int .i64 0]) ∧ Below W.heap.size W w') := fun W B h => by
    have := h.find ⟨#[97, 64, 98, 46, 67]⟩ (by decide) (h5.later h.below)
    rw [show fiE9 [ann9] (ByteArray.mk #[97, 64, 98, 46, 67]).data.toList = 0 from ex9_3.1, show fiS9 [ann9] (ByteArray.mk #[97, 64, 98, 46, 67]).data.toList = [97, 110, 110] from ex9_3.2] at this
    exact this
  go_enter Tryd.func6, Tryd.ntmps6
  go_wp2_with fail
  with_reducible refine HN.out.mono ?_
  rintro e w1 ⟨rfl, rfl⟩
  have HO := Lib.hid (own9_new w)
  generalize w.alloc (.cells #[.map none, .map none] 54) = w1 at *
  generalize hB : w.heap.size = B at *
  have HB := Lib.hid hB
  clear hB HN
  go_wp2_with fail
  with_reducible refine (HC1.out w1 B HO.out).mono ?_
  rintro e w2 ⟨rfl, ho⟩
  have HO2 := Lib.hid ho
  clear ho HC1 HO
  go_wp2_with fail
  with_reducible refine (HC2.out w2 B HO2.out).mono ?_
  rintro e w3 ⟨rfl, ho⟩
  have HO3 := Lib.hid ho
  clear ho HC2 HO2
  go_wp2_with fail
  with_reducible refine (HC3.out w3 B HO3.out).mono ?_
  rintro e w4 ⟨rfl, hb⟩
  have HO4 := Lib.hid (HO3.out.later hb).below
  clear hb HC3 HO3
  go_wp2
  go_ret
  exact ⟨rfl, HO4.out⟩

def little9 (t : Act7) : Bool := decide (t.nm.size ≤ 50) && decide (t.hs.size ≤ 50)
def few9 (l : List Act7) : Bool := l.all little9 && decide (l.length ≤ 60)

set_option maxRecDepth 100000 in
set_option maxHeartbeats 1000000 in
theorem few9_calls (A : Option Addr) (c n : Nat) (l : List Act7) (w : World) (hl : n = l.length) (hn : n ≤ 9223372036854775807) (hr : RdA7 w A l) :
    Calls Tryd.prog 7 #[.slice A n c] w (Tells5 (few9 l) w) := by
  have HR := Lib.hid hr
  have HL := Lib.hid hl
  clear hr hl
  obtain ⟨r, hr⟩ : ∃ r, r = few9 l := ⟨_, rfl⟩
  rw [← hr]
  have HRR := Lib.hid hr
  clear hr
  go_enter Tryd.func7, Tryd.ntmps7
  go_wp2
  go_loopg [4, 7] n (fun gg _ s7 wr => ∃ k : Nat, k ≤ n ∧ n - k ≤ gg ∧ s7 = .int .i64 k ∧ Hid (Below w.heap.size w wr) ∧ Hid (∀ j (h : j < l.length), j < k → little9 l[j] = true))
  case atStart => exact ⟨0, Nat.zero_le _, by omega, rfl, Below.refl _ _, fun j _ hj => absurd hj (Nat.not_lt_zero _)⟩
  case round =>
    obtain ⟨k, hk, hg, rfl, HW, A0⟩ := hrel
    by_cases hlt : k < n
    · have hltz : (k : Int) < (n : Int) := by omega
      have hkl : k < l.length := HL.out ▸ hlt
      obtain ⟨b, off, rfl, hb, hc⟩ := (HR.out.later HW.out) (by intro e; rw [e] at hkl; exact absurd hkl (Nat.not_lt_zero _))
      have c0 : wr.cell? ⟨b, off + k * 3, none⟩ = some (.int .u8 (l[k].kd : Int)) := hc k hkl 0 _ rfl
      have c1 : wr.cell? ⟨b, off + k * 3 + 1, none⟩ = some (.string l[k].nm) := hc k hkl 1 _ rfl
      have c2 : wr.cell? ⟨b, off + k * 3 + 2, none⟩ = some (.string l[k].hs) := hc k hkl 2 _ rfl
      have HX : Hid (little9 l[k] = true → ∀ j (h : j < l.length), j < k + 1 → little9 l[j] = true) := fun hq j h hj => by
        by_cases e : j = k
        · subst e; exact hq
        · exact A0.out j h (by omega)
      have HF : Hid (little9 l[k] = false → r = false) := fun hf => by
        rw [HRR.out]
        have : l.all little9 = false := List.all_eq_false.2 ⟨l[k], List.getElem_mem hkl, by rw [hf]; simp⟩
        unfold few9
        rw [this]; rfl
      have HB3 := Lib.hid (below_next HW.out (below_alloc (Below.refl wr.heap.size wr) (.cells #[.int .u8 (l[k].kd : Int), .string l[k].nm, .string l[k].hs] 29)))
      unfold little9 at HX HF
      clear hc hb A0
      generalize l[k].kd = kd at *
      generalize l[k].nm = nm at *
      generalize l[k].hs = hs at *
      by_cases h1 : nm.size ≤ 50
      · by_cases h2 : hs.size ≤ 50
        · have HY := Lib.hid (HX.out (by simp [h1, h2]))
          have z1 : ¬ (nm.size : Int) > 50 := by omega
          have z2 : ¬ (hs.size : Int) > 50 := by omega
          have y1 : ¬ 50 < nm.size := by omega
          have y2 : ¬ 50 < hs.size := by omega
          have x1 : decide ((nm.size : Int) > 50) = false := decide_eq_false z1
          have x2 : decide ((hs.size : Int) > 50) = false := decide_eq_false z2
          clear HX HF
          go_wp2
          go_roundg (n - (k + 1))
          case measure => omega
          case rel => exact ⟨k + 1, by omega, by omega, by go_num, HB3, HY⟩
        · have hr : r = false := HF.out (by simp [h2])
          subst hr
          have z1 : ¬ (nm.size : Int) > 50 := by omega
          have z2 : (hs.size : Int) > 50 := by omega
          have y1 : ¬ 50 < nm.size := by omega
          have y2 : 50 < hs.size := by omega
          have x1 : decide ((nm.size : Int) > 50) = false := decide_eq_false z1
          have x2 : decide ((hs.size : Int) > 50) = true := decide_eq_true z2
          clear HX HF
          go_wp2
          go_ret
          exact ⟨rfl, HB3.out⟩
      · have hr : r = false := HF.out (by simp [h1])
        subst hr
        have z1 : (nm.size : Int) > 50 := by omega
        have y1 : 50 < nm.size := by omega
        have x1 : decide ((nm.size : Int) > 50) = true := decide_eq_true z1
        clear HX HF
        go_wp2
        go_ret
        exact ⟨rfl, HB3.out⟩
    · have hltz : ¬ (k : Int) < (n : Int) := by omega
      obtain rfl : k = n := by omega
      have hr0 : r = decide (k ≤ 60) := by
        rw [HRR.out]
        have : l.all little9 = true := by
          rw [List.all_eq_true]
          intro x hx
          obtain ⟨j, hj, rfl⟩ := List.getElem_of_mem hx
          exact A0.out j hj (by have := HL.out; omega)
        unfold few9
        rw [this, ← HL.out]; rfl
      have HZ := Lib.hid hr0
      clear A0 hr0
      by_cases h60 : k ≤ 60
      · have z : (k : Int) ≤ 60 := by omega
        go_wp2
        go_ret
        exact ⟨by rw [HZ.out, decide_eq_true h60]; rfl, HW.out⟩
      · have z : ¬ (k : Int) ≤ 60 := by omega
        go_wp2
        go_ret
        exact ⟨by rw [HZ.out, decide_eq_false h60]; rfl, HW.out⟩

end Go.Proofs.YtiodbghokiajjaaDoor
