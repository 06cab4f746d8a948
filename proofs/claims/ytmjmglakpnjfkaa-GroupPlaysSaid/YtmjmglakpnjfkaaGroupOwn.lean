/-
  Groups of the law's own: what its deeds tell, what stays as it was. The chapter's example holds. Acts that are few, and little.
  Conditions: texts are no longer than they may be; sets of at most 900 names.
-/
import Derived.Test.YtmjmglakpnjfkaaGroupCopy
import Derived.Test.YtmjmglakpnjfkaaOpenG
namespace Go.Proofs.Ytmjmglakpnjfkaa
open Go.RowKit Go.Maps

/-- Rows and variables that are no groups stay as they were. -/
def Keeps10 (W w' : World) : Prop := ∀ (k : Nat) (c : Array Value) (T : TypeId) (fr : Nat × Nat), W.heap[k]? = some (.cells c T fr) → T ≠ 53 → w'.heap[k]? = some (.cells c T fr)
theorem Keeps10.of_below {W w' : World} (hb : Below W.heap.size W w') : Keeps10 W w' := fun k _ _ _ h _ => (hb.block k (Array.getElem?_eq_some_iff.1 h).1).trans h
theorem Keeps10.trans {a b c : World} (h : Keeps10 a b) (k : Keeps10 b c) : Keeps10 a c := fun i x T fr hi hT => k i x T fr (h i x T fr hi hT) hT
theorem Goes10.keeps {W w' : World} {B : Nat} {p : Option Nat} {T : Rows10} {S' : Grs10} (hd : Grp10 W B p T) (hg : Goes10 W B p T S' w') : Keeps10 W w' := by
  obtain ⟨_, _, _, _, _, _, ht⟩ := hg
  intro k c T fr hk hT
  refine (ht.block k (Array.getElem?_eq_some_iff.1 hk).1 ?_).trans hk
  rintro (rfl | e | ⟨x, hx, rfl⟩)
  · rw [hd.blk] at hk
    injection hk with hk
    injection hk with _ h
    exact hT h.symm
  · exact map_ne_cells10 (hd.map k e) hk rfl
  · exact map_ne_cells10 (hd.sets x hx) hk rfl

/-- Groups that have come about since w0, in W; nothing that was there in w0 has turned. -/
def Own10 (w0 W : World) (B : Nat) (S : Grs10) (k : Nat) : Prop := ∃ p T, New10 w0 W B p T ∧ plain10 T = S ∧ Good10 S k ∧ Below w0.heap.size w0 W
section
variable {w0 W W' : World} {B k : Nat} {S : Grs10}
theorem Own10.below (h : Own10 w0 W B S k) : Below w0.heap.size w0 W := by obtain ⟨_, _, _, _, _, h⟩ := h; exact h
theorem Own10.good (h : Own10 w0 W B S k) : Good10 S k := by obtain ⟨_, _, _, _, h, _⟩ := h; exact h
theorem Own10.later (h : Own10 w0 W B S k) (hb : Below W.heap.size W W') : Own10 w0 W' B S k := by
  obtain ⟨p, T, hd, hS, hg, h3⟩ := h
  exact ⟨p, T, ⟨hd.1.later hb, hd.2⟩, hS, hg, below_next h3 hb⟩
theorem Own10.mono {k' : Nat} (h : Own10 w0 W B S k) (hk : k ≤ k') : Own10 w0 W B S k' := by
  obtain ⟨p, T, hd, hS, hg, h3⟩ := h
  exact ⟨p, T, hd, hS, hg.mono hk, h3⟩
theorem Own10.goes {S' : Grs10} {p : Option Nat} {T : Rows10} {k' : Nat} (hd : New10 w0 W B p T) (h3 : Below w0.heap.size w0 W) (hg' : Good10 S' k') (hg : Goes10 W B p T S' W') : Own10 w0 W' B S' k' := by
  obtain ⟨p', T', hd', hS', hp, hx, ht⟩ := hg
  obtain ⟨hi, h1, h2, h4⟩ := hd
  refine ⟨p', T', ⟨hd', h1, fun b hb => ?_, fun x hxx => ?_⟩, hS', hg', h3.trans (Turns.below_at ht h3.size ?_)⟩
  · rcases hp b hb with h | h
    · exact h2 b h
    · exact Nat.le_trans h3.size h
  · rcases hx x hxx with ⟨y, hy, e⟩ | h
    · rw [← e]; exact h4 y hy
    · exact Nat.le_trans h3.size h
  · rintro i (rfl | e | ⟨x, hx, rfl⟩)
    · exact h1
    · exact h2 i e
    · exact h4 x hx
theorem own10_new (w : World) : Own10 w (w.alloc (.cells #[.map none] 53)) w.heap.size [] 0 := ⟨none, [], ⟨grp10_new w, Nat.le_refl _, (fun _ h => nomatch h), (fun _ h => nomatch h)⟩, rfl, Good10.nil, below_alloc (Below.refl _ _) _⟩
theorem rows_few {T : Rows10} (hg : Good10 (plain10 T) k) : T.length ≤ 6 := by have := hg.few; rwa [plain10_len] at this
theorem rows_little {T : Rows10} (hg : Good10 (plain10 T) k) (hk : k ≤ 900) : ∀ x ∈ T, x.2.2.length ≤ 1000 := fun x hx => by
  have := hg.little (x.1, x.2.2) (List.mem_map.2 ⟨x, hx, rfl⟩)
  exact Nat.le_trans this (by omega)
theorem rows_named {T : Rows10} (hg : Good10 (plain10 T) k) : ∀ x ∈ T, x.1.length ≤ 1000 := fun x hx => by
  have := name10_len (hg.named (x.1, x.2.2) (List.mem_map.2 ⟨x, hx, rfl⟩))
  exact Nat.le_trans this (by omega)
theorem rows_rise {T : Rows10} (hg : Good10 (plain10 T) k) : ∀ x ∈ T, RiseV x.2.2 := fun x hx => hg.sets (x.1, x.2.2) (List.mem_map.2 ⟨x, hx, rfl⟩)

theorem Own10.make (h : Own10 w0 W B S k) (g : ByteArray) (hg : g.size ≤ 9223372036854775807) :
    Calls Try.prog 20 #[.pointer (some ⟨B, 0, none⟩), .string g] W fun e w' => e = .returned (.int .i64 (maE10 S g.data.toList)) ∧ Own10 w0 w' B (maS10 S g.data.toList) k ∧ Keeps10 W w' := by
  obtain ⟨p, T, hd, rfl, hgd, h3⟩ := h
  exact (make10_calls B p T g W hd.1 (rows_few hgd) hg).mono fun e w' ⟨he, hgo⟩ => ⟨he, Own10.goes hd h3 (good_make hgd _) hgo, hgo.keeps hd.1⟩
theorem Own10.drop (h : Own10 w0 W B S k) (g : ByteArray) (hg : g.size ≤ 9223372036854775807) :
    Calls Try.prog 19 #[.pointer (some ⟨B, 0, none⟩), .string g] W fun e w' => e = .returned (.int .i64 (drE10 S g.data.toList)) ∧ Own10 w0 w' B (drS10 S g.data.toList) k ∧ Keeps10 W w' := by
  obtain ⟨p, T, hd, rfl, hgd, h3⟩ := h
  exact (drop10_calls B p T g W hd.1 hg).mono fun e w' ⟨he, hgo⟩ => ⟨he, Own10.goes hd h3 (good_drop hgd _) hgo, hgo.keeps hd.1⟩
theorem Own10.join (h : Own10 w0 W B S k) (hk : k ≤ 900) (g n : ByteArray) (hg : g.size ≤ 9223372036854775807) (hn : n.size ≤ 9223372036854775807) :
    Calls Try.prog 22 #[.pointer (some ⟨B, 0, none⟩), .string g, .string n] W fun e w' => e = .returned (.int .i64 (joE10 S g.data.toList n.data.toList)) ∧ Own10 w0 w' B (joS10 S g.data.toList n.data.toList) (k + 1) ∧ Keeps10 W w' := by
  obtain ⟨p, T, hd, rfl, hgd, h3⟩ := h
  exact (join10_calls B p T g n W hd.1 (rows_little hgd hk) hg hn).mono fun e w' ⟨he, hgo⟩ => ⟨he, Own10.goes hd h3 (good_join hgd _ _) hgo, hgo.keeps hd.1⟩
theorem Own10.leave (h : Own10 w0 W B S k) (g n : ByteArray) (hg : g.size ≤ 9223372036854775807) (hn : n.size ≤ 9223372036854775807) :
    Calls Try.prog 27 #[.pointer (some ⟨B, 0, none⟩), .string g, .string n] W fun e w' => e = .returned (.int .i64 (leE10 S g.data.toList n.data.toList)) ∧ Own10 w0 w' B (leS10 S g.data.toList n.data.toList) k ∧ Keeps10 W w' := by
  obtain ⟨p, T, hd, rfl, hgd, h3⟩ := h
  exact (leave10_calls B p T g n W hd.1 hg hn).mono fun e w' ⟨he, hgo⟩ => ⟨he, Own10.goes hd h3 (good_leave hgd _ _) hgo, hgo.keeps hd.1⟩
theorem Own10.rename (h : Own10 w0 W B S k) (hk : k ≤ 900) (o n : ByteArray) (ho : o.size ≤ 9223372036854775807) (hn : n.size ≤ 9223372036854775807) :
    Calls Try.prog 18 #[.pointer (some ⟨B, 0, none⟩), .string o, .string n] W fun e w' => e = .returned (.int .i64 (reE10 S o.data.toList n.data.toList)) ∧ Own10 w0 w' B (reS10 S o.data.toList n.data.toList) k ∧ Keeps10 W w' := by
  obtain ⟨p, T, hd, rfl, hgd, h3⟩ := h
  have hf := rows_few hgd
  exact (rename10_calls B p T o n W hd.1 (by omega) (rows_named hgd) (rows_little hgd hk) ho hn).mono fun e w' ⟨he, hgo⟩ => ⟨he, Own10.goes hd h3 (good_rename hgd _ _) hgo, hgo.keeps hd.1⟩
theorem Own10.remove (h : Own10 w0 W B S k) (n : ByteArray) (hn : n.size ≤ 9223372036854775807) :
    Calls Try.prog 21 #[.pointer (some ⟨B, 0, none⟩), .string n] W fun e w' => e = .returned (.int .i64 ((of10 S n.data.toList).length : Nat)) ∧ Own10 w0 w' B (rmS10 S n.data.toList) k ∧ Keeps10 W w' := by
  obtain ⟨p, T, hd, rfl, hgd, h3⟩ := h
  have hf := rows_few hgd
  exact (remove10_calls B p T n W hd.1 (by omega) (rows_named hgd) hn).mono fun e w' ⟨he, hgo⟩ => ⟨he, Own10.goes hd h3 (good_remove hgd _) hgo, hgo.keeps hd.1⟩
theorem Own10.members (h : Own10 w0 W B S k) (hk : k ≤ 900) (g : ByteArray) (hg : g.size ≤ 9223372036854775807) :
    Calls Try.prog 12 #[.pointer (some ⟨B, 0, none⟩), .string g] W fun e w' => ∃ v, e = .returned (.tuple #[v, .int .i64 (drE10 S g.data.toList)]) ∧ w'.ownsRow W.heap.size 9 1 v (meL10 S g.data.toList).length ((meL10 S g.data.toList).map encStr) ∧ Below W.heap.size W w' := by
  obtain ⟨p, T, hd, rfl, hgd, h3⟩ := h
  exact members10_calls B p T g W hd.1 (rows_rise hgd) (rows_little hgd hk) hg
theorem Own10.of_ (h : Own10 w0 W B S k) (n : ByteArray) (hn : n.size ≤ 9223372036854775807) :
    Calls Try.prog 14 #[.pointer (some ⟨B, 0, none⟩), .string n] W (Names10 (of10 S n.data.toList) W) := by
  obtain ⟨p, T, hd, rfl, hgd, h3⟩ := h
  have hf := rows_few hgd
  exact of10_calls B p T n W hd.1 (by omega) hn
theorem Own10.all_ (h : Own10 w0 W B S k) : Calls Try.prog 11 #[.pointer (some ⟨B, 0, none⟩)] W (Names10 (names10 S) W) := by
  obtain ⟨p, T, hd, rfl, hgd, h3⟩ := h
  have hf := rows_few hgd
  exact all10_calls B p T W hd.1 (by omega)
theorem Own10.copy (h : Own10 w0 W B S k) : Calls Try.prog 30 #[.pointer (some ⟨B, 0, none⟩)] W fun e w' => ∃ b, e = .returned (.pointer (some ⟨b, 0, none⟩)) ∧ Own10 W w' b S k := by
  obtain ⟨p, T, hd, rfl, hgd, h3⟩ := h
  have hf := rows_few hgd
  exact (copy10_calls B p T W hd.1 (by omega) (rows_named hgd)).mono fun e w' ⟨b, p', T', he, hz, hS, hb⟩ => ⟨b, he, p', T', hz, hS, hgd, hb⟩
end

theorem ex10_1 : maE10 [] [100, 101, 118] = 0 ∧ maS10 [] [100, 101, 118] = [([100, 101, 118], [])] := by decide +kernel
theorem ex10_2 : joE10 [([100, 101, 118], [])] [100, 101, 118] [97, 110, 110] = 0 ∧ joS10 [([100, 101, 118], [])] [100, 101, 118] [97, 110, 110] = [([100, 101, 118], [([97, 110, 110], ())])] := by decide +kernel
theorem ex10_3 : of10 [([100, 101, 118], [([97, 110, 110], ())])] [97, 110, 110] = [[100, 101, 118]] := by decide +kernel

set_option maxRecDepth 100000 in
set_option maxHeartbeats 1000000 in
theorem lives10_calls (w : World) : Calls Try.prog 6 #[] w (Tells5 true w) := by
  have HN := Lib.hid (new10_calls w)
  have HC1 : Hid (∀ W B, Own10 w W B [] 0 → Calls Try.prog 20 #[.pointer (some ⟨B, 0, none⟩), .string ⟨#[100, 101, 118]⟩] W fun e w' => e = .returned (.int .i64 0) ∧ Own10 w w' B [([100, 101, 118], [])] 0) := fun W B h => by
    have := h.make ⟨#[100, 101, 118]⟩ (by decide)
    rw [show maE10 [] (ByteArray.mk #[100, 101, 118]).data.toList = 0 from ex10_1.1, show maS10 [] (ByteArray.mk #[100, 101, 118]).data.toList = [([100, 101, 118], [])] from ex10_1.2] at this
    exact this.mono fun e w' ⟨he, ho, _⟩ => ⟨he, ho⟩
  have HC2 : Hid (∀ W B, Own10 w W B [([100, 101, 118], [])] 0 → Calls Try.prog 22 #[.pointer (some ⟨B, 0, none⟩), .string ⟨#[100, 101, 118]⟩, .string ⟨#[97, 110, 110]⟩] W fun e w' => e = .returned (.int .i64 0) ∧ Own10 w w' B [([100, 101, 118], [([97, 110, 110], ())])] 1) := fun W B h => by
    have := h.join (by omega) ⟨#[100, 101, 118]⟩ ⟨#[97, 110, 110]⟩ (by decide) (by decide)
    rw [show joE10 [([100, 101, 118], [])] (ByteArray.mk #[100, 101, 118]).data.toList (ByteArray.mk #[97, 110, 110]).data.toList = 0 from ex10_2.1, show joS10 [([100, 101, 118], [])] (ByteArray.mk #[100, 101, 118]).data.toList (ByteArray.mk #[97, 110, 110]).data.toList = [([100, 101, 118], [([97, 110, 110], ())])] from ex10_2.2] at this
    exact this.mono fun e w' ⟨he, ho, _⟩ => ⟨he, ho⟩
  have HC3 : Hid (∀ W B, Own10 w W B [([100, 101, 118], [([97, 110, 110], ())])] 1 → Calls Try.prog 14 #[.pointer (some ⟨B, 0, none⟩), .string ⟨#[97, 110, 110]⟩] W fun e w' => ∃ g c, e = .returned (.slice (some ⟨g, 0, none⟩) 1 c) ∧ w'.cell? ⟨g, 0, none⟩ = some (.string ⟨#[100, 101, 118]⟩) ∧ Below w.heap.size w w') := fun W B h => by
    have := h.of_ ⟨#[97, 110, 110]⟩ (by decide)
    rw [show of10 [([100, 101, 118], [([97, 110, 110], ())])] (ByteArray.mk #[97, 110, 110]).data.toList = [[100, 101, 118]] from ex10_3] at this
    refine this.mono fun e w' ⟨v, he, hr, hb⟩ => ?_
    obtain ⟨g, c, e1, e2⟩ := row10_at hr (Turns.refl (fun _ => False) w') (fun _ _ _ _ _ _ f => f) (k := 0) (by decide)
    exact ⟨g, c, by rw [he, e1]; rfl, e2, below_next h.below hb⟩
  go_enter Try.func6, Try.ntmps6
  go_wp2_with fail
  with_reducible refine HN.out.mono ?_
  rintro e w1 ⟨rfl, rfl⟩
  have HO := Lib.hid (own10_new w)
  generalize w.alloc (.cells #[.map none] 53) = w1 at *
  generalize hB : w.heap.size = B at *
  have HB := Lib.hid hB
  clear hB HN
  go_wp2_with fail
  with_reducible refine (HC1.out w1 B HO.out).mono ?_
  rintro e w2 ⟨rfl, ho⟩
  have HO2 := Lib.hid ho
  clear ho HC1 HO
  go_wp2_with fail
  with_reducible refine (HC2.out w2 B HO2.out).mono ?_
  rintro e w3 ⟨rfl, ho⟩
  have HO3 := Lib.hid ho
  clear ho HC2 HO2
  go_wp2_with fail
  with_reducible refine (HC3.out w3 B HO3.out).mono ?_
  rintro e w4 ⟨g, c, rfl, hc4, hb⟩
  have HO4 : Hid (Below w.heap.size w w4) := by
    show Below _ _ _
    rw [HB.out]; exact hb
  clear hb HC3 HO3
  go_wp2
  go_ret
  exact ⟨rfl, HO4.out⟩

def little10 (t : Act7) : Bool := decide (t.nm.size ≤ 50) && decide (t.hs.size ≤ 50)
def few10 (l : List Act7) : Bool := l.all little10 && decide (l.length ≤ 60)

set_option maxRecDepth 100000 in
set_option maxHeartbeats 1000000 in
theorem few10_calls (A : Option Addr) (c n : Nat) (l : List Act7) (w : World) (hl : n = l.length) (hn : n ≤ 9223372036854775807) (hr : RdA7 w A l) :
    Calls Try.prog 7 #[.slice A n c] w (Tells5 (few10 l) w) := by
  have HR := Lib.hid hr
  have HL := Lib.hid hl
  clear hr hl
  obtain ⟨r, hr⟩ : ∃ r, r = few10 l := ⟨_, rfl⟩
  rw [← hr]
  have HRR := Lib.hid hr
  clear hr
  go_enter Try.func7, Try.ntmps7
  go_wp2
  go_loopg [4, 7] n (fun gg _ s7 wr => ∃ k : Nat, k ≤ n ∧ n - k ≤ gg ∧ s7 = .int .i64 k ∧ Hid (Below w.heap.size w wr) ∧ Hid (∀ j (h : j < l.length), j < k → little10 l[j] = true))
  case atStart => exact ⟨0, Nat.zero_le _, by omega, rfl, Below.refl _ _, fun j _ hj => absurd hj (Nat.not_lt_zero _)⟩
  case round =>
    obtain ⟨k, hk, hg, rfl, HW, A0⟩ := hrel
    by_cases hlt : k < n
    · have hltz : (k : Int) < (n : Int) := by omega
      have hkl : k < l.length := HL.out ▸ hlt
      obtain ⟨b, off, rfl, hb, hc⟩ := (HR.out.later HW.out) (by intro e; rw [e] at hkl; exact absurd hkl (Nat.not_lt_zero _))
      have c0 : wr.cell? ⟨b, off + k * 3, none⟩ = some (.int .u8 (l[k].kd : Int)) := hc k hkl 0 _ rfl
      have c1 : wr.cell? ⟨b, off + k * 3 + 1, none⟩ = some (.string l[k].nm) := hc k hkl 1 _ rfl
      have c2 : wr.cell? ⟨b, off + k * 3 + 2, none⟩ = some (.string l[k].hs) := hc k hkl 2 _ rfl
      have HX : Hid (little10 l[k] = true → ∀ j (h : j < l.length), j < k + 1 → little10 l[j] = true) := fun hq j h hj => by
        by_cases e : j = k
        · subst e; exact hq
        · exact A0.out j h (by omega)
      have HF : Hid (little10 l[k] = false → r = false) := fun hf => by
        rw [HRR.out]
        have : l.all little10 = false := List.all_eq_false.2 ⟨l[k], List.getElem_mem hkl, by rw [hf]; simp⟩
        unfold few10
        rw [this]; rfl
      have HB3 := Lib.hid (below_next HW.out (below_alloc (Below.refl wr.heap.size wr) (.cells #[.int .u8 (l[k].kd : Int), .string l[k].nm, .string l[k].hs] 32)))
      unfold little10 at HX HF
      clear hc hb A0
      generalize l[k].kd = kd at *
      generalize l[k].nm = nm at *
      generalize l[k].hs = hs at *
      by_cases h1 : nm.size ≤ 50
      · by_cases h2 : hs.size ≤ 50
        · have HY := Lib.hid (HX.out (by simp [h1, h2]))
          have z1 : ¬ (nm.size : Int) > 50 := by omega
          have z2 : ¬ (hs.size : Int) > 50 := by omega
          have y1 : ¬ 50 < nm.size := by omega
          have y2 : ¬ 50 < hs.size := by omega
          have x1 : decide ((nm.size : Int) > 50) = false := decide_eq_false z1
          have x2 : decide ((hs.size : Int) > 50) = false := decide_eq_false z2
          clear HX HF
          go_wp2
          go_roundg (n - (k + 1))
          case measure => omega
          case rel => exact ⟨k + 1, by omega, by omega, by go_num, HB3, HY⟩
        · have hr : r = false := HF.out (by simp [h2])
          subst hr
          have z1 : ¬ (nm.size : Int) > 50 := by omega
          have z2 : (hs.size : Int) > 50 := by omega
          have y1 : ¬ 50 < nm.size := by omega
          have y2 : 50 < hs.size := by omega
          have x1 : decide ((nm.size : Int) > 50) = false := decide_eq_false z1
          have x2 : decide ((hs.size : Int) > 50) = true := decide_eq_true z2
          clear HX HF
          go_wp2
          go_ret
          exact ⟨rfl, HB3.out⟩
      · have hr : r = false := HF.out (by simp [h1])
        subst hr
        have z1 : (nm.size : Int) > 50 := by omega
        have y1 : 50 < nm.size := by omega
        have x1 : decide ((nm.size : Int) > 50) = true := decide_eq_true z1
        clear HX HF
        go_wp2
        go_ret
        exact ⟨rfl, HB3.out⟩
    · have hltz : ¬ (k : Int) < (n : Int) := by omega
      obtain rfl : k = n := by omega
      have hr0 : r = decide (k ≤ 60) := by
        rw [HRR.out]
        have : l.all little10 = true := by
          rw [List.all_eq_true]
          intro x hx
          obtain ⟨j, hj, rfl⟩ := List.getElem_of_mem hx
          exact A0.out j hj (by have := HL.out; omega)
        unfold few10
        rw [this, ← HL.out]; rfl
      have HZ := Lib.hid hr0
      clear A0 hr0
      by_cases h60 : k ≤ 60
      · have z : (k : Int) ≤ 60 := by omega
        go_wp2
        go_ret
        exact ⟨by rw [HZ.out, decide_eq_true h60]; rfl, HW.out⟩
      · have z : ¬ (k : Int) ≤ 60 := by omega
        go_wp2
        go_ret
        exact ⟨by rw [HZ.out, decide_eq_false h60]; rfl, HW.out⟩

end Go.Proofs.Ytmjmglakpnjfkaa
