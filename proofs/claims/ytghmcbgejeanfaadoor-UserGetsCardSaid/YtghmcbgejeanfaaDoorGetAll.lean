/-
  Get of package user and the document's Get tell the same user, whatever the schema and the bytes.
  Conditions: at most 1000 bytes; the library's own variable MaxLen holds some number.
-/
import Derived.Test.YtghmcbgejeanfaaDoorRefGet
namespace Go.Proofs.YtghmcbgejeanfaaDoor
open Go.RowKit

theorem takeS_few6 (st : St) (n : Nat) : (takeS st n).2.length ≤ st.bs.length := by
  unfold takeS
  split
  · simp
  · simp only [List.length_take]; omega
theorem textS_few6 (st : St) (m : Int) : (textS st m).2.length ≤ st.bs.length := Nat.le_trans (takeS_few6 _ _) (lengthS_left st m)
theorem truthS_left6 (st : St) : (truthS st).1.bs.length ≤ st.bs.length := by
  unfold truthS
  split
  · exact Nat.le_trans (failS_length _ _) (numS_left st 1)
  · exact numS_left st 1
theorem mk6_size (l : List UInt8) : (mk6 l).size = l.length := by
  show l.toArray.size = _
  rw [List.size_toArray]
theorem rowGo_sizes6 (long : Int) (n : Nat) : ∀ (k : Nat) (st : St) (acc : List ByteArray), st.bs.length ≤ n → (∀ s ∈ acc, s.size ≤ n) → ∀ s ∈ (rowGo long k st acc).2, s.size ≤ n
  | 0, _, _, _, h => h
  | k + 1, st, acc, hl, h => by
    unfold rowGo
    split
    · intro s hs; cases hs
    · refine rowGo_sizes6 long n k _ _ (Nat.le_trans (textS_left st long) hl) (fun s hs => ?_)
      rcases List.mem_append.1 hs with hs | hs
      · exact h s hs
      · rw [List.mem_singleton.1 hs]
        have h1 := mk6_size (textS st long).2
        have h2 := textS_few6 st long
        unfold mk6 at h1
        omega
theorem rowS_sizes6 (st : St) (m l : Int) : ∀ s ∈ (rowS st m l).2, s.size ≤ st.bs.length :=
  rowGo_sizes6 l _ _ _ _ (lengthS_left st m) (fun s hs => by cases hs)

/-- The first schema's parts. -/
def one6S (st : St) : St × Us := ((textS (textS st 65535).1 65535).1, one6 (textS st 65535).2 (textS (textS st 65535).1 65535).2)
/-- The second one's, behind the first two. -/
def two6S (st : St) (nm hs : List UInt8) : St × Us :=
  ((rowS (truthS (textS st 65535).1).1 65535 65535).1, two6 nm hs (textS st 65535).2 (truthS (textS st 65535).1).2 (rowS (truthS (textS st 65535).1).1 65535 65535).2)
/-- What is read of a schema, and what is left. -/
def getS (s : Int) (st : St) : St × Us :=
  if s = 1 then (failS (one6S st).1 (chk6 1 (one6S st).2), (one6S st).2)
  else if s = 2 then (failS (two6S (one6S st).1 (textS st 65535).2 (textS (textS st 65535).1 65535).2).1 (chk6 2 (two6S (one6S st).1 (textS st 65535).2 (textS (textS st 65535).1 65535).2).2), (two6S (one6S st).1 (textS st 65535).2 (textS (textS st 65535).1 65535).2).2)
  else (failS st 6, zeroU)
theorem getS_none {s : Int} (h : know6 s = false) (st : St) : getS s st = (failS st 6, zeroU) := by
  simp only [know6, Bool.or_eq_false_iff, decide_eq_false_iff_not] at h
  unfold getS
  rw [if_neg h.1, if_neg h.2]

theorem getS_one {st s1 s2 : St} {nm hs : List UInt8} (h1 : textS st 65535 = (s1, nm)) (h2 : textS s1 65535 = (s2, hs)) : getS 1 st = (failS s2 (chk6 1 (one6 nm hs)), one6 nm hs) := by
  unfold getS one6S
  rw [if_pos rfl]
  simp only [h1, h2]
theorem getS_two {st s1 s2 s3 s4 s5 : St} {nm hs ml : List UInt8} {dis : Bool} {gs : List ByteArray} (h1 : textS st 65535 = (s1, nm)) (h2 : textS s1 65535 = (s2, hs)) (h3 : textS s2 65535 = (s3, ml)) (h4 : truthS s3 = (s4, dis)) (h5 : rowS s4 65535 65535 = (s5, gs)) :
    getS 2 st = (failS s5 (chk6 2 (two6 nm hs ml dis gs)), two6 nm hs ml dis gs) := by
  unfold getS one6S two6S
  rw [if_neg (by decide), if_pos rfl]
  simp only [h1, h2, h3, h4, h5]
/-- What is read part by part. -/
structure Parts6 (st s1 s2 s3 s4 s5 : St) (nm hs ml : List UInt8) (dis : Bool) (gs : List ByteArray) : Prop where
  h1 : textS st 65535 = (s1, nm)
  h2 : textS s1 65535 = (s2, hs)
  h3 : textS s2 65535 = (s3, ml)
  h4 : truthS s3 = (s4, dis)
  h5 : rowS s4 65535 65535 = (s5, gs)
  l1 : s1.bs.length ≤ 1000
  l2 : s2.bs.length ≤ 1000
  l3 : s3.bs.length ≤ 1000
  l4 : s4.bs.length ≤ 1000
  f1 : nm.length ≤ 1000
  f2 : hs.length ≤ 1000
  f3 : ml.length ≤ 1000
  f5 : ∀ s ∈ gs, s.size ≤ 1000
theorem parts6 (st : St) (hl : st.bs.length ≤ 1000) : ∃ s1 s2 s3 s4 s5 nm hs ml dis gs, Parts6 st s1 s2 s3 s4 s5 nm hs ml dis gs := by
  have l1 := textS_left st 65535
  have f1 := textS_few6 st 65535
  rcases h1 : textS st 65535 with ⟨s1, nm⟩
  rw [h1] at l1 f1
  have l2 := textS_left s1 65535
  have f2 := textS_few6 s1 65535
  rcases h2 : textS s1 65535 with ⟨s2, hs⟩
  rw [h2] at l2 f2
  have l3 := textS_left s2 65535
  have f3 := textS_few6 s2 65535
  rcases h3 : textS s2 65535 with ⟨s3, ml⟩
  rw [h3] at l3 f3
  have l4 := truthS_left6 s3
  rcases h4 : truthS s3 with ⟨s4, dis⟩
  rw [h4] at l4
  have f5 := rowS_sizes6 s4 65535 65535
  rcases h5 : rowS s4 65535 65535 with ⟨s5, gs⟩
  rw [h5] at f5
  dsimp only at l1 l2 l3 l4 f1 f2 f3 f5
  exact ⟨s1, s2, s3, s4, s5, nm, hs, ml, dis, gs, h1, h2, h3, h4, h5, by omega, by omega, by omega, by omega, by omega, by omega, by omega, fun s hs => by have := f5 s hs; omega⟩

theorem get6_all (s : Int) (B : Nat) (st : St) (w : World) (h : Rdr w B st) (hl : st.bs.length ≤ 1000) (hm : Len5 w) (hBg : B ≠ 0) :
    Calls Tryd.prog 14 #[.pointer (some ⟨B, 0, none⟩), .int .i64 s] w (Got6 w B (getS s st).1 (getS s st).2) := by
  cases hk : know6 s with
  | false =>
    rw [getS_none hk]
    refine (get6_none s B st w h hk).mono ?_
    rintro e w' ⟨rfl, hd⟩
    refine ⟨none, 0, ?_, World.ownsRow_nil _ _ _ _, by simp [Value.ownBlock], hd⟩
    have e : (if (failS st 6).e = 0 then ({ zeroU with ga := none, gc := 0 } : Us) else zeroU) = zeroU := by split <;> rfl
    rw [e]
  | true =>
    obtain ⟨s1, s2, s3, s4, s5, nm, hs, ml, dis, gs, p⟩ := parts6 st hl
    obtain ⟨h1, h2, h3, h4, h5, l1, l2, l3, l4, f1, f2, f3, f5⟩ := p
    have hs : s = 1 ∨ s = 2 := by simpa [know6] using hk
    rcases hs with rfl | rfl
    · rw [getS_one h1 h2]
      exact get6_one B st w h (by omega) hm hBg _ _ _ _ _ h1 h2 rfl (by omega) (by omega)
    · rw [getS_two h1 h2 h3 h4 h5]
      exact get6_two B st w h (by omega) hm hBg _ _ _ _ _ _ _ _ _ _ _ h1 h2 h3 h4 h5 rfl (by omega) (by omega) (by omega) (by omega) (by omega) (by omega) (by omega) (fun s hs => by have := f5 s hs; omega)

theorem rget6_all (s : Int) (st : St) (w : World) (hok : Ok st) (hl : st.bs.length ≤ 1000) :
    Calls Tryd.prog 18 #[refV st, .int .i64 s] w (RGot6 w (getS s st).1 (getS s st).2) := by
  cases hk : know6 s with
  | false =>
    rw [getS_none hk]
    exact rget6_none s st w hk
  | true =>
    obtain ⟨s1, s2, s3, s4, s5, nm, hs, ml, dis, gs, p⟩ := parts6 st hl
    obtain ⟨h1, h2, h3, h4, h5, l1, l2, l3, l4, f1, f2, f3, f5⟩ := p
    have o1 : Ok s1 := by have := hok.text 65535; rw [h1] at this; exact this
    have o2 : Ok s2 := by have := o1.text 65535; rw [h2] at this; exact this
    have hs : s = 1 ∨ s = 2 := by simpa [know6] using hk
    rcases hs with rfl | rfl
    · rw [getS_one h1 h2]
      exact rget6_one st w _ _ _ _ _ h1 h2 rfl hok hl o1 l1 f1 f2
    · have o3 : Ok s3 := by have := o2.text 65535; rw [h3] at this; exact this
      have o4 : Ok s4 := by have := o3.truth; rw [h4] at this; exact this
      rw [getS_two h1 h2 h3 h4 h5]
      exact rget6_two st w _ _ _ _ _ _ _ _ _ _ _ h1 h2 h3 h4 h5 rfl hok hl o1 l1 o2 l2 o3 l3 o4 l4 f1 f2 f3 f5

/-- Its parts are short. -/
structure Us.Short (u : Us) : Prop where
  nm : u.nm.size ≤ 1000
  hs : u.hs.size ≤ 1000
  ml : u.ml.size ≤ 1000
  all : ∀ s ∈ u.gs, s.size ≤ 1000
theorem getS_short (s : Int) (st : St) (hl : st.bs.length ≤ 1000) : (getS s st).2.Short := by
  cases hk : know6 s with
  | false =>
    rw [getS_none hk]
    exact ⟨Nat.zero_le _, Nat.zero_le _, Nat.zero_le _, fun s hs => by cases hs⟩
  | true =>
    obtain ⟨s1, s2, s3, s4, s5, nm, hs, ml, dis, gs, p⟩ := parts6 st hl
    obtain ⟨h1, h2, h3, h4, h5, l1, l2, l3, l4, f1, f2, f3, f5⟩ := p
    rw [← mk6_size] at f1 f2 f3
    have hs : s = 1 ∨ s = 2 := by simpa [know6] using hk
    rcases hs with rfl | rfl
    · rw [getS_one h1 h2]
      exact ⟨f1, f2, Nat.zero_le _, fun s hs => by cases hs⟩
    · rw [getS_two h1 h2 h3 h4 h5]
      exact ⟨f1, f2, f3, f5⟩

/-- The user that is told: the one that was read, or with an error a zero one. -/
def tell6 (st : St) (u : Us) (A : Option Addr) (c : Nat) : Us := if st.e = 0 then { u with ga := A, gc := c } else zeroU
theorem tell6_ok {W : World} {st : St} {u : Us} {A : Option Addr} {c : Nat} (hu : u.Short) (ho : W.ownsRow 0 9 1 (.slice A u.gs.length c) u.gs.length (u.gs.map Value.string)) : (tell6 st u A c).Ok W := by
  unfold tell6
  split
  · obtain ⟨f1, f2, f3, f4⟩ := owns_facts6 ho rfl
    exact ⟨f1, Nat.le_trans hu.nm (by omega), Nat.le_trans hu.hs (by omega), Nat.le_trans hu.ml (by omega), f2, f3, f4, fun s hs => Nat.le_trans (hu.all s hs) (by omega)⟩
  · exact ⟨fun e => absurd rfl e, Nat.zero_le _, Nat.zero_le _, Nat.zero_le _, fun _ => rfl, Nat.zero_le _, Nat.zero_le _, fun s hs => by cases hs⟩
theorem tell6_same (st : St) (u : Us) (A A' : Option Addr) (c c' : Nat) : sameU (tell6 st u A c) (tell6 st u A' c') = true := by
  unfold tell6
  split <;> simp [sameU]
end Go.Proofs.YtghmcbgejeanfaaDoor
