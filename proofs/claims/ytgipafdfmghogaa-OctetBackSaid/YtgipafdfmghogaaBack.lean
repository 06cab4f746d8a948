/-
  Plain facts: what was written is read, thing by thing; an item's bytes, all its parts one behind the other.
  Conditions: sizes as each theorem says.
-/
import Derived.Test.YtgipafdfmghogaaReadC
import Derived.Test.YtgipafdfmghogaaLawWrites
import Derived.Test.YtgipafdfmghogaaInv
namespace Go.Proofs.Ytgipafdfmghogaa
open Go.RowKit

theorem takeS_put (l r : List UInt8) : takeS ⟨l ++ r, 0⟩ l.length = (⟨r, 0⟩, l) := by
  unfold takeS
  rw [if_neg (by simp), List.drop_left, List.take_left]
theorem numS_put (x k : Nat) (r : List UInt8) : numS ⟨le x k ++ r, 0⟩ k = (⟨r, 0⟩, x % 256 ^ k) := by
  have h := takeS_put (le x k) r
  rw [le_length] at h
  unfold numS
  rw [h, val_le]
theorem truthS_put (b : Bool) (r : List UInt8) : truthS ⟨le b.toNat 1 ++ r, 0⟩ = (⟨r, 0⟩, b) := by
  unfold truthS
  rw [numS_put]
  cases b <;> rfl
theorem lengthS_put (n : Nat) (r : List UInt8) (most : Int) (hn : n ≤ 65535) (hm : (n : Int) ≤ most) : lengthS ⟨le n 2 ++ r, 0⟩ most = (⟨r, 0⟩, n) := by
  unfold lengthS
  rw [numS_put, Nat.mod_eq_of_lt (by omega), if_neg (by omega)]
theorem textS_put' (s : ByteArray) (r : List UInt8) (most : Int) (hs : s.size ≤ 65535) (hm : (s.size : Int) ≤ most) : textS ⟨textB s ++ r, 0⟩ most = (⟨r, 0⟩, s.data.toList) := by
  unfold textS textB
  rw [List.append_assoc, lengthS_put _ _ _ hs hm]
  have h := takeS_put s.data.toList r
  rwa [bytes_length] at h
theorem bytes_back (s : ByteArray) : ByteArray.mk s.data.toList.toArray = s := by
  obtain ⟨⟨l⟩⟩ := s
  rfl
theorem rowGo_put (long : Int) : ∀ (ss acc : List ByteArray) (r : List UInt8), (∀ s ∈ ss, s.size ≤ 65535 ∧ (s.size : Int) ≤ long) → rowGo long ss.length ⟨textsB ss ++ r, 0⟩ acc = (⟨r, 0⟩, acc ++ ss)
  | [], acc, r, _ => by simp [rowGo, textsB]
  | s :: ss, acc, r, h => by
    have h1 := h s (List.mem_cons_self ..)
    have e : textsB (s :: ss) ++ r = textB s ++ (textsB ss ++ r) := by simp [textsB]
    rw [List.length_cons, e]
    unfold rowGo
    rw [textS_put' s _ long h1.1 h1.2, if_neg (by simp), bytes_back, rowGo_put long ss _ r (fun t ht => h t (List.mem_cons_of_mem _ ht)), List.append_assoc]
    rfl
theorem rowS_put (ss : List ByteArray) (r : List UInt8) (most long : Int) (hn : ss.length ≤ 65535) (hm : (ss.length : Int) ≤ most) (h : ∀ s ∈ ss, s.size ≤ 65535 ∧ (s.size : Int) ≤ long) : rowS ⟨rowB ss ++ r, 0⟩ most long = (⟨r, 0⟩, ss) := by
  unfold rowS rowB
  rw [List.append_assoc, lengthS_put _ _ _ hn hm, rowGo_put long ss [] r h, List.nil_append]
theorem rawS_put (l r : List UInt8) (n : Int) (hn : n = l.length) : rawS ⟨l ++ r, 0⟩ n = (⟨r, 0⟩, l) := by
  unfold rawS
  rw [show (max n 0).toNat = l.length by omega, takeS_put]

/-- The parts of an item, as they are written one behind the other. -/
def parts (kd x : Nat) (is : Bool) (s : ByteArray) (ls : List ByteArray) : List (List UInt8) :=
  [le kd 1, le x 2, le x 4, le x 8, le is.toNat 1, textB s, rowB ls, s.data.toList]
/-- What is left of them behind so many. -/
def left (kd x : Nat) (is : Bool) (s : ByteArray) (ls : List ByteArray) (m : Nat) (r : List UInt8) : List UInt8 := ((parts kd x is s ls).drop m).flatten ++ r
def It.back (t : It) : List UInt8 := (parts t.kind.toNat t.x.toNat t.is t.s t.ls).flatten
def backB (its : List It) : List UInt8 := its.flatMap It.back

theorem It.back_length (t : It) (h : itOk t = true) : t.back.length ≤ 1000 := by
  simp only [itOk, Bool.and_eq_true, decide_eq_true_eq, List.all_eq_true] at h
  obtain ⟨⟨h1, h2⟩, h3⟩ := h
  have h6 : (textsB t.ls).length ≤ 52 * t.ls.length := by
    have : ∀ l : List ByteArray, (∀ s ∈ l, s.size ≤ 50) → (textsB l).length ≤ 52 * l.length := by
      intro l
      induction l with
      | nil => intro _; simp [textsB]
      | cons s l ih =>
        intro hh
        have h4 := ih (fun x hx => hh x (List.mem_cons_of_mem _ hx))
        have h5 := hh s (List.mem_cons_self ..)
        have e : textsB (s :: l) = textB s ++ textsB l := rfl
        rw [e, List.length_append, textB_length, List.length_cons]
        omega
    exact this t.ls h3
  simp only [It.back, parts, List.flatten_cons, List.flatten_nil, List.length_append, List.length_nil, le_length, textB_length, rowB, Go.Proofs.Ytgipafdfmghogaa.bytes_length]
  omega
theorem backB_length (its : List It) (h : its.all itOk = true) : (backB its).length ≤ 1000 * its.length := by
  induction its with
  | nil => simp [backB]
  | cons t its ih =>
    simp only [List.all_cons, Bool.and_eq_true] at h
    have h1 := ih h.2
    have h2 := t.back_length h.1
    have e : backB (t :: its) = t.back ++ backB its := rfl
    rw [e, List.length_append, List.length_cons]
    omega
theorem backB_snoc {its : List It} {k : Nat} {t : It} (h : its[k]? = some t) : backB (its.take (k + 1)) = backB (its.take k) ++ t.back := by
  obtain ⟨hl, he⟩ := List.getElem?_eq_some_iff.1 h
  unfold backB
  rw [List.take_succ_eq_append_getElem hl, List.flatMap_append, List.flatMap_singleton, he]
theorem backB_cons {its : List It} {k : Nat} {t : It} (h : its[k]? = some t) : backB (its.drop k) = t.back ++ backB (its.drop (k + 1)) := by
  obtain ⟨hl, he⟩ := List.getElem?_eq_some_iff.1 h
  unfold backB
  rw [List.drop_eq_getElem_cons hl, List.flatMap_cons, he]

/-- '[]byte(s)': its block bears the run-time's mark, so it is no Writer's row. -/
def Frz (W : World) (u : Value) (l : List UInt8) : Prop := Rd W u l ∧ ∃ g c, u = .slice (some ⟨g, 0, none⟩) l.length c ∧ ∃ cur fr, W.heap[g]? = some (.cells cur 5 fr) ∧ fr ≠ (0, 0)
theorem Frz.keep {W W' : World} {u v : Value} {l bs : List UInt8} {B : Nat} (h : Frz W u l) (hw : Wtr W B v bs) (ht : Turns (fun i => i = B ∨ v.ownBlock = some i) W W') : Frz W' u l := by
  obtain ⟨h1, g, c, hu, cur, fr, hg, hf⟩ := h
  have hn : ¬ (g = B ∨ v.ownBlock = some g) := by
    rintro (he | he)
    · subst he
      have := hw.1.symm.trans hg
      simp at this
    · rcases hw.2.2 with ⟨hv, _⟩ | ⟨g', cap', cur', hv, _, hg', _⟩
      · rw [hv] at he; simp [Value.ownBlock] at he
      · rw [hv] at he
        have : g' = g := by simpa [Value.ownBlock] using he
        subst this
        have := hg'.symm.trans hg
        simp at this
        exact hf this.2.symm
  refine ⟨h1.turns ht (fun k hk => ?_), g, c, hu, cur, fr, (ht.block g (Array.getElem?_eq_some_iff.1 hg).1 hn).trans hg, hf⟩
  rw [hu] at hk
  have : g = k := by simpa [Value.ownBlock] using hk
  rw [← this]
  exact hn
theorem Frz.still {W W' : World} {u : Value} {l : List UInt8} (h : Frz W u l) (ht : Turns (fun _ => False) W W') : Frz W' u l := by
  obtain ⟨h1, g, c, hu, cur, fr, hg, hf⟩ := h
  exact ⟨h1.still ht, g, c, hu, cur, fr, (ht.block g (Array.getElem?_eq_some_iff.1 hg).1 (fun f => f)).trans hg, hf⟩
theorem conv_frz (w : World) (s : ByteArray) : ∃ u w1, (convert 9 30 (.string s)).run Try.prog w = .ok u w1 ∧ Frz w1 u s.data.toList ∧ Turns (fun _ => False) w w1 := by
  refine ⟨_, _, run_bytes_of_string (P := Try.prog) w 9 30 5 s Try.underlying9 Try.underlying30 Try.underlying5, ⟨rd_bytes w.drew s _ _ _, w.heap.size, _, by rw [bytes_length], _, _, heap_alloc_new w.drew _, by simp⟩, (Turns.refl _ w).drew.alloc _⟩
theorem two_mod (B : Nat) (v : Value) (bs : List UInt8) (x : Nat) (w : World) (h : Wtr w B v bs) (hroom : bs.length + 8 ≤ 1099511627776) :
    Calls Try.prog 21 #[.pointer (some ⟨B, 0, none⟩), .int .u16 ((x % 65536 : Nat) : Int)] w (Wrote w B v (bs ++ le x 2)) := by
  have := two_calls B v bs (x % 65536) w h (by omega) hroom
  rwa [show x % 65536 = x % 256 ^ 2 from rfl, le_mod 2 x] at this
theorem four_mod (B : Nat) (v : Value) (bs : List UInt8) (x : Nat) (w : World) (h : Wtr w B v bs) (hroom : bs.length + 8 ≤ 1099511627776) :
    Calls Try.prog 22 #[.pointer (some ⟨B, 0, none⟩), .int .u32 ((x % 4294967296 : Nat) : Int)] w (Wrote w B v (bs ++ le x 4)) := by
  have := four_calls B v bs (x % 4294967296) w h (by omega) hroom
  rwa [show x % 4294967296 = x % 256 ^ 4 from rfl, le_mod 4 x] at this
theorem text_all (B : Nat) (v : Value) (bs : List UInt8) (s : ByteArray) (w : World) (h : Wtr w B v bs) (hs : s.size ≤ 65535) (hroom : bs.length + 65545 ≤ 1099511627776) :
    Calls Try.prog 13 #[.pointer (some ⟨B, 0, none⟩), .string s] w (Wrote w B v (bs ++ textB s)) := text_calls B v bs s w h hs hroom

/-- What is left is the next part and the rest. -/
theorem left_next {kd x : Nat} {is : Bool} {s : ByteArray} {ls : List ByteArray} {m : Nat} {p r : List UInt8} (h : (parts kd x is s ls)[m]? = some p) : left kd x is s ls m r = p ++ left kd x is s ls (m + 1) r := by
  obtain ⟨hl, he⟩ := List.getElem?_eq_some_iff.1 h
  unfold left
  rw [List.drop_eq_getElem_cons hl, List.flatten_cons, he, List.append_assoc]

section
variable {kd x : Nat} {is : Bool} {s : ByteArray} {ls : List ByteArray} {r : List UInt8} {R : Nat} {W : World}
theorem back1 (h : Rdr W R ⟨left kd x is s ls 0 r, 0⟩) (hl : (left kd x is s ls 0 r).length ≤ 1099511627776) (hk : kd < 256) :
    Calls Try.prog 26 #[.pointer (some ⟨R, 0, none⟩)] W (Numb .u8 W R ⟨left kd x is s ls 1 r, 0⟩ kd) := by
  have := rbyte_calls R _ W h hl
  rw [left_next (p := le kd 1) rfl, numS_put, Nat.mod_eq_of_lt (by simpa using hk)] at this
  exact this
theorem back2 (h : Rdr W R ⟨left kd x is s ls 1 r, 0⟩) (hl : (left kd x is s ls 1 r).length ≤ 1099511627776) :
    Calls Try.prog 27 #[.pointer (some ⟨R, 0, none⟩)] W (Numb .u16 W R ⟨left kd x is s ls 2 r, 0⟩ ((x % 65536 : Nat) : Int)) := by
  have := rtwo_calls R _ W h hl
  rw [left_next (p := le x 2) rfl, numS_put] at this
  exact this
theorem back3 (h : Rdr W R ⟨left kd x is s ls 2 r, 0⟩) (hl : (left kd x is s ls 2 r).length ≤ 1099511627776) :
    Calls Try.prog 28 #[.pointer (some ⟨R, 0, none⟩)] W (Numb .u32 W R ⟨left kd x is s ls 3 r, 0⟩ ((x % 4294967296 : Nat) : Int)) := by
  have := rfour_calls R _ W h hl
  rw [left_next (p := le x 4) rfl, numS_put] at this
  exact this
theorem back4 (h : Rdr W R ⟨left kd x is s ls 3 r, 0⟩) (hl : (left kd x is s ls 3 r).length ≤ 1099511627776) (hx : x < 18446744073709551616) :
    Calls Try.prog 29 #[.pointer (some ⟨R, 0, none⟩)] W (Numb .u64 W R ⟨left kd x is s ls 4 r, 0⟩ x) := by
  have := reight_calls R _ W h hl
  rw [left_next (p := le x 8) rfl, numS_put, Nat.mod_eq_of_lt (by simpa using hx)] at this
  exact this
theorem back5 (h : Rdr W R ⟨left kd x is s ls 4 r, 0⟩) (hl : (left kd x is s ls 4 r).length ≤ 1099511627776) :
    Calls Try.prog 30 #[.pointer (some ⟨R, 0, none⟩)] W (Truly W R ⟨left kd x is s ls 5 r, 0⟩ is) := by
  have := rtruth_calls R _ W h hl
  rw [left_next (p := le is.toNat 1) rfl, truthS_put] at this
  exact this
theorem back6 (h : Rdr W R ⟨left kd x is s ls 5 r, 0⟩) (hl : (left kd x is s ls 5 r).length ≤ 1099511627776) (hs : s.size ≤ 100) :
    Calls Try.prog 31 #[.pointer (some ⟨R, 0, none⟩), .int .i64 100] W fun e w' => e = .returned (.string s) ∧ Did W R ⟨left kd x is s ls 6 r, 0⟩ w' := by
  have := rtext_calls R _ 100 W h hl
  rw [left_next (p := textB s) rfl, textS_put' s _ 100 (by omega) (by omega)] at this
  exact this.mono fun e w' ⟨he, hd⟩ => ⟨by rw [he, bytes_back], hd⟩
theorem back7 (h : Rdr W R ⟨left kd x is s ls 6 r, 0⟩) (hl : (left kd x is s ls 6 r).length ≤ 1099511627776) (hn : ls.length ≤ 10) (hs : ∀ t ∈ ls, t.size ≤ 50) :
    Calls Try.prog 32 #[.pointer (some ⟨R, 0, none⟩), .int .i64 10, .int .i64 50] W (Rows' W R ⟨left kd x is s ls 7 r, 0⟩ ls) := by
  have := rrow_calls R _ 10 50 W h hl
  rw [left_next (p := rowB ls) rfl, rowS_put ls _ 10 50 (by omega) (by omega) (fun t ht => by have := hs t ht; omega)] at this
  exact this
theorem back8 (h : Rdr W R ⟨left kd x is s ls 7 r, 0⟩) (hl : (left kd x is s ls 7 r).length ≤ 1099511627776) (hs : s.size ≤ 100) :
    Calls Try.prog 33 #[.pointer (some ⟨R, 0, none⟩), .int .i64 s.size] W (Raws W R ⟨left kd x is s ls 8 r, 0⟩ s.data.toList) := by
  have := rraw_calls R _ s.size W h hl (by omega)
  rw [left_next (p := s.data.toList) rfl, rawS_put s.data.toList _ _ (by rw [bytes_length])] at this
  exact this
theorem left_length (m : Nat) : (left kd x is s ls m r).length ≤ (left kd x is s ls 0 r).length := by
  unfold left
  rw [List.length_append, List.length_append, List.drop_zero]
  have h : (parts kd x is s ls).flatten = ((parts kd x is s ls).take m).flatten ++ ((parts kd x is s ls).drop m).flatten := by rw [← List.flatten_append, List.take_append_drop]
  rw [h, List.length_append]
  omega
end
end Go.Proofs.Ytgipafdfmghogaa
