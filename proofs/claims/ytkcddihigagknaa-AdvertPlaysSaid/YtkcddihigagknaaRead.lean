/-
  What the Reader's Fail, next, number, length, Text, Raw, Left, Err and End do, call by call: the document's reader, step by step; nothing but the Reader itself turns.
  Conditions: at most 2^40 bytes.
-/
import Derived.Test.YtkcddihigagknaaWriteC
import Derived.Test.YtkcddihigagknaaPlain
namespace Go.Proofs.Ytkcddihigagknaa
open Go.RowKit

/-- What a Reader holds: the bytes that are left, and the error's number. -/
structure St where
  bs : List UInt8
  e : Int

/-- A block of bytes. -/
def ByteBlk (w : World) (g : Nat) : Prop := ∃ cur fr, w.heap[g]? = some (.cells cur 5 fr)
theorem ByteBlk.keep {S : Nat → Prop} {w w' : World} {g : Nat} (h : ByteBlk w g) (ht : Turns S w w') (hn : ¬ S g) : ByteBlk w' g := by
  obtain ⟨cur, fr, h⟩ := h
  exact ⟨cur, fr, (ht.block g (Array.getElem?_eq_some_iff.1 h).1 hn).trans h⟩
/-- The slice v reads as the bytes l, apart from block B. -/
def RdR (w : World) (B : Nat) (v : Value) (l : List UInt8) : Prop :=
  (v = .slice none 0 0 ∧ l = []) ∨
  ∃ g off c, v = .slice (some ⟨g, off, none⟩) l.length c ∧ l.length ≤ c ∧ c ≤ 9223372036854775807 ∧ g < w.heap.size ∧ g ≠ B ∧ ByteBlk w g ∧ ∀ j (hj : j < l.length), w.cell? ⟨g, off + j, none⟩ = some (.int .u8 (l[j].toNat : Int))

/-- A Reader at block B. -/
def Rdr (w : World) (B : Nat) (st : St) : Prop := ∃ v, w.heap[B]? = some (.cells #[v, .int .i64 st.e] 62 (0, 0)) ∧ RdR w B v st.bs
/-- What has become of it. -/
def Did (w : World) (B : Nat) (st : St) (w' : World) : Prop := Rdr w' B st ∧ Turns (fun i => i = B) w w'

theorem RdR.turns {w w' : World} {B : Nat} {v : Value} {l : List UInt8} (h : RdR w B v l) (ht : Turns (fun i => i = B) w w') : RdR w' B v l := by
  rcases h with h | ⟨g, off, c, rfl, h1, h2, h3, h4, hbk, h5⟩
  · exact .inl h
  · exact .inr ⟨g, off, c, rfl, h1, h2, Nat.lt_of_lt_of_le h3 ht.size, h4, hbk.keep ht h4, fun j hj => (ht.cell (p := ⟨g, off + j, none⟩) h3 h4).trans (h5 j hj)⟩
theorem RdR.rd {w : World} {B : Nat} {v : Value} {l : List UInt8} (h : RdR w B v l) : Rd w v l := by
  rcases h with ⟨rfl, rfl⟩ | ⟨g, off, c, rfl, h1, h2, h3, h4, hbk, h5⟩
  · exact ⟨none, 0, rfl, fun h => absurd rfl h⟩
  · refine ⟨_, c, rfl, fun _ => ⟨_, rfl, h3, fun j u hu => ?_⟩⟩
    have hj : j < l.length := by have := (List.getElem?_eq_some_iff.1 hu).1; rwa [cellsOf_length] at this
    rw [Addr.add_lit, h5 j hj, ← hu]
    simp [cellsOf, List.getElem?_eq_getElem hj]
theorem RdR.nil (w : World) (B : Nat) : RdR w B (.slice none 0 0) [] := .inl ⟨rfl, rfl⟩

theorem Rdr.lt {w : World} {B : Nat} {st : St} (h : Rdr w B st) : B < w.heap.size := by
  obtain ⟨v, h, _⟩ := h
  exact (Array.getElem?_eq_some_iff.1 h).1
theorem Rdr.kept {S : Nat → Prop} {w w' : World} {B : Nat} {st : St} (h : Rdr w B st) (ht : Turns S w w') (hn : ∀ k, ¬ S k) : Rdr w' B st := by
  obtain ⟨v, h1, h2⟩ := h
  refine ⟨v, (ht.block B (Array.getElem?_eq_some_iff.1 h1).1 (hn B)).trans h1, ?_⟩
  rcases h2 with h | ⟨g, off, c, rfl, h1, h2, h3, h4, hbk, h5⟩
  · exact .inl h
  · exact .inr ⟨g, off, c, rfl, h1, h2, Nat.lt_of_lt_of_le h3 ht.size, h4, hbk.keep ht (hn _), fun j hj => (ht.cell (p := ⟨g, off + j, none⟩) h3 (hn _)).trans (h5 j hj)⟩
theorem Rdr.still {w w' : World} {B : Nat} {st : St} (h : Rdr w B st) (ht : Turns (fun _ => False) w w') : Rdr w' B st := h.kept ht (fun _ f => f)
theorem Did.refl {w : World} {B : Nat} {st : St} (h : Rdr w B st) : Did w B st w := ⟨h, Turns.refl _ _⟩
theorem Did.next {w w1 w2 : World} {B : Nat} {st1 st2 : St} (h : Did w B st1 w1) (k : Did w1 B st2 w2) : Did w B st2 w2 := ⟨k.1, h.2.next k.2 (fun _ _ h => h)⟩

/-- The field 'left' is stored. -/
theorem rdr_set0 {w : World} {B : Nat} {v v' : Value} {e : Int} {l : List UInt8} (h : w.heap[B]? = some (.cells #[v, .int .i64 e] 62 (0, 0))) (hr : RdR w B v' l) : Did w B ⟨l, e⟩ (w.setCell ⟨B, 0, none⟩ v') := by
  have ht : Turns (fun i => i = B) w (w.setCell ⟨B, 0, none⟩ v') := (Turns.refl (fun i => i = B) w).setCell (p := ⟨B, 0, none⟩) (fun _ => rfl) v'
  exact ⟨⟨v', by simp [World.setCell, Array.getElem?_modify, h], hr.turns ht⟩, ht⟩
theorem rdr_set1 {w : World} {B : Nat} {v : Value} {e e' : Int} (h : w.heap[B]? = some (.cells #[v, .int .i64 e] 62 (0, 0))) : Did w B ⟨[], e'⟩ ((w.setCell ⟨B, 1, none⟩ (.int .i64 e')).setCell ⟨B, 0, none⟩ (.slice none 0 0)) := by
  have ht : Turns (fun i => i = B) w (w.setCell ⟨B, 1, none⟩ (.int .i64 e')) := (Turns.refl (fun i => i = B) w).setCell (p := ⟨B, 1, none⟩) (fun _ => rfl) _
  have h2 : (w.setCell ⟨B, 1, none⟩ (.int .i64 e')).heap[B]? = some (.cells #[v, .int .i64 e'] 62 (0, 0)) := by simp [World.setCell, Array.getElem?_modify, h]
  have h3 := rdr_set0 h2 (RdR.nil _ B)
  exact ⟨h3.1, ht.next h3.2 (fun _ _ h => h)⟩

def failS (st : St) (e : Int) : St := if e = 0 ∨ st.e ≠ 0 then st else ⟨[], e⟩
/-- So many bytes, or none and an error. -/
def takeS (st : St) (n : Nat) : St × List UInt8 := if st.bs.length < n then (failS st 2, []) else (⟨st.bs.drop n, st.e⟩, st.bs.take n)

/-- No result. -/
def Void (w : World) (B : Nat) (st : St) (e : Ending) (w' : World) : Prop := e = .returned (.tuple #[]) ∧ Did w B st w'

set_option maxRecDepth 100000 in
theorem fail_calls (B : Nat) (st : St) (ei : Int) (w : World) (h : Rdr w B st) :
    Calls Try.prog 30 #[.pointer (some ⟨B, 0, none⟩), .int .i64 ei] w (Void w B (failS st ei)) := by
  have HD := Lib.hid h
  obtain ⟨v, hb, _⟩ := h
  obtain ⟨l, e⟩ := st
  have c1 : w.cell? ⟨B, 1, none⟩ = some (.int .i64 e) := by rw [cell_of_row w B 1 _ _ (0, 0) hb]; rfl
  have c0 : w.cell? ⟨B, 0, none⟩ = some v := by rw [cell_of_row w B 0 _ _ (0, 0) hb]; rfl
  have f1 : ∀ i, w.frozen? ⟨B, i, none⟩ = false := fun i => by simp [World.frozen?, hb]
  have HB := Lib.hid hb
  clear hb
  by_cases h0 : ei = 0
  · have HF : Hid (failS ⟨l, e⟩ ei = ⟨l, e⟩) := by simp [failS, h0, Hid]
    rw [HF.out]
    subst h0
    go_enter Try.func30, Try.ntmps30
    go_wp2
    refine bodyPost_ret (results_none rfl _ _ _) rfl ?_
    exact ⟨rfl, Did.refl HD.out⟩
  · have d0 : (ei == 0) = false := by simpa using h0
    by_cases h1 : e = 0
    · have HF : Hid (failS ⟨l, e⟩ ei = ⟨[], ei⟩) := by simp [failS, h0, h1, Hid]
      rw [HF.out]
      subst h1
      have HS := Lib.hid (rdr_set1 (e' := ei) HB.out)
      go_enter Try.func30, Try.ntmps30
      go_wp2
      go_end0
      exact ⟨rfl, HS.out⟩
    · have HF : Hid (failS ⟨l, e⟩ ei = ⟨l, e⟩) := by simp [failS, h1, Hid]
      rw [HF.out]
      have d1 : (e != 0) = true := by simpa using h1
      go_enter Try.func30, Try.ntmps30
      go_wp2
      refine bodyPost_ret (results_none rfl _ _ _) rfl ?_
      exact ⟨rfl, Did.refl HD.out⟩

/-- Bytes of the Reader's own are handed out. -/
def Took (w : World) (B : Nat) (st : St) (l : List UInt8) (e : Ending) (w' : World) : Prop := ∃ v, e = .returned v ∧ RdR w' B v l ∧ Did w B st w'

theorem RdR.shape {w : World} {B : Nat} {v : Value} {l : List UInt8} (h : RdR w B v l) : ∃ A c, v = .slice A l.length c := by
  rcases h with ⟨rfl, rfl⟩ | ⟨g, off, c, rfl, _⟩
  · exact ⟨none, 0, rfl⟩
  · exact ⟨_, c, rfl⟩
theorem RdR.cut {w : World} {B g off c n : Nat} {l : List UInt8} (h2 : c ≤ 9223372036854775807) (h3 : g < w.heap.size) (h4 : g ≠ B) (hbk : ByteBlk w g)
    (h5 : ∀ j (hj : j < l.length), w.cell? ⟨g, off + j, none⟩ = some (.int .u8 (l[j].toNat : Int))) (hn : n ≤ l.length) (off' c' n' : Nat) (hc : n' ≤ c') (hcc : c' ≤ c) (hn' : n' = l.length - n) (ho : n' = 0 ∨ off' = off + n) :
    RdR w B (.slice (some ⟨g, off', none⟩) n' c') (l.drop n) := by
  refine .inr ⟨g, off', c', by rw [List.length_drop, hn'], by rw [List.length_drop]; omega, by omega, h3, h4, hbk, fun j hj => ?_⟩
  rw [List.length_drop] at hj
  have he : off' = off + n := by omega
  rw [he, Nat.add_assoc, h5 (n + j) (by omega)]
  simp
theorem RdR.head {w : World} {B g off c n : Nat} {l : List UInt8} (h1 : l.length ≤ c) (h2 : c ≤ 9223372036854775807) (h3 : g < w.heap.size) (h4 : g ≠ B) (hbk : ByteBlk w g)
    (h5 : ∀ j (hj : j < l.length), w.cell? ⟨g, off + j, none⟩ = some (.int .u8 (l[j].toNat : Int))) (hn : n ≤ l.length) :
    RdR w B (.slice (some ⟨g, off, none⟩) n c) (l.take n) := by
  have hl : (l.take n).length = n := by rw [List.length_take]; omega
  refine .inr ⟨g, off, c, by rw [hl], by omega, h2, h3, h4, hbk, fun j hj => ?_⟩
  rw [h5 j (by omega)]
  simp

set_option maxRecDepth 100000 in
theorem next_calls (B : Nat) (st : St) (n : Nat) (w : World) (h : Rdr w B st) (hl : st.bs.length ≤ 1099511627776) (hn : n ≤ 9223372036854775807) :
    Calls Try.prog 38 #[.pointer (some ⟨B, 0, none⟩), .int .i64 n] w (Took w B (takeS st n).1 (takeS st n).2) := by
  have HD := Lib.hid h
  obtain ⟨v, hb, hr⟩ := h
  have c1 : w.cell? ⟨B, 1, none⟩ = some (.int .i64 st.e) := by rw [cell_of_row w B 1 _ _ (0, 0) hb]; rfl
  have c0 : w.cell? ⟨B, 0, none⟩ = some v := by rw [cell_of_row w B 0 _ _ (0, 0) hb]; rfl
  have f1 : ∀ i, w.frozen? ⟨B, i, none⟩ = false := fun i => by simp [World.frozen?, hb]
  have HB := Lib.hid hb
  clear hb
  by_cases hs : st.bs.length < n
  · have HT : Hid (takeS st n = (failS st 2, [])) := by simp [takeS, hs, Hid]
    rw [HT.out]
    obtain ⟨A, c, rfl⟩ := hr.shape
    clear hr
    generalize st.bs.length = m at *
    go_enter Try.func38, Try.ntmps38
    go_wp2_with fail
    with_reducible refine (fail_calls B st 2 w HD.out).mono ?_
    rintro e w1 ⟨rfl, hd⟩
    have HX := Lib.hid hd
    clear hd
    go_wp2
    go_ret
    exact ⟨_, rfl, RdR.nil _ _, HX.out⟩
  · have HT : Hid (takeS st n = (⟨st.bs.drop n, st.e⟩, st.bs.take n)) := by simp [takeS, hs, Hid]
    rw [HT.out]
    rcases hr with ⟨rfl, hbs⟩ | ⟨g, off, c, rfl, h1, h2, h3, h4, hbk, h5⟩
    · have hn0 : n = 0 := by rw [hbs] at hs; simp at hs; exact hs
      subst hn0
      have HS := Lib.hid (rdr_set0 HB.out (RdR.nil w B))
      have HE : Hid (st.bs = []) := hbs
      clear hbs hs hl
      go_enter Try.func38, Try.ntmps38
      go_wp2
      go_ret
      rw [HE.out]
      exact ⟨_, rfl, RdR.nil _ _, HS.out⟩
    · have hle : n ≤ st.bs.length := by omega
      have HH := Lib.hid (RdR.head h1 h2 h3 h4 hbk h5 hle)
      by_cases hcn : c = n
      · subst hcn
        have hc0 : RdR w B (.slice (some ⟨g, off, none⟩) 0 0) (st.bs.drop c) := RdR.cut h2 h3 h4 hbk h5 hle off 0 0 (by omega) (by omega) (by omega) (by omega)
        have HS := Lib.hid (rdr_set0 HB.out hc0)
        clear hc0 h5 hs hbk
        generalize st.bs.length = m at *
        go_enter Try.func38, Try.ntmps38
        go_wp2
        go_ret
        exact ⟨_, rfl, HH.out.turns HS.out.2, HS.out⟩
      · have hc0 : RdR w B (.slice (some ⟨g, off + n, none⟩) (st.bs.length - n) (c - n)) (st.bs.drop n) := RdR.cut h2 h3 h4 hbk h5 hle (off + n) (c - n) _ (by omega) (by omega) rfl (by omega)
        have HS := Lib.hid (rdr_set0 HB.out hc0)
        clear hc0 h5 hs hbk
        generalize st.bs.length = m at *
        go_enter Try.func38, Try.ntmps38
        go_wp2
        go_ret
        exact ⟨_, rfl, HH.out.turns HS.out.2, HS.out⟩
theorem val_lt : ∀ l : List UInt8, val l < 256 ^ l.length
  | [] => by simp [val]
  | b :: l => by
    have h1 := val_lt l
    have h2 : b.toNat < 256 := b.toNat_lt
    rw [val, List.length_cons, Nat.pow_succ]
    omega
theorem val_snoc (l : List UInt8) (b : UInt8) : val (l ++ [b]) = val l + 256 ^ l.length * b.toNat := by
  induction l with
  | nil => simp [val]
  | cons c l ih =>
    simp only [List.cons_append, val, ih, List.length_cons, Nat.pow_succ]
    rw [Nat.mul_add, Nat.add_assoc, ← Nat.mul_assoc, Nat.mul_comm 256 (256 ^ l.length)]
theorem pow_le8 (k : Nat) (h : k ≤ 8) : 256 ^ k ≤ 18446744073709551616 := by
  have : 256 ^ k ≤ 256 ^ 8 := Nat.pow_le_pow_right (by omega) h
  simpa using this
theorem or_step (x c k : Nat) (hx : x < 256 ^ k) (hc : c < 256) (hk : k < 8) :
    bits .or .u64 (x : Int) (IntKind.u64.wrap ((c : Int) * 2 ^ (8 * k))) = ((x + 256 ^ k * c : Nat) : Int) := by
  have h1 : 256 ^ k * c < 256 ^ (k + 1) := by rw [Nat.pow_succ]; exact Nat.mul_lt_mul_of_pos_left hc (Nat.pow_pos (by omega))
  have h2 := pow_le8 (k + 1) (by omega)
  have h3 := pow_le8 k (by omega)
  have e1 : (c : Int) * 2 ^ (8 * k) = ((256 ^ k * c : Nat) : Int) := by
    rw [Int.natCast_mul, Int.natCast_pow, Int.mul_comm, Int.pow_mul]
    rfl
  rw [e1, show IntKind.u64.wrap ((256 ^ k * c : Nat) : Int) = ((256 ^ k * c : Nat) : Int) by rw [IntKind.wrap_u64]; omega, u64_or_nat _ _ (by omega) (by omega)]
  have e2 : 256 ^ k = 2 ^ (8 * k) := by rw [Nat.pow_mul]
  rw [e2] at hx ⊢
  rw [Nat.add_comm, Nat.two_pow_add_eq_or_of_lt hx, Nat.or_comm]

def numS (st : St) (size : Nat) : St × Nat := ((takeS st size).1, val (takeS st size).2)
/-- A number is told. -/
def Numb (k : IntKind) (w : World) (B : Nat) (st : St) (x : Int) (e : Ending) (w' : World) : Prop := e = .returned (.int k x) ∧ Did w B st w'

theorem takeS_length (st : St) (n : Nat) : (takeS st n).2.length ≤ n := by
  unfold takeS
  split
  · simp
  · simp only [List.length_take]; omega
theorem numS_lt (st : St) (n : Nat) : (numS st n).2 < 256 ^ n :=
  Nat.lt_of_lt_of_le (val_lt _) (Nat.pow_le_pow_right (by omega) (takeS_length st n))

theorem RdR.at_ {w : World} {B : Nat} {v : Value} {l : List UInt8} (h : RdR w B v l) (k : Nat) (hk : k < l.length) : ∃ g off c, v = .slice (some ⟨g, off, none⟩) l.length c ∧ w.cell? ⟨g, off + k, none⟩ = some (.int .u8 (l[k].toNat : Int)) := by
  rcases h with ⟨rfl, rfl⟩ | ⟨g, off, c, rfl, _, _, _, _, _, h5⟩
  · simp at hk
  · exact ⟨g, off, c, rfl, h5 k hk⟩

set_option maxRecDepth 100000 in
set_option maxHeartbeats 1000000 in
theorem rnumber_calls (B : Nat) (st : St) (size : Nat) (w : World) (h : Rdr w B st) (hl : st.bs.length ≤ 1099511627776) (hn : size ≤ 8) :
    Calls Try.prog 35 #[.pointer (some ⟨B, 0, none⟩), .int .i64 size] w (Numb .u64 w B (numS st size).1 (numS st size).2) := by
  have hlen := takeS_length st size
  have HN := Lib.hid (next_calls B st size w h hl (by omega))
  obtain ⟨l, hll⟩ : ∃ l, l = (takeS st size).2 := ⟨_, rfl⟩
  have hl2 : l.length ≤ 8 := by rw [hll]; omega
  have HV : Hid ((numS st size).2 = val l) := by rw [hll]; rfl
  rw [HV.out]
  rw [← hll] at HN
  clear hll hlen
  go_enter Try.func35, Try.ntmps35
  go_wp2_with fail
  with_reducible refine HN.out.mono ?_
  rintro e w1 ⟨v, rfl, hr, hd⟩
  have HR := Lib.hid hr
  have HD := Lib.hid hd
  obtain ⟨A, c, rfl⟩ := hr.shape
  clear hr hd HN
  go_wp2
  go_loop [5, 12] (fun x i => ∃ k : Nat, k ≤ l.length ∧ i = .int .i64 k ∧ x = .int .u64 (val (l.take k))) (fun _ i => l.length - (intOf i).toNat)
  case atStart => exact ⟨0, Nat.zero_le _, rfl, by simp [val]⟩
  case round =>
    obtain ⟨k, hk, rfl, rfl⟩ := hrel
    by_cases hlt : k < l.length
    · obtain ⟨g, off, c', hv, hcell⟩ := HR.out.at_ k hlt
      have hvs := val_snoc (l.take k) l[k]
      rw [← List.take_succ_eq_append_getElem hlt, List.length_take, Nat.min_eq_left hk] at hvs
      have hxl : val (l.take k) < 256 ^ k := by have := val_lt (l.take k); rwa [List.length_take, Nat.min_eq_left hk] at this
      have hor := or_step (val (l.take k)) l[k].toNat k hxl l[k].toNat_lt (by omega)
      rw [← hvs] at hor
      have hmul : IntKind.i64.wrap (8 * (k : Int)) = 8 * (k : Int) := IntWalk.i64_in _ (by omega)
      injection hv with hA _ hc
      subst hA
      subst hc
      have hcb : (l[k].toNat : Int) < 256 := by have := l[k].toNat_lt; omega
      obtain ⟨y, hy⟩ : ∃ y, y = val (l.take (k + 1)) := ⟨_, rfl⟩
      rw [← hy] at hor
      have HY := Lib.hid hy
      clear hvs hxl hy
      generalize l[k] = b at hcell hor hcb
      go_wp2
      go_round
      case rel => exact ⟨k + 1, by omega, by go_num, by rw [← HY.out]⟩
      case measure => simp [intOf]; omega
    · obtain rfl : k = l.length := by omega
      have HE : Hid (val (l.take l.length) = val l) := by rw [List.take_length]; exact rfl
      rw [HE.out]
      go_wp2
      go_ret
      exact ⟨rfl, HD.out⟩
end Go.Proofs.Ytkcddihigagknaa
