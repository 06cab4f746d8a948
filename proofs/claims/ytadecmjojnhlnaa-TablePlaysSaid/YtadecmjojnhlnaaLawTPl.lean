/-
  TablePlays walked: behind any requests each answer, each verdict, and all that is kept, are the document's.
  Conditions: none.
-/
import Derived.Test.YtadecmjojnhlnaaTabR
import Derived.Test.YtadecmjojnhlnaaTabS
namespace Go.Proofs.Ytadecmjojnhlnaa
open Go.RowKit

/-- The code's table beside the document's. -/
structure St15 (w : World) (D : Nat) (W : World) (P B : Nat) (T U : Nat → R15) : Prop where
  own : Own15 W P B T
  doc : Tab15 W D 46 U
  rd : ∀ i, i < 8 → RdS w (U i).A (U i).ss
  eq : ∀ i, i < 8 → (T i).p = (U i).p
  far : D < P
  ne : D ≠ B
  lt : w.heap.size ≤ B
theorem St15.later {w W W' : World} {D P B : Nat} {T U : Nat → R15} (h : St15 w D W P B T U) (hb : Below W.heap.size W W') : St15 w D W' P B T U := ⟨h.own.later hb, h.doc.later hb, h.rd, h.eq, h.far, h.ne, h.lt⟩
theorem J15_eq {T U : Nat → R15} (h : ∀ i, i < 8 → (T i).p = (U i).p) (c n : Nat) : J15 (T c).n c n = J15 (U c).n c n := by
  by_cases hc : c < 8
  · have : (T c).n = (U c).n := congrArg P15.n (h c hc)
    rw [this]
  · unfold J15
    rw [if_neg (fun h => hc h.1), if_neg (fun h => hc h.1)]
theorem dr15_p (n e : Nat) (A : Option Addr) (q : Nat) (ss : List ByteArray) : (dr15 n e A q ss).p = ⟨n, e, tls14 e ss⟩ := by
  unfold dr15 tls14
  by_cases he : e = 0
  · rw [if_pos he, if_pos (by omega)]; rfl
  · rw [if_neg he, if_neg (by omega)]; rfl
theorem dr15_rd {w : World} {n e : Nat} {A : Option Addr} {q : Nat} {ss : List ByteArray} (h : RdS w A ss) : RdS w (dr15 n e A q ss).A (dr15 n e A q ss).ss := by
  unfold dr15
  by_cases he : e = 0
  · rw [if_pos he]; exact h
  · rw [if_neg he]; exact fun h => absurd rfl h
/-- The document's table behind a request. -/
def puU15 (U : Nat → R15) (c n e : Nat) (A : Option Addr) (q : Nat) (ss : List ByteArray) : Nat → R15 := if J15 (U c).n c n = 3 then setT U c (dr15 n e A q ss) else U
theorem puU15_rd {w : World} {U : Nat → R15} {c n e : Nat} {A : Option Addr} {q : Nat} {ss : List ByteArray} (hU : ∀ i, i < 8 → RdS w (U i).A (U i).ss) (h : RdS w A ss) : ∀ i, i < 8 → RdS w (puU15 U c n e A q ss i).A (puU15 U c n e A q ss i).ss := fun i hi => by
  unfold puU15
  split
  · unfold setT
    split
    · exact dr15_rd h
    · exact hU i hi
  · exact hU i hi
theorem puU15_p {T U : Nat → R15} {c n e : Nat} {A : Option Addr} {q : Nat} {ss : List ByteArray} (h : ∀ i, i < 8 → (T i).p = (U i).p) : ∀ i, i < 8 → putX15 (fun i => (T i).p) c n e ss i = (puU15 U c n e A q ss i).p := fun i hi => by
  have hj := J15_eq h c n
  unfold puU15 putX15
  rw [show ((fun i => (T i).p) c).n = (T c).n from rfl, hj]
  by_cases h3 : J15 (U c).n c n = 3
  · rw [if_pos h3]
    unfold setT
    by_cases e1 : i = c
    · rw [if_pos ⟨e1, h3⟩, if_pos e1, dr15_p]
    · rw [if_neg (fun h => e1 h.1), if_neg e1]
      exact h i hi
  · rw [if_neg (fun h => h3 h.2), if_neg h3]
    exact h i hi
theorem Did15.later {w W W' : World} {P B : Nat} {X : Nat → P15} (h : Did15 w P B X W) (hb : Below W.heap.size W W') : Did15 w P B X W' := by
  obtain ⟨T, h1, h2, h3⟩ := h
  exact ⟨T, h1.later hb, h2.next (Turns.of_below hb _) (fun _ _ hk => hk), h3⟩

/-- A Put whose answer is compared: what is known of the world. -/
def GPc15 (w : World) (P B : Nat) (X : Nat → P15) (L : Nat → Bool) (W : World) : Prop := (L 7 = false ∧ Below w.heap.size w W) ∨ (L 7 = true ∧ Did15 w P B X W)
theorem GPc15.same {w W W' : World} {P B : Nat} {X : Nat → P15} {L : Nat → Bool} (h : GPc15 w P B X L W) (i : Nat) (hi : 7 ≠ i) (hb : Below W.heap.size W W') : GPc15 w P B X (updL L i) W' := by
  unfold GPc15
  rw [show updL L i 7 = L 7 from if_neg hi]
  rcases h with h | h
  · exact .inl ⟨h.1, next14 h.2 hb⟩
  · exact .inr ⟨h.1, h.2.later hb⟩
theorem GPc15.act {w W : World} {P B X0 : Nat} {X : Nat → P15} {L : Nat → Bool} {t : AcT} (h : GPc15 w P B X L W) (ha : ActB15 w X0 t) (hne : X0 ≠ B) : ActB15 W X0 t := by
  rcases h with h | h
  · exact ha.later h.2
  · obtain ⟨_, _, ht, _⟩ := h.2
    exact ha.turns ht hne
def YPc15 (B D : Nat) (t : AcT) (err : Nat) : Nat → Value → World → Prop
  | 0, v, _ => v = .pointer (some ⟨B, 0, none⟩)
  | 1, v, _ => v = .pointer (some ⟨D, 1, none⟩)
  | 2, v, _ => v = .int .u8 t.cl
  | 3, v, _ => v = .pointer (some ⟨D, 2, none⟩)
  | 4, v, _ => v = .int .u64 t.nm
  | 5, v, _ => v = .agg #[.int .u8 t.kd, .int .u8 t.cl, .int .u64 t.nm, .int .u8 t.er, .slice t.A t.ss.length t.c]
  | 6, v, _ => v = .agg #[.int .i64 (t.er % 19 : Nat), .slice t.A t.ss.length t.c]
  | 7, v, _ => v = .int .i64 err
  | 8, v, _ => v = .int .i64 err
  | 9, v, _ => v = .bool false
  | _, _, _ => True
theorem YPc15_any {B D : Nat} {t : AcT} {err : Nat} {W W' : World} (j : Nat) (z : Value) (h : YPc15 B D t err j z W) : YPc15 B D t err j z W' := by
  match j, h with
  | 0, h => exact h
  | 1, h => exact h
  | 2, h => exact h
  | 3, h => exact h
  | 4, h => exact h
  | 5, h => exact h
  | 6, h => exact h
  | 7, h => exact h
  | 8, h => exact h
  | 9, h => exact h
  | _ + 10, _ => trivial
/-- A Put of a copy: what each operation makes. -/
def YPk15 (B D : Nat) (t : AcT) : Nat → Value → World → Prop
  | 0, v, _ => v = .pointer (some ⟨B, 0, none⟩)
  | 1, v, _ => v = .pointer (some ⟨D, 1, none⟩)
  | 2, v, _ => v = .int .u8 t.cl
  | 3, v, _ => v = .agg #[.int .u8 t.kd, .int .u8 t.cl, .int .u64 t.nm, .int .u8 t.er, .slice t.A t.ss.length t.c]
  | 4, v, _ => v = .agg #[.int .i64 (t.er % 19 : Nat), .slice t.A t.ss.length t.c]
  | _, _, _ => True
theorem YPk15_any {B D : Nat} {t : AcT} {W W' : World} (j : Nat) (z : Value) (h : YPk15 B D t j z W) : YPk15 B D t j z W' := by
  match j, h with
  | 0, h => exact h
  | 1, h => exact h
  | 2, h => exact h
  | 3, h => exact h
  | 4, h => exact h
  | _ + 5, _ => trivial
/-- Behind an act: what each operation makes. -/
def YTl15 (B X J : Nat) (t : AcT) (U : Nat → R15) : Nat → Value → Prop
  | 0, v => v = .pointer (some ⟨B, 0, none⟩)
  | 1, v => v = .agg (tabA U)
  | 2, v => v = .bool true
  | 3, v => v = .bool false
  | 4, v => v = .bool false
  | 5, v => v = .pointer (some ⟨B, 0, none⟩)
  | 6, v => v = .pointer (some ⟨X, 1, none⟩)
  | 7, v => v = .int .u8 t.cl
  | 8, v => v = .pointer (some ⟨X, 2, none⟩)
  | 9, v => v = .int .u64 t.nm
  | 10, v => v = .int .i64 J
  | 11, v => v = .agg (tabA U)
  | 12, v => v = .pointer (some ⟨X, 1, none⟩)
  | 13, v => v = .int .u8 t.cl
  | 14, v => v = .pointer (some ⟨X, 2, none⟩)
  | 15, v => v = .int .u64 t.nm
  | 16, v => v = .int .i64 J
  | 17, v => v = .bool false
  | 18, v => v = .bool false
  | _, _ => True
/-- At the end: what each operation makes. -/
def YEn15 (B Y cl nm J q : Nat) (A : Option Addr) (U : Nat → R15) : Nat → Value → Prop
  | 0, v => v = .pointer (some ⟨B, 0, none⟩)
  | 1, v => v = .int .u8 cl
  | 2, v => v = .int .u64 nm
  | 3, v => v = .int .i64 J
  | 4, v => v = .agg (tabA U)
  | 5, v => v = .int .u8 cl
  | 6, v => v = .int .u64 nm
  | 7, v => v = .int .i64 J
  | 8, v => v = .bool true
  | 9, v => v = .bool true
  | 10, v => v = .pointer (some ⟨B, 0, none⟩)
  | 11, v => v = .int .u64 0
  | 12, v => v = .bool true
  | 13, v => v = .bool true
  | 14, v => v = .bool true
  | 15, v => v = .pointer (some ⟨Y, 0, none⟩)
  | 16, v => v = .int .i64 0
  | 17, v => v = .bool true
  | 18, v => v = .bool true
  | 19, v => v = .bool true
  | 20, v => v = .pointer (some ⟨Y, 1, none⟩)
  | 21, v => v = .slice A 0 q
  | 22, v => v = .int .i64 0
  | 23, v => v = .bool true
  | 24, v => v = .bool true
  | 25, v => v = .bool true
  | _, _ => True

set_option maxRecDepth 100000 in
set_option maxHeartbeats 32000000 in
theorem tplays15_walk (A : Option Addr) (c n : Nat) (l : List AcT) (cl nm : Nat) (w : World) (hl : n = l.length) (hn : n ≤ 9223372036854775807) (hr : RdAT w A l) (ho : ∀ t ∈ l, t.Ok w) :
    Calls Try.prog 4 #[.slice A n c, .int .u8 cl, .int .u64 nm] w (Says14 (.bool true) w) := by
  have HV : Hid (∀ W, Calls Try.prog 6 #[] W (Says14 (.bool true) W)) := fun W => lives15_calls W
  have HF : Hid (∀ W, Below w.heap.size w W → Calls Try.prog 7 #[.slice A n c] W (Says14 (.bool (few15 l)) W)) := fun W hb => few15_calls A c n l W hl hn (hr.later hb) (fun t ht => let o := ho t ht; ⟨o.kd, o.cl, o.nm, o.er, o.tx.later hb⟩)
  have HQ : Hid (few15 l = true → n ≤ 40 ∧ ∀ t ∈ l, t.ss.length ≤ 10 ∧ ∀ s ∈ t.ss, s.size ≤ 50) := fun h => ⟨by rw [hl]; exact few15_len h, few15_lit h⟩
  have hz := zeroDoc15_run
  have HR := Lib.hid hr
  have HL := Lib.hid hl
  have HO := Lib.hid ho
  clear hr hl ho
  generalize few15 l = q at *
  go_enter Try.func4, Try.ntmps4
  go_wp2_with fail
  with_reducible refine (HV.out w).mono ?_
  rintro e w1 ⟨rfl, hb⟩
  have HB1 := Lib.hid hb
  clear hb
  go_wp2_with fail
  with_reducible refine (HF.out w1 HB1.out).mono ?_
  rintro e w2 ⟨rfl, hb⟩
  have HB2 := Lib.hid (next14 HB1.out hb)
  clear hb HF HB1
  cases q with
  | false =>
    go_wp2_with fail
    with_reducible refine (HV.out w2).mono ?_
    rintro e w3 ⟨rfl, hb⟩
    have HB3 := Lib.hid (next14 HB2.out hb)
    clear hb
    go_wp2
    go_ret
    exact ⟨rfl, HB3.out⟩
  | true =>
  obtain ⟨hn40, hlit⟩ := HQ.out (by first | rfl | trivial)
  have HLIT := Lib.hid hlit
  clear HQ HV hlit
  go_wp2_with fail
  with_reducible refine (New15_calls w2).mono ?_
  rintro e w3 ⟨rfl, hw⟩
  have HT3 : Hid (Tab15 w3 w2.heap.size 66 (fun _ => zero15)) := by rw [hw]; exact heap_alloc_new w2 _
  have HB3 : Hid (Below w.heap.size w w3) := by rw [hw]; exact alloc14 HB2.out _
  have hB : w.heap.size ≤ w2.heap.size := HB2.out.size
  have hBD : w2.heap.size < w3.heap.size := by rw [hw]; simp
  clear hw HB2
  generalize w2.heap.size = B0 at *
  have HS : Hid (∃ P B T U, B = B0 ∧ St15 w w3.heap.size (w3.alloc (.cells (tabA fun _ => zero15) 46)) P B T U) := by
    have hb : Below w3.heap.size w3 (w3.alloc (.cells (tabA fun _ => zero15) 46)) := alloc14 (Below.refl _ _) _
    refine ⟨w3.heap.size + 1, B0, fun _ => zero15, fun _ => zero15, rfl, own_none15 (HT3.out.later hb) (by omega) (by simp), heap_alloc_new w3 _, fun i _ h => absurd rfl h, fun _ _ => rfl, by omega, by omega, hB⟩
  have HB4 : Hid (Below w.heap.size w (w3.alloc (.cells (tabA fun _ => zero15) 46))) := alloc14 HB3.out _
  have hDl : w3.heap.size < (w3.alloc (.cells (tabA fun _ => zero15) 46)).heap.size := by simp
  go_wp2
  generalize w3.alloc (.cells (tabA fun _ => zero15) 46) = w4 at *
  have hwD : w.heap.size ≤ w3.heap.size := HB3.out.size
  generalize w3.heap.size = D at *
  clear HT3 HB3
  go_loopg [7, 27] n (fun gg s7 s27 wr => ∃ k B : Nat, k ≤ n ∧ n - k ≤ gg ∧ s27 = .int .i64 k ∧ s7 = .pointer (some ⟨B, 0, none⟩) ∧ Hid (Below w.heap.size w wr) ∧ Hid (∃ P T U, St15 w D wr P B T U))
  case atStart =>
    obtain ⟨P, B, T, U, rfl, h⟩ := HS.out
    exact ⟨0, B, Nat.zero_le _, by omega, rfl, rfl, HB4.out, P, T, U, h⟩
  case round =>
    clear HS HB4
    obtain ⟨k, B, hk, hg, rfl, rfl, HW, HT⟩ := hrel
    generalize wr = wo at *
    obtain ⟨P, T, U, hST⟩ := HT.out
    have HST := Lib.hid hST
    have hwB : w.heap.size ≤ B := hST.lt
    have hDP : D < P := hST.far
    have hDB : D ≠ B := hST.ne
    have hPl : P ≤ wo.heap.size := hST.own.le
    have hBP : B < P := hST.own.lt
    clear hST HT
    by_cases hlt : k < n
    case neg =>
      have hltz : ¬ (k : Int) < (n : Int) := by omega
      obtain rfl : k = n := by omega
      have HJ1 : Hid (∀ W, Below wo.heap.size wo W → Calls Try.prog 21 #[.pointer (some ⟨B, 0, none⟩), .int .u8 cl, .int .u64 nm] W (Says14 (.int .i64 (J15 (U cl).n cl nm)) W)) := fun W hW => by
        have := Judge15_calls B T cl nm W (HST.out.own.later hW).at_
        rwa [getT_n15, J15_eq HST.out.eq] at this
      have HJ2 : Hid (∀ W, Calls Try.prog 22 #[.agg (tabA U), .int .u8 cl, .int .u64 nm] W (Says14 (.int .i64 (J15 (U cl).n cl nm)) W)) := fun W => rJudge15_calls U cl nm W
      have HR8 : Hid (∀ W, Below wo.heap.size wo W → Calls Try.prog 13 #[.pointer (some ⟨B, 0, none⟩), .int .u8 8] W fun e w' => ∃ A q, e = .returned (.agg #[.int .i64 0, .slice A 0 q]) ∧ Below W.heap.size W w') := fun W hW => (Reply15_calls (HST.out.own.later hW) 8).mono fun e w' ⟨A, q, h1, _, h3⟩ => ⟨A, q, h1, h3⟩
      have HL8 : Hid (∀ W, Below wo.heap.size wo W → Calls Try.prog 11 #[.pointer (some ⟨B, 0, none⟩), .int .u8 8] W (Says14 (.int .u64 0) W)) := fun W hW => Last15_calls B T 8 W (HST.out.own.later hW).at_
      have HDO : Hid (Tab15 wo D 46 U) := HST.out.doc
      clear HST
      generalize J15 (U cl).n cl nm = J at *
      have j1 : ((J : Int) == J) = true := by simp
      have j2 : (J == J) = true := by simp
      go_wp2_with fail
      with_reducible refine (HR8.out _ (Below.refl _ _)).mono ?_
      rintro e' w5 ⟨A8, q8, rfl, hb5⟩
      have hY : RpAt (w5.alloc (.cells #[.int .i64 0, .slice A8 0 q8] 34)) w5.heap.size 0 (.slice A8 0 q8) := heap_alloc_new w5 _
      have HYY := Lib.hid hY
      have HB6 := Lib.hid (alloc14 hb5 (.cells #[.int .i64 0, .slice A8 0 q8] 34))
      clear hY hb5 HR8
      go_wp2
      generalize w5.alloc (.cells #[.int .i64 0, .slice A8 0 q8] 34) = w6 at *
      generalize w5.heap.size = Y at *
      refine wp_region_inv (by kernel_rfl) (fun W => Below w6.heap.size w6 W) (fun j v _ => YEn15 B Y cl nm J q8 A8 U j v) ?F25 ?hF25 (by kernel_rfl) (by kernel_rfl) (drew14 (Below.refl _ _)) ?step25 ?fin25
      case hF25 =>
        intro x
        simp only [List.map_cons, List.map_nil, putL, Act.put, List.setIfInBounds_toArray, List.set_cons_zero, List.set_cons_succ, Nat.zero_add, Nat.reduceAdd]
        exact rfl
      case step25 =>
        refine ⟨?_, ?_, ?_, ?_, ?_, ?_, ?_, ?_, ?_, ?_, ?_, ?_, ?_, ?_, ?_, ?_, ?_, ?_, ?_, ?_, ?_, ?_, ?_, ?_, ?_, ?_, trivial⟩
        all_goals intro x W hW hdep K hK
        · clear hdep
          go_simp
          exact hK _ _ rfl hW (fun _ _ h => h)
        · clear hdep
          go_simp
          exact hK _ _ rfl hW (fun _ _ h => h)
        · clear hdep
          go_simp
          exact hK _ _ rfl hW (fun _ _ h => h)
        · have h0 : x 0 = _ := hdep 0 rfl
          have h1 : x 1 = _ := hdep 1 rfl
          have h2 : x 2 = _ := hdep 2 rfl
          clear hdep
          simp only [h0, h1, h2] at hK
          go_simp
          refine (HJ1.out W (next14 HB6.out hW)).mono ?_
          rintro e' W' ⟨rfl, hb⟩
          exact hK _ _ rfl (next14 hW hb) (fun _ _ h => h)
        · refine step_load15 rfl 46 (.tmp 8) rfl D rfl 46 U (HDO.out.later (next14 HB6.out hW)) _ Try.underlying46 sizeDoc15 ?_
          exact hK _ _ rfl hW (fun _ _ h => h)
        · clear hdep
          go_simp
          exact hK _ _ rfl hW (fun _ _ h => h)
        · clear hdep
          go_simp
          exact hK _ _ rfl hW (fun _ _ h => h)
        · have h4 : x 4 = _ := hdep 4 rfl
          have h5 : x 5 = _ := hdep 5 rfl
          have h6 : x 6 = _ := hdep 6 rfl
          clear hdep
          simp only [h4, h5, h6] at hK
          go_simp
          refine (HJ2.out W).mono ?_
          rintro e' W' ⟨rfl, hb⟩
          exact hK _ _ rfl (next14 hW hb) (fun _ _ h => h)
        · have h3 : x 3 = _ := hdep 3 rfl
          have h7 : x 7 = _ := hdep 7 rfl
          clear hdep
          simp only [h3, h7] at hK
          go_simp
          exact hK _ _ rfl hW (fun _ _ h => h)
        · have h8 : x 8 = _ := hdep 8 rfl
          clear hdep
          simp only [h8] at hK
          go_simp
          exact hK _ _ rfl hW (fun _ _ h => h)
        · have h9 : x 9 = _ := hdep 9 rfl
          clear hdep
          simp only [h9] at hK
          go_simp
          exact hK _ _ rfl hW (fun _ _ h => h)
        · have h9 : x 9 = _ := hdep 9 rfl
          have h10 : x 10 = _ := hdep 10 rfl
          clear hdep
          simp only [h9, h10] at hK
          go_simp
          refine (HL8.out W (next14 HB6.out hW)).mono ?_
          rintro e' W' ⟨rfl, hb⟩
          exact hK _ _ rfl (next14 hW hb) (fun _ _ h => h)
        · have h9 : x 9 = _ := hdep 9 rfl
          have h11 : x 11 = _ := hdep 11 rfl
          clear hdep
          simp only [h9, h11] at hK
          go_simp
          exact hK _ _ rfl hW (fun _ _ h => h)
        · have h9 : x 9 = _ := hdep 9 rfl
          have h12 : x 12 = _ := hdep 12 rfl
          clear hdep
          simp only [h9, h12] at hK
          go_simp
          exact hK _ _ rfl hW (fun _ _ h => h)
        · have h13 : x 13 = _ := hdep 13 rfl
          clear hdep
          simp only [h13] at hK
          go_simp
          exact hK _ _ rfl hW (fun _ _ h => h)
        · have h14 : x 14 = _ := hdep 14 rfl
          clear hdep
          simp only [h14] at hK
          go_simp
          exact hK _ _ rfl hW (fun _ _ h => h)
        · have h14 : x 14 = _ := hdep 14 rfl
          have h15 : x 15 = _ := hdep 15 rfl
          have y0 := (HYY.out.below hW).c0
          clear hdep
          simp only [h14, h15] at hK
          go_simp
          exact hK _ _ rfl hW (fun _ _ h => h)
        · have h14 : x 14 = _ := hdep 14 rfl
          have h16 : x 16 = _ := hdep 16 rfl
          clear hdep
          simp only [h14, h16] at hK
          go_simp
          exact hK _ _ rfl hW (fun _ _ h => h)
        · have h14 : x 14 = _ := hdep 14 rfl
          have h17 : x 17 = _ := hdep 17 rfl
          clear hdep
          simp only [h14, h17] at hK
          go_simp
          exact hK _ _ rfl hW (fun _ _ h => h)
        · have h18 : x 18 = _ := hdep 18 rfl
          clear hdep
          simp only [h18] at hK
          go_simp
          exact hK _ _ rfl hW (fun _ _ h => h)
        · have h19 : x 19 = _ := hdep 19 rfl
          clear hdep
          simp only [h19] at hK
          go_simp
          exact hK _ _ rfl hW (fun _ _ h => h)
        · have h19 : x 19 = _ := hdep 19 rfl
          have h20 : x 20 = _ := hdep 20 rfl
          have y1 := (HYY.out.below hW).c1
          clear hdep
          simp only [h19, h20] at hK
          go_simp
          exact hK _ _ rfl hW (fun _ _ h => h)
        · have h19 : x 19 = _ := hdep 19 rfl
          have h21 : x 21 = _ := hdep 21 rfl
          clear hdep
          simp only [h19, h21] at hK
          go_simp
          exact hK _ _ rfl hW (fun _ _ h => h)
        · have h19 : x 19 = _ := hdep 19 rfl
          have h22 : x 22 = _ := hdep 22 rfl
          clear hdep
          simp only [h19, h22] at hK
          go_simp
          exact hK _ _ rfl hW (fun _ _ h => h)
        · have h19 : x 19 = _ := hdep 19 rfl
          have h23 : x 23 = _ := hdep 23 rfl
          clear hdep
          simp only [h19, h23] at hK
          go_simp
          exact hK _ _ rfl hW (fun _ _ h => h)
        · have h24 : x 24 = _ := hdep 24 rfl
          clear hdep
          simp only [h24] at hK
          go_simp
          exact hK _ _ rfl hW (fun _ _ h => h)
      case fin25 =>
        intro x W hW hY
        have h25 : x 25 = .bool true := hY 25 (by decide)
        have HWW := Lib.hid (next14 HW.out (next14 HB6.out hW))
        clear hY hW
        rw [h25]
        go_wp2
        go_ret
        exact ⟨rfl, HWW.out⟩
    have hltz : (k : Int) < (n : Int) := by omega
    have hkl : k < l.length := HL.out ▸ hlt
    obtain ⟨b, off, rfl, c0, c1, c2, c3, c4⟩ := (HR.out.later HW.out).at15 k hkl
    have HOK := Lib.hid (HO.out _ (List.getElem_mem hkl))
    have hll := HLIT.out _ (List.getElem_mem hkl)
    have HLL := Lib.hid hll
    clear hll
    generalize l[k] = t at *
    have hA : ActB15 (wo.alloc (.cells #[.int .u8 t.kd, .int .u8 t.cl, .int .u64 t.nm, .int .u8 t.er, .slice t.A t.ss.length t.c] 30)) wo.heap.size t := heap_alloc_new wo _
    have hbA := alloc14 (Below.refl _ wo) (.cells #[.int .u8 t.kd, .int .u8 t.cl, .int .u64 t.nm, .int .u8 t.er, .slice t.A t.ss.length t.c] 30)
    have HS5 := Lib.hid (HST.out.later hbA)
    have HW5 := Lib.hid (next14 HW.out hbA)
    have HBA := Lib.hid hbA
    have HA5 := Lib.hid hA
    obtain ⟨a0, a1, a2, a3, a4⟩ := hA.cells
    have hXl : wo.heap.size < (wo.alloc (.cells #[.int .u8 t.kd, .int .u8 t.cl, .int .u64 t.nm, .int .u8 t.er, .slice t.A t.ss.length t.c] 30)).heap.size := by simp
    have HRE : Hid (∀ W, Calls Try.prog 10 #[.agg #[.int .u8 t.kd, .int .u8 t.cl, .int .u64 t.nm, .int .u8 t.er, .slice t.A t.ss.length t.c]] W (Says14 (.agg #[.int .i64 (t.er % 19 : Nat), .slice t.A t.ss.length t.c]) W)) := fun W => reply15_calls t W HOK.out.er
    clear hbA hA
    have h3c : t.kd % 3 = 0 ∨ t.kd % 3 = 1 ∨ t.kd % 3 = 2 := by omega
    rcases h3c with h3c | h3c | h3c
    · have hq : (t.kd : Int) % 3 = 0 := by omega
      have hcast : Hid ((t.er : Int) % 19 = (t.er % 19 : Nat)) := by
        show (t.er : Int) % 19 = (t.er % 19 : Nat)
        omega
      obtain ⟨err, herr⟩ : ∃ err, err = errJ15 (J15 (U t.cl).n t.cl t.nm) := ⟨_, rfl⟩
      have HRP : Hid (∀ W, Calls Try.prog 15 #[.agg (tabA U), .int .u8 t.cl, .int .u64 t.nm, .agg #[.int .i64 (t.er % 19 : Nat), .slice t.A t.ss.length t.c]] W fun en w' => en = .returned (.tuple #[.agg (tabA (puU15 U t.cl t.nm (t.er % 19) t.A t.c t.ss)), .int .i64 err]) ∧ Below W.heap.size W w') := fun W => by
        rw [herr]
        exact rPut15_calls U t.cl t.nm (t.er % 19) t.A t.c t.ss W
      have HPP : Hid (∀ W, Own15 W P B T → Below w.heap.size w W → Calls Try.prog 9 #[.pointer (some ⟨B, 0, none⟩), .int .u8 t.cl, .int .u64 t.nm, .agg #[.int .i64 (t.er % 19 : Nat), .slice t.A t.ss.length t.c]] W fun en w' => en = .returned (.int .i64 err) ∧ Did15 W P B (putX15 (fun i => (T i).p) t.cl t.nm (t.er % 19) t.ss) w') := fun W hW hb => by
        rw [herr, ← J15_eq HST.out.eq]
        exact act_put15 hW HOK.out hb HLL.out
      have HUR : Hid (∀ i, i < 8 → RdS w (puU15 U t.cl t.nm (t.er % 19) t.A t.c t.ss i).A (puU15 U t.cl t.nm (t.er % 19) t.A t.c t.ss i).ss) := puU15_rd HST.out.rd HOK.out.tx.rd
      have HUP : Hid (∀ i, i < 8 → putX15 (fun i => (T i).p) t.cl t.nm (t.er % 19) t.ss i = (puU15 U t.cl t.nm (t.er % 19) t.A t.c t.ss i).p) := puU15_p HST.out.eq
      clear herr
      generalize hUU : puU15 U t.cl t.nm (t.er % 19) t.A t.c t.ss = U9 at *
      clear hUU
      have HX5 : Hid ((wo.alloc (.cells #[.int .u8 t.kd, .int .u8 t.cl, .int .u64 t.nm, .int .u8 t.er, .slice t.A t.ss.length t.c] 30)).heap[D]? = some (.cells (tabA U) 46 (0, 0))) := HS5.out.doc
      go_wp2_with (with_reducible refine wpList_load_row rfl 46 (.tmp 8) rfl D rfl 46 (tabA U) (0, 0) _ HX5.out Try.underlying46 rfl (by rw [tabA_size]; exact sizeDoc15) ?_)
      clear c0 c1 c2 c3 c4 a0 a1 a2 a3 a4
      generalize wo.alloc (.cells #[.int .u8 t.kd, .int .u8 t.cl, .int .u64 t.nm, .int .u8 t.er, .slice t.A t.ss.length t.c] 30) = w5 at *
      generalize hXX : wo.heap.size = X at *
      rw [hcast.out]
      with_reducible refine (HRP.out _).mono ?_
      rintro e' w6 ⟨rfl, hb6⟩
      have hD6 : Tab15 w6 D 46 U := HS5.out.doc.later hb6
      have hbv : Below w6.heap.size w6 (w6.alloc (.cells (tabA fun _ => zero15) 46)) := alloc14 (Below.refl _ _) _
      have hV6 : Tab15 (w6.alloc (.cells (tabA fun _ => zero15) 46)) w6.heap.size 46 (fun _ => zero15) := heap_alloc_new w6 _
      have hst := hV6.store_run Try.prog U9
      have hVb : Tab15 ((w6.alloc (.cells (tabA fun _ => zero15) 46)).setRow w6.heap.size (tabA U9)) w6.heap.size 46 U9 := setRow_heap _ _ _ _ _ _ hV6
      have htb : Turns (fun i => i = w6.heap.size) w6 ((w6.alloc (.cells (tabA fun _ => zero15) 46)).setRow w6.heap.size (tabA U9)) := turns_setRow15 (Turns.of_below hbv _) (fun hl => by omega) _
      have hbb : Below w6.heap.size w6 ((w6.alloc (.cells (tabA fun _ => zero15) 46)).setRow w6.heap.size (tabA U9)) := htb.below (fun i e => by omega)
      generalize hw6b : (w6.alloc (.cells (tabA fun _ => zero15) 46)).setRow w6.heap.size (tabA U9) = w6b at *
      have hD6b := hD6.later hbb
      have hst2 := hD6b.store_run Try.prog U9
      have hD7 : Tab15 (w6b.setRow D (tabA U9)) D 46 U9 := setRow_heap _ _ _ _ _ _ hD6b
      have ht7 : Turns (fun i => i = D) w6b (w6b.setRow D (tabA U9)) := turns_setRow15 (Turns.refl (fun i => i = D) w6b) (fun _ => rfl) _
      have hXD : X ≠ D := by omega
      have hown7 : Own15 (w6b.setRow D (tabA U9)) P B T := (HS5.out.own.later (next14 hb6 hbb)).turns ht7 (fun e => hDB e.symm) (fun j hj e => by omega)
      have hA7 : ActB15 (w6b.setRow D (tabA U9)) X t := (HA5.out.later (next14 hb6 hbb)).turns ht7 hXD
      have hW7 : Below w.heap.size w (w6b.setRow D (tabA U9)) := (next14 HW5.out (next14 hb6 hbb)).trans (ht7.below_at (by have := HW5.out.size; have := hb6.size; have := hbb.size; omega) (fun i e => by omega))
      have HVb : Hid (w6b.heap[w6.heap.size]? = some (.cells (tabA U9) 46 (0, 0))) := hVb
      have HD7 := Lib.hid hD7
      have HO7 := Lib.hid hown7
      have HA7 := Lib.hid hA7
      have HW7 := Lib.hid hW7
      clear hD6 hbv hV6 hVb htb hbb hD6b hD7 ht7 hown7 hA7 hW7 hb6 hw6b HRP HX5
      go_wp2_with (with_reducible refine wpList_load_row rfl 46 (.tmp 11) rfl w6.heap.size rfl 46 (tabA U9) (0, 0) _ HVb.out Try.underlying46 rfl (by rw [tabA_size]; exact sizeDoc15) ?_)
      clear hst hst2
      generalize w6b.setRow D (tabA U9) = w7 at *
      have hXB : X ≠ B := by omega
      have HPT : Hid (∀ W, Below w7.heap.size w7 W → Calls Try.prog 9 #[.pointer (some ⟨B, 0, none⟩), .int .u8 t.cl, .int .u64 t.nm, .agg #[.int .i64 (t.er % 19 : Nat), .slice t.A t.ss.length t.c]] W fun en w' => en = .returned (.int .i64 err) ∧ Did15 w7 P B (putX15 (fun i => (T i).p) t.cl t.nm (t.er % 19) t.ss) w') := fun W hW =>
        (HPP.out W (HO7.out.later hW) (next14 HW7.out hW)).mono fun en w' ⟨h1, h2⟩ => ⟨h1, h2.from_ hW⟩
      have r1 : ((err : Int) != err) = false := by simp
      have r2 : (err != err) = false := by simp
      refine wp_region_st2 (by kernel_rfl) (YPc15 B X t err) (GPc15 w7 P B (putX15 (fun i => (T i).p) t.cl t.nm (t.er % 19) t.ss)) ?F16 ?hF16 (by kernel_rfl) (by kernel_rfl) (.inl ⟨rfl, drew14 (Below.refl _ _)⟩) ?step16 ?fin16
      case hF16 =>
        intro x
        simp only [List.map_cons, List.map_nil, putL, Act.put, List.setIfInBounds_toArray, List.set_cons_zero, List.set_cons_succ, Nat.zero_add, Nat.reduceAdd]
        exact rfl
      case step16 =>
        refine ⟨?_, ?_, ?_, ?_, ?_, ?_, ?_, ?_, ?_, ?_, trivial⟩
        all_goals intro L x W hLi hL hG hdep K hK
        · have HG := Lib.hid hG
          clear hdep hL hLi hG
          go_simp
          exact hK _ _ rfl (HG.out.same 0 (by decide) (Below.refl _ _)) (fun j _ h => YPc15_any j _ h)
        · have HG := Lib.hid hG
          clear hdep hL hLi hG
          go_simp
          exact hK _ _ rfl (HG.out.same 1 (by decide) (Below.refl _ _)) (fun j _ h => YPc15_any j _ h)
        · have h1 : x 1 = _ := hdep 1 rfl
          obtain ⟨a0, a1, a2, a3, a4⟩ := (hG.act HA7.out hXB).cells
          have HG := Lib.hid hG
          clear hdep hL hLi hG
          simp only [h1] at hK
          go_simp
          exact hK _ _ rfl (HG.out.same 2 (by decide) (Below.refl _ _)) (fun j _ h => YPc15_any j _ h)
        · have HG := Lib.hid hG
          clear hdep hL hLi hG
          go_simp
          exact hK _ _ rfl (HG.out.same 3 (by decide) (Below.refl _ _)) (fun j _ h => YPc15_any j _ h)
        · have h3 : x 3 = _ := hdep 3 rfl
          obtain ⟨a0, a1, a2, a3, a4⟩ := (hG.act HA7.out hXB).cells
          have HG := Lib.hid hG
          clear hdep hL hLi hG
          simp only [h3] at hK
          go_simp
          exact hK _ _ rfl (HG.out.same 4 (by decide) (Below.refl _ _)) (fun j _ h => YPc15_any j _ h)
        · obtain ⟨a0, a1, a2, a3, a4⟩ := (hG.act HA7.out hXB).cells
          have HG := Lib.hid hG
          clear hdep hL hLi hG
          go_simp
          exact hK _ _ rfl (HG.out.same 5 (by decide) (Below.refl _ _)) (fun j _ h => YPc15_any j _ h)
        · have h5 : x 5 = _ := hdep 5 rfl
          have HG := Lib.hid hG
          clear hdep hL hLi hG
          simp only [h5] at hK
          go_simp
          refine (HRE.out W).mono ?_
          rintro e' W' ⟨rfl, hb⟩
          exact hK _ _ rfl (HG.out.same 6 (by decide) hb) (fun j _ h => YPc15_any j _ h)
        · have h0 : x 0 = _ := hdep 0 rfl
          have h2 : x 2 = _ := hdep 2 rfl
          have h4 : x 4 = _ := hdep 4 rfl
          have h6 : x 6 = _ := hdep 6 rfl
          have hbw : Below w7.heap.size w7 W := by
            rcases hG with h | h
            · exact h.2
            · rw [hLi] at h; exact absurd h.1 (by decide)
          have HBW := Lib.hid hbw
          clear hbw
          have HG := Lib.hid hG
          clear hdep hL hLi hG
          simp only [h0, h2, h4, h6] at hK
          go_simp
          refine (HPT.out W HBW.out).mono ?_
          rintro e' W' ⟨rfl, hd⟩
          exact hK _ _ rfl (.inr ⟨if_pos rfl, hd⟩) (fun j _ h => YPc15_any j _ h)
        · have HG := Lib.hid hG
          clear hdep hL hLi hG
          go_simp
          exact hK _ _ rfl (HG.out.same 8 (by decide) (Below.refl _ _)) (fun j _ h => YPc15_any j _ h)
        · have h7 : x 7 = _ := hdep 7 rfl
          have h8 : x 8 = _ := hdep 8 rfl
          have HG := Lib.hid hG
          clear hdep hL hLi hG
          simp only [h7, h8] at hK
          go_simp
          exact hK _ _ rfl (HG.out.same 9 (by decide) (Below.refl _ _)) (fun j _ h => YPc15_any j _ h)
      case fin16 =>
        intro L x w9 hL hG hY
        have h9 : x 9 = .bool false := hY 9 (by decide)
        have hd9 : Did15 w7 P B (putX15 (fun i => (T i).p) t.cl t.nm (t.er % 19) t.ss) w9 := by
          rcases hG with h | h
          · have := hL 7 (by decide); rw [this] at h; exact absurd h.1 (by decide)
          · exact h.2
        obtain ⟨T9, hT9, ht9, hp9⟩ := hd9
        have HA9 := Lib.hid (HA7.out.turns ht9 hXB)
        have HW9 := Lib.hid (HW7.out.trans (ht9.below_at HW7.out.size (fun i e => by omega)))
        obtain ⟨P9, hP9⟩ : ∃ P9, P9 = P := ⟨_, rfl⟩
        have HS9 : Hid (St15 w D w9 P9 B T9 U9) := ⟨by rw [hP9]; exact hT9, HD7.out.turns ht9 hDB, HUR.out, fun i hi => (hp9 i hi).trans (HUP.out i hi), by rw [hP9]; exact hDP, hDB, hwB⟩
        clear hL hG hY hT9 ht9 hp9 hP9 HPT HPP HO7 HD7 HA7 HW7 HUR HUP HST HS5 HW5 HA5 HBA r1 r2
        rw [h9]
        have HD9 := Lib.hid HS9.out.doc
        obtain ⟨J, hJ⟩ : ∃ J, J = J15 (U9 t.cl).n t.cl t.nm := ⟨_, rfl⟩
        have HSA : Hid (∀ W, Below w9.heap.size w9 W → Calls Try.prog 20 #[.pointer (some ⟨B, 0, none⟩), .agg (tabA U9)] W (Says14 (.bool true) W)) := fun W hW => Same15_law (HS9.out.own.later hW) (fun i hi => (HS9.out.rd i hi).later14 (next14 HW9.out hW)) HS9.out.eq
        have HJU : Hid (∀ W, Below w9.heap.size w9 W → Calls Try.prog 21 #[.pointer (some ⟨B, 0, none⟩), .int .u8 t.cl, .int .u64 t.nm] W (Says14 (.int .i64 J) W)) := fun W hW => by
          have := Judge15_calls B T9 t.cl t.nm W (HS9.out.own.later hW).at_
          rwa [getT_n15, J15_eq HS9.out.eq, ← hJ] at this
        have HRJ : Hid (∀ W, Calls Try.prog 22 #[.agg (tabA U9), .int .u8 t.cl, .int .u64 t.nm] W (Says14 (.int .i64 J) W)) := fun W => by rw [hJ]; exact rJudge15_calls U9 t.cl t.nm W
        have j1 : ((J : Int) != J) = false := by simp
        have j2 : (J != J) = false := by simp
        clear hJ
        go_wp2
        refine wp_region_inv (by kernel_rfl) (fun W => Below w9.heap.size w9 W) (fun j v _ => YTl15 B X J t U9 j v) ?F21a ?hF21a (by kernel_rfl) (by kernel_rfl) (drew14 (Below.refl _ _)) ?step21a ?fin21a
        case hF21a =>
          intro x
          simp only [List.map_cons, List.map_nil, putL, Act.put, List.setIfInBounds_toArray, List.set_cons_zero, List.set_cons_succ, Nat.zero_add, Nat.reduceAdd]
          exact rfl
        case step21a =>
          refine ⟨?_, ?_, ?_, ?_, ?_, ?_, ?_, ?_, ?_, ?_, ?_, ?_, ?_, ?_, ?_, ?_, ?_, ?_, ?_, trivial⟩
          all_goals intro x W hW hdep K hK
          · clear hdep
            go_simp
            exact hK _ _ rfl hW (fun _ _ h => h)
          · refine step_load15 rfl 46 (.tmp 8) rfl D rfl 46 U9 (HD9.out.later hW) _ Try.underlying46 sizeDoc15 ?_
            exact hK _ _ rfl hW (fun _ _ h => h)
          · have h0 : x 0 = _ := hdep 0 rfl
            have h1 : x 1 = _ := hdep 1 rfl
            clear hdep
            simp only [h0, h1] at hK
            go_simp
            refine (HSA.out W hW).mono ?_
            rintro e' W' ⟨rfl, hb⟩
            exact hK _ _ rfl (next14 hW hb) (fun _ _ h => h)
          · have h2 : x 2 = _ := hdep 2 rfl
            clear hdep
            simp only [h2] at hK
            go_simp
            exact hK _ _ rfl hW (fun _ _ h => h)
          · have h3 : x 3 = _ := hdep 3 rfl
            clear hdep
            simp only [h3] at hK
            go_simp
            exact hK _ _ rfl hW (fun _ _ h => h)
          · have h4 : x 4 = _ := hdep 4 rfl
            clear hdep
            simp only [h4] at hK
            go_simp
            exact hK _ _ rfl hW (fun _ _ h => h)
          · have h4 : x 4 = _ := hdep 4 rfl
            clear hdep
            simp only [h4] at hK
            go_simp
            exact hK _ _ rfl hW (fun _ _ h => h)
          · have h4 : x 4 = _ := hdep 4 rfl
            have h6 : x 6 = _ := hdep 6 rfl
            have a1 := (HA9.out.later hW).cells.2.1
            clear hdep
            simp only [h4, h6] at hK
            go_simp
            exact hK _ _ rfl hW (fun _ _ h => h)
          · have h4 : x 4 = _ := hdep 4 rfl
            clear hdep
            simp only [h4] at hK
            go_simp
            exact hK _ _ rfl hW (fun _ _ h => h)
          · have h4 : x 4 = _ := hdep 4 rfl
            have h8 : x 8 = _ := hdep 8 rfl
            have a2 := (HA9.out.later hW).cells.2.2.1
            clear hdep
            simp only [h4, h8] at hK
            go_simp
            exact hK _ _ rfl hW (fun _ _ h => h)
          · have h4 : x 4 = _ := hdep 4 rfl
            have h5 : x 5 = _ := hdep 5 rfl
            have h7 : x 7 = _ := hdep 7 rfl
            have h9 : x 9 = _ := hdep 9 rfl
            clear hdep
            simp only [h4, h5, h7, h9] at hK
            go_simp
            refine (HJU.out W hW).mono ?_
            rintro e' W' ⟨rfl, hb⟩
            exact hK _ _ rfl (next14 hW hb) (fun _ _ h => h)
          · have h4 : x 4 = _ := hdep 4 rfl
            simp only [h4] at hK
            refine step_load15 (by simp only [h4]; rfl) 46 (.tmp 8) rfl D rfl 46 U9 (HD9.out.later hW) _ Try.underlying46 sizeDoc15 ?_
            simp only [h4]
            exact hK _ _ rfl hW (fun _ _ h => h)
          · have h4 : x 4 = _ := hdep 4 rfl
            clear hdep
            simp only [h4] at hK
            go_simp
            exact hK _ _ rfl hW (fun _ _ h => h)
          · have h4 : x 4 = _ := hdep 4 rfl
            have h12 : x 12 = _ := hdep 12 rfl
            have a1 := (HA9.out.later hW).cells.2.1
            clear hdep
            simp only [h4, h12] at hK
            go_simp
            exact hK _ _ rfl hW (fun _ _ h => h)
          · have h4 : x 4 = _ := hdep 4 rfl
            clear hdep
            simp only [h4] at hK
            go_simp
            exact hK _ _ rfl hW (fun _ _ h => h)
          · have h4 : x 4 = _ := hdep 4 rfl
            have h14 : x 14 = _ := hdep 14 rfl
            have a2 := (HA9.out.later hW).cells.2.2.1
            clear hdep
            simp only [h4, h14] at hK
            go_simp
            exact hK _ _ rfl hW (fun _ _ h => h)
          · have h4 : x 4 = _ := hdep 4 rfl
            have h11 : x 11 = _ := hdep 11 rfl
            have h13 : x 13 = _ := hdep 13 rfl
            have h15 : x 15 = _ := hdep 15 rfl
            clear hdep
            simp only [h4, h11, h13, h15] at hK
            go_simp
            refine (HRJ.out W).mono ?_
            rintro e' W' ⟨rfl, hb⟩
            exact hK _ _ rfl (next14 hW hb) (fun _ _ h => h)
          · have h4 : x 4 = _ := hdep 4 rfl
            have h10 : x 10 = _ := hdep 10 rfl
            have h16 : x 16 = _ := hdep 16 rfl
            clear hdep
            simp only [h4, h10, h16] at hK
            go_simp
            exact hK _ _ rfl hW (fun _ _ h => h)
          · have h4 : x 4 = _ := hdep 4 rfl
            have h17 : x 17 = _ := hdep 17 rfl
            clear hdep
            simp only [h4, h17] at hK
            go_simp
            exact hK _ _ rfl hW (fun _ _ h => h)
        case fin21a =>
          intro x W hW hY
          have h18 : x 18 = .bool false := hY 18 (by decide)
          have HWW := Lib.hid (next14 HW9.out hW)
          have HSW : Hid (∃ P T U, St15 w D W P B T U) := ⟨P9, T9, U9, HS9.out.later hW⟩
          clear hY hW
          rw [h18]
          go_wp2
          go_roundg (n - (k + 1))
          case measure => omega
          case rel => exact ⟨k + 1, B, by omega, by omega, by go_num, rfl, HWW.out, HSW.out⟩
    · have hq : (t.kd : Int) % 3 = 1 := by omega
      go_wp2_with fail
      clear c0 c1 c2 c3 c4 a0 a1 a2 a3 a4
      generalize wo.alloc (.cells #[.int .u8 t.kd, .int .u8 t.cl, .int .u64 t.nm, .int .u8 t.er, .slice t.A t.ss.length t.c] 30) = w5 at *
      generalize hXX : wo.heap.size = X at *
      with_reducible refine (Copy15_calls HS5.out.own).mono ?_
      rintro e' w6 ⟨rfl, hb6, V, hV, _⟩
      have hX6 := HA5.out.later hb6
      have HA6 := Lib.hid hX6
      have HB6 := Lib.hid hb6
      have HPC : Hid (∀ W, Below w6.heap.size w6 W → Calls Try.prog 9 #[.pointer (some ⟨w5.heap.size, 0, none⟩), .int .u8 t.cl, .int .u64 1099511627776, .agg #[.int .i64 (t.er % 19 : Nat), .slice t.A t.ss.length t.c]] W fun en w' => ∃ r : Int, en = .returned (.int .i64 r) ∧ Below w5.heap.size w5 w') := fun W hW =>
        (Put15_calls (hV.later hW) t.cl 1099511627776 (t.er % 19) t.A t.c t.ss (HOK.out.tx.later (next14 (next14 HW5.out hb6) hW)) (by omega) HLL.out).mono fun en w' ⟨h1, _, _, h2, _⟩ =>
          ⟨_, h1, (next14 hb6 hW).trans (h2.below_at (next14 hb6 hW).size (fun i e => by omega))⟩
      generalize hCC : w5.heap.size = C at *
      clear hb6 hV hX6
      go_wp2
      refine wp_region_last (by kernel_rfl) 5 (fun W => Below w6.heap.size w6 W) (fun W => Below C w5 W) (YPk15 C X t) (fun _ => True) ?F20 ?hF20 (by kernel_rfl) (by kernel_rfl) (by kernel_rfl) (by kernel_rfl) (by decide) (drew14 (Below.refl _ _)) ?step20 ?fin20
      case hF20 =>
        intro x
        simp only [List.map_cons, List.map_nil, putL, Act.put, List.setIfInBounds_toArray, List.set_cons_zero, List.set_cons_succ, Nat.zero_add, Nat.reduceAdd]
        exact rfl
      case step20 =>
        refine ⟨?_, ?_, ?_, ?_, ?_, ?_, trivial⟩
        · intro x W
          refine ⟨fun _ hW hdep K hK => ?_, (fun h => absurd h (by decide)), (fun h => absurd h (by decide))⟩
          clear hdep
          go_simp
          exact hK _ _ rfl hW (fun _ _ h => h)
        · intro x W
          refine ⟨fun _ hW hdep K hK => ?_, (fun h => absurd h (by decide)), (fun h => absurd h (by decide))⟩
          clear hdep
          go_simp
          exact hK _ _ rfl hW (fun _ _ h => h)
        · intro x W
          refine ⟨fun _ hW hdep K hK => ?_, (fun h => absurd h (by decide)), (fun h => absurd h (by decide))⟩
          have h1 : x 1 = _ := hdep 1 rfl
          have a1 := (HA6.out.later hW).cells.2.1
          clear hdep
          simp only [h1] at hK
          go_simp
          exact hK _ _ rfl hW (fun _ _ h => h)
        · intro x W
          refine ⟨fun _ hW hdep K hK => ?_, (fun h => absurd h (by decide)), (fun h => absurd h (by decide))⟩
          obtain ⟨a0, a1, a2, a3, a4⟩ := (HA6.out.later hW).cells
          clear hdep
          go_simp
          exact hK _ _ rfl hW (fun _ _ h => h)
        · intro x W
          refine ⟨fun _ hW hdep K hK => ?_, (fun h => absurd h (by decide)), (fun h => absurd h (by decide))⟩
          have h3 : x 3 = _ := hdep 3 rfl
          clear hdep
          simp only [h3] at hK
          go_simp
          refine (HRE.out W).mono ?_
          rintro e' W' ⟨rfl, hb⟩
          exact hK _ _ rfl (next14 hW hb) (fun j z h => YPk15_any j z h)
        · intro x W
          refine ⟨(fun h => absurd h (by decide)), fun _ hW hdep K hK => ?_, (fun h => absurd h (by decide))⟩
          have h0 : x 0 = _ := hdep 0 rfl
          have h2 : x 2 = _ := hdep 2 rfl
          have h4 : x 4 = _ := hdep 4 rfl
          clear hdep
          simp only [h0, h2, h4] at hK
          go_simp
          refine (HPC.out W hW).mono ?_
          rintro e' W' ⟨r', rfl, hd⟩
          exact hK _ _ trivial hd
      case fin20 =>
        intro x w9 hD9 _
        have hD9' : Below w5.heap.size w5 w9 := by rw [hCC]; exact hD9
        have HA9 := Lib.hid (HA5.out.later hD9')
        have HW9 := Lib.hid (next14 HW5.out hD9')
        obtain ⟨P9, hP9⟩ : ∃ P9, P9 = P := ⟨_, rfl⟩
        obtain ⟨T9, hT9⟩ : ∃ T9, T9 = T := ⟨_, rfl⟩
        obtain ⟨U9, hU9⟩ : ∃ U9, U9 = U := ⟨_, rfl⟩
        have HS9 : Hid (St15 w D w9 P9 B T9 U9) := by rw [hP9, hT9, hU9]; exact HS5.out.later hD9'
        clear hD9 hD9' hP9 hT9 hU9 HPC HA6 HB6 HST HS5 HW5 HA5 HBA
        have HD9 := Lib.hid HS9.out.doc
        obtain ⟨J, hJ⟩ : ∃ J, J = J15 (U9 t.cl).n t.cl t.nm := ⟨_, rfl⟩
        have HSA : Hid (∀ W, Below w9.heap.size w9 W → Calls Try.prog 20 #[.pointer (some ⟨B, 0, none⟩), .agg (tabA U9)] W (Says14 (.bool true) W)) := fun W hW => Same15_law (HS9.out.own.later hW) (fun i hi => (HS9.out.rd i hi).later14 (next14 HW9.out hW)) HS9.out.eq
        have HJU : Hid (∀ W, Below w9.heap.size w9 W → Calls Try.prog 21 #[.pointer (some ⟨B, 0, none⟩), .int .u8 t.cl, .int .u64 t.nm] W (Says14 (.int .i64 J) W)) := fun W hW => by
          have := Judge15_calls B T9 t.cl t.nm W (HS9.out.own.later hW).at_
          rwa [getT_n15, J15_eq HS9.out.eq, ← hJ] at this
        have HRJ : Hid (∀ W, Calls Try.prog 22 #[.agg (tabA U9), .int .u8 t.cl, .int .u64 t.nm] W (Says14 (.int .i64 J) W)) := fun W => by rw [hJ]; exact rJudge15_calls U9 t.cl t.nm W
        have j1 : ((J : Int) != J) = false := by simp
        have j2 : (J != J) = false := by simp
        clear hJ
        go_wp2
        refine wp_region_inv (by kernel_rfl) (fun W => Below w9.heap.size w9 W) (fun j v _ => YTl15 B X J t U9 j v) ?F21b ?hF21b (by kernel_rfl) (by kernel_rfl) (drew14 (Below.refl _ _)) ?step21b ?fin21b
        case hF21b =>
          intro x
          simp only [List.map_cons, List.map_nil, putL, Act.put, List.setIfInBounds_toArray, List.set_cons_zero, List.set_cons_succ, Nat.zero_add, Nat.reduceAdd]
          exact rfl
        case step21b =>
          refine ⟨?_, ?_, ?_, ?_, ?_, ?_, ?_, ?_, ?_, ?_, ?_, ?_, ?_, ?_, ?_, ?_, ?_, ?_, ?_, trivial⟩
          all_goals intro x W hW hdep K hK
          · clear hdep
            go_simp
            exact hK _ _ rfl hW (fun _ _ h => h)
          · refine step_load15 rfl 46 (.tmp 8) rfl D rfl 46 U9 (HD9.out.later hW) _ Try.underlying46 sizeDoc15 ?_
            exact hK _ _ rfl hW (fun _ _ h => h)
          · have h0 : x 0 = _ := hdep 0 rfl
            have h1 : x 1 = _ := hdep 1 rfl
            clear hdep
            simp only [h0, h1] at hK
            go_simp
            refine (HSA.out W hW).mono ?_
            rintro e' W' ⟨rfl, hb⟩
            exact hK _ _ rfl (next14 hW hb) (fun _ _ h => h)
          · have h2 : x 2 = _ := hdep 2 rfl
            clear hdep
            simp only [h2] at hK
            go_simp
            exact hK _ _ rfl hW (fun _ _ h => h)
          · have h3 : x 3 = _ := hdep 3 rfl
            clear hdep
            simp only [h3] at hK
            go_simp
            exact hK _ _ rfl hW (fun _ _ h => h)
          · have h4 : x 4 = _ := hdep 4 rfl
            clear hdep
            simp only [h4] at hK
            go_simp
            exact hK _ _ rfl hW (fun _ _ h => h)
          · have h4 : x 4 = _ := hdep 4 rfl
            clear hdep
            simp only [h4] at hK
            go_simp
            exact hK _ _ rfl hW (fun _ _ h => h)
          · have h4 : x 4 = _ := hdep 4 rfl
            have h6 : x 6 = _ := hdep 6 rfl
            have a1 := (HA9.out.later hW).cells.2.1
            clear hdep
            simp only [h4, h6] at hK
            go_simp
            exact hK _ _ rfl hW (fun _ _ h => h)
          · have h4 : x 4 = _ := hdep 4 rfl
            clear hdep
            simp only [h4] at hK
            go_simp
            exact hK _ _ rfl hW (fun _ _ h => h)
          · have h4 : x 4 = _ := hdep 4 rfl
            have h8 : x 8 = _ := hdep 8 rfl
            have a2 := (HA9.out.later hW).cells.2.2.1
            clear hdep
            simp only [h4, h8] at hK
            go_simp
            exact hK _ _ rfl hW (fun _ _ h => h)
          · have h4 : x 4 = _ := hdep 4 rfl
            have h5 : x 5 = _ := hdep 5 rfl
            have h7 : x 7 = _ := hdep 7 rfl
            have h9 : x 9 = _ := hdep 9 rfl
            clear hdep
            simp only [h4, h5, h7, h9] at hK
            go_simp
            refine (HJU.out W hW).mono ?_
            rintro e' W' ⟨rfl, hb⟩
            exact hK _ _ rfl (next14 hW hb) (fun _ _ h => h)
          · have h4 : x 4 = _ := hdep 4 rfl
            simp only [h4] at hK
            refine step_load15 (by simp only [h4]; rfl) 46 (.tmp 8) rfl D rfl 46 U9 (HD9.out.later hW) _ Try.underlying46 sizeDoc15 ?_
            simp only [h4]
            exact hK _ _ rfl hW (fun _ _ h => h)
          · have h4 : x 4 = _ := hdep 4 rfl
            clear hdep
            simp only [h4] at hK
            go_simp
            exact hK _ _ rfl hW (fun _ _ h => h)
          · have h4 : x 4 = _ := hdep 4 rfl
            have h12 : x 12 = _ := hdep 12 rfl
            have a1 := (HA9.out.later hW).cells.2.1
            clear hdep
            simp only [h4, h12] at hK
            go_simp
            exact hK _ _ rfl hW (fun _ _ h => h)
          · have h4 : x 4 = _ := hdep 4 rfl
            clear hdep
            simp only [h4] at hK
            go_simp
            exact hK _ _ rfl hW (fun _ _ h => h)
          · have h4 : x 4 = _ := hdep 4 rfl
            have h14 : x 14 = _ := hdep 14 rfl
            have a2 := (HA9.out.later hW).cells.2.2.1
            clear hdep
            simp only [h4, h14] at hK
            go_simp
            exact hK _ _ rfl hW (fun _ _ h => h)
          · have h4 : x 4 = _ := hdep 4 rfl
            have h11 : x 11 = _ := hdep 11 rfl
            have h13 : x 13 = _ := hdep 13 rfl
            have h15 : x 15 = _ := hdep 15 rfl
            clear hdep
            simp only [h4, h11, h13, h15] at hK
            go_simp
            refine (HRJ.out W).mono ?_
            rintro e' W' ⟨rfl, hb⟩
            exact hK _ _ rfl (next14 hW hb) (fun _ _ h => h)
          · have h4 : x 4 = _ := hdep 4 rfl
            have h10 : x 10 = _ := hdep 10 rfl
            have h16 : x 16 = _ := hdep 16 rfl
            clear hdep
            simp only [h4, h10, h16] at hK
            go_simp
            exact hK _ _ rfl hW (fun _ _ h => h)
          · have h4 : x 4 = _ := hdep 4 rfl
            have h17 : x 17 = _ := hdep 17 rfl
            clear hdep
            simp only [h4, h17] at hK
            go_simp
            exact hK _ _ rfl hW (fun _ _ h => h)
        case fin21b =>
          intro x W hW hY
          have h18 : x 18 = .bool false := hY 18 (by decide)
          have HWW := Lib.hid (next14 HW9.out hW)
          have HSW : Hid (∃ P T U, St15 w D W P B T U) := ⟨P9, T9, U9, HS9.out.later hW⟩
          clear hY hW
          rw [h18]
          go_wp2
          go_roundg (n - (k + 1))
          case measure => omega
          case rel => exact ⟨k + 1, B, by omega, by omega, by go_num, rfl, HWW.out, HSW.out⟩
    · have hq : (t.kd : Int) % 3 = 2 := by omega
      have HBY : Hid (∀ W, Below (wo.alloc (.cells #[.int .u8 t.kd, .int .u8 t.cl, .int .u64 t.nm, .int .u8 t.er, .slice t.A t.ss.length t.c] 30)).heap.size (wo.alloc (.cells #[.int .u8 t.kd, .int .u8 t.cl, .int .u64 t.nm, .int .u8 t.er, .slice t.A t.ss.length t.c] 30)) W → Calls Try.prog 14 #[.pointer (some ⟨B, 0, none⟩)] W (Says14 (.string (tx14 (tabB15 (fun i => (T i).p)))) W)) := fun W hW => bytes15_calls (HS5.out.own.later hW)
      have HMM : Hid (∀ i, i < 8 → MayP15 (T i).p) := fun i hi => (HS5.out.own.may i hi).p
      have HLN : Hid ((tabB15 (fun i => (T i).p)).length ≤ 1099511627776) := by
        have := rowsB_len15 (X := fun i => (T i).p) HMM.out 8 (Nat.le_refl _)
        show (rowsB15 (fun i => (T i).p) 8).length ≤ 1099511627776
        omega
      go_wp2_with fail
      clear c0 c1 c2 c3 c4 a0 a1 a2 a3 a4
      generalize wo.alloc (.cells #[.int .u8 t.kd, .int .u8 t.cl, .int .u64 t.nm, .int .u8 t.er, .slice t.A t.ss.length t.c] 30) = w5 at *
      generalize hXX : wo.heap.size = X at *
      with_reducible refine (HBY.out _ (Below.refl _ _)).mono ?_
      rintro e' w6 ⟨rfl, hb6⟩
      have hCV := conv15 w6 (tx14 (tabB15 (fun i => (T i).p)))
      rw [tx14_list] at hCV
      obtain ⟨A3, c3, w7, hcv, hrd, hb7⟩ := hCV
      have HOF := Lib.hid (of_calls _ _ w7 hrd HLN.out)
      unfold Made at HOF
      have HB7 := Lib.hid (next14 hb6 hb7)
      clear hb6 hb7 hrd HBY HLN
      obtain ⟨xs, hxs⟩ : ∃ xs, xs = tabB15 (fun i => (T i).p) := ⟨_, rfl⟩
      rw [← hxs] at HOF hcv ⊢
      have HXS := Lib.hid hxs
      clear hxs
      generalize tx14 xs = sx at *
      go_wp2_with fail
      with_reducible refine HOF.out.mono ?_
      rintro e' w8 ⟨R, hR, rfl, hrd8, ht8⟩
      have hb8 : Below w7.heap.size w7 w8 := still14 ht8
      have HB8 := Lib.hid (next14 HB7.out hb8)
      have hR8 : R < w8.heap.size := hrd8.lt
      have hR5 : w5.heap.size ≤ R := Nat.le_trans HB7.out.size hR
      have HRD := Lib.hid (Read15_calls (fun i => (T i).p) HMM.out (HXS.out ▸ hrd8))
      clear hrd8 ht8 hb8 hcv HOF HXS HMM
      go_wp2_with fail
      with_reducible refine HRD.out.mono ?_
      rintro e' w9 ⟨rfl, hrd9, ht9, V, hV, hVP⟩
      have HEN : Hid (Calls Try.prog 19 #[.pointer (some ⟨R, 0, none⟩)] w9 fun e w' => e = .returned (.int .i64 0) ∧ w9 = w') := by
        have := rend_calls R _ w9 hrd9
        rwa [tailB_end15, show endS ⟨[], 0⟩ = 0 from rfl] at this
      have hb9 : Below w5.heap.size w5 w9 := HB8.out.trans (ht9.below_at HB8.out.size (fun i e => by omega))
      have hDw : D < w5.heap.size := HS5.out.doc.lt
      have hw8 : w5.heap.size ≤ w8.heap.size := HB8.out.size
      have HA9 := Lib.hid (HA5.out.later hb9)
      have HW9 := Lib.hid (next14 HW5.out hb9)
      obtain ⟨U9, hU9⟩ : ∃ U9, U9 = U := ⟨_, rfl⟩
      have hw5 : w.heap.size ≤ w5.heap.size := HW5.out.size
      have HS9 : Hid (St15 w D w9 (w8.heap.size + 1) w8.heap.size V U9) := by
        rw [hU9]
        exact ⟨hV, HS5.out.doc.later hb9, HS5.out.rd, fun i hi => (hVP i hi hi).trans (HS5.out.eq i hi), by omega, by omega, by omega⟩
      clear hrd9 ht9 hV hVP hb9 hU9 HRD HB8 HB7 HST HS5 HW5 HA5 HBA
      obtain ⟨T9, hT9⟩ : ∃ T9, T9 = V := ⟨_, rfl⟩
      rw [← hT9] at HS9
      clear hT9
      generalize hPP : w8.heap.size + 1 = P9 at *
      generalize w8.heap.size = C at *
      go_wp2_with fail
      with_reducible refine HEN.out.mono ?_
      rintro e' w9' ⟨rfl, rfl⟩
      clear HEN hPP
      have HD9 := Lib.hid HS9.out.doc
      obtain ⟨J, hJ⟩ : ∃ J, J = J15 (U9 t.cl).n t.cl t.nm := ⟨_, rfl⟩
      have HSA : Hid (∀ W, Below w9.heap.size w9 W → Calls Try.prog 20 #[.pointer (some ⟨C, 0, none⟩), .agg (tabA U9)] W (Says14 (.bool true) W)) := fun W hW => Same15_law (HS9.out.own.later hW) (fun i hi => (HS9.out.rd i hi).later14 (next14 HW9.out hW)) HS9.out.eq
      have HJU : Hid (∀ W, Below w9.heap.size w9 W → Calls Try.prog 21 #[.pointer (some ⟨C, 0, none⟩), .int .u8 t.cl, .int .u64 t.nm] W (Says14 (.int .i64 J) W)) := fun W hW => by
        have := Judge15_calls C T9 t.cl t.nm W (HS9.out.own.later hW).at_
        rwa [getT_n15, J15_eq HS9.out.eq, ← hJ] at this
      have HRJ : Hid (∀ W, Calls Try.prog 22 #[.agg (tabA U9), .int .u8 t.cl, .int .u64 t.nm] W (Says14 (.int .i64 J) W)) := fun W => by rw [hJ]; exact rJudge15_calls U9 t.cl t.nm W
      have j1 : ((J : Int) != J) = false := by simp
      have j2 : (J != J) = false := by simp
      clear hJ
      go_wp2
      refine wp_region_inv (by kernel_rfl) (fun W => Below w9.heap.size w9 W) (fun j v _ => YTl15 C X J t U9 j v) ?F21c ?hF21c (by kernel_rfl) (by kernel_rfl) (drew14 (Below.refl _ _)) ?step21c ?fin21c
      case hF21c =>
        intro x
        simp only [List.map_cons, List.map_nil, putL, Act.put, List.setIfInBounds_toArray, List.set_cons_zero, List.set_cons_succ, Nat.zero_add, Nat.reduceAdd]
        exact rfl
      case step21c =>
        refine ⟨?_, ?_, ?_, ?_, ?_, ?_, ?_, ?_, ?_, ?_, ?_, ?_, ?_, ?_, ?_, ?_, ?_, ?_, ?_, trivial⟩
        all_goals intro x W hW hdep K hK
        · clear hdep
          go_simp
          exact hK _ _ rfl hW (fun _ _ h => h)
        · refine step_load15 rfl 46 (.tmp 8) rfl D rfl 46 U9 (HD9.out.later hW) _ Try.underlying46 sizeDoc15 ?_
          exact hK _ _ rfl hW (fun _ _ h => h)
        · have h0 : x 0 = _ := hdep 0 rfl
          have h1 : x 1 = _ := hdep 1 rfl
          clear hdep
          simp only [h0, h1] at hK
          go_simp
          refine (HSA.out W hW).mono ?_
          rintro e' W' ⟨rfl, hb⟩
          exact hK _ _ rfl (next14 hW hb) (fun _ _ h => h)
        · have h2 : x 2 = _ := hdep 2 rfl
          clear hdep
          simp only [h2] at hK
          go_simp
          exact hK _ _ rfl hW (fun _ _ h => h)
        · have h3 : x 3 = _ := hdep 3 rfl
          clear hdep
          simp only [h3] at hK
          go_simp
          exact hK _ _ rfl hW (fun _ _ h => h)
        · have h4 : x 4 = _ := hdep 4 rfl
          clear hdep
          simp only [h4] at hK
          go_simp
          exact hK _ _ rfl hW (fun _ _ h => h)
        · have h4 : x 4 = _ := hdep 4 rfl
          clear hdep
          simp only [h4] at hK
          go_simp
          exact hK _ _ rfl hW (fun _ _ h => h)
        · have h4 : x 4 = _ := hdep 4 rfl
          have h6 : x 6 = _ := hdep 6 rfl
          have a1 := (HA9.out.later hW).cells.2.1
          clear hdep
          simp only [h4, h6] at hK
          go_simp
          exact hK _ _ rfl hW (fun _ _ h => h)
        · have h4 : x 4 = _ := hdep 4 rfl
          clear hdep
          simp only [h4] at hK
          go_simp
          exact hK _ _ rfl hW (fun _ _ h => h)
        · have h4 : x 4 = _ := hdep 4 rfl
          have h8 : x 8 = _ := hdep 8 rfl
          have a2 := (HA9.out.later hW).cells.2.2.1
          clear hdep
          simp only [h4, h8] at hK
          go_simp
          exact hK _ _ rfl hW (fun _ _ h => h)
        · have h4 : x 4 = _ := hdep 4 rfl
          have h5 : x 5 = _ := hdep 5 rfl
          have h7 : x 7 = _ := hdep 7 rfl
          have h9 : x 9 = _ := hdep 9 rfl
          clear hdep
          simp only [h4, h5, h7, h9] at hK
          go_simp
          refine (HJU.out W hW).mono ?_
          rintro e' W' ⟨rfl, hb⟩
          exact hK _ _ rfl (next14 hW hb) (fun _ _ h => h)
        · have h4 : x 4 = _ := hdep 4 rfl
          simp only [h4] at hK
          refine step_load15 (by simp only [h4]; rfl) 46 (.tmp 8) rfl D rfl 46 U9 (HD9.out.later hW) _ Try.underlying46 sizeDoc15 ?_
          simp only [h4]
          exact hK _ _ rfl hW (fun _ _ h => h)
        · have h4 : x 4 = _ := hdep 4 rfl
          clear hdep
          simp only [h4] at hK
          go_simp
          exact hK _ _ rfl hW (fun _ _ h => h)
        · have h4 : x 4 = _ := hdep 4 rfl
          have h12 : x 12 = _ := hdep 12 rfl
          have a1 := (HA9.out.later hW).cells.2.1
          clear hdep
          simp only [h4, h12] at hK
          go_simp
          exact hK _ _ rfl hW (fun _ _ h => h)
        · have h4 : x 4 = _ := hdep 4 rfl
          clear hdep
          simp only [h4] at hK
          go_simp
          exact hK _ _ rfl hW (fun _ _ h => h)
        · have h4 : x 4 = _ := hdep 4 rfl
          have h14 : x 14 = _ := hdep 14 rfl
          have a2 := (HA9.out.later hW).cells.2.2.1
          clear hdep
          simp only [h4, h14] at hK
          go_simp
          exact hK _ _ rfl hW (fun _ _ h => h)
        · have h4 : x 4 = _ := hdep 4 rfl
          have h11 : x 11 = _ := hdep 11 rfl
          have h13 : x 13 = _ := hdep 13 rfl
          have h15 : x 15 = _ := hdep 15 rfl
          clear hdep
          simp only [h4, h11, h13, h15] at hK
          go_simp
          refine (HRJ.out W).mono ?_
          rintro e' W' ⟨rfl, hb⟩
          exact hK _ _ rfl (next14 hW hb) (fun _ _ h => h)
        · have h4 : x 4 = _ := hdep 4 rfl
          have h10 : x 10 = _ := hdep 10 rfl
          have h16 : x 16 = _ := hdep 16 rfl
          clear hdep
          simp only [h4, h10, h16] at hK
          go_simp
          exact hK _ _ rfl hW (fun _ _ h => h)
        · have h4 : x 4 = _ := hdep 4 rfl
          have h17 : x 17 = _ := hdep 17 rfl
          clear hdep
          simp only [h4, h17] at hK
          go_simp
          exact hK _ _ rfl hW (fun _ _ h => h)
      case fin21c =>
        intro x W hW hY
        have h18 : x 18 = .bool false := hY 18 (by decide)
        have HWW := Lib.hid (next14 HW9.out hW)
        have HSW : Hid (∃ P T U, St15 w D W P C T U) := ⟨P9, T9, U9, HS9.out.later hW⟩
        clear hY hW
        rw [h18]
        go_wp2
        go_roundg (n - (k + 1))
        case measure => omega
        case rel => exact ⟨k + 1, C, by omega, by omega, by go_num, rfl, HWW.out, HSW.out⟩
end Go.Proofs.Ytadecmjojnhlnaa
