/-
  TableRises walked: a client's numbers rise, whatever is put, each is taken at most once, and no client's row is touched by another one's.
  Conditions: none.
-/
import Derived.Test.YtadecmjojnhlnaaTabW
import Derived.Test.YtadecmjojnhlnaaOpSame
import Derived.Test.YtadecmjojnhlnaaLast
namespace Go.Proofs.Ytadecmjojnhlnaa
open Go.RowKit Go.ChangeMaps

/-- Put of an act: what each operation makes. -/
def YPu15 (B D : Nat) (t : AcT) : Nat → Value → World → Prop
  | 0, v, _ => v = .pointer (some ⟨B, 0, none⟩)
  | 1, v, _ => v = .pointer (some ⟨D, 1, none⟩)
  | 2, v, _ => v = .int .u8 t.cl
  | 3, v, _ => v = .pointer (some ⟨D, 2, none⟩)
  | 4, v, _ => v = .int .u64 t.nm
  | 5, v, _ => v = .agg #[.int .u8 t.kd, .int .u8 t.cl, .int .u64 t.nm, .int .u8 t.er, .slice t.A t.ss.length t.c]
  | 6, v, _ => v = .agg #[.int .i64 (t.er % 19 : Nat), .slice t.A t.ss.length t.c]
  | _, _, _ => True
theorem YPu15_any {B D : Nat} {t : AcT} {W W' : World} (j : Nat) (z : Value) (h : YPu15 B D t j z W) : YPu15 B D t j z W' := by
  match j, h with
  | 0, h => exact h
  | 1, h => exact h
  | 2, h => exact h
  | 3, h => exact h
  | 4, h => exact h
  | 5, h => exact h
  | 6, h => exact h
  | _ + 7, _ => trivial
/-- A key is counted: what each operation makes. -/
def YCo15 (S : Nat) (es : Array MapEntry) (clock c n : Nat) : Nat → Value → World → Prop
  | 0, v, _ => v = .map (some S)
  | 1, v, _ => v = key15 c n
  | 2, v, _ => v = .int .i64 0
  | 3, v, _ => v = .int .i64 1
  | 4, v, W => v = .tuple #[.int .i64 0, goInt clock] ∧ At15 W S (With15 es clock c n (.int .i64 0)) (clock + 1)
  | 5, v, W => v = goInt clock ∧ At15 W S (With15 es clock c n (.int .i64 0)) (clock + 1)
  | _, _, _ => True
theorem YCo15_keep {S : Nat} {es : Array MapEntry} {clock c n : Nat} {W W' : World} (hb : At15 W' S (With15 es clock c n (.int .i64 0)) (clock + 1)) (j : Nat) (z : Value) (h : YCo15 S es clock c n j z W) : YCo15 S es clock c n j z W' := by
  match j, h with
  | 0, h => exact h
  | 1, h => exact h
  | 2, h => exact h
  | 3, h => exact h
  | 4, h => exact ⟨h.1, hb⟩
  | 5, h => exact ⟨h.1, hb⟩
  | _ + 6, _ => trivial
/-- What is asked of a request that was taken: what each operation makes. -/
def YAs15 (S B D C : Nat) (t : AcT) (was e m : Nat) (ls : List ByteArray) : Nat → Value → World → Prop
  | 0, v, _ => v = .map (some S)
  | 1, v, _ => v = key15 t.cl t.nm
  | 2, v, _ => v = .int .i64 1
  | 3, v, _ => v = .bool false
  | 4, v, _ => v = .bool false
  | 5, v, _ => v = .pointer (some ⟨D, 1, none⟩)
  | 6, v, _ => v = .int .u8 t.cl
  | 7, v, _ => v = .bool false
  | 8, v, _ => v = .bool false
  | 9, v, _ => v = .bool false
  | 10, v, _ => v = .pointer (some ⟨D, 2, none⟩)
  | 11, v, _ => v = .int .u64 t.nm
  | 12, v, _ => v = .pointer (some ⟨D, 1, none⟩)
  | 13, v, _ => v = .int .u8 t.cl
  | 14, v, _ => v = .pointer (some ⟨C, t.cl, none⟩)
  | 15, v, _ => v = .int .u64 was
  | 16, v, _ => v = .bool false
  | 17, v, _ => v = .bool false
  | 18, v, _ => v = .bool false
  | 19, v, _ => v = .pointer (some ⟨B, 0, none⟩)
  | 20, v, _ => v = .pointer (some ⟨D, 1, none⟩)
  | 21, v, _ => v = .int .u8 t.cl
  | 22, v, W => ∃ A q, v = .agg #[.int .i64 e, .slice A m q] ∧ Txt15 W A q ls
  | 23, v, _ => v = .agg #[.int .u8 t.kd, .int .u8 t.cl, .int .u64 t.nm, .int .u8 t.er, .slice t.A t.ss.length t.c]
  | 24, v, _ => v = .agg #[.int .i64 e, .slice t.A t.ss.length t.c]
  | 25, v, _ => v = .bool true
  | 26, v, _ => v = .bool false
  | 27, v, _ => v = .bool false
  | 28, v, _ => v = .bool false
  | 29, v, _ => v = .pointer (some ⟨B, 0, none⟩)
  | 30, v, _ => v = .pointer (some ⟨D, 1, none⟩)
  | 31, v, _ => v = .int .u8 t.cl
  | 32, v, _ => v = .pointer (some ⟨D, 2, none⟩)
  | 33, v, _ => v = .int .u64 t.nm
  | 34, v, _ => v = .int .i64 2
  | 35, v, _ => v = .bool false
  | 36, v, _ => v = .bool false
  | _, _, _ => True
theorem YAs15_keep {S : Nat} {B : Nat} {D : Nat} {C : Nat} {t : AcT} {was : Nat} {e : Nat} {m : Nat} {ls : List ByteArray} {W W' : World} (hb : Below W.heap.size W W') (j : Nat) (z : Value) (h : YAs15 S B D C t was e m ls j z W) : YAs15 S B D C t was e m ls j z W' := by
  match j, h with
  | 0, h => exact h
  | 1, h => exact h
  | 2, h => exact h
  | 3, h => exact h
  | 4, h => exact h
  | 5, h => exact h
  | 6, h => exact h
  | 7, h => exact h
  | 8, h => exact h
  | 9, h => exact h
  | 10, h => exact h
  | 11, h => exact h
  | 12, h => exact h
  | 13, h => exact h
  | 14, h => exact h
  | 15, h => exact h
  | 16, h => exact h
  | 17, h => exact h
  | 18, h => exact h
  | 19, h => exact h
  | 20, h => exact h
  | 21, h => exact h
  | 22, h => exact by obtain ⟨A, q, h1, h2⟩ := h; exact ⟨A, q, h1, h2.later hb⟩
  | 23, h => exact h
  | 24, h => exact h
  | 25, h => exact h
  | 26, h => exact h
  | 27, h => exact h
  | 28, h => exact h
  | 29, h => exact h
  | 30, h => exact h
  | 31, h => exact h
  | 32, h => exact h
  | 33, h => exact h
  | 34, h => exact h
  | 35, h => exact h
  | 36, h => exact h
  | _ + 37, h => exact h
/-- What is asked of each client: what each operation makes (another client). -/
def YClA15 (B D C i cl last was err : Nat) : Nat → Value → Prop
  | 0, v => v = .pointer (some ⟨B, 0, none⟩)
  | 1, v => v = .int .u8 i
  | 2, v => v = .int .u64 last
  | 3, v => v = .int .u8 i
  | 4, v => v = .pointer (some ⟨C, i, none⟩)
  | 5, v => v = .int .u64 was
  | 6, v => v = .bool false
  | 7, v => v = .bool false
  | 8, v => v = .int .u8 i
  | 9, v => v = .pointer (some ⟨D, 1, none⟩)
  | 10, v => v = .int .u8 cl
  | 11, v => v = .bool true
  | 12, v => v = .bool true
  | 13, _ => True
  | 14, _ => True
  | 15, v => v = .bool true
  | 16, v => v = .bool true
  | 17, v => v = .pointer (some ⟨B, 0, none⟩)
  | 18, v => v = .int .u8 i
  | 19, v => v = .int .u64 last
  | 20, v => v = .int .u8 i
  | 21, v => v = .pointer (some ⟨C, i, none⟩)
  | 22, v => v = .int .u64 was
  | 23, v => v = .bool false
  | 24, v => v = .bool false
  | 25, v => v = .bool false
  | _, _ => True

/-- What is asked of each client: what each operation makes (the client itself, refused). -/
def YClB15 (B D C i cl last was err : Nat) : Nat → Value → Prop
  | 0, v => v = .pointer (some ⟨B, 0, none⟩)
  | 1, v => v = .int .u8 i
  | 2, v => v = .int .u64 last
  | 3, v => v = .int .u8 i
  | 4, v => v = .pointer (some ⟨C, i, none⟩)
  | 5, v => v = .int .u64 was
  | 6, v => v = .bool false
  | 7, v => v = .bool false
  | 8, v => v = .int .u8 i
  | 9, v => v = .pointer (some ⟨D, 1, none⟩)
  | 10, v => v = .int .u8 cl
  | 11, v => v = .bool false
  | 12, v => v = .bool false
  | 13, v => v = .int .i64 err
  | 14, v => v = .bool true
  | 15, v => v = .bool true
  | 16, v => v = .bool true
  | 17, v => v = .pointer (some ⟨B, 0, none⟩)
  | 18, v => v = .int .u8 i
  | 19, v => v = .int .u64 last
  | 20, v => v = .int .u8 i
  | 21, v => v = .pointer (some ⟨C, i, none⟩)
  | 22, v => v = .int .u64 was
  | 23, v => v = .bool false
  | 24, v => v = .bool false
  | 25, v => v = .bool false
  | _, _ => True

/-- What is asked of each client: what each operation makes (the client itself, taken). -/
def YClC15 (B D C i cl last was err : Nat) : Nat → Value → Prop
  | 0, v => v = .pointer (some ⟨B, 0, none⟩)
  | 1, v => v = .int .u8 i
  | 2, v => v = .int .u64 last
  | 3, v => v = .int .u8 i
  | 4, v => v = .pointer (some ⟨C, i, none⟩)
  | 5, v => v = .int .u64 was
  | 6, v => v = .bool false
  | 7, v => v = .bool false
  | 8, v => v = .int .u8 i
  | 9, v => v = .pointer (some ⟨D, 1, none⟩)
  | 10, v => v = .int .u8 cl
  | 11, v => v = .bool false
  | 12, v => v = .bool false
  | 13, v => v = .int .i64 err
  | 14, v => v = .bool false
  | 15, v => v = .bool false
  | 16, v => v = .bool false
  | 17, _ => True
  | 18, _ => True
  | 19, _ => True
  | 20, _ => True
  | 21, _ => True
  | 22, _ => True
  | 23, _ => True
  | 24, v => v = .bool false
  | 25, v => v = .bool false
  | _, _ => True

set_option maxRecDepth 100000 in
set_option maxHeartbeats 16000000 in
theorem trises15_walk (A : Option Addr) (c n : Nat) (l : List AcT) (w : World) (hl : n = l.length) (hn : n ≤ 9223372036854775807) (hr : RdAT w A l) (ho : ∀ t ∈ l, t.Ok w) :
    Calls Try.prog 5 #[.slice A n c] w (Says14 (.bool true) w) := by
  have HV : Hid (∀ W, Calls Try.prog 6 #[] W (Says14 (.bool true) W)) := fun W => lives15_calls W
  have HF : Hid (∀ W, Below w.heap.size w W → Calls Try.prog 7 #[.slice A n c] W (Says14 (.bool (few15 l)) W)) := fun W hb => few15_calls A c n l W hl hn (hr.later hb) (fun t ht => let o := ho t ht; ⟨o.kd, o.cl, o.nm, o.er, o.tx.later hb⟩)
  have HQ : Hid (few15 l = true → n ≤ 40 ∧ ∀ t ∈ l, t.ss.length ≤ 10 ∧ ∀ s ∈ t.ss, s.size ≤ 50) := fun h => ⟨by rw [hl]; exact few15_len h, few15_lit h⟩
  have hmm := @run_makeMap Try.prog
  have HR := Lib.hid hr
  have HL := Lib.hid hl
  have HO := Lib.hid ho
  clear hr hl ho
  generalize few15 l = q at *
  go_enter Try.func5, Try.ntmps5
  go_wp2_with fail
  with_reducible refine (HV.out w).mono ?_
  rintro e w1 ⟨rfl, hb⟩
  have HB1 := Lib.hid hb
  clear hb
  go_wp2_with fail
  with_reducible refine (HF.out w1 HB1.out).mono ?_
  rintro e w2 ⟨rfl, hb⟩
  have HB2 := Lib.hid (next14 HB1.out hb)
  clear hb HF HB1
  cases q with
  | false =>
    go_wp2_with fail
    with_reducible refine (HV.out w2).mono ?_
    rintro e w3 ⟨rfl, hb⟩
    have HB3 := Lib.hid (next14 HB2.out hb)
    clear hb
    go_wp2
    go_ret
    exact ⟨rfl, HB3.out⟩
  | true =>
  obtain ⟨hn40, hlit⟩ := HQ.out rfl
  have HLIT := Lib.hid hlit
  clear HQ HV hlit
  go_wp2_with fail
  with_reducible refine (New15_calls w2).mono ?_
  rintro e w3 ⟨rfl, hw⟩
  have HT3 : Hid (Tab15 w3 w2.heap.size 66 (fun _ => zero15)) := by rw [hw]; exact heap_alloc_new w2 _
  have HB3 : Hid (Below w.heap.size w w3) := by rw [hw]; exact alloc14 HB2.out _
  have hB : w.heap.size ≤ w2.heap.size := HB2.out.size
  have hS : w2.heap.size < w3.heap.size := by rw [hw]; simp
  clear hw HB2
  generalize w2.heap.size = B at *
  go_wp2
  have HS : Hid (∃ T, Own15 (w3.alloc (.map #[] 0)) (w3.heap.size + 1) B T ∧ Tak15 (w3.alloc (.map #[] 0)) w3.heap.size (fun i => (T i).n)) := by
    refine ⟨fun _ => zero15, own_none15 (HT3.out.later ((Below.refl _ _).alloc (Nat.le_refl _) _)) (by omega) (by simp), #[], 0, ?_, ⟨MapKept.stamped_empty 0, fun x hx => by simp at hx⟩⟩
    exact heap_alloc_new w3 _
  have HB4 : Hid (Below w.heap.size w (w3.alloc (.map #[] 0))) := alloc14 HB3.out _
  generalize w3.alloc (.map #[] 0) = w4 at *
  generalize w3.heap.size = S at *
  clear HT3 HB3 hmm
  go_loopg [24] n (fun gg s24 wr => ∃ k : Nat, k ≤ n ∧ n - k ≤ gg ∧ s24 = .int .i64 k ∧ Hid (Below w.heap.size w wr) ∧ Hid (∃ T, Own15 wr (S + 1) B T ∧ Tak15 wr S (fun i => (T i).n)))
  case atStart => exact ⟨0, Nat.zero_le _, by omega, rfl, HB4.out, HS.out⟩
  case round =>
    clear HS HB4
    obtain ⟨k, hk, hg, rfl, HW, HT⟩ := hrel
    generalize wr = wo at *
    by_cases hlt : k < n
    case neg =>
      have hltz : ¬ (k : Int) < (n : Int) := by omega
      obtain rfl : k = n := by omega
      go_wp2
      go_ret
      exact ⟨rfl, HW.out⟩
    have hltz : (k : Int) < (n : Int) := by omega
    have hkl : k < l.length := HL.out ▸ hlt
    obtain ⟨b, off, rfl, c0, c1, c2, c3, c4⟩ := (HR.out.later HW.out).at15 k hkl
    have HOK := Lib.hid (HO.out _ (List.getElem_mem hkl))
    have hll := HLIT.out _ (List.getElem_mem hkl)
    have HLL := Lib.hid hll
    clear hll
    generalize l[k] = t at *
    obtain ⟨T, hT1, hT2⟩ := HT.out
    have HTX : Hid (Own15 wo (S + 1) B T) := hT1
    have HMX : Hid (Tak15 wo S (fun i => (T i).n)) := hT2
    have hSlt : S < wo.heap.size := hT1.le
    clear hT1 hT2 HT
    have hz8 := zeroNums15_run
    have hbA : Below wo.heap.size wo ((wo.alloc (.cells #[.int .u8 t.kd, .int .u8 t.cl, .int .u64 t.nm, .int .u8 t.er, .slice t.A t.ss.length t.c] 30)).alloc (.cells (u64A fun _ => 0) 60)) := alloc14 (alloc14 (Below.refl _ wo) _) _
    have hA : ActB15 ((wo.alloc (.cells #[.int .u8 t.kd, .int .u8 t.cl, .int .u64 t.nm, .int .u8 t.er, .slice t.A t.ss.length t.c] 30)).alloc (.cells (u64A fun _ => 0) 60)) wo.heap.size t := heap_alloc2_old wo _ _
    have hC : Nums15 ((wo.alloc (.cells #[.int .u8 t.kd, .int .u8 t.cl, .int .u64 t.nm, .int .u8 t.er, .slice t.A t.ss.length t.c] 30)).alloc (.cells (u64A fun _ => 0) 60)) (wo.heap.size + 1) (fun _ => 0) := heap_alloc2_new wo _ _
    have HBA := Lib.hid hbA
    have HA := Lib.hid hA
    have HC := Lib.hid hC
    clear hbA hA hC
    go_wp2
    clear hz8 c0 c1 c2 c3 c4
    generalize (wo.alloc (.cells #[.int .u8 t.kd, .int .u8 t.cl, .int .u64 t.nm, .int .u8 t.er, .slice t.A t.ss.length t.c] 30)).alloc (.cells (u64A fun _ => 0) 60) = wa at *
    generalize hD : wo.heap.size = D at *
    go_loopg [28] 8 (fun gg s28 w5 => ∃ i : Nat, i ≤ 8 ∧ 8 - i ≤ gg ∧ s28 = .int .u8 i ∧ Hid (Turns (fun k => k = D + 1) wa w5 ∧ Nums15 w5 (D + 1) (firstN (fun j => (T j).n) i)))
    case atStart => exact ⟨0, Nat.zero_le _, by omega, rfl, Turns.refl _ _, by rw [← firstN_zero]; exact HC.out⟩
    case round =>
      clear HC
      obtain ⟨i, hi, hgi, rfl, H5⟩ := hrel
      generalize wr = w5 at *
      by_cases hi8 : i < 8
      · have hi8z : (i : Int) < 8 := by omega
        have HLA : Hid (Calls Try.prog 11 #[.pointer (some ⟨B, 0, none⟩), .int .u8 i] w5 (Says14 (.int .u64 (T i).n) w5)) := by
          have := Last15_calls B T i w5 ((HTX.out.later (hD.symm ▸ HBA.out.trans (H5.out.1.below_at (by have := HBA.out.size; omega) (fun k e => by omega)))).at_)
          rw [show getT T i = T i from if_pos hi8] at this
          exact this
        go_wp2_with fail
        with_reducible refine HLA.out.mono ?_
        rintro e w6 ⟨rfl, hb⟩
        have hn6 := H5.out.2.later hb
        have hc6 := hn6.cell i hi8
        have hz6 := hn6.free i
        have HR6 : Hid (Turns (fun k => k = D + 1) wa (w6.setCell ⟨D + 1, i, none⟩ (.int .u64 (T i).n)) ∧ Nums15 (w6.setCell ⟨D + 1, i, none⟩ (.int .u64 (T i).n)) (D + 1) (firstN (fun j => (T j).n) (i + 1))) :=
          ⟨(H5.out.1.next (Turns.of_below hb _) (fun _ _ hk => hk)).setCell (p := ⟨D + 1, i, none⟩) (fun _ => rfl) _, by rw [← firstN_snoc]; exact hn6.set i _⟩
        clear hn6 hb H5 HLA
        generalize firstN (fun j => (T j).n) i i = y6 at *
        generalize (T i).n = x6 at *
        go_wp2
        go_roundg (8 - (i + 1))
        case measure => omega
        case rel => exact ⟨i + 1, by omega, by omega, by go_num, HR6.out⟩
      have hi8z : ¬ (i : Int) < 8 := by omega
      obtain rfl : i = 8 := by omega
      have hN5 : Nums15 w5 (D + 1) (fun j => (T j).n) := H5.out.2.congr (fun j hj => if_pos hj)
      have hB5 : Below D wo w5 := HBA.out.trans (H5.out.1.below_at (by have := HBA.out.size; omega) (fun k e => by omega))
      have hA5 : ActB15 w5 D t := HA.out.turns H5.out.1 (by omega)
      have hT5 := HTX.out.later (hD.symm ▸ hB5)
      have HP : Hid (∀ W, Below w5.heap.size w5 W → Calls Try.prog 9 #[.pointer (some ⟨B, 0, none⟩), .int .u8 t.cl, .int .u64 t.nm, .agg #[.int .i64 (t.er % 19 : Nat), .slice t.A t.ss.length t.c]] W fun en w' =>
          en = .returned (.int .i64 (errJ15 (J15 (T t.cl).n t.cl t.nm))) ∧ Did15 w5 (S + 1) B (putX15 (fun i => (T i).p) t.cl t.nm (t.er % 19) t.ss) w') := fun W hW =>
        (act_put15 (hT5.later hW) HOK.out (next14 (next14 HW.out (hD.symm ▸ hB5)) hW) HLL.out).mono fun en w' ⟨h1, h2⟩ => ⟨h1, h2.from_ hW⟩
      have HRE : Hid (∀ W, Calls Try.prog 10 #[.agg #[.int .u8 t.kd, .int .u8 t.cl, .int .u64 t.nm, .int .u8 t.er, .slice t.A t.ss.length t.c]] W (Says14 (.agg #[.int .i64 (t.er % 19 : Nat), .slice t.A t.ss.length t.c]) W)) := fun W => reply15_calls t W HOK.out.er
      have HA5 := Lib.hid hA5
      have HN5 := Lib.hid hN5
      have HB5 := Lib.hid hB5
      have HM5 : Hid (Tak15 w5 S (fun i => (T i).n)) := by
        obtain ⟨es, clock, h1, h2⟩ := HMX.out
        exact ⟨es, clock, (hB5.block S hSlt).trans h1, h2⟩
      have HW5 := Lib.hid (next14 HW.out (hD.symm ▸ hB5))
      have hS5 : S < w5.heap.size := by have := hB5.size; omega
      have hB5l : B < S + 1 := hT5.lt
      have hBS : B ≠ S := by
        rintro rfl
        obtain ⟨es, clock, h1, _⟩ := HM5.out
        have h2 : w5.heap[B]? = _ := hT5.at_
        rw [h1] at h2
        injection h2 with h2
        cases h2
      clear hN5 hB5 hA5 hT5 H5 HBA HA HMX HW HTX
      generalize hJ : J15 (T t.cl).n t.cl t.nm = J at *
      have HJ := Lib.hid hJ
      clear hJ
      go_wp2
      refine wp_region_last (by kernel_rfl) 7 (fun W => Below w5.heap.size w5 W) (fun W => Did15 w5 (S + 1) B (putX15 (fun i => (T i).p) t.cl t.nm (t.er % 19) t.ss) W) (YPu15 B D t) (fun v => v = .int .i64 (errJ15 J)) ?F ?hF (by kernel_rfl) (by kernel_rfl) (by kernel_rfl) (by kernel_rfl) (by decide) (drew14 (Below.refl _ _)) ?step ?fin
      case hF =>
        intro x
        simp only [List.map_cons, List.map_nil, putL, Act.put, List.setIfInBounds_toArray, List.set_cons_zero, List.set_cons_succ, Nat.zero_add, Nat.reduceAdd]
        exact rfl
      case step =>
        refine ⟨?_, ?_, ?_, ?_, ?_, ?_, ?_, ?_, ?_, trivial⟩
        · intro x W
          refine ⟨fun _ hW hdep K hK => ?_, (fun h => absurd h (by decide)), (fun h => absurd h (by decide))⟩
          clear hdep
          go_simp
          exact hK _ _ rfl hW (fun _ _ h => h)
        · intro x W
          refine ⟨fun _ hW hdep K hK => ?_, (fun h => absurd h (by decide)), (fun h => absurd h (by decide))⟩
          clear hdep
          go_simp
          exact hK _ _ rfl hW (fun _ _ h => h)
        · intro x W
          refine ⟨fun _ hW hdep K hK => ?_, (fun h => absurd h (by decide)), (fun h => absurd h (by decide))⟩
          have h1 : x 1 = _ := hdep 1 rfl
          have a1 := (HA5.out.later hW).cells.2.1
          clear hdep
          simp only [h1] at hK
          go_simp
          exact hK _ _ rfl hW (fun _ _ h => h)
        · intro x W
          refine ⟨fun _ hW hdep K hK => ?_, (fun h => absurd h (by decide)), (fun h => absurd h (by decide))⟩
          clear hdep
          go_simp
          exact hK _ _ rfl hW (fun _ _ h => h)
        · intro x W
          refine ⟨fun _ hW hdep K hK => ?_, (fun h => absurd h (by decide)), (fun h => absurd h (by decide))⟩
          have h3 : x 3 = _ := hdep 3 rfl
          have a2 := (HA5.out.later hW).cells.2.2.1
          clear hdep
          simp only [h3] at hK
          go_simp
          exact hK _ _ rfl hW (fun _ _ h => h)
        · intro x W
          refine ⟨fun _ hW hdep K hK => ?_, (fun h => absurd h (by decide)), (fun h => absurd h (by decide))⟩
          obtain ⟨a0, a1, a2, a3, a4⟩ := (HA5.out.later hW).cells
          clear hdep
          go_simp
          exact hK _ _ rfl hW (fun _ _ h => h)
        · intro x W
          refine ⟨fun _ hW hdep K hK => ?_, (fun h => absurd h (by decide)), (fun h => absurd h (by decide))⟩
          have h5 : x 5 = _ := hdep 5 rfl
          clear hdep
          simp only [h5] at hK
          go_simp
          refine (HRE.out W).mono ?_
          rintro e W' ⟨rfl, hb⟩
          exact hK _ _ rfl (next14 hW hb) (fun j z h => YPu15_any j z h)
        · intro x W
          refine ⟨(fun h => absurd h (by decide)), fun _ hW hdep K hK => ?_, (fun h => absurd h (by decide))⟩
          have h0 : x 0 = _ := hdep 0 rfl
          have h2 : x 2 = _ := hdep 2 rfl
          have h4 : x 4 = _ := hdep 4 rfl
          have h6 : x 6 = _ := hdep 6 rfl
          clear hdep
          simp only [h0, h2, h4, h6] at hK
          go_simp
          refine (HP.out W hW).mono ?_
          rintro e W' ⟨rfl, hd⟩
          exact hK _ _ rfl hd
        · intro x W
          refine ⟨(fun h => absurd h (by decide)), (fun h => absurd h (by decide)), fun _ hW hdep K hK => ?_⟩
          have h7 : x 7 = _ := hdep 7 rfl (by decide)
          clear hdep
          simp only [h7] at hK
          go_simp
          exact hK _ rfl
      case fin =>
        intro x w6 hD6 hZ
        have h8 : x 8 = _ := hZ 8 (by decide) (by decide)
        obtain ⟨T', hT6, ht6, hX⟩ := hD6
        have hd6 : D ≠ B := by omega
        have hA6 := HA5.out.turns ht6 hd6
        have hN6 := HN5.out.turns ht6 (show ¬ D + 1 = B by omega)
        have HT6 := Lib.hid hT6
        have HA6 := Lib.hid hA6
        have HN6 := Lib.hid hN6
        have HW6 := Lib.hid (HW5.out.trans (ht6.below_at HW5.out.size (fun k e => by omega)))
        have hM6 : ∃ es clock, At15 w6 S es clock ∧ Ent15 (fun i => (T i).n) es clock := by
          obtain ⟨es, clock, h1, h2⟩ := HM5.out
          exact ⟨es, clock, (ht6.block S hS5 (fun e => hBS e.symm)).trans h1, h2⟩
        have HX := Lib.hid hX
        clear hA6 hN6 hT6 ht6 hX hZ HP HM5 HW5 HA5 HN5 HB5 hd6
        by_cases h3 : J = 3
        case pos =>
          subst h3
          obtain ⟨hc8, hn0, hnm, hlast⟩ := J15_three HJ.out
          have hX1 : (T' t.cl).p = ⟨t.nm, t.er % 19, tls14 (t.er % 19 : Nat) t.ss⟩ := by
            rw [HX.out t.cl hc8]
            unfold putX15
            exact if_pos ⟨rfl, HJ.out⟩
          have HX2 : Hid (∀ i, i < 8 → i ≠ t.cl → (T' i).n = (T i).n) := fun i hi hne => by
            have := HX.out i hi
            unfold putX15 at this
            rw [if_neg (fun h => hne h.1)] at this
            exact congrArg P15.n this
          have hXn : (T' t.cl).n = t.nm := congrArg P15.n hX1
          have hXe : (T' t.cl).e = t.er % 19 := congrArg P15.e hX1
          have hXs : (T' t.cl).ss = tls14 (t.er % 19 : Nat) t.ss := congrArg P15.ss hX1
          obtain ⟨es, clock, hAt, hEnt⟩ := hM6
          have hn64 := HOK.out.nm
          have HKS := Lib.hid hEnt.keys
          have HNO := Lib.hid (hEnt.none (c := t.cl) (n := t.nm) hlast)
          have HST := Lib.hid hEnt.st
          have HE7 : Hid (Ent15 (fun i => (T' i).n) (With15 es clock t.cl t.nm (.int .i64 1)) (clock + 1)) := hEnt.with hc8 hn64 hlast (fun i hi => by
            by_cases e : i = t.cl
            · subst e; rw [hXn]; exact Nat.le_of_lt hlast
            · rw [HX2.out i hi e]; exact Nat.le_refl _) (by rw [hXn]; exact Nat.le_refl _)
          have HAt := Lib.hid hAt
          have HLS := Lib.hid hlast
          have HXN := Lib.hid hXn
          have HXE := Lib.hid hXe
          have HXS := Lib.hid hXs
          clear hAt hEnt hX1 HX hXn hXe hXs hlast
          have hcw : IntKind.u64.wrap (t.cl : Int) = t.cl := by rw [IntKind.wrap_u64]; omega
          have hcm : (t.cl : Int) % 18446744073709551616 = t.cl := by omega
          have a1 := HA6.out.cells.2.1
          have a2 := HA6.out.cells.2.2.1
          have hAl := HA6.out.lt
          have h8' : x 8 = .int .i64 0 := h8
          rw [h8']
          clear h8 h8'
          go_wp2
          have hK7 : (w6.alloc (.cells #[.int .u64 t.cl, .int .u64 t.nm] 61)).heap[w6.heap.size]? = some (.cells #[.int .u64 t.cl, .int .u64 t.nm] 61 (0, 0)) := heap_alloc_new w6 _
          have hB7 := alloc14 (Below.refl _ w6) (.cells #[.int .u64 t.cl, .int .u64 t.nm] 61)
          have HK7 := Lib.hid hK7
          have HB7 := Lib.hid hB7
          clear hK7 hB7 a1 a2
          generalize w6.alloc (.cells #[.int .u64 t.cl, .int .u64 t.nm] 61) = w7 at *
          generalize hKK : w6.heap.size = Kb at *
          have hSK : S < Kb := by rw [← hKK]; exact HAt.out.lt
          have hAt7 : At15 w7 S es clock := (HB7.out.block S hSK).trans HAt.out
          have HAt7 := Lib.hid hAt7
          have HK7c : Hid (∀ W, Turns (fun k => k = S) w7 W → W.cell? ⟨Kb, 0, none⟩ = some (.int .u64 t.cl) ∧ W.cell? ⟨Kb, 1, none⟩ = some (.int .u64 t.nm)) := fun W ht => by
            have hk : W.heap[Kb]? = some (.cells #[.int .u64 t.cl, .int .u64 t.nm] 61 (0, 0)) := (ht.block Kb (Array.getElem?_eq_some_iff.1 HK7.out).1 (by omega)).trans HK7.out
            exact ⟨by rw [cell_of_row W Kb 0 _ _ (0, 0) hk]; rfl, by rw [cell_of_row W Kb 1 _ _ (0, 0) hk]; rfl⟩
          clear hAt7
          refine wp_region_last (by kernel_rfl) 6 (fun W => Turns (fun k => k = S) w7 W ∧ (At15 W S es clock ∨ At15 W S (With15 es clock t.cl t.nm (.int .i64 0)) (clock + 1))) (fun W => Turns (fun k => k = S) w7 W ∧ At15 W S (With15 es clock t.cl t.nm (.int .i64 1)) (clock + 1)) (YCo15 S es clock t.cl t.nm) (fun _ => True) ?F17 ?hF17 (by kernel_rfl) (by kernel_rfl) (by kernel_rfl) (by kernel_rfl) (by decide) ⟨(Turns.refl _ _).drew, .inl HAt7.out⟩ ?step17 ?fin17
          case hF17 =>
            intro x
            simp only [List.map_cons, List.map_nil, putL, Act.put, List.setIfInBounds_toArray, List.set_cons_zero, List.set_cons_succ, Nat.zero_add, Nat.reduceAdd]
            exact rfl
          case step17 =>
            refine ⟨?_, ?_, ?_, ?_, ?_, ?_, ?_, trivial⟩
            · intro x W
              refine ⟨fun _ hW hdep K hK => ?_, (fun h => absurd h (by decide)), (fun h => absurd h (by decide))⟩
              clear hdep
              go_simp
              exact hK _ _ rfl hW (fun _ _ h => h)
            · intro x W
              refine ⟨fun _ hW hdep K hK => ?_, (fun h => absurd h (by decide)), (fun h => absurd h (by decide))⟩
              obtain ⟨k0, k1⟩ := HK7c.out W hW.1
              clear hdep
              go_simp
              exact hK _ _ rfl hW (fun _ _ h => h)
            · intro x W
              refine ⟨fun _ hW hdep K hK => ?_, (fun h => absurd h (by decide)), (fun h => absurd h (by decide))⟩
              have h0 : x 0 = _ := hdep 0 rfl
              have h1 : x 1 = _ := hdep 1 rfl
              have hlk : (Instr.lookup 59 (.map (some S)) (key15 t.cl t.nm) false).run Try.prog W = .ok (.int .i64 0) W := by
                rcases hW.2 with h | h
                · exact look_none15 h HKS.out hc8 hn64 HNO.out
                · exact look_with15 h HKS.out hc8 hn64 HNO.out
              clear hdep
              simp only [h0, h1] at hK
              go_simp
              exact hK _ _ rfl hW (fun _ _ h => h)
            · intro x W
              refine ⟨fun _ hW hdep K hK => ?_, (fun h => absurd h (by decide)), (fun h => absurd h (by decide))⟩
              have h2 : x 2 = _ := hdep 2 rfl
              clear hdep
              simp only [h2] at hK
              go_simp
              exact hK _ _ rfl hW (fun _ _ h => h)
            · intro x W
              refine ⟨fun _ hW hdep K hK => ?_, (fun h => absurd h (by decide)), (fun h => absurd h (by decide))⟩
              have h0 : x 0 = _ := hdep 0 rfl
              have h1 : x 1 = _ := hdep 1 rfl
              have hme : (Instr.mapEntry 59 (.map (some S)) (key15 t.cl t.nm)).run Try.prog W = .ok (.tuple #[.int .i64 0, goInt clock]) (setBlock W S (.map (With15 es clock t.cl t.nm (.int .i64 0)) (clock + 1))) := by
                rcases hW.2 with h | h
                · exact entry_none15 h HKS.out hc8 hn64 HNO.out
                · exact entry_with15 h HKS.out hc8 hn64 HNO.out
              have hAW : At15 (setBlock W S (.map (With15 es clock t.cl t.nm (.int .i64 0)) (clock + 1))) S (With15 es clock t.cl t.nm (.int .i64 0)) (clock + 1) := by
                rcases hW.2 with h | h <;> exact h.set _ _
              have hTW := hW.1.next (turns_set15 W S (.map (With15 es clock t.cl t.nm (.int .i64 0)) (clock + 1))) (fun _ _ hk => hk)
              have HAW := Lib.hid hAW
              have HTW := Lib.hid hTW
              clear hAW hTW
              clear hdep
              simp only [h0, h1] at hK
              go_simp
              exact hK _ _ ⟨rfl, HAW.out⟩ ⟨HTW.out, .inr HAW.out⟩ (fun j z h => YCo15_keep HAW.out j z h)
            · intro x W
              refine ⟨fun _ hW hdep K hK => ?_, (fun h => absurd h (by decide)), (fun h => absurd h (by decide))⟩
              obtain ⟨h4, hA4⟩ := hdep 4 rfl
              have HA4 := Lib.hid hA4
              clear hA4
              simp only [h4] at hK
              clear hdep
              go_simp
              exact hK _ _ ⟨rfl, HA4.out⟩ hW (fun _ _ h => h)
            · intro x W
              refine ⟨(fun h => absurd h (by decide)), fun _ hW hdep K hK => ?_, (fun h => absurd h (by decide))⟩
              have h0 : x 0 = _ := hdep 0 rfl
              have h3 : x 3 = _ := hdep 3 rfl
              obtain ⟨h5, hA5⟩ := hdep 5 rfl
              have hes : (Instr.entryStore 59 (.map (some S)) (.int .i64 clock) (.int .i64 1)).run Try.prog W = .ok () (setBlock W S (.map (With15 es clock t.cl t.nm (.int .i64 1)) (clock + 1))) := store_with15 HST.out hA5 (.int .i64 1)
              have HAW := Lib.hid (hA5.set (With15 es clock t.cl t.nm (.int .i64 1)) (clock + 1))
              have HTW := Lib.hid (hW.1.next (turns_set15 W S (.map (With15 es clock t.cl t.nm (.int .i64 1)) (clock + 1))) (fun _ _ hk => hk))
              clear hA5
              simp only [h5] at hK
              clear hdep
              simp only [h0, h3] at hK
              go_simp
              exact hK (.bool true) _ trivial ⟨HTW.out, HAW.out⟩
          case fin17 =>
            intro x w8 hD8 _
            obtain ⟨ht8, hAt8⟩ := hD8
            have hlt6 : D < w6.heap.size := by rw [hKK]; exact hAl
            have hN6l : D + 1 < w6.heap.size := HN6.out.lt
            have HT8 := Lib.hid ((HT6.out.later (hKK.symm ▸ HB7.out)).turns ht8 (fun e => hBS e) (fun k hk e => by omega))
            have HA8 := Lib.hid ((HA6.out.later (hKK.symm ▸ HB7.out)).turns ht8 (by omega))
            have HN8 := Lib.hid ((HN6.out.later (hKK.symm ▸ HB7.out)).turns ht8 (by omega))
            have HW8 := Lib.hid ((next14 HW6.out (hKK.symm ▸ HB7.out)).trans (ht8.below_at (by have := HW6.out.size; have := HB7.out.size; omega) (fun k e => by omega)))
            obtain ⟨k0, k1⟩ := HK7c.out w8 ht8
            have hKl8 : Kb < w8.heap.size := World.block_lt_of_cell? w8 _ k0
            have HK80 := Lib.hid k0
            have HK81 := Lib.hid k1
            have HAt8 := Lib.hid hAt8
            clear ht8 hAt8 k0 k1 HK7c HAt7 HAt HK7 HB7 HT6 HA6 HN6 HW6
            have HREP : Hid (∀ W, Below w8.heap.size w8 W → Calls Try.prog 13 #[.pointer (some ⟨B, 0, none⟩), .int .u8 t.cl] W fun e w' => ∃ A q, e = .returned (.agg #[.int .i64 (t.er % 19 : Nat), .slice A (tls14 (t.er % 19 : Nat) t.ss).length q]) ∧ Txt15 w' A q (tls14 (t.er % 19 : Nat) t.ss) ∧ Below W.heap.size W w') := fun W hW => by
              have := Reply15_calls (HT8.out.later hW) t.cl
              rwa [show getT T' t.cl = T' t.cl from if_pos hc8, HXE.out, HXS.out] at this
            have HRE2 : Hid (∀ W, Calls Try.prog 10 #[.agg #[.int .u8 t.kd, .int .u8 t.cl, .int .u64 t.nm, .int .u8 t.er, .slice t.A t.ss.length t.c]] W (Says14 (.agg #[.int .i64 (t.er % 19 : Nat), .slice t.A t.ss.length t.c]) W)) := fun W => reply15_calls t W HOK.out.er
            have HJUD : Hid (∀ W, Below w8.heap.size w8 W → Calls Try.prog 21 #[.pointer (some ⟨B, 0, none⟩), .int .u8 t.cl, .int .u64 t.nm] W (Says14 (.int .i64 2) W)) := fun W hW => by
              have := Judge15_calls B T' t.cl t.nm W (HT8.out.later hW).at_
              rw [getT_n15, HXN.out, show J15 t.nm t.cl t.nm = 2 by unfold J15 cnt15; simp [hc8, hn0, hnm]] at this
              exact this
            have hll10 := HLL.out
            have HSAM : Hid (∀ A q W, Below w8.heap.size w8 W → Txt15 W A q (tls14 (t.er % 19 : Nat) t.ss) → Calls Try.prog 12 #[.agg #[.int .i64 (t.er % 19 : Nat), .slice A (tls14 (t.er % 19 : Nat) t.ss).length q], .agg #[.int .i64 (t.er % 19 : Nat), .slice t.A t.ss.length t.c]] W (Says14 (.bool true) W)) := fun A q W hW hA => by
              have hlen : (tls14 (t.er % 19 : Nat) t.ss).length ≤ 10 := by unfold tls14; split; exact hll10.1; exact Nat.zero_le _
              have := Same14_calls (t.er % 19 : Nat) (t.er % 19 : Nat) A t.A q t.c (tls14 (t.er % 19 : Nat) t.ss) t.ss W hA.rd (HOK.out.tx.rd.later14 (next14 HW8.out hW)) (by omega)
              rwa [show sam14 (t.er % 19 : Nat) (tls14 (t.er % 19 : Nat) t.ss) (t.er % 19 : Nat) t.ss = true by unfold sam14; rw [tls_tls15]; simp] at this
            have hlw0 : (T t.cl).n < t.nm := HLS.out
            have HM9' : Hid (Tak15 w8 S (fun i => (T' i).n)) := ⟨_, _, HAt8.out, HE7.out⟩
            clear hll10
            generalize hls : tls14 (t.er % 19 : Nat) t.ss = ls at *
            generalize hlm : ls.length = lm at *
            generalize hwas0 : (T t.cl).n = was at *
            have hcwas : ∀ W, Nums15 W (D + 1) (fun j => (T j).n) → W.cell? ⟨D + 1, t.cl, none⟩ = some (.int .u64 was) := fun W h => by rw [h.cell t.cl hc8, hwas0]
            have HCWAS := Lib.hid hcwas
            clear hcwas
            have g1 : decide ((t.cl : Int) > 7) = false := by simp; omega
            have g2 : decide (7 < t.cl) = false := by simp; omega
            have g3 : decide ((t.nm : Int) ≤ was) = false := by simp; omega
            have g4 : decide (t.nm ≤ was) = false := by simp; omega
            have g5 : (t.cl : Int) < 8 := by omega
            generalize ht19 : t.er % 19 = er at *
            go_wp2
            refine wp_region_inv (by kernel_rfl) (fun W => Below w8.heap.size w8 W) (YAs15 S B D (D + 1) t was er lm ls) ?F18 ?hF18 (by kernel_rfl) (by kernel_rfl) (drew14 (Below.refl _ _)) ?step18 ?fin18
            case hF18 =>
              intro x
              simp only [List.map_cons, List.map_nil, putL, Act.put, List.setIfInBounds_toArray, List.set_cons_zero, List.set_cons_succ, Nat.zero_add, Nat.reduceAdd]
              exact rfl
            case step18 =>
              refine ⟨?_, ?_, ?_, ?_, ?_, ?_, ?_, ?_, ?_, ?_, ?_, ?_, ?_, ?_, ?_, ?_, ?_, ?_, ?_, ?_, ?_, ?_, ?_, ?_, ?_, ?_, ?_, ?_, ?_, ?_, ?_, ?_, ?_, ?_, ?_, ?_, ?_, trivial⟩
              all_goals intro x W hW hdep K hK
              · clear hdep
                go_simp
                exact hK _ _ rfl hW (fun _ _ h => h)
              · have k0 := (hW.cell (p := ⟨Kb, 0, none⟩) hKl8).trans HK80.out
                have k1 := (hW.cell (p := ⟨Kb, 1, none⟩) hKl8).trans HK81.out
                clear hdep
                go_simp
                exact hK _ _ rfl hW (fun _ _ h => h)
              · have h0 : x 0 = _ := hdep 0 rfl
                have h1 : x 1 = _ := hdep 1 rfl
                have hlk := look_with15 (At15.turns HAt8.out (turns14 hW) (fun f => f)) HKS.out hc8 hn64 HNO.out
                clear hdep
                simp only [h0, h1] at hK
                go_simp
                exact hK _ _ rfl hW (fun _ _ h => h)
              · have h2 : x 2 = _ := hdep 2 rfl
                clear hdep
                simp only [h2] at hK
                go_simp
                exact hK _ _ rfl hW (fun _ _ h => h)
              · have h3 : x 3 = _ := hdep 3 rfl
                clear hdep
                simp only [h3] at hK
                go_simp
                exact hK _ _ rfl hW (fun _ _ h => h)
              · have h4 : x 4 = _ := hdep 4 rfl
                clear hdep
                simp only [h4] at hK
                go_simp
                exact hK _ _ rfl hW (fun _ _ h => h)
              · have h4 : x 4 = _ := hdep 4 rfl
                have h5 : x 5 = _ := hdep 5 rfl
                have a1 := (HA8.out.later hW).cells.2.1
                clear hdep
                simp only [h4, h5] at hK
                go_simp
                exact hK _ _ rfl hW (fun _ _ h => h)
              · have h4 : x 4 = _ := hdep 4 rfl
                have h6 : x 6 = _ := hdep 6 rfl
                clear hdep
                simp only [h4, h6] at hK
                go_simp
                exact hK _ _ rfl hW (fun _ _ h => h)
              · have h4 : x 4 = _ := hdep 4 rfl
                have h7 : x 7 = _ := hdep 7 rfl
                clear hdep
                simp only [h4, h7] at hK
                go_simp
                exact hK _ _ rfl hW (fun _ _ h => h)
              · have h8 : x 8 = _ := hdep 8 rfl
                clear hdep
                simp only [h8] at hK
                go_simp
                exact hK _ _ rfl hW (fun _ _ h => h)
              · have h9 : x 9 = _ := hdep 9 rfl
                clear hdep
                simp only [h9] at hK
                go_simp
                exact hK _ _ rfl hW (fun _ _ h => h)
              · have h9 : x 9 = _ := hdep 9 rfl
                have h10 : x 10 = _ := hdep 10 rfl
                have a2 := (HA8.out.later hW).cells.2.2.1
                clear hdep
                simp only [h9, h10] at hK
                go_simp
                exact hK _ _ rfl hW (fun _ _ h => h)
              · have h9 : x 9 = _ := hdep 9 rfl
                clear hdep
                simp only [h9] at hK
                go_simp
                exact hK _ _ rfl hW (fun _ _ h => h)
              · have h9 : x 9 = _ := hdep 9 rfl
                have h12 : x 12 = _ := hdep 12 rfl
                have a1 := (HA8.out.later hW).cells.2.1
                clear hdep
                simp only [h9, h12] at hK
                go_simp
                exact hK _ _ rfl hW (fun _ _ h => h)
              · have h9 : x 9 = _ := hdep 9 rfl
                have h13 : x 13 = _ := hdep 13 rfl
                clear hdep
                simp only [h9, h13] at hK
                go_simp
                exact hK _ _ rfl hW (fun _ _ h => h)
              · have h9 : x 9 = _ := hdep 9 rfl
                have h14 : x 14 = _ := hdep 14 rfl
                have cw := HCWAS.out W (HN8.out.later hW)
                clear hdep
                simp only [h9, h14] at hK
                go_simp
                exact hK _ _ rfl hW (fun _ _ h => h)
              · have h9 : x 9 = _ := hdep 9 rfl
                have h11 : x 11 = _ := hdep 11 rfl
                have h15 : x 15 = _ := hdep 15 rfl
                clear hdep
                simp only [h9, h11, h15] at hK
                go_simp
                exact hK _ _ rfl hW (fun _ _ h => h)
              · have h9 : x 9 = _ := hdep 9 rfl
                have h16 : x 16 = _ := hdep 16 rfl
                clear hdep
                simp only [h9, h16] at hK
                go_simp
                exact hK _ _ rfl hW (fun _ _ h => h)
              · have h17 : x 17 = _ := hdep 17 rfl
                clear hdep
                simp only [h17] at hK
                go_simp
                exact hK _ _ rfl hW (fun _ _ h => h)
              · have h18 : x 18 = _ := hdep 18 rfl
                clear hdep
                simp only [h18] at hK
                go_simp
                exact hK _ _ rfl hW (fun _ _ h => h)
              · have h18 : x 18 = _ := hdep 18 rfl
                clear hdep
                simp only [h18] at hK
                go_simp
                exact hK _ _ rfl hW (fun _ _ h => h)
              · have h18 : x 18 = _ := hdep 18 rfl
                have h20 : x 20 = _ := hdep 20 rfl
                have a1 := (HA8.out.later hW).cells.2.1
                clear hdep
                simp only [h18, h20] at hK
                go_simp
                exact hK _ _ rfl hW (fun _ _ h => h)
              · have h18 : x 18 = _ := hdep 18 rfl
                have h19 : x 19 = _ := hdep 19 rfl
                have h21 : x 21 = _ := hdep 21 rfl
                clear hdep
                simp only [h18, h19, h21] at hK
                go_simp
                refine (HREP.out W hW).mono ?_
                rintro e W' ⟨A', q', rfl, ht', hb⟩
                exact hK _ _ ⟨A', q', rfl, ht'⟩ (next14 hW hb) (fun j z h => YAs15_keep hb j z h)
              · have h18 : x 18 = _ := hdep 18 rfl
                obtain ⟨a0, a1, a2, a3, a4⟩ := (HA8.out.later hW).cells
                clear hdep
                simp only [h18] at hK
                go_simp
                exact hK _ _ rfl hW (fun _ _ h => h)
              · have h18 : x 18 = _ := hdep 18 rfl
                have h23 : x 23 = _ := hdep 23 rfl
                clear hdep
                simp only [h18, h23] at hK
                go_simp
                refine (HRE2.out W).mono ?_
                rintro e W' ⟨rfl, hb⟩
                exact hK _ _ rfl (next14 hW hb) (fun j z h => YAs15_keep hb j z h)
              · have h18 : x 18 = _ := hdep 18 rfl
                have h24 : x 24 = _ := hdep 24 rfl
                obtain ⟨A', q', h22, ht'⟩ := hdep 22 rfl
                have HT' := Lib.hid ht'
                clear ht'
                simp only [h22] at hK
                clear hdep
                simp only [h18, h24] at hK
                go_simp
                refine (HSAM.out A' q' W hW HT'.out).mono ?_
                rintro e W' ⟨rfl, hb⟩
                exact hK _ _ rfl (next14 hW hb) (fun j z h => YAs15_keep hb j z h)
              · have h18 : x 18 = _ := hdep 18 rfl
                have h25 : x 25 = _ := hdep 25 rfl
                clear hdep
                simp only [h18, h25] at hK
                go_simp
                exact hK _ _ rfl hW (fun _ _ h => h)
              · have h18 : x 18 = _ := hdep 18 rfl
                have h26 : x 26 = _ := hdep 26 rfl
                clear hdep
                simp only [h18, h26] at hK
                go_simp
                exact hK _ _ rfl hW (fun _ _ h => h)
              · have h27 : x 27 = _ := hdep 27 rfl
                clear hdep
                simp only [h27] at hK
                go_simp
                exact hK _ _ rfl hW (fun _ _ h => h)
              · have h28 : x 28 = _ := hdep 28 rfl
                clear hdep
                simp only [h28] at hK
                go_simp
                exact hK _ _ rfl hW (fun _ _ h => h)
              · have h28 : x 28 = _ := hdep 28 rfl
                clear hdep
                simp only [h28] at hK
                go_simp
                exact hK _ _ rfl hW (fun _ _ h => h)
              · have h28 : x 28 = _ := hdep 28 rfl
                have h30 : x 30 = _ := hdep 30 rfl
                have a1 := (HA8.out.later hW).cells.2.1
                clear hdep
                simp only [h28, h30] at hK
                go_simp
                exact hK _ _ rfl hW (fun _ _ h => h)
              · have h28 : x 28 = _ := hdep 28 rfl
                clear hdep
                simp only [h28] at hK
                go_simp
                exact hK _ _ rfl hW (fun _ _ h => h)
              · have h28 : x 28 = _ := hdep 28 rfl
                have h32 : x 32 = _ := hdep 32 rfl
                have a2 := (HA8.out.later hW).cells.2.2.1
                clear hdep
                simp only [h28, h32] at hK
                go_simp
                exact hK _ _ rfl hW (fun _ _ h => h)
              · have h28 : x 28 = _ := hdep 28 rfl
                have h29 : x 29 = _ := hdep 29 rfl
                have h31 : x 31 = _ := hdep 31 rfl
                have h33 : x 33 = _ := hdep 33 rfl
                clear hdep
                simp only [h28, h29, h31, h33] at hK
                go_simp
                refine (HJUD.out W hW).mono ?_
                rintro e W' ⟨rfl, hb⟩
                exact hK _ _ rfl (next14 hW hb) (fun j z h => YAs15_keep hb j z h)
              · have h28 : x 28 = _ := hdep 28 rfl
                have h34 : x 34 = _ := hdep 34 rfl
                clear hdep
                simp only [h28, h34] at hK
                go_simp
                exact hK _ _ rfl hW (fun _ _ h => h)
              · have h28 : x 28 = _ := hdep 28 rfl
                have h35 : x 35 = _ := hdep 35 rfl
                clear hdep
                simp only [h28, h35] at hK
                go_simp
                exact hK _ _ rfl hW (fun _ _ h => h)
            case fin18 =>
              intro x w9 hD9 hY
              have h36 : x 36 = .bool false := hY 36 (by decide)
              have HT9 := Lib.hid (HT8.out.later hD9)
              have HA9 := Lib.hid (HA8.out.later hD9)
              have HN9 := Lib.hid (HN8.out.later hD9)
              have HW9 := Lib.hid (next14 HW8.out hD9)
              have HM9 : Hid (Tak15 w9 S (fun i => (T' i).n)) := by
                obtain ⟨es, clock, h1, h2⟩ := HM9'.out
                exact ⟨es, clock, (hD9.block S (At15.lt h1)).trans h1, h2⟩
              clear hY hD9 HM9' HT8 HA8 HN8 HW8 HREP HRE2 HJUD HSAM HAt8 HK80 HK81
              rw [h36]
              go_wp2
              go_loopg [96] 8 (fun gg s96 wr => ∃ i : Nat, i ≤ 8 ∧ 8 - i ≤ gg ∧ s96 = .int .u8 i ∧ Hid (Below w9.heap.size w9 wr))
              case atStart => exact ⟨0, Nat.zero_le _, by omega, rfl, Below.refl _ _⟩
              case round =>
                obtain ⟨i, hi, hgi, rfl, H10⟩ := hrel
                generalize wr = wb at *
                by_cases hi8 : i < 8
                case neg =>
                  have hi8z : ¬ (i : Int) < 8 := by omega
                  obtain rfl : i = 8 := by omega
                  go_wp2
                  go_roundg (n - (k + 1))
                  case measure => omega
                  case rel => exact ⟨k + 1, by omega, by omega, by go_num, next14 HW9.out H10.out, T', HT9.out.later H10.out, by
                    obtain ⟨es, clock, h1, h2⟩ := HM9.out
                    exact ⟨es, clock, (H10.out.block S (At15.lt h1)).trans h1, h2⟩⟩
                have hi8z : (i : Int) < 8 := by omega
                have HAB := Lib.hid (HA9.out.later H10.out)
                have HNB := Lib.hid (HN9.out.later H10.out)
                have HLA : Hid (∀ W, Below w9.heap.size w9 W → Calls Try.prog 11 #[.pointer (some ⟨B, 0, none⟩), .int .u8 i] W (Says14 (.int .u64 (T' i).n) W)) := fun W hW => by
                  have := Last15_calls B T' i W (HT9.out.later hW).at_
                  rwa [show getT T' i = T' i from if_pos hi8] at this
                by_cases hic : i = t.cl
                case neg =>
                  rw [HX2.out i hi8 hic] at HLA
                  have n1 : ((i : Int) != t.cl) = true := by simp; omega
                  have n2 : (i != t.cl) = true := by simp; omega
                  generalize hwas : (T i).n = last at *
                  have hcw : ∀ W, Nums15 W (D + 1) (fun j => (T j).n) → W.cell? ⟨D + 1, i, none⟩ = some (.int .u64 last) := fun W h => by rw [h.cell i hi8, hwas]
                  have e1 : decide ((last : Int) < last) = false := by simp
                  have e2 : decide (last < last) = false := by simp
                  have e3 : ((last : Int) != last) = false := by simp
                  have e4 : (last != last) = false := by simp
                  go_wp2
                  refine wp_region_inv (by kernel_rfl) (fun W => Below wb.heap.size wb W) (fun j v _ => YClA15 B D (D + 1) i t.cl last last 0 j v) ?F23a ?hF23a (by kernel_rfl) (by kernel_rfl) (drew14 (Below.refl _ _)) ?step23a ?fin23a
                  case hF23a =>
                    intro x
                    simp only [List.map_cons, List.map_nil, putL, Act.put, List.setIfInBounds_toArray, List.set_cons_zero, List.set_cons_succ, Nat.zero_add, Nat.reduceAdd]
                    exact rfl
                  case step23a =>
                    refine ⟨?_, ?_, ?_, ?_, ?_, ?_, ?_, ?_, ?_, ?_, ?_, ?_, ?_, ?_, ?_, ?_, ?_, ?_, ?_, ?_, ?_, ?_, ?_, ?_, ?_, ?_, trivial⟩
                    all_goals intro x W hW hdep K hK
                    · clear hdep
                      go_simp
                      exact hK _ _ rfl hW (fun _ _ h => h)
                    · clear hdep
                      go_simp
                      exact hK _ _ rfl hW (fun _ _ h => h)
                    · have h0 : x 0 = _ := hdep 0 rfl
                      have h1 : x 1 = _ := hdep 1 rfl
                      clear hdep
                      simp only [h0, h1] at hK
                      go_simp
                      refine (HLA.out W (next14 H10.out hW)).mono ?_
                      rintro e W' ⟨rfl, hb⟩
                      exact hK _ _ rfl (next14 hW hb) (fun _ _ h => h)
                    · clear hdep
                      go_simp
                      exact hK _ _ rfl hW (fun _ _ h => h)
                    · have h3 : x 3 = _ := hdep 3 rfl
                      clear hdep
                      simp only [h3] at hK
                      go_simp
                      exact hK _ _ rfl hW (fun _ _ h => h)
                    · have h4 : x 4 = _ := hdep 4 rfl
                      have cw := hcw W (HNB.out.later hW)
                      clear hdep
                      simp only [h4] at hK
                      go_simp
                      exact hK _ _ rfl hW (fun _ _ h => h)
                    · have h2 : x 2 = _ := hdep 2 rfl
                      have h5 : x 5 = _ := hdep 5 rfl
                      clear hdep
                      simp only [h2, h5] at hK
                      go_simp
                      exact hK _ _ rfl hW (fun _ _ h => h)
                    · have h6 : x 6 = _ := hdep 6 rfl
                      clear hdep
                      simp only [h6] at hK
                      go_simp
                      exact hK _ _ rfl hW (fun _ _ h => h)
                    · have h7 : x 7 = _ := hdep 7 rfl
                      clear hdep
                      simp only [h7] at hK
                      go_simp
                      exact hK _ _ rfl hW (fun _ _ h => h)
                    · have h7 : x 7 = _ := hdep 7 rfl
                      clear hdep
                      simp only [h7] at hK
                      go_simp
                      exact hK _ _ rfl hW (fun _ _ h => h)
                    · have h7 : x 7 = _ := hdep 7 rfl
                      have h9 : x 9 = _ := hdep 9 rfl
                      have a1 := (HAB.out.later hW).cells.2.1
                      clear hdep
                      simp only [h7, h9] at hK
                      go_simp
                      exact hK _ _ rfl hW (fun _ _ h => h)
                    · have h7 : x 7 = _ := hdep 7 rfl
                      have h8 : x 8 = _ := hdep 8 rfl
                      have h10 : x 10 = _ := hdep 10 rfl
                      clear hdep
                      simp only [h7, h8, h10] at hK
                      go_simp
                      exact hK _ _ rfl hW (fun _ _ h => h)
                    · have h7 : x 7 = _ := hdep 7 rfl
                      have h11 : x 11 = _ := hdep 11 rfl
                      clear hdep
                      simp only [h7, h11] at hK
                      go_simp
                      exact hK _ _ rfl hW (fun _ _ h => h)
                    · have h12 : x 12 = _ := hdep 12 rfl
                      clear hdep
                      simp only [h12] at hK
                      go_simp
                      exact hK _ _ trivial hW (fun _ _ h => h)
                    · have h12 : x 12 = _ := hdep 12 rfl
                      clear hdep
                      simp only [h12] at hK
                      go_simp
                      exact hK _ _ trivial hW (fun _ _ h => h)
                    · have h7 : x 7 = _ := hdep 7 rfl
                      have h12 : x 12 = _ := hdep 12 rfl
                      clear hdep
                      simp only [h7, h12] at hK
                      go_simp
                      exact hK _ _ rfl hW (fun _ _ h => h)
                    · have h7 : x 7 = _ := hdep 7 rfl
                      have h15 : x 15 = _ := hdep 15 rfl
                      clear hdep
                      simp only [h7, h15] at hK
                      go_simp
                      exact hK _ _ rfl hW (fun _ _ h => h)
                    · have h16 : x 16 = _ := hdep 16 rfl
                      clear hdep
                      simp only [h16] at hK
                      go_simp
                      exact hK _ _ rfl hW (fun _ _ h => h)
                    · have h16 : x 16 = _ := hdep 16 rfl
                      clear hdep
                      simp only [h16] at hK
                      go_simp
                      exact hK _ _ rfl hW (fun _ _ h => h)
                    · have h16 : x 16 = _ := hdep 16 rfl
                      have h17 : x 17 = _ := hdep 17 rfl
                      have h18 : x 18 = _ := hdep 18 rfl
                      clear hdep
                      simp only [h16, h17, h18] at hK
                      go_simp
                      refine (HLA.out W (next14 H10.out hW)).mono ?_
                      rintro e W' ⟨rfl, hb⟩
                      exact hK _ _ rfl (next14 hW hb) (fun _ _ h => h)
                    · have h16 : x 16 = _ := hdep 16 rfl
                      clear hdep
                      simp only [h16] at hK
                      go_simp
                      exact hK _ _ rfl hW (fun _ _ h => h)
                    · have h16 : x 16 = _ := hdep 16 rfl
                      have h20 : x 20 = _ := hdep 20 rfl
                      clear hdep
                      simp only [h16, h20] at hK
                      go_simp
                      exact hK _ _ rfl hW (fun _ _ h => h)
                    · have h16 : x 16 = _ := hdep 16 rfl
                      have h21 : x 21 = _ := hdep 21 rfl
                      have cw := hcw W (HNB.out.later hW)
                      clear hdep
                      simp only [h16, h21] at hK
                      go_simp
                      exact hK _ _ rfl hW (fun _ _ h => h)
                    · have h16 : x 16 = _ := hdep 16 rfl
                      have h19 : x 19 = _ := hdep 19 rfl
                      have h22 : x 22 = _ := hdep 22 rfl
                      clear hdep
                      simp only [h16, h19, h22] at hK
                      go_simp
                      exact hK _ _ rfl hW (fun _ _ h => h)
                    · have h7 : x 7 = _ := hdep 7 rfl
                      have h16 : x 16 = _ := hdep 16 rfl
                      have h23 : x 23 = _ := hdep 23 rfl
                      clear hdep
                      simp only [h7, h16, h23] at hK
                      go_simp
                      exact hK _ _ rfl hW (fun _ _ h => h)
                    · have h7 : x 7 = _ := hdep 7 rfl
                      have h24 : x 24 = _ := hdep 24 rfl
                      clear hdep
                      simp only [h7, h24] at hK
                      go_simp
                      exact hK _ _ rfl hW (fun _ _ h => h)
                  case fin23a =>
                    intro x W hW hY
                    have h25 : x 25 = .bool false := hY 25 (by decide)
                    have hWB := Lib.hid (next14 H10.out hW)
                    clear hY hW
                    rw [h25]
                    go_wp2
                    go_roundg (8 - (i + 1))
                    case measure => omega
                    case rel => exact ⟨i + 1, by omega, by omega, by go_num, hWB.out⟩
                subst hic
                rw [HXN.out] at HLA
                have n1 : ((t.cl : Int) != t.cl) = false := by simp
                have n2 : (t.cl != t.cl) = false := by simp
                have hcw : ∀ W, Nums15 W (D + 1) (fun j => (T j).n) → W.cell? ⟨D + 1, t.cl, none⟩ = some (.int .u64 was) := HCWAS.out
                have e1 : decide ((t.nm : Int) < was) = false := by simp; omega
                have e2 : decide (t.nm < was) = false := by simp; omega
                go_wp2
                refine wp_region_inv (by kernel_rfl) (fun W => Below wb.heap.size wb W) (fun j v _ => YClC15 B D (D + 1) t.cl t.cl t.nm was 0 j v) ?F23b ?hF23b (by kernel_rfl) (by kernel_rfl) (drew14 (Below.refl _ _)) ?step23b ?fin23b
                case hF23b =>
                  intro x
                  simp only [List.map_cons, List.map_nil, putL, Act.put, List.setIfInBounds_toArray, List.set_cons_zero, List.set_cons_succ, Nat.zero_add, Nat.reduceAdd]
                  exact rfl
                case step23b =>
                  refine ⟨?_, ?_, ?_, ?_, ?_, ?_, ?_, ?_, ?_, ?_, ?_, ?_, ?_, ?_, ?_, ?_, ?_, ?_, ?_, ?_, ?_, ?_, ?_, ?_, ?_, ?_, trivial⟩
                  all_goals intro x W hW hdep K hK
                  · clear hdep
                    go_simp
                    exact hK _ _ rfl hW (fun _ _ h => h)
                  · clear hdep
                    go_simp
                    exact hK _ _ rfl hW (fun _ _ h => h)
                  · have h0 : x 0 = _ := hdep 0 rfl
                    have h1 : x 1 = _ := hdep 1 rfl
                    clear hdep
                    simp only [h0, h1] at hK
                    go_simp
                    refine (HLA.out W (next14 H10.out hW)).mono ?_
                    rintro e W' ⟨rfl, hb⟩
                    exact hK _ _ rfl (next14 hW hb) (fun _ _ h => h)
                  · clear hdep
                    go_simp
                    exact hK _ _ rfl hW (fun _ _ h => h)
                  · have h3 : x 3 = _ := hdep 3 rfl
                    clear hdep
                    simp only [h3] at hK
                    go_simp
                    exact hK _ _ rfl hW (fun _ _ h => h)
                  · have h4 : x 4 = _ := hdep 4 rfl
                    have cw := hcw W (HNB.out.later hW)
                    clear hdep
                    simp only [h4] at hK
                    go_simp
                    exact hK _ _ rfl hW (fun _ _ h => h)
                  · have h2 : x 2 = _ := hdep 2 rfl
                    have h5 : x 5 = _ := hdep 5 rfl
                    clear hdep
                    simp only [h2, h5] at hK
                    go_simp
                    exact hK _ _ rfl hW (fun _ _ h => h)
                  · have h6 : x 6 = _ := hdep 6 rfl
                    clear hdep
                    simp only [h6] at hK
                    go_simp
                    exact hK _ _ rfl hW (fun _ _ h => h)
                  · have h7 : x 7 = _ := hdep 7 rfl
                    clear hdep
                    simp only [h7] at hK
                    go_simp
                    exact hK _ _ rfl hW (fun _ _ h => h)
                  · have h7 : x 7 = _ := hdep 7 rfl
                    clear hdep
                    simp only [h7] at hK
                    go_simp
                    exact hK _ _ rfl hW (fun _ _ h => h)
                  · have h7 : x 7 = _ := hdep 7 rfl
                    have h9 : x 9 = _ := hdep 9 rfl
                    have a1 := (HAB.out.later hW).cells.2.1
                    clear hdep
                    simp only [h7, h9] at hK
                    go_simp
                    exact hK _ _ rfl hW (fun _ _ h => h)
                  · have h7 : x 7 = _ := hdep 7 rfl
                    have h8 : x 8 = _ := hdep 8 rfl
                    have h10 : x 10 = _ := hdep 10 rfl
                    clear hdep
                    simp only [h7, h8, h10] at hK
                    go_simp
                    exact hK _ _ rfl hW (fun _ _ h => h)
                  · have h7 : x 7 = _ := hdep 7 rfl
                    have h11 : x 11 = _ := hdep 11 rfl
                    clear hdep
                    simp only [h7, h11] at hK
                    go_simp
                    exact hK _ _ rfl hW (fun _ _ h => h)
                  · have h12 : x 12 = _ := hdep 12 rfl
                    clear hdep
                    simp only [h12] at hK
                    go_simp
                    exact hK _ _ rfl hW (fun _ _ h => h)
                  · have h12 : x 12 = _ := hdep 12 rfl
                    have h13 : x 13 = _ := hdep 13 rfl
                    clear hdep
                    simp only [h12, h13] at hK
                    go_simp
                    exact hK _ _ rfl hW (fun _ _ h => h)
                  · have h7 : x 7 = _ := hdep 7 rfl
                    have h12 : x 12 = _ := hdep 12 rfl
                    have h14 : x 14 = _ := hdep 14 rfl
                    clear hdep
                    simp only [h7, h12, h14] at hK
                    go_simp
                    exact hK _ _ rfl hW (fun _ _ h => h)
                  · have h7 : x 7 = _ := hdep 7 rfl
                    have h15 : x 15 = _ := hdep 15 rfl
                    clear hdep
                    simp only [h7, h15] at hK
                    go_simp
                    exact hK _ _ rfl hW (fun _ _ h => h)
                  · have h16 : x 16 = _ := hdep 16 rfl
                    clear hdep
                    simp only [h16] at hK
                    go_simp
                    exact hK _ _ trivial hW (fun _ _ h => h)
                  · have h16 : x 16 = _ := hdep 16 rfl
                    clear hdep
                    simp only [h16] at hK
                    go_simp
                    exact hK _ _ trivial hW (fun _ _ h => h)
                  · have h16 : x 16 = _ := hdep 16 rfl
                    clear hdep
                    simp only [h16] at hK
                    go_simp
                    exact hK _ _ trivial hW (fun _ _ h => h)
                  · have h16 : x 16 = _ := hdep 16 rfl
                    clear hdep
                    simp only [h16] at hK
                    go_simp
                    exact hK _ _ trivial hW (fun _ _ h => h)
                  · have h16 : x 16 = _ := hdep 16 rfl
                    clear hdep
                    simp only [h16] at hK
                    go_simp
                    exact hK _ _ trivial hW (fun _ _ h => h)
                  · have h16 : x 16 = _ := hdep 16 rfl
                    clear hdep
                    simp only [h16] at hK
                    go_simp
                    exact hK _ _ trivial hW (fun _ _ h => h)
                  · have h16 : x 16 = _ := hdep 16 rfl
                    clear hdep
                    simp only [h16] at hK
                    go_simp
                    exact hK _ _ trivial hW (fun _ _ h => h)
                  · have h7 : x 7 = _ := hdep 7 rfl
                    have h16 : x 16 = _ := hdep 16 rfl
                    clear hdep
                    simp only [h7, h16] at hK
                    go_simp
                    exact hK _ _ rfl hW (fun _ _ h => h)
                  · have h7 : x 7 = _ := hdep 7 rfl
                    have h24 : x 24 = _ := hdep 24 rfl
                    clear hdep
                    simp only [h7, h24] at hK
                    go_simp
                    exact hK _ _ rfl hW (fun _ _ h => h)
                case fin23b =>
                  intro x W hW hY
                  have h25 : x 25 = .bool false := hY 25 (by decide)
                  have hWB := Lib.hid (next14 H10.out hW)
                  clear hY hW
                  rw [h25]
                  go_wp2
                  go_roundg (8 - (t.cl + 1))
                  case measure => omega
                  case rel => exact ⟨t.cl + 1, by omega, by omega, by go_num, hWB.out⟩
        case neg =>
          have HX2 : Hid (∀ i, i < 8 → (T' i).n = (T i).n) := fun i hi => by
            have := HX.out i hi
            unfold putX15 at this
            rw [if_neg (fun h => h3 (by
              obtain ⟨e, h⟩ := h
              rw [← h]; exact HJ.out.symm))] at this
            exact congrArg P15.n this
          have HM9 : Hid (Tak15 w6 S (fun i => (T' i).n)) := by
            obtain ⟨es, clock, h1, h2⟩ := hM6
            exact ⟨es, clock, h1, h2.mono (fun c hc => by rw [HX2.out c hc]; exact Nat.le_refl _)⟩
          have herr : errJ15 J ≠ 0 := by unfold errJ15; rw [if_neg h3]; split <;> omega
          generalize errJ15 J = err at *
          have q1 : ((err : Int) == 0) = false := by simp; omega
          have q2 : (err == 0) = false := by simp; omega
          have q3 : ((err : Int) != 0) = true := by simp; omega
          have q4 : (err != 0) = true := by simp; omega
          have q5 : decide (err = 0) = false := by simp; omega
          have HT9 := HT6
          have HA9 := HA6
          have HN9 := HN6
          have HW9 := HW6
          clear HT6 HA6 HN6 HW6 hM6 HX h3 HJ herr
          generalize w6 = w9 at *
          rw [h8]
          clear h8
          go_wp2
          go_loopg [96] 8 (fun gg s96 wr => ∃ i : Nat, i ≤ 8 ∧ 8 - i ≤ gg ∧ s96 = .int .u8 i ∧ Hid (Below w9.heap.size w9 wr))
          case atStart => exact ⟨0, Nat.zero_le _, by omega, rfl, Below.refl _ _⟩
          case round =>
            obtain ⟨i, hi, hgi, rfl, H10⟩ := hrel
            generalize wr = wb at *
            by_cases hi8 : i < 8
            case neg =>
              have hi8z : ¬ (i : Int) < 8 := by omega
              obtain rfl : i = 8 := by omega
              go_wp2
              go_roundg (n - (k + 1))
              case measure => omega
              case rel => exact ⟨k + 1, by omega, by omega, by go_num, next14 HW9.out H10.out, T', HT9.out.later H10.out, by
                obtain ⟨es, clock, h1, h2⟩ := HM9.out
                exact ⟨es, clock, (H10.out.block S (At15.lt h1)).trans h1, h2⟩⟩
            have hi8z : (i : Int) < 8 := by omega
            have HAB := Lib.hid (HA9.out.later H10.out)
            have HNB := Lib.hid (HN9.out.later H10.out)
            have HLA : Hid (∀ W, Below w9.heap.size w9 W → Calls Try.prog 11 #[.pointer (some ⟨B, 0, none⟩), .int .u8 i] W (Says14 (.int .u64 (T' i).n) W)) := fun W hW => by
              have := Last15_calls B T' i W (HT9.out.later hW).at_
              rwa [show getT T' i = T' i from if_pos hi8] at this
            rw [HX2.out i hi8] at HLA
            generalize hwas : (T i).n = last at *
            have hcw : ∀ W, Nums15 W (D + 1) (fun j => (T j).n) → W.cell? ⟨D + 1, i, none⟩ = some (.int .u64 last) := fun W h => by rw [h.cell i hi8, hwas]
            have e1 : decide ((last : Int) < last) = false := by simp
            have e2 : decide (last < last) = false := by simp
            have e3 : ((last : Int) != last) = false := by simp
            have e4 : (last != last) = false := by simp
            by_cases hic : i = t.cl
            case neg =>
              have n1 : ((i : Int) != t.cl) = true := by simp; omega
              have n2 : (i != t.cl) = true := by simp; omega
              go_wp2
              refine wp_region_inv (by kernel_rfl) (fun W => Below wb.heap.size wb W) (fun j v _ => YClA15 B D (D + 1) i t.cl last last 0 j v) ?F23c ?hF23c (by kernel_rfl) (by kernel_rfl) (drew14 (Below.refl _ _)) ?step23c ?fin23c
              case hF23c =>
                intro x
                simp only [List.map_cons, List.map_nil, putL, Act.put, List.setIfInBounds_toArray, List.set_cons_zero, List.set_cons_succ, Nat.zero_add, Nat.reduceAdd]
                exact rfl
              case step23c =>
                refine ⟨?_, ?_, ?_, ?_, ?_, ?_, ?_, ?_, ?_, ?_, ?_, ?_, ?_, ?_, ?_, ?_, ?_, ?_, ?_, ?_, ?_, ?_, ?_, ?_, ?_, ?_, trivial⟩
                all_goals intro x W hW hdep K hK
                · clear hdep
                  go_simp
                  exact hK _ _ rfl hW (fun _ _ h => h)
                · clear hdep
                  go_simp
                  exact hK _ _ rfl hW (fun _ _ h => h)
                · have h0 : x 0 = _ := hdep 0 rfl
                  have h1 : x 1 = _ := hdep 1 rfl
                  clear hdep
                  simp only [h0, h1] at hK
                  go_simp
                  refine (HLA.out W (next14 H10.out hW)).mono ?_
                  rintro e W' ⟨rfl, hb⟩
                  exact hK _ _ rfl (next14 hW hb) (fun _ _ h => h)
                · clear hdep
                  go_simp
                  exact hK _ _ rfl hW (fun _ _ h => h)
                · have h3 : x 3 = _ := hdep 3 rfl
                  clear hdep
                  simp only [h3] at hK
                  go_simp
                  exact hK _ _ rfl hW (fun _ _ h => h)
                · have h4 : x 4 = _ := hdep 4 rfl
                  have cw := hcw W (HNB.out.later hW)
                  clear hdep
                  simp only [h4] at hK
                  go_simp
                  exact hK _ _ rfl hW (fun _ _ h => h)
                · have h2 : x 2 = _ := hdep 2 rfl
                  have h5 : x 5 = _ := hdep 5 rfl
                  clear hdep
                  simp only [h2, h5] at hK
                  go_simp
                  exact hK _ _ rfl hW (fun _ _ h => h)
                · have h6 : x 6 = _ := hdep 6 rfl
                  clear hdep
                  simp only [h6] at hK
                  go_simp
                  exact hK _ _ rfl hW (fun _ _ h => h)
                · have h7 : x 7 = _ := hdep 7 rfl
                  clear hdep
                  simp only [h7] at hK
                  go_simp
                  exact hK _ _ rfl hW (fun _ _ h => h)
                · have h7 : x 7 = _ := hdep 7 rfl
                  clear hdep
                  simp only [h7] at hK
                  go_simp
                  exact hK _ _ rfl hW (fun _ _ h => h)
                · have h7 : x 7 = _ := hdep 7 rfl
                  have h9 : x 9 = _ := hdep 9 rfl
                  have a1 := (HAB.out.later hW).cells.2.1
                  clear hdep
                  simp only [h7, h9] at hK
                  go_simp
                  exact hK _ _ rfl hW (fun _ _ h => h)
                · have h7 : x 7 = _ := hdep 7 rfl
                  have h8 : x 8 = _ := hdep 8 rfl
                  have h10 : x 10 = _ := hdep 10 rfl
                  clear hdep
                  simp only [h7, h8, h10] at hK
                  go_simp
                  exact hK _ _ rfl hW (fun _ _ h => h)
                · have h7 : x 7 = _ := hdep 7 rfl
                  have h11 : x 11 = _ := hdep 11 rfl
                  clear hdep
                  simp only [h7, h11] at hK
                  go_simp
                  exact hK _ _ rfl hW (fun _ _ h => h)
                · have h12 : x 12 = _ := hdep 12 rfl
                  clear hdep
                  simp only [h12] at hK
                  go_simp
                  exact hK _ _ trivial hW (fun _ _ h => h)
                · have h12 : x 12 = _ := hdep 12 rfl
                  clear hdep
                  simp only [h12] at hK
                  go_simp
                  exact hK _ _ trivial hW (fun _ _ h => h)
                · have h7 : x 7 = _ := hdep 7 rfl
                  have h12 : x 12 = _ := hdep 12 rfl
                  clear hdep
                  simp only [h7, h12] at hK
                  go_simp
                  exact hK _ _ rfl hW (fun _ _ h => h)
                · have h7 : x 7 = _ := hdep 7 rfl
                  have h15 : x 15 = _ := hdep 15 rfl
                  clear hdep
                  simp only [h7, h15] at hK
                  go_simp
                  exact hK _ _ rfl hW (fun _ _ h => h)
                · have h16 : x 16 = _ := hdep 16 rfl
                  clear hdep
                  simp only [h16] at hK
                  go_simp
                  exact hK _ _ rfl hW (fun _ _ h => h)
                · have h16 : x 16 = _ := hdep 16 rfl
                  clear hdep
                  simp only [h16] at hK
                  go_simp
                  exact hK _ _ rfl hW (fun _ _ h => h)
                · have h16 : x 16 = _ := hdep 16 rfl
                  have h17 : x 17 = _ := hdep 17 rfl
                  have h18 : x 18 = _ := hdep 18 rfl
                  clear hdep
                  simp only [h16, h17, h18] at hK
                  go_simp
                  refine (HLA.out W (next14 H10.out hW)).mono ?_
                  rintro e W' ⟨rfl, hb⟩
                  exact hK _ _ rfl (next14 hW hb) (fun _ _ h => h)
                · have h16 : x 16 = _ := hdep 16 rfl
                  clear hdep
                  simp only [h16] at hK
                  go_simp
                  exact hK _ _ rfl hW (fun _ _ h => h)
                · have h16 : x 16 = _ := hdep 16 rfl
                  have h20 : x 20 = _ := hdep 20 rfl
                  clear hdep
                  simp only [h16, h20] at hK
                  go_simp
                  exact hK _ _ rfl hW (fun _ _ h => h)
                · have h16 : x 16 = _ := hdep 16 rfl
                  have h21 : x 21 = _ := hdep 21 rfl
                  have cw := hcw W (HNB.out.later hW)
                  clear hdep
                  simp only [h16, h21] at hK
                  go_simp
                  exact hK _ _ rfl hW (fun _ _ h => h)
                · have h16 : x 16 = _ := hdep 16 rfl
                  have h19 : x 19 = _ := hdep 19 rfl
                  have h22 : x 22 = _ := hdep 22 rfl
                  clear hdep
                  simp only [h16, h19, h22] at hK
                  go_simp
                  exact hK _ _ rfl hW (fun _ _ h => h)
                · have h7 : x 7 = _ := hdep 7 rfl
                  have h16 : x 16 = _ := hdep 16 rfl
                  have h23 : x 23 = _ := hdep 23 rfl
                  clear hdep
                  simp only [h7, h16, h23] at hK
                  go_simp
                  exact hK _ _ rfl hW (fun _ _ h => h)
                · have h7 : x 7 = _ := hdep 7 rfl
                  have h24 : x 24 = _ := hdep 24 rfl
                  clear hdep
                  simp only [h7, h24] at hK
                  go_simp
                  exact hK _ _ rfl hW (fun _ _ h => h)
              case fin23c =>
                intro x W hW hY
                have h25 : x 25 = .bool false := hY 25 (by decide)
                have hWB := Lib.hid (next14 H10.out hW)
                clear hY hW
                rw [h25]
                go_wp2
                go_roundg (8 - (i + 1))
                case measure => omega
                case rel => exact ⟨i + 1, by omega, by omega, by go_num, hWB.out⟩
            have n1 : ((i : Int) != t.cl) = false := by simp; omega
            have n2 : (i != t.cl) = false := by simp; omega
            clear hic
            go_wp2
            refine wp_region_inv (by kernel_rfl) (fun W => Below wb.heap.size wb W) (fun j v _ => YClB15 B D (D + 1) i t.cl last last err j v) ?F23d ?hF23d (by kernel_rfl) (by kernel_rfl) (drew14 (Below.refl _ _)) ?step23d ?fin23d
            case hF23d =>
              intro x
              simp only [List.map_cons, List.map_nil, putL, Act.put, List.setIfInBounds_toArray, List.set_cons_zero, List.set_cons_succ, Nat.zero_add, Nat.reduceAdd]
              exact rfl
            case step23d =>
              refine ⟨?_, ?_, ?_, ?_, ?_, ?_, ?_, ?_, ?_, ?_, ?_, ?_, ?_, ?_, ?_, ?_, ?_, ?_, ?_, ?_, ?_, ?_, ?_, ?_, ?_, ?_, trivial⟩
              all_goals intro x W hW hdep K hK
              · clear hdep
                go_simp
                exact hK _ _ rfl hW (fun _ _ h => h)
              · clear hdep
                go_simp
                exact hK _ _ rfl hW (fun _ _ h => h)
              · have h0 : x 0 = _ := hdep 0 rfl
                have h1 : x 1 = _ := hdep 1 rfl
                clear hdep
                simp only [h0, h1] at hK
                go_simp
                refine (HLA.out W (next14 H10.out hW)).mono ?_
                rintro e W' ⟨rfl, hb⟩
                exact hK _ _ rfl (next14 hW hb) (fun _ _ h => h)
              · clear hdep
                go_simp
                exact hK _ _ rfl hW (fun _ _ h => h)
              · have h3 : x 3 = _ := hdep 3 rfl
                clear hdep
                simp only [h3] at hK
                go_simp
                exact hK _ _ rfl hW (fun _ _ h => h)
              · have h4 : x 4 = _ := hdep 4 rfl
                have cw := hcw W (HNB.out.later hW)
                clear hdep
                simp only [h4] at hK
                go_simp
                exact hK _ _ rfl hW (fun _ _ h => h)
              · have h2 : x 2 = _ := hdep 2 rfl
                have h5 : x 5 = _ := hdep 5 rfl
                clear hdep
                simp only [h2, h5] at hK
                go_simp
                exact hK _ _ rfl hW (fun _ _ h => h)
              · have h6 : x 6 = _ := hdep 6 rfl
                clear hdep
                simp only [h6] at hK
                go_simp
                exact hK _ _ rfl hW (fun _ _ h => h)
              · have h7 : x 7 = _ := hdep 7 rfl
                clear hdep
                simp only [h7] at hK
                go_simp
                exact hK _ _ rfl hW (fun _ _ h => h)
              · have h7 : x 7 = _ := hdep 7 rfl
                clear hdep
                simp only [h7] at hK
                go_simp
                exact hK _ _ rfl hW (fun _ _ h => h)
              · have h7 : x 7 = _ := hdep 7 rfl
                have h9 : x 9 = _ := hdep 9 rfl
                have a1 := (HAB.out.later hW).cells.2.1
                clear hdep
                simp only [h7, h9] at hK
                go_simp
                exact hK _ _ rfl hW (fun _ _ h => h)
              · have h7 : x 7 = _ := hdep 7 rfl
                have h8 : x 8 = _ := hdep 8 rfl
                have h10 : x 10 = _ := hdep 10 rfl
                clear hdep
                simp only [h7, h8, h10] at hK
                go_simp
                exact hK _ _ rfl hW (fun _ _ h => h)
              · have h7 : x 7 = _ := hdep 7 rfl
                have h11 : x 11 = _ := hdep 11 rfl
                clear hdep
                simp only [h7, h11] at hK
                go_simp
                exact hK _ _ rfl hW (fun _ _ h => h)
              · have h12 : x 12 = _ := hdep 12 rfl
                clear hdep
                simp only [h12] at hK
                go_simp
                exact hK _ _ rfl hW (fun _ _ h => h)
              · have h12 : x 12 = _ := hdep 12 rfl
                have h13 : x 13 = _ := hdep 13 rfl
                clear hdep
                simp only [h12, h13] at hK
                go_simp
                exact hK _ _ rfl hW (fun _ _ h => h)
              · have h7 : x 7 = _ := hdep 7 rfl
                have h12 : x 12 = _ := hdep 12 rfl
                have h14 : x 14 = _ := hdep 14 rfl
                clear hdep
                simp only [h7, h12, h14] at hK
                go_simp
                exact hK _ _ rfl hW (fun _ _ h => h)
              · have h7 : x 7 = _ := hdep 7 rfl
                have h15 : x 15 = _ := hdep 15 rfl
                clear hdep
                simp only [h7, h15] at hK
                go_simp
                exact hK _ _ rfl hW (fun _ _ h => h)
              · have h16 : x 16 = _ := hdep 16 rfl
                clear hdep
                simp only [h16] at hK
                go_simp
                exact hK _ _ rfl hW (fun _ _ h => h)
              · have h16 : x 16 = _ := hdep 16 rfl
                clear hdep
                simp only [h16] at hK
                go_simp
                exact hK _ _ rfl hW (fun _ _ h => h)
              · have h16 : x 16 = _ := hdep 16 rfl
                have h17 : x 17 = _ := hdep 17 rfl
                have h18 : x 18 = _ := hdep 18 rfl
                clear hdep
                simp only [h16, h17, h18] at hK
                go_simp
                refine (HLA.out W (next14 H10.out hW)).mono ?_
                rintro e W' ⟨rfl, hb⟩
                exact hK _ _ rfl (next14 hW hb) (fun _ _ h => h)
              · have h16 : x 16 = _ := hdep 16 rfl
                clear hdep
                simp only [h16] at hK
                go_simp
                exact hK _ _ rfl hW (fun _ _ h => h)
              · have h16 : x 16 = _ := hdep 16 rfl
                have h20 : x 20 = _ := hdep 20 rfl
                clear hdep
                simp only [h16, h20] at hK
                go_simp
                exact hK _ _ rfl hW (fun _ _ h => h)
              · have h16 : x 16 = _ := hdep 16 rfl
                have h21 : x 21 = _ := hdep 21 rfl
                have cw := hcw W (HNB.out.later hW)
                clear hdep
                simp only [h16, h21] at hK
                go_simp
                exact hK _ _ rfl hW (fun _ _ h => h)
              · have h16 : x 16 = _ := hdep 16 rfl
                have h19 : x 19 = _ := hdep 19 rfl
                have h22 : x 22 = _ := hdep 22 rfl
                clear hdep
                simp only [h16, h19, h22] at hK
                go_simp
                exact hK _ _ rfl hW (fun _ _ h => h)
              · have h7 : x 7 = _ := hdep 7 rfl
                have h16 : x 16 = _ := hdep 16 rfl
                have h23 : x 23 = _ := hdep 23 rfl
                clear hdep
                simp only [h7, h16, h23] at hK
                go_simp
                exact hK _ _ rfl hW (fun _ _ h => h)
              · have h7 : x 7 = _ := hdep 7 rfl
                have h24 : x 24 = _ := hdep 24 rfl
                clear hdep
                simp only [h7, h24] at hK
                go_simp
                exact hK _ _ rfl hW (fun _ _ h => h)
            case fin23d =>
              intro x W hW hY
              have h25 : x 25 = .bool false := hY 25 (by decide)
              have hWB := Lib.hid (next14 H10.out hW)
              clear hY hW
              rw [h25]
              go_wp2
              go_roundg (8 - (i + 1))
              case measure => omega
              case rel => exact ⟨i + 1, by omega, by omega, by go_num, hWB.out⟩
end Go.Proofs.Ytadecmjojnhlnaa
