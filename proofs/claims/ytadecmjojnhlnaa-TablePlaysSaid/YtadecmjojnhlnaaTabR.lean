/-
  Read of a table's bytes: the rows, one by one.
  Conditions: the bytes are a table's.
-/
import Derived.Test.YtadecmjojnhlnaaTabC
import Derived.Test.YtadecmjojnhlnaaTabG
import Derived.Test.YtadecmjojnhlnaaGen
namespace Go.Proofs.Ytadecmjojnhlnaa
open Go.RowKit

theorem conv15 (w : World) (s : ByteArray) : ∃ A c w1, (convert 9 51 (.string s)).run Try.prog w = .ok (.slice A s.size c) w1 ∧ Rd w1 (.slice A s.size c) s.data.toList ∧ Below w.heap.size w w1 :=
  ⟨_, _, _, run_bytes_of_string (P := Try.prog) w 9 51 5 s Try.underlying9 Try.underlying51 Try.underlying5, rd_bytes w.drew s _ _ _, still14 ((Turns.refl _ w).drew.alloc _)⟩
theorem failS_z15 (st : St) : failS st 0 = st := by unfold failS; rw [if_pos (.inl rfl)]
theorem RowAt15.below {w w' : World} {X n e : Nat} {v : Value} (h : RowAt15 w X n e v) (hb : Below w.heap.size w w') : RowAt15 w' X n e v := (hb.block X (Array.getElem?_eq_some_iff.1 h).1).trans h
theorem RowAt15.turns {S : Nat → Prop} {w w' : World} {X n e : Nat} {v : Value} (h : RowAt15 w X n e v) (ht : Turns S w w') (hn : ¬ S X) : RowAt15 w' X n e v := (ht.block X (Array.getElem?_eq_some_iff.1 h).1 hn).trans h
theorem RowAt15.free {w : World} {X n e : Nat} {v : Value} (h : RowAt15 w X n e v) (i : Nat) : w.frozen? ⟨X, i, none⟩ = false := by unfold RowAt15 at h; simp [World.frozen?, h]
theorem RowAt15.setAll {w : World} {X n e : Nat} {v : Value} (h : RowAt15 w X n e v) (n' e' : Nat) (u : Value) : RowAt15 (((w.setCell ⟨X, 0, none⟩ (.int .u64 n')).setCell ⟨X, 1, none⟩ (.int .i64 e')).setCell ⟨X, 2, none⟩ u) X n' e' u := by
  unfold RowAt15 at h ⊢; simp [World.setCell, Array.getElem?_modify, h]
theorem turns_row15 (w : World) (X : Nat) (a b c : Value) : Turns (fun k => k = X) w (((w.setCell ⟨X, 0, none⟩ a).setCell ⟨X, 1, none⟩ b).setCell ⟨X, 2, none⟩ c) :=
  (((Turns.refl (fun k => k = X) w).setCell (p := ⟨X, 0, none⟩) (fun _ => rfl) a).setCell (p := ⟨X, 1, none⟩) (fun _ => rfl) b).setCell (p := ⟨X, 2, none⟩) (fun _ => rfl) c
theorem Rdr.row15 {w w' : World} {R : Nat} {st : St} {X n e : Nat} {v : Value} (h : Rdr w R st) (hp : RowAt15 w X n e v) (hne : R ≠ X) (ht : Turns (fun k => k = X) w w') : Rdr w' R st := by
  refine h.shift14 ht hne ?_
  rintro g ⟨cur, fr, hg⟩ rfl
  have := hp.symm.trans hg
  simp at this
theorem Rdr.tab15 {w w' : World} {R : Nat} {st : St} {C : Nat} {T : Nat → R15} (h : Rdr w R st) (hp : Tab15 w C 66 T) (hne : R ≠ C) (ht : Turns (fun k => k = C) w w') : Rdr w' R st := by
  refine h.shift14 ht hne ?_
  rintro g ⟨cur, fr, hg⟩ rfl
  have := hp.symm.trans hg
  simp at this

/-- A row is read. -/
def RRow15 (w : World) (R : Nat) (p : P15) (rest : List UInt8) (e : Ending) (w' : World) : Prop :=
  ∃ A q, e = .returned (.agg #[.int .u64 p.n, .int .i64 p.e, .slice A p.ss.length q]) ∧ Txt15 w' A q p.ss ∧ From15 w.heap.size A p.ss ∧ Did w R ⟨rest, 0⟩ w'

set_option maxRecDepth 100000 in
set_option maxHeartbeats 4000000 in
theorem readRow15_calls {w : World} {R : Nat} (p : P15) (rest : List UInt8) (hp : MayP15 p) (h : Rdr w R ⟨rowB15 p ++ rest, 0⟩) (hl : rest.length ≤ 1000000) :
    Calls Try.prog 30 #[.pointer (some ⟨R, 0, none⟩)] w (RRow15 w R p rest) := by
  have hR := h.lt
  have hlen := repB_len15 hp
  obtain ⟨n, e, ss⟩ := p
  have hn : n ≤ 1099511627776 := hp.n
  have he : e ≤ 18 := hp.e
  obtain ⟨tl, htl⟩ : ∃ tl, tl = (if 0 < n then textB (tx14 (repB14 e ss)) else []) ++ rest := ⟨_, rfl⟩
  have h8 : rowB15 ⟨n, e, ss⟩ ++ rest = le n 8 ++ tl := by
    rw [htl]
    unfold rowB15
    rw [List.append_assoc]
  rw [h8] at h
  have htll : tl.length ≤ 2000000 := by
    rw [htl, List.length_append]
    have : (repB14 e ss).length ≤ 523 := hlen
    split
    · rw [textB_length, tx14_size]; omega
    · simp; omega
  have HEI : Hid (∀ W, Rdr W R ⟨le n 8 ++ tl, 0⟩ → Calls Try.prog 40 #[.pointer (some ⟨R, 0, none⟩)] W (Numb .u64 W R ⟨tl, 0⟩ n)) := fun W hW => by
    have := reight_calls R ⟨le n 8 ++ tl, 0⟩ W hW (by rw [List.length_append, le_length]; omega)
    rwa [numS_put14, show n % 256 ^ 8 = n from Nat.mod_eq_of_lt (by omega)] at this
  unfold Numb at HEI
  have hr1 : RowAt15 (w.alloc (.cells #[.int .u64 0, .int .i64 0, .slice none 0 0] 63)) w.heap.size 0 0 (.slice none 0 0) := heap_alloc_new w _
  have hb1 := alloc14 (Below.refl _ w) (.cells #[.int .u64 0, .int .i64 0, .slice none 0 0] 63)
  have HH := Lib.hid (h.still (turns14 hb1))
  have HR1 := Lib.hid hr1
  have HB1 := Lib.hid hb1
  have HHP := Lib.hid hp
  clear h h8 hr1 hb1 htll hp
  unfold RRow15
  go_enter Try.func30, Try.ntmps30
  go_wp2_with fail
  generalize w.alloc (.cells #[.int .u64 0, .int .i64 0, .slice none 0 0] 63) = w1 at *
  with_reducible refine (HEI.out _ HH.out).mono ?_
  rintro e1 w2 ⟨rfl, hd⟩
  have hne : R ≠ w.heap.size := by omega
  have hr2 := HR1.out.turns hd.2 (fun e => hne e.symm)
  have HD2 := Lib.hid hd.1
  have HR2 := Lib.hid hr2
  have HT2 : Hid (Turns (fun i => i = R) w w2) := (Turns.of_below HB1.out _).next hd.2 (fun _ _ hk => hk)
  clear hd hr2 HH HR1 HB1 HEI
  by_cases hn0 : 0 < n
  case neg =>
    obtain rfl : n = 0 := by omega
    obtain ⟨rfl, rfl⟩ : e = 0 ∧ ss = [] := HHP.out.z rfl
    have htl2 : tl = rest := by rw [htl, if_neg hn0, List.nil_append]
    have x0 := HR2.out.cells.1
    have x1 := HR2.out.cells.2.1
    have x2 := HR2.out.cells.2.2
    have xf := HR2.out.free
    have HD3 : Hid (Did w R ⟨rest, 0⟩ (((w2.setCell ⟨w.heap.size, 0, none⟩ (.int .u64 0)).setCell ⟨w.heap.size, 1, none⟩ (.int .i64 0)).setCell ⟨w.heap.size, 2, none⟩ (.slice none 0 0))) :=
      ⟨htl2 ▸ HD2.out.row15 HR2.out hne (turns_row15 _ _ _ _ _), HT2.out.next (turns_row15 _ _ _ _ _) (fun k hk e => by have := e; omega)⟩
    clear hn0 htl htl2
    go_wp2
    exact bodyPost_ret (results_cell_row Try.results30 _ _ w.heap.size _ _ (0, 0) _ rfl (HR2.out.setAll 0 0 (.slice none 0 0)) Try.underlying63 rfl sizeRow15) rfl
      ⟨none, 0, rfl, Txt15.none _, fun h => absurd rfl h, HD3.out⟩
  have d0 : ((n : Int) == 0) = false := by simp; omega
  have d1 : (n == 0) = false := by simp; omega
  have hcn : cnt15 n = true := by unfold cnt15; simp [hn0, hn]
  have HCN : Hid (∀ W, Calls Try.prog 35 #[.int .u64 n] W fun e w' => e = .returned (.bool true) ∧ W = w') := fun W => by
    have := counted15_calls n W
    rwa [hcn] at this
  have htl2 : tl = textB (tx14 (repB14 e ss)) ++ rest := by rw [htl, if_pos hn0]
  have hlr : (repB14 e ss).length ≤ 523 := hlen
  have HTX : Hid (∀ W, Rdr W R ⟨tl, 0⟩ → Calls Try.prog 43 #[.pointer (some ⟨R, 0, none⟩), .int .i64 65535] W fun e1 w' => e1 = .returned (.string (tx14 (repB14 e ss))) ∧ Did W R ⟨rest, 0⟩ w') := fun W hW => by
    have := rtext_calls R ⟨tl, 0⟩ 65535 W hW (by rw [htl2, List.length_append, textB_length, tx14_size]; show _ ≤ _; omega)
    rw [htl2, textS_put14 _ _ _ (by rw [tx14_size]; omega) (by rw [tx14_size]; omega), tx14_list] at this
    exact this
  obtain ⟨g1, g2, g3⟩ := gback14 (k := e) (ss := ss) he HHP.out.few HHP.out.lit
  have htls : tls14 e ss = ss := tls_mayP15 HHP.out
  have HGE : Hid (∀ v W, Rd W v (repB14 e ss) → Calls Try.prog 42 #[v] W fun en w' => ∃ A c, en = .returned (.tuple #[.agg #[.int .i64 e, .slice A ss.length c], .int .i64 0]) ∧ Txt15 w' A c ss ∧ From15 W.heap.size A ss ∧ Below W.heap.size W w') := fun v W hv => by
    refine (Get15_calls v (repB14 e ss) W hv (by omega)).mono ?_
    rintro en w' (⟨h, _⟩ | ⟨_, A, c, he1, hs, hl1, hl2, hnew, hnil, hb⟩)
    · exact absurd g1 h
    · rw [g2, g3, htls] at he1
      rw [g3, htls] at hs hl1
      exact ⟨A, c, he1, ⟨hs, hl1, hl2, hnil⟩, fun _ a ha => hnew a ha, hb⟩
  have HFA : Hid (∀ W, Rdr W R ⟨rest, 0⟩ → Calls Try.prog 41 #[.pointer (some ⟨R, 0, none⟩), .int .i64 0] W (Void W R ⟨rest, 0⟩)) := fun W hW => by
    have := fail_calls R ⟨rest, 0⟩ 0 W hW
    rwa [failS_z15] at this
  have HCV : Hid (∀ W, ∃ A c w1, (convert 9 51 (.string (tx14 (repB14 e ss)))).run Try.prog W = .ok (.slice A (tx14 (repB14 e ss)).size c) w1 ∧ Rd w1 (.slice A (tx14 (repB14 e ss)).size c) (repB14 e ss) ∧ Below W.heap.size W w1) := fun W => by
    have := conv15 W (tx14 (repB14 e ss))
    rwa [tx14_list] at this
  clear g1 g2 g3 htls htl htl2 hlr hlen hcn HHP hn0 hn he
  generalize repB14 e ss = rb at *
  generalize hml : ss.length = m at *
  have HML := Lib.hid hml
  clear hml
  generalize tx14 rb = sx at *
  go_wp2_with fail
  with_reducible refine (HCN.out _).mono ?_
  rintro e1 w3 ⟨rfl, rfl⟩
  clear HCN
  go_wp2_with fail
  with_reducible refine (HTX.out _ HD2.out).mono ?_
  rintro e1 w3 ⟨rfl, hd⟩
  have HR3 := Lib.hid (HR2.out.turns hd.2 (fun e => hne e.symm))
  have HD3 := Lib.hid hd.1
  have HT3 : Hid (Turns (fun i => i = R) w w3) := HT2.out.next hd.2 (fun _ _ hk => hk)
  clear hd HR2 HD2 HT2 HTX
  obtain ⟨A3, c3, w4, hcv, hrd, hb⟩ := HCV.out w3
  have HRD := Lib.hid hrd
  have HR4 := Lib.hid (HR3.out.below hb)
  have HD4 := Lib.hid (HD3.out.still (turns14 hb))
  have HT4 : Hid (Turns (fun i => i = R) w w4) := HT3.out.next (Turns.of_below hb _) (fun _ _ hk => hk)
  clear hrd hb HR3 HD3 HT3 HCV
  go_wp2_with fail
  with_reducible refine (HGE.out _ _ HRD.out).mono ?_
  rintro e1 w5 ⟨A5, c5, rfl, ht5, hf5, hb⟩
  have HR5 := Lib.hid (HR4.out.below hb)
  have HD5 := Lib.hid (HD4.out.still (turns14 hb))
  have HT5 : Hid (Turns (fun i => i = R) w w5) := HT4.out.next (Turns.of_below hb _) (fun _ _ hk => hk)
  have HX5 := Lib.hid ht5
  have HF5 : Hid (From15 (w.heap.size + 1) A5 ss) := fun hne' a ha => by
    have h1 := hf5 hne' a ha
    have h2 : w.heap.size < w4.heap.size := (Array.getElem?_eq_some_iff.1 HR4.out).1
    omega
  clear ht5 hf5 hb HR4 HD4 HT4 HGE HRD hcv
  have hP6 : RpAt (w5.alloc (.cells #[.int .i64 e, .slice A5 m c5] 34)) w5.heap.size e (.slice A5 m c5) := heap_alloc_new w5 _
  have hb6 := alloc14 (Below.refl _ w5) (.cells #[.int .i64 e, .slice A5 m c5] 34)
  have HP6 := Lib.hid hP6
  have HR6 := Lib.hid (HR5.out.below hb6)
  have HD6 := Lib.hid (HD5.out.still (turns14 hb6))
  have HT6 : Hid (Turns (fun i => i = R) w (w5.alloc (.cells #[.int .i64 e, .slice A5 m c5] 34))) := HT5.out.next (Turns.of_below hb6 _) (fun _ _ hk => hk)
  have HX6 := Lib.hid (HX5.out.later hb6)
  have hRP : R ≠ w5.heap.size := by have := HD5.out.lt; omega
  clear hP6 hb6 HR5 HD5 HT5 HX5
  go_wp2_with fail
  generalize w5.alloc (.cells #[.int .i64 e, .slice A5 m c5] 34) = w6 at *
  with_reducible refine (HFA.out _ HD6.out).mono ?_
  rintro e1 w7 ⟨rfl, hd⟩
  have hp7 := HP6.out.turns hd.2 (fun e => hRP e.symm)
  have hr7 := HR6.out.turns hd.2 (fun e => hne e.symm)
  have y0 := hp7.c0
  have y1 := hp7.c1
  have x0 := hr7.cells.1
  have x1 := hr7.cells.2.1
  have x2 := hr7.cells.2.2
  have xf := hr7.free
  have HR7 := Lib.hid hr7
  have hXr : Txt15 w7 A5 c5 ss := HX6.out.turns hd.2 (fun hne' a ha he => by have := HF5.out hne' a ha; omega)
  have HDD : Hid (Did w R ⟨rest, 0⟩ (((w7.setCell ⟨w.heap.size, 0, none⟩ (.int .u64 n)).setCell ⟨w.heap.size, 1, none⟩ (.int .i64 e)).setCell ⟨w.heap.size, 2, none⟩ (.slice A5 m c5))) :=
    ⟨hd.1.row15 hr7 hne (turns_row15 _ _ _ _ _), (HT6.out.next hd.2 (fun _ _ hk => hk)).next (turns_row15 _ _ _ _ _) (fun k hk e => by have := e; omega)⟩
  have HXX : Hid (Txt15 (((w7.setCell ⟨w.heap.size, 0, none⟩ (.int .u64 n)).setCell ⟨w.heap.size, 1, none⟩ (.int .i64 e)).setCell ⟨w.heap.size, 2, none⟩ (.slice A5 m c5)) A5 c5 ss) :=
    hXr.turns (turns_row15 _ _ _ _ _) (fun hne' a ha he => by have := HF5.out hne' a ha; omega)
  have HFF : Hid (From15 w.heap.size A5 ss) := fun hne' a ha => by have := HF5.out hne' a ha; omega
  clear hd hp7 hr7 hXr HP6 HR6 HD6 HT6 HX6 HFA HF5
  go_wp2
  exact bodyPost_ret (results_cell_row Try.results30 _ _ w.heap.size _ _ (0, 0) _ rfl (HR7.out.setAll n e (.slice A5 m c5)) Try.underlying63 rfl sizeRow15) rfl
    ⟨A5, c5, by rw [HML.out], HXX.out, HFF.out, HDD.out⟩

/-- What is left of a table's bytes. -/
def tailB15 (X : Nat → P15) (k : Nat) : List UInt8 := (List.range' k (8 - k)).flatMap fun i => rowB15 (X i)
theorem tailB_zero15 (X : Nat → P15) : tailB15 X 0 = tabB15 X := by
  unfold tailB15 tabB15 rowsB15
  rw [List.range_eq_range']
theorem tailB_succ15 (X : Nat → P15) {k : Nat} (hk : k < 8) : tailB15 X k = rowB15 (X k) ++ tailB15 X (k + 1) := by
  unfold tailB15
  rw [show 8 - k = (8 - (k + 1)) + 1 by omega, List.range'_succ, List.flatMap_cons]
theorem tailB_end15 (X : Nat → P15) : tailB15 X 8 = [] := rfl
theorem tailB_len15 {X : Nat → P15} (h : ∀ i, i < 8 → MayP15 (X i)) : ∀ j, j ≤ 8 → (tailB15 X (8 - j)).length ≤ 533 * j
  | 0, _ => by simp [tailB15]
  | j + 1, hj => by
    have h1 := tailB_len15 h j (by omega)
    have h2 := rowB_len15 (h (8 - (j + 1)) (by omega))
    rw [tailB_succ15 X (by omega), List.length_append, show 8 - (j + 1) + 1 = 8 - j by omega]
    omega

/-- A table under way. -/
def Rds15 (w : World) (C R : Nat) (X : Nat → P15) (k : Nat) (W : World) : Prop := Rdr W R ⟨tailB15 X k, 0⟩ ∧ Turns (fun j => j = R) w W ∧ ∃ V, Own15 W (C + 1) C V ∧ ∀ i, i < 8 → i < k → (V i).p = X i
/-- A row under way. -/
def GRd15 (w : World) (C R : Nat) (X : Nat → P15) (k : Nat) (V : Nat → R15) (L : Nat → Bool) (W : World) : Prop :=
  (L 3 = false ∧ L 7 = false ∧ Turns (fun j => j = R) w W ∧ Own15 W (C + 1) C V ∧ Rdr W R ⟨tailB15 X k, 0⟩) ∨
  (L 3 = true ∧ L 7 = false ∧ Turns (fun j => j = R) w W ∧ Own15 W (C + 1) C V) ∨
  (L 3 = true ∧ L 7 = true ∧ Rds15 w C R X (k + 1) W)
theorem GRd15.same {w W : World} {C R k : Nat} {X : Nat → P15} {V : Nat → R15} {L : Nat → Bool} (h : GRd15 w C R X k V L W) (i : Nat) (h3 : 3 ≠ i) (h7 : 7 ≠ i) : GRd15 w C R X k V (updL L i) W := by
  have e3 : updL L i 3 = L 3 := if_neg h3
  have e7 : updL L i 7 = L 7 := if_neg h7
  unfold GRd15
  rw [e3, e7]
  exact h
/-- What each operation makes. -/
def YRd15 (C R k : Nat) (X : Nat → P15) : Nat → Value → World → Prop
  | 0, v, _ => v = .pointer (some ⟨C, 0, none⟩)
  | 1, v, _ => v = .int .i64 k
  | 2, v, _ => v = .pointer (some ⟨R, 0, none⟩)
  | 3, v, W => ∃ A q, v = .agg #[.int .u64 (X k).n, .int .i64 (X k).e, .slice A (X k).ss.length q] ∧ Txt15 W A q (X k).ss ∧ From15 (C + 1) A (X k).ss ∧ Rdr W R ⟨tailB15 X (k + 1), 0⟩
  | 4, v, _ => v = .pointer (some ⟨C, 0, none⟩)
  | 5, v, _ => v = .pointer (some ⟨C, 0, none⟩)
  | 6, v, _ => v = .pointer (some ⟨C, k * 3, none⟩)
  | _, _, _ => True
theorem YRd15_any {C R k : Nat} {X : Nat → P15} {W W' : World} (j : Nat) (hj : j ≠ 3) (z : Value) (h : YRd15 C R k X j z W) : YRd15 C R k X j z W' := by
  match j, h with
  | 0, h => exact h
  | 1, h => exact h
  | 2, h => exact h
  | 3, h => exact absurd rfl hj
  | 4, h => exact h
  | 5, h => exact h
  | 6, h => exact h
  | _ + 7, _ => trivial

set_option maxRecDepth 100000 in
set_option maxHeartbeats 4000000 in
theorem Read15_calls {w : World} {R : Nat} (X : Nat → P15) (hX : ∀ i, i < 8 → MayP15 (X i)) (h : Rdr w R ⟨tabB15 X, 0⟩) :
    Calls Try.prog 18 #[.pointer (some ⟨R, 0, none⟩)] w fun e w' => e = .returned (.pointer (some ⟨w.heap.size, 0, none⟩)) ∧ Rds15 w w.heap.size R X 8 w' := by
  have hRl := h.lt
  have HX := Lib.hid hX
  have HH := Lib.hid h
  clear h hX
  go_enter Try.func18, Try.ntmps18
  go_wp2_with fail
  with_reducible refine (New15_calls w).mono ?_
  rintro e w1 ⟨rfl, hw⟩
  have HC : Hid (Rds15 w w.heap.size R X 0 w1) := by
    have hb : Below w.heap.size w w1 := by rw [hw]; exact alloc14 (Below.refl _ w) _
    refine ⟨by rw [tailB_zero15]; exact HH.out.still (turns14 hb), Turns.of_below hb _, fun _ => zero15, ?_, fun i _ hi => absurd hi (Nat.not_lt_zero _)⟩
    rw [hw]
    exact own_new15 w _ rfl
  clear hw HH
  go_wp2
  generalize hCC : w.heap.size = C at *
  have hRC : R ≠ C := by omega
  go_loopg [6] 8 (fun gg s6 wr => ∃ k : Nat, k ≤ 8 ∧ 8 - k ≤ gg ∧ s6 = .int .i64 k ∧ Hid (Rds15 w C R X k wr))
  case atStart => exact ⟨0, Nat.zero_le _, by omega, rfl, HC.out⟩
  case round =>
    clear HC
    obtain ⟨k, hk, hg, rfl, HK⟩ := hrel
    generalize wr = wo at *
    by_cases hlt : k < 8
    case neg =>
      obtain rfl : k = 8 := by omega
      obtain ⟨hr8, ht8, hv8⟩ := HK.out
      have HER := Lib.hid (rerr_calls R _ wo hr8)
      clear hr8 ht8 hv8
      go_wp2_with fail
      with_reducible refine HER.out.mono ?_
      rintro e w5 ⟨rfl, rfl⟩
      go_wp2
      go_ret
      exact ⟨by rw [hCC]; rfl, by rw [hCC]; exact HK.out⟩
    have hltz : (k : Int) < 8 := by omega
    obtain ⟨hr, ht, V, hV, hVP⟩ := HK.out
    have HG0 : Hid (GRd15 w C R X k V (fun _ => false) wo.drew) := .inl ⟨rfl, rfl, ht.drew, hV.turns (S := fun _ => False) ((Turns.refl _ _).drew) (fun f => f) (fun _ _ f => f), hr.still ((Turns.refl _ _).drew)⟩
    have HRR : Hid (∀ W, Rdr W R ⟨tailB15 X k, 0⟩ → Calls Try.prog 30 #[.pointer (some ⟨R, 0, none⟩)] W (RRow15 W R (X k) (tailB15 X (k + 1)))) := fun W hW => by
      rw [tailB_succ15 X hlt] at hW
      have := tailB_len15 HX.out (8 - (k + 1)) (by omega)
      rw [show 8 - (8 - (k + 1)) = k + 1 by omega] at this
      exact readRow15_calls (X k) _ (HX.out k hlt) hW (by omega)
    have HSET : Hid (∀ W W3 A q, Turns (fun j => j = R) w W → Own15 W (C + 1) C V → Txt15 W A q (X k).ss → From15 (C + 1) A (X k).ss → Rdr W R ⟨tailB15 X (k + 1), 0⟩ → W3 = ((W.setCell ⟨C, k * 3, none⟩ (.int .u64 (X k).n)).setCell ⟨C, k * 3 + 1, none⟩ (.int .i64 (X k).e)).setCell ⟨C, k * 3 + 2, none⟩ (.slice A (X k).ss.length q) → Rds15 w C R X (k + 1) W3 ∧ Turns (fun j => j = C) W W3) := fun W W3 A q htw hown htx hf hrd hw => by
      have hm := HX.out k hlt
      obtain ⟨h1, h2⟩ := hown.set (r := ⟨(X k).n, (X k).e, A, q, (X k).ss⟩) (Below.refl _ W) hlt ⟨hm.n, hm.e, hm.z, hm.t, hm.few, hm.lit⟩ htx hf hw
      refine ⟨⟨hrd.tab15 hown.at_ hRC h2, htw.next h2 (fun j hj e => by have := e; omega), _, h1, fun i hi hik => ?_⟩, h2⟩
      unfold setT
      by_cases e1 : i = k
      · rw [if_pos e1, e1]; rfl
      · rw [if_neg e1]; exact hVP i hi (by omega)
    clear hr ht hV hVP HK
    go_wp2
    refine wp_region_st2 (by kernel_rfl) (YRd15 C R k X) (GRd15 w C R X k V) ?F ?hF (by kernel_rfl) (by kernel_rfl) HG0.out ?step ?fin
    case hF =>
      intro x
      simp only [List.map_cons, List.map_nil, putL, Act.put, List.setIfInBounds_toArray, List.set_cons_zero, List.set_cons_succ, Nat.zero_add, Nat.reduceAdd]
      exact rfl
    case step =>
      refine ⟨?_, ?_, ?_, ?_, ?_, ?_, ?_, ?_, trivial⟩
      all_goals intro L x W hLi hL hG hdep K hK
      · clear hdep hL hLi
        go_simp
        exact hK _ _ rfl (hG.same 0 (by decide) (by decide)) (fun _ _ h => h)
      · clear hdep hL hLi
        go_simp
        exact hK _ _ rfl (hG.same 1 (by decide) (by decide)) (fun _ _ h => h)
      · clear hdep hL hLi
        go_simp
        exact hK _ _ rfl (hG.same 2 (by decide) (by decide)) (fun _ _ h => h)
      · have h2 : x 2 = _ := hdep 2 rfl
        have hG3 : L 7 = false ∧ Turns (fun j => j = R) w W ∧ Own15 W (C + 1) C V ∧ Rdr W R ⟨tailB15 X k, 0⟩ := by
          rcases hG with h | h | h
          · exact h.2
          · rw [hLi] at h; exact absurd h.1 (by decide)
          · rw [hLi] at h; exact absurd h.1 (by decide)
        have HLI := Lib.hid hLi
        have HG3 := Lib.hid hG3
        clear hdep hL hG hG3 hLi
        simp only [h2] at hK
        go_simp
        refine (HRR.out W HG3.out.2.2.2).mono ?_
        rintro e W' ⟨A', q', rfl, htx, hf, hd⟩
        have hown := HG3.out.2.2.1
        refine hK _ _ ⟨A', q', rfl, htx, fun hne a ha => Nat.le_trans hown.le (hf hne a ha), hd.1⟩ (.inr (.inl ⟨if_pos rfl, ?_, HG3.out.2.1.next hd.2 (fun _ _ hk => hk), hown.turns hd.2 (fun e => hRC e.symm) (fun j hj e => by have := e; omega)⟩)) (fun j hj h => YRd15_any j (fun e => by subst e; rw [HLI.out] at hj; cases hj) _ h)
        show updL L 3 7 = false
        rw [show updL L 3 7 = L 7 from if_neg (by decide)]
        exact HG3.out.1
      · have h0 : x 0 = _ := hdep 0 rfl
        clear hdep hL hLi
        simp only [h0] at hK
        go_simp
        exact hK _ _ rfl (hG.same 4 (by decide) (by decide)) (fun _ _ h => h)
      · have h4 : x 4 = _ := hdep 4 rfl
        clear hdep hL hLi
        simp only [h4] at hK
        go_simp
        exact hK _ _ rfl (hG.same 5 (by decide) (by decide)) (fun _ _ h => h)
      · have h5 : x 5 = _ := hdep 5 rfl
        have h1 : x 1 = _ := hdep 1 rfl
        have g0 : (0 : Int) ≤ k ∧ (k : Int) < 8 := by omega
        clear hdep hL hLi
        simp only [h5, h1] at hK
        go_simp
        exact hK _ _ rfl (hG.same 6 (by decide) (by decide)) (fun _ _ h => h)
      · have h6 : x 6 = _ := hdep 6 rfl
        obtain ⟨A', q', h3, htx, hf, hrd⟩ := hdep 3 rfl
        have hL3 : L 3 = true := hL 3 rfl
        have hG7 : Turns (fun j => j = R) w W ∧ Own15 W (C + 1) C V := by
          rcases hG with h | h | h
          · rw [hL3] at h; exact absurd h.1 (by decide)
          · exact h.2.2
          · rw [hLi] at h; exact absurd h.2.1 (by decide)
        have ha := hG7.2.at_
        have a0 := ha.cell k 0 hlt (by decide)
        have a1 := ha.cell k 1 hlt (by decide)
        have a2 := ha.cell k 2 hlt (by decide)
        have af := ha.free
        simp only [R15.cell, Nat.add_zero] at a0 a1 a2
        have hS := HSET.out W _ A' q' hG7.1 hG7.2 htx hf hrd rfl
        have HSS := Lib.hid hS
        have HRT := Lib.hid (hrd.tab15 ha hRC hS.2)
        have HTT := Lib.hid (htx.turns hS.2 (fun hne a ha he => by have := hf hne a ha; have := he; omega))
        have HFF := Lib.hid hf
        have HL3 := Lib.hid hL3
        clear hdep hL hLi hG hG7 ha htx hf hrd hS hL3
        simp only [h6, h3] at hK
        go_simp
        refine hK (.bool true) _ trivial (.inr (.inr ⟨?_, if_pos rfl, HSS.out.1⟩)) (fun j hj h => ?_)
        · show updL L 7 3 = true
          rw [show updL L 7 3 = L 3 from if_neg (by decide)]
          exact HL3.out
        · by_cases e : j = 3
          · subst e
            exact ⟨A', q', h3, HTT.out, HFF.out, HRT.out⟩
          · exact YRd15_any j e _ h
    case fin =>
      intro L x w6 hL hG _
      have hD : Rds15 w C R X (k + 1) w6 := by
        rcases hG with h | h | h
        · have := hL 3 (by decide); rw [this] at h; exact absurd h.1 (by decide)
        · have := hL 7 (by decide); rw [this] at h; exact absurd h.2.1 (by decide)
        · exact h.2.2
      have HD := Lib.hid hD
      clear hD hG hL
      go_wp2
      go_roundg (8 - (k + 1))
      case measure => omega
      case rel => exact ⟨k + 1, by omega, by omega, by go_num, HD.out⟩
end Go.Proofs.Ytadecmjojnhlnaa
