/-
  TableApart walked: tables have the same bytes just if each client's last number and reply are the same.
  Conditions: none.
-/
import Derived.Test.YtadecmjojnhlnaaTabI
import Derived.Test.YtadecmjojnhlnaaTabY
import Derived.Test.YtadecmjojnhlnaaLast
namespace Go.Proofs.Ytadecmjojnhlnaa
open Go.RowKit

set_option maxRecDepth 100000 in
set_option maxHeartbeats 16000000 in
theorem tapart15_walk (A A2 : Option Addr) (c n c2 n2 : Nat) (l l2 : List AcT) (w : World) (hl : n = l.length) (hn : n ≤ 9223372036854775807) (hr : RdAT w A l) (ho : ∀ t ∈ l, t.Ok w)
    (hl2 : n2 = l2.length) (hn2 : n2 ≤ 9223372036854775807) (hr2 : RdAT w A2 l2) (ho2 : ∀ t ∈ l2, t.Ok w) :
    Calls Try.prog 3 #[.slice A n c, .slice A2 n2 c2] w (Says14 (.bool true) w) := by
  have HV : Hid (∀ W, Calls Try.prog 6 #[] W (Says14 (.bool true) W)) := fun W => lives15_calls W
  have HF : Hid (∀ W, Below w.heap.size w W → Calls Try.prog 7 #[.slice A n c] W (Says14 (.bool (few15 l)) W)) := fun W hb => few15_calls A c n l W hl hn (hr.later hb) (fun t ht => let o := ho t ht; ⟨o.kd, o.cl, o.nm, o.er, o.tx.later hb⟩)
  have HF2 : Hid (∀ W, Below w.heap.size w W → Calls Try.prog 7 #[.slice A2 n2 c2] W (Says14 (.bool (few15 l2)) W)) := fun W hb => few15_calls A2 c2 n2 l2 W hl2 hn2 (hr2.later hb) (fun t ht => let o := ho2 t ht; ⟨o.kd, o.cl, o.nm, o.er, o.tx.later hb⟩)
  have HQ : Hid (few15 l = true → n ≤ 40 ∧ ∀ t ∈ l, t.ss.length ≤ 10 ∧ ∀ s ∈ t.ss, s.size ≤ 50) := fun h => ⟨by rw [hl]; exact few15_len h, few15_lit h⟩
  have HQ2 : Hid (few15 l2 = true → n2 ≤ 40 ∧ ∀ t ∈ l2, t.ss.length ≤ 10 ∧ ∀ s ∈ t.ss, s.size ≤ 50) := fun h => ⟨by rw [hl2]; exact few15_len h, few15_lit h⟩
  have HR := Lib.hid hr
  have HL := Lib.hid hl
  have HO := Lib.hid ho
  have HR2 := Lib.hid hr2
  have HL2 := Lib.hid hl2
  have HO2 := Lib.hid ho2
  clear hr hl ho hr2 hl2 ho2
  generalize few15 l = q at *
  generalize few15 l2 = q2 at *
  go_enter Try.func3, Try.ntmps3
  go_wp2_with fail
  with_reducible refine (HV.out w).mono ?_
  rintro e w1 ⟨rfl, hb⟩
  have HB1 := Lib.hid hb
  clear hb
  go_wp2_with fail
  with_reducible refine (HF.out w1 HB1.out).mono ?_
  rintro e w2 ⟨rfl, hb⟩
  have HB2 := Lib.hid (next14 HB1.out hb)
  clear hb HF HB1
  cases q with
  | false =>
    go_wp2_with fail
    with_reducible refine (HV.out w2).mono ?_
    rintro e w3 ⟨rfl, hb⟩
    have HB3 := Lib.hid (next14 HB2.out hb)
    clear hb
    go_wp2
    go_ret
    exact ⟨rfl, HB3.out⟩
  | true =>
  go_wp2_with fail
  with_reducible refine (HF2.out w2 HB2.out).mono ?_
  rintro e w3 ⟨rfl, hb⟩
  have HB3 := Lib.hid (next14 HB2.out hb)
  clear hb HF2 HB2
  cases q2 with
  | false =>
    go_wp2_with fail
    with_reducible refine (HV.out w3).mono ?_
    rintro e w4 ⟨rfl, hb⟩
    have HB4 := Lib.hid (next14 HB3.out hb)
    clear hb
    go_wp2
    go_ret
    exact ⟨rfl, HB4.out⟩
  | true =>
  obtain ⟨hn40, hlit⟩ := HQ.out (by first | rfl | trivial)
  obtain ⟨hn402, hlit2⟩ := HQ2.out (by first | rfl | trivial)
  have HLIT := Lib.hid hlit
  have HLIT2 := Lib.hid hlit2
  clear HQ HQ2 HV hlit hlit2
  go_wp2_with fail
  with_reducible refine (New15_calls w3).mono ?_
  rintro e w4 ⟨rfl, hw⟩
  have HT4 : Hid (Tab15 w4 w3.heap.size 66 (fun _ => zero15)) := by rw [hw]; exact heap_alloc_new w3 _
  have HB4 : Hid (Below w.heap.size w w4) := by rw [hw]; exact alloc14 HB3.out _
  have hB : w.heap.size ≤ w3.heap.size := HB3.out.size
  have hS : w3.heap.size < w4.heap.size := by rw [hw]; simp
  clear hw HB3
  generalize w3.heap.size = B1 at *
  go_wp2_with fail
  with_reducible refine (New15_calls w4).mono ?_
  rintro e w5 ⟨rfl, hw⟩
  have HS : Hid (∃ T U, Own15 w5 (w4.heap.size + 1) B1 T ∧ Own15 w5 (w4.heap.size + 1) w4.heap.size U) := by
    have hb : Below w4.heap.size w4 w5 := by rw [hw]; exact alloc14 (Below.refl _ _) _
    have hz : w4.heap.size + 1 ≤ w5.heap.size := by rw [hw]; simp
    have hn : Tab15 w5 w4.heap.size 66 (fun _ => zero15) := by rw [hw]; exact heap_alloc_new w4 _
    exact ⟨_, _, own_none15 (HT4.out.later hb) (by omega) hz, own_none15 hn (by omega) hz⟩
  have HW4 : Hid (Below w.heap.size w w5) := by rw [hw]; exact alloc14 HB4.out _
  clear hw HT4 HB4
  generalize w4.heap.size = B2 at *
  go_wp2
  go_loopg [30] n (fun gg si wr => ∃ k : Nat, k ≤ n ∧ n - k ≤ gg ∧ si = .int .i64 k ∧ Hid (Below w.heap.size w wr) ∧ Hid (∃ T U, Own15 wr (B2 + 1) B1 T ∧ Own15 wr (B2 + 1) B2 U))
  case atStart => exact ⟨0, Nat.zero_le _, by omega, rfl, HW4.out, HS.out⟩
  case round =>
    clear HS HW4
    obtain ⟨k, hk, hg, rfl, HW, HT⟩ := hrel
    generalize wr = wo at *
    by_cases hlt : k < n
    case pos =>
      have hltz : (k : Int) < (n : Int) := by omega
      have hkl : k < l.length := HL.out ▸ hlt
      obtain ⟨b, off, rfl, c0, c1, c2, c3, c4⟩ := (HR.out.later HW.out).at15 k hkl
      have HOK := Lib.hid (HO.out _ (List.getElem_mem hkl))
      have hll := HLIT.out _ (List.getElem_mem hkl)
      have HLL := Lib.hid hll
      clear hll
      generalize l[k] = t at *
      obtain ⟨T, U, hT1, hT2⟩ := HT.out
      have HT1 := Lib.hid hT1
      have HT2 := Lib.hid hT2
      clear hT1 hT2 HT
      have hbA := alloc14 (Below.refl _ wo) (.cells #[.int .u8 t.kd, .int .u8 t.cl, .int .u64 t.nm, .int .u8 t.er, .slice t.A t.ss.length t.c] 30)
      have hA : ActB15 (wo.alloc (.cells #[.int .u8 t.kd, .int .u8 t.cl, .int .u64 t.nm, .int .u8 t.er, .slice t.A t.ss.length t.c] 30)) wo.heap.size t := heap_alloc_new wo _
      have HBA := Lib.hid hbA
      have HA5 := Lib.hid hA
      clear hbA hA
      go_wp2
      clear c0 c1 c2 c3 c4
      generalize wo.alloc (.cells #[.int .u8 t.kd, .int .u8 t.cl, .int .u64 t.nm, .int .u8 t.er, .slice t.A t.ss.length t.c] 30) = w5 at *
      have HT3 := Lib.hid (HT1.out.later HBA.out)
      have HT4 := Lib.hid (HT2.out.later HBA.out)
      have HW5 := Lib.hid (next14 HW.out HBA.out)
      have HP : Hid (∀ W, Below w5.heap.size w5 W → Calls Try.prog 9 #[.pointer (some ⟨B1, 0, none⟩), .int .u8 t.cl, .int .u64 t.nm, .agg #[.int .i64 (t.er % 19 : Nat), .slice t.A t.ss.length t.c]] W fun en w' =>
          ∃ r : Int, en = .returned (.int .i64 r) ∧ ∃ X, Did15 w5 (B2 + 1) B1 X w') := fun W hW =>
        (act_put15 (HT3.out.later hW) HOK.out (next14 HW5.out hW) HLL.out).mono fun en w' ⟨h1, h2⟩ => ⟨_, h1, _, h2.from_ hW⟩
      have HRE : Hid (∀ W, Calls Try.prog 10 #[.agg #[.int .u8 t.kd, .int .u8 t.cl, .int .u64 t.nm, .int .u8 t.er, .slice t.A t.ss.length t.c]] W (Says14 (.agg #[.int .i64 (t.er % 19 : Nat), .slice t.A t.ss.length t.c]) W)) := fun W => reply15_calls t W HOK.out.er
      clear HT1 HT2 HW HBA
      generalize hDD : wo.heap.size = D at *
      refine wp_region_last (by kernel_rfl) 7 (fun W => Below w5.heap.size w5 W) (fun W => ∃ X, Did15 w5 (B2 + 1) B1 X W) (YPv15 B1 D t) (fun _ => True) ?F7 ?hF7 (by kernel_rfl) (by kernel_rfl) (by kernel_rfl) (by kernel_rfl) (by decide) (drew14 (Below.refl _ _)) ?step7 ?fin7
      case hF7 =>
        intro x
        simp only [List.map_cons, List.map_nil, putL, Act.put, List.setIfInBounds_toArray, List.set_cons_zero, List.set_cons_succ, Nat.zero_add, Nat.reduceAdd]
        exact rfl
      case step7 =>
        refine ⟨?_, ?_, ?_, ?_, ?_, ?_, ?_, ?_, trivial⟩
        · intro x W
          refine ⟨fun _ hW hdep K hK => ?_, (fun h => absurd h (by decide)), (fun h => absurd h (by decide))⟩
          clear hdep
          go_simp
          exact hK _ _ rfl hW (fun _ _ h => h)
        · intro x W
          refine ⟨fun _ hW hdep K hK => ?_, (fun h => absurd h (by decide)), (fun h => absurd h (by decide))⟩
          clear hdep
          go_simp
          exact hK _ _ rfl hW (fun _ _ h => h)
        · intro x W
          refine ⟨fun _ hW hdep K hK => ?_, (fun h => absurd h (by decide)), (fun h => absurd h (by decide))⟩
          have h1 : x 1 = _ := hdep 1 rfl
          have a1 := (HA5.out.later hW).cells.2.1
          clear hdep
          simp only [h1] at hK
          go_simp
          exact hK _ _ rfl hW (fun _ _ h => h)
        · intro x W
          refine ⟨fun _ hW hdep K hK => ?_, (fun h => absurd h (by decide)), (fun h => absurd h (by decide))⟩
          clear hdep
          go_simp
          exact hK _ _ rfl hW (fun _ _ h => h)
        · intro x W
          refine ⟨fun _ hW hdep K hK => ?_, (fun h => absurd h (by decide)), (fun h => absurd h (by decide))⟩
          have h3 : x 3 = _ := hdep 3 rfl
          have a2 := (HA5.out.later hW).cells.2.2.1
          clear hdep
          simp only [h3] at hK
          go_simp
          exact hK _ _ rfl hW (fun _ _ h => h)
        · intro x W
          refine ⟨fun _ hW hdep K hK => ?_, (fun h => absurd h (by decide)), (fun h => absurd h (by decide))⟩
          obtain ⟨a0, a1, a2, a3, a4⟩ := (HA5.out.later hW).cells
          clear hdep
          go_simp
          exact hK _ _ rfl hW (fun _ _ h => h)
        · intro x W
          refine ⟨fun _ hW hdep K hK => ?_, (fun h => absurd h (by decide)), (fun h => absurd h (by decide))⟩
          have h5 : x 5 = _ := hdep 5 rfl
          clear hdep
          simp only [h5] at hK
          go_simp
          refine (HRE.out W).mono ?_
          rintro e W' ⟨rfl, hb⟩
          exact hK _ _ rfl (next14 hW hb) (fun j z h => YPv15_any j z h)
        · intro x W
          refine ⟨(fun h => absurd h (by decide)), fun _ hW hdep K hK => ?_, (fun h => absurd h (by decide))⟩
          have h0 : x 0 = _ := hdep 0 rfl
          have h2 : x 2 = _ := hdep 2 rfl
          have h4 : x 4 = _ := hdep 4 rfl
          have h6 : x 6 = _ := hdep 6 rfl
          clear hdep
          simp only [h0, h2, h4, h6] at hK
          go_simp
          refine (HP.out W hW).mono ?_
          rintro e W' ⟨r', rfl, hd⟩
          exact hK _ _ trivial hd
      case fin7 =>
        intro x w6 hD6 _
        obtain ⟨X, V, hV, ht, _⟩ := hD6
        have HW6 := Lib.hid (HW5.out.trans (ht.below_at HW5.out.size (fun k e => by omega)))
        have HV : Hid (∃ T U, Own15 w6 (B2 + 1) B1 T ∧ Own15 w6 (B2 + 1) B2 U) := ⟨V, U, hV, HT4.out.turns ht (by omega) (fun k hk e => by omega)⟩
        clear hV ht HP HRE HT3 HT4
        go_wp2
        go_roundg (n - (k + 1))
        case measure => omega
        case rel => exact ⟨k + 1, by omega, by omega, by go_num, HW6.out, HV.out⟩
    have hltz : ¬ (k : Int) < (n : Int) := by omega
    obtain rfl : k = n := by omega
    have HS := HT
    have HW4 := HW
    clear HT HW
    generalize wo = w5 at *
    go_wp2
    go_loopg [45] n2 (fun gg si wr => ∃ k : Nat, k ≤ n2 ∧ n2 - k ≤ gg ∧ si = .int .i64 k ∧ Hid (Below w.heap.size w wr) ∧ Hid (∃ T U, Own15 wr (B2 + 1) B1 T ∧ Own15 wr (B2 + 1) B2 U))
    case atStart => exact ⟨0, Nat.zero_le _, by omega, rfl, HW4.out, HS.out⟩
    case round =>
      clear HS HW4
      obtain ⟨k, hk, hg, rfl, HW, HT⟩ := hrel
      generalize wr = wo at *
      by_cases hlt : k < n2
      case pos =>
        have hltz : (k : Int) < (n2 : Int) := by omega
        have hkl : k < l2.length := HL2.out ▸ hlt
        obtain ⟨b, off, rfl, c0, c1, c2, c3, c4⟩ := (HR2.out.later HW.out).at15 k hkl
        have HOK := Lib.hid (HO2.out _ (List.getElem_mem hkl))
        have hll := HLIT2.out _ (List.getElem_mem hkl)
        have HLL := Lib.hid hll
        clear hll
        generalize l2[k] = t at *
        obtain ⟨T, U, hT1, hT2⟩ := HT.out
        have HT1 := Lib.hid hT1
        have HT2 := Lib.hid hT2
        clear hT1 hT2 HT
        have hbA := alloc14 (Below.refl _ wo) (.cells #[.int .u8 t.kd, .int .u8 t.cl, .int .u64 t.nm, .int .u8 t.er, .slice t.A t.ss.length t.c] 30)
        have hA : ActB15 (wo.alloc (.cells #[.int .u8 t.kd, .int .u8 t.cl, .int .u64 t.nm, .int .u8 t.er, .slice t.A t.ss.length t.c] 30)) wo.heap.size t := heap_alloc_new wo _
        have HBA := Lib.hid hbA
        have HA5 := Lib.hid hA
        clear hbA hA
        go_wp2
        clear c0 c1 c2 c3 c4
        generalize wo.alloc (.cells #[.int .u8 t.kd, .int .u8 t.cl, .int .u64 t.nm, .int .u8 t.er, .slice t.A t.ss.length t.c] 30) = w5 at *
        have HT3 := Lib.hid (HT1.out.later HBA.out)
        have HT4 := Lib.hid (HT2.out.later HBA.out)
        have HW5 := Lib.hid (next14 HW.out HBA.out)
        have HP : Hid (∀ W, Below w5.heap.size w5 W → Calls Try.prog 9 #[.pointer (some ⟨B2, 0, none⟩), .int .u8 t.cl, .int .u64 t.nm, .agg #[.int .i64 (t.er % 19 : Nat), .slice t.A t.ss.length t.c]] W fun en w' =>
            ∃ r : Int, en = .returned (.int .i64 r) ∧ ∃ X, Did15 w5 (B2 + 1) B2 X w') := fun W hW =>
          (act_put15 (HT4.out.later hW) HOK.out (next14 HW5.out hW) HLL.out).mono fun en w' ⟨h1, h2⟩ => ⟨_, h1, _, h2.from_ hW⟩
        have HRE : Hid (∀ W, Calls Try.prog 10 #[.agg #[.int .u8 t.kd, .int .u8 t.cl, .int .u64 t.nm, .int .u8 t.er, .slice t.A t.ss.length t.c]] W (Says14 (.agg #[.int .i64 (t.er % 19 : Nat), .slice t.A t.ss.length t.c]) W)) := fun W => reply15_calls t W HOK.out.er
        clear HT1 HT2 HW HBA
        generalize hDD : wo.heap.size = D at *
        refine wp_region_last (by kernel_rfl) 7 (fun W => Below w5.heap.size w5 W) (fun W => ∃ X, Did15 w5 (B2 + 1) B2 X W) (YPv15 B2 D t) (fun _ => True) ?F12 ?hF12 (by kernel_rfl) (by kernel_rfl) (by kernel_rfl) (by kernel_rfl) (by decide) (drew14 (Below.refl _ _)) ?step12 ?fin12
        case hF12 =>
          intro x
          simp only [List.map_cons, List.map_nil, putL, Act.put, List.setIfInBounds_toArray, List.set_cons_zero, List.set_cons_succ, Nat.zero_add, Nat.reduceAdd]
          exact rfl
        case step12 =>
          refine ⟨?_, ?_, ?_, ?_, ?_, ?_, ?_, ?_, trivial⟩
          · intro x W
            refine ⟨fun _ hW hdep K hK => ?_, (fun h => absurd h (by decide)), (fun h => absurd h (by decide))⟩
            clear hdep
            go_simp
            exact hK _ _ rfl hW (fun _ _ h => h)
          · intro x W
            refine ⟨fun _ hW hdep K hK => ?_, (fun h => absurd h (by decide)), (fun h => absurd h (by decide))⟩
            clear hdep
            go_simp
            exact hK _ _ rfl hW (fun _ _ h => h)
          · intro x W
            refine ⟨fun _ hW hdep K hK => ?_, (fun h => absurd h (by decide)), (fun h => absurd h (by decide))⟩
            have h1 : x 1 = _ := hdep 1 rfl
            have a1 := (HA5.out.later hW).cells.2.1
            clear hdep
            simp only [h1] at hK
            go_simp
            exact hK _ _ rfl hW (fun _ _ h => h)
          · intro x W
            refine ⟨fun _ hW hdep K hK => ?_, (fun h => absurd h (by decide)), (fun h => absurd h (by decide))⟩
            clear hdep
            go_simp
            exact hK _ _ rfl hW (fun _ _ h => h)
          · intro x W
            refine ⟨fun _ hW hdep K hK => ?_, (fun h => absurd h (by decide)), (fun h => absurd h (by decide))⟩
            have h3 : x 3 = _ := hdep 3 rfl
            have a2 := (HA5.out.later hW).cells.2.2.1
            clear hdep
            simp only [h3] at hK
            go_simp
            exact hK _ _ rfl hW (fun _ _ h => h)
          · intro x W
            refine ⟨fun _ hW hdep K hK => ?_, (fun h => absurd h (by decide)), (fun h => absurd h (by decide))⟩
            obtain ⟨a0, a1, a2, a3, a4⟩ := (HA5.out.later hW).cells
            clear hdep
            go_simp
            exact hK _ _ rfl hW (fun _ _ h => h)
          · intro x W
            refine ⟨fun _ hW hdep K hK => ?_, (fun h => absurd h (by decide)), (fun h => absurd h (by decide))⟩
            have h5 : x 5 = _ := hdep 5 rfl
            clear hdep
            simp only [h5] at hK
            go_simp
            refine (HRE.out W).mono ?_
            rintro e W' ⟨rfl, hb⟩
            exact hK _ _ rfl (next14 hW hb) (fun j z h => YPv15_any j z h)
          · intro x W
            refine ⟨(fun h => absurd h (by decide)), fun _ hW hdep K hK => ?_, (fun h => absurd h (by decide))⟩
            have h0 : x 0 = _ := hdep 0 rfl
            have h2 : x 2 = _ := hdep 2 rfl
            have h4 : x 4 = _ := hdep 4 rfl
            have h6 : x 6 = _ := hdep 6 rfl
            clear hdep
            simp only [h0, h2, h4, h6] at hK
            go_simp
            refine (HP.out W hW).mono ?_
            rintro e W' ⟨r', rfl, hd⟩
            exact hK _ _ trivial hd
        case fin12 =>
          intro x w6 hD6 _
          obtain ⟨X, V, hV, ht, _⟩ := hD6
          have HW6 := Lib.hid (HW5.out.trans (ht.below_at HW5.out.size (fun k e => by omega)))
          have HV : Hid (∃ T U, Own15 w6 (B2 + 1) B1 T ∧ Own15 w6 (B2 + 1) B2 U) := ⟨T, V, HT3.out.turns ht (by omega) (fun k hk e => by omega), hV⟩
          clear hV ht HP HRE HT3 HT4
          go_wp2
          go_roundg (n2 - (k + 1))
          case measure => omega
          case rel => exact ⟨k + 1, by omega, by omega, by go_num, HW6.out, HV.out⟩
      have hltz : ¬ (k : Int) < (n2 : Int) := by omega
      obtain rfl : k = n2 := by omega
      obtain ⟨T, U, hT, hU⟩ := HT.out
      have HLT : Hid (∀ i : Nat, i < 8 → ∀ W, Below wo.heap.size wo W → Calls Try.prog 11 #[.pointer (some ⟨B1, 0, none⟩), .int .u8 i] W (Says14 (.int .u64 (T i).n) W)) := fun i hi W hW => by
        have := Last15_calls B1 T i W (hT.later hW).at_
        rwa [show getT T i = T i from if_pos hi] at this
      have HLU : Hid (∀ i : Nat, i < 8 → ∀ W, Below wo.heap.size wo W → Calls Try.prog 11 #[.pointer (some ⟨B2, 0, none⟩), .int .u8 i] W (Says14 (.int .u64 (U i).n) W)) := fun i hi W hW => by
        have := Last15_calls B2 U i W (hU.later hW).at_
        rwa [show getT U i = U i from if_pos hi] at this
      have HRT : Hid (∀ i : Nat, i < 8 → ∀ W, Below wo.heap.size wo W → Calls Try.prog 13 #[.pointer (some ⟨B1, 0, none⟩), .int .u8 i] W fun e w' => ∃ A q, e = .returned (.agg #[.int .i64 (T i).e, .slice A (T i).ss.length q]) ∧ Txt15 w' A q (T i).ss ∧ Below W.heap.size W w') := fun i hi W hW => by
        have := Reply15_calls (hT.later hW) i
        rwa [show getT T i = T i from if_pos hi] at this
      have HRU : Hid (∀ i : Nat, i < 8 → ∀ W, Below wo.heap.size wo W → Calls Try.prog 13 #[.pointer (some ⟨B2, 0, none⟩), .int .u8 i] W fun e w' => ∃ A q, e = .returned (.agg #[.int .i64 (U i).e, .slice A (U i).ss.length q]) ∧ Txt15 w' A q (U i).ss ∧ Below W.heap.size W w') := fun i hi W hW => by
        have := Reply15_calls (hU.later hW) i
        rwa [show getT U i = U i from if_pos hi] at this
      have HBT : Hid (∀ W, Below wo.heap.size wo W → Calls Try.prog 14 #[.pointer (some ⟨B1, 0, none⟩)] W (Says14 (.string (tx14 (tabB15 (fun i => (T i).p)))) W)) := fun W hW => bytes15_calls (hT.later hW)
      have HBU : Hid (∀ W, Below wo.heap.size wo W → Calls Try.prog 14 #[.pointer (some ⟨B2, 0, none⟩)] W (Says14 (.string (tx14 (tabB15 (fun i => (U i).p)))) W)) := fun W hW => bytes15_calls (hU.later hW)
      have HSM : Hid (decide (tx14 (tabB15 (fun i => (T i).p)) = tx14 (tabB15 (fun i => (U i).p))) = sameB15 (fun i => (T i).p) (fun i => (U i).p) 8) := tabB_same15 (fun i hi => (hT.may i hi).p) (fun i hi => (hU.may i hi).p)
      have HFW : Hid (∀ i : Nat, i < 8 → (T i).ss.length ≤ 10) := fun i hi => (hT.may i hi).few
      have HSUC : Hid (∀ i : Nat, sameB15 (fun i => (T i).p) (fun i => (U i).p) (i + 1) = (sameB15 (fun i => (T i).p) (fun i => (U i).p) i && (decide ((T i).n = (U i).n) && sam14 (T i).e (T i).ss (U i).e (U i).ss))) := fun i => sameB15_succ _ _ i
      have HS0 : Hid (sameB15 (fun i => (T i).p) (fun i => (U i).p) 0 = true) := rfl
      clear hT hU HT
      generalize tx14 (tabB15 (fun i => (T i).p)) = sT at *
      generalize tx14 (tabB15 (fun i => (U i).p)) = sU at *
      generalize sameB15 (fun i => (T i).p) (fun i => (U i).p) = sm at *
      go_wp2
      go_loopg [11, 58] 8 (fun gg s11 s58 wr => ∃ i : Nat, i ≤ 8 ∧ 8 - i ≤ gg ∧ s58 = .int .u8 i ∧ s11 = .bool (sm i) ∧ Hid (Below wo.heap.size wo wr))
      case atStart => exact ⟨0, Nat.zero_le _, by omega, rfl, by rw [HS0.out], Below.refl _ _⟩
      case round =>
        obtain ⟨i, hi, hgi, rfl, rfl, H10⟩ := hrel
        generalize wr = wb at *
        by_cases hi8 : i < 8
        case neg =>
          have hi8z : ¬ (i : Int) < 8 := by omega
          obtain rfl : i = 8 := by omega
          have HSM2 := Lib.hid HSM.out
          clear HSUC HS0 HLT HLU HRT HRU HSM
          generalize sm 8 = s8 at *
          go_wp2_with fail
          with_reducible refine (HBT.out _ H10.out).mono ?_
          rintro e w7 ⟨rfl, hb⟩
          have HB7 := Lib.hid (next14 H10.out hb)
          clear hb
          go_wp2_with fail
          with_reducible refine (HBU.out _ HB7.out).mono ?_
          rintro e w8 ⟨rfl, hb⟩
          have HB8 := Lib.hid (next14 HW.out (next14 HB7.out hb))
          clear hb HBT HBU
          have HEQ : Hid (((sT.toList == sU.toList) == s8) = true) := by
            show ((sT.toList == sU.toList) == s8) = true
            rw [← HSM2.out]
            have : (sT.toList == sU.toList) = decide (sT = sU) := by
              rw [Bool.eq_iff_iff, beq_iff_eq, decide_eq_true_eq, ByteArray.toList_eq, ByteArray.toList_eq]
              exact ⟨fun h => ByteArray.ext (Array.toList_inj.1 h), fun h => by rw [h]⟩
            rw [this]
            simp
          clear HSM2
          go_wp2
          go_ret
          exact ⟨by rw [HEQ.out]; rfl, HB8.out⟩
        have hi8z : (i : Int) < 8 := by omega
        have HL1 := Lib.hid (HLT.out i hi8)
        have HL2' := Lib.hid (HLU.out i hi8)
        have HR1 := Lib.hid (HRT.out i hi8)
        have HR2' := Lib.hid (HRU.out i hi8)
        have hfw := HFW.out i hi8
        have HSC := Lib.hid (HSUC.out i)
        clear HSUC HS0 HLT HLU HRT HRU HSM HBT HBU HFW
        cases hs1 : sm i with
        | false =>
          rw [hs1] at HSC
          go_wp2
          go_roundg (8 - (i + 1))
          case measure => omega
          case rel => exact ⟨i + 1, by omega, by omega, by go_num, by rw [HSC.out]; rfl, H10.out⟩
        | true =>
          rw [hs1] at HSC
          clear hs1
          have HSA : Hid (∀ A1 A2 c1 c2 W, Txt15 W A1 c1 (T i).ss → Txt15 W A2 c2 (U i).ss → Calls Try.prog 12 #[.agg #[.int .i64 (T i).e, .slice A1 (T i).ss.length c1], .agg #[.int .i64 (U i).e, .slice A2 (U i).ss.length c2]] W (Says14 (.bool (sam14 (T i).e (T i).ss (U i).e (U i).ss)) W)) := fun A1 A2 c1 c2 W h1 h2 => Same14_calls (T i).e (U i).e A1 A2 c1 c2 (T i).ss (U i).ss W h1.rd h2.rd (by omega)
          clear hfw
          generalize sam14 (T i).e (T i).ss (U i).e (U i).ss = sx at *
          generalize (T i).n = x1 at *
          generalize (U i).n = x2 at *
          generalize (T i).e = e1 at *
          generalize (U i).e = e2 at *
          generalize (T i).ss = ss at *
          generalize (U i).ss = ts at *
          generalize ss.length = m1 at *
          generalize ts.length = m2 at *
          go_wp2_with fail
          with_reducible refine (HL1.out _ H10.out).mono ?_
          rintro e w7 ⟨rfl, hb⟩
          have HB7 := Lib.hid (next14 H10.out hb)
          clear hb HL1
          go_wp2_with fail
          with_reducible refine (HL2'.out _ HB7.out).mono ?_
          rintro e w8 ⟨rfl, hb⟩
          have HB8 := Lib.hid (next14 HB7.out hb)
          clear hb HL2'
          by_cases hx : x1 = x2
          · subst hx
            have d1 : ((x1 : Int) == x1) = true := by simp
            have d2 : (x1 == x1) = true := by simp
            go_wp2_with fail
            with_reducible refine (HR1.out _ HB8.out).mono ?_
            rintro e w9 ⟨A1, q1, rfl, ht1, hb⟩
            have HB9 := Lib.hid (next14 HB8.out hb)
            have HT1 := Lib.hid ht1
            clear hb ht1 HR1
            go_wp2_with fail
            with_reducible refine (HR2'.out _ HB9.out).mono ?_
            rintro e w10 ⟨A2', q2, rfl, ht2, hb⟩
            have HB10 := Lib.hid (next14 HB9.out hb)
            have HT2 := Lib.hid ht2
            have HT3 := Lib.hid (HT1.out.later hb)
            clear hb ht2 HR2' HT1
            go_wp2_with fail
            with_reducible refine (HSA.out A1 A2' q1 q2 _ HT3.out HT2.out).mono ?_
            rintro e w11 ⟨rfl, hb⟩
            have HB11 := Lib.hid (next14 HB10.out hb)
            clear hb HSA HT2 HT3
            go_wp2
            go_roundg (8 - (i + 1))
            case measure => omega
            case rel => exact ⟨i + 1, by omega, by omega, by go_num, by rw [HSC.out]; simp, HB11.out⟩
          · have d1 : ((x1 : Int) == x2) = false := by simp; omega
            have d2 : (x1 == x2) = false := by simp; omega
            have d3 : decide (x1 = x2) = false := by simp; omega
            go_wp2
            go_roundg (8 - (i + 1))
            case measure => omega
            case rel => exact ⟨i + 1, by omega, by omega, by go_num, by rw [HSC.out, d3]; rfl, HB8.out⟩
end Go.Proofs.Ytadecmjojnhlnaa
