/-
  What the Reader's Row does, with where its texts lie: new memory of its own.
  Conditions: at most 2^40 bytes.
-/
import Derived.Test.YtadecmjojnhlnaaReadC
namespace Go.Proofs.Ytadecmjojnhlnaa
open Go.RowKit

/-- New texts are told, in a row of their own. -/
def Rows6 (w : World) (B : Nat) (st : St) (ss : List ByteArray) (e : Ending) (w' : World) : Prop := ∃ A c, e = .returned (.slice A ss.length c) ∧ w'.ownsRow 0 9 1 (.slice A ss.length c) ss.length (ss.map Value.string) ∧ (∀ j, Value.ownBlock (.slice A ss.length c) = some j → w.heap.size ≤ j) ∧ Did w B st w'

set_option maxRecDepth 100000 in
set_option maxHeartbeats 2000000 in
theorem rrow6_calls (B : Nat) (st : St) (most long : Int) (w : World) (h : Rdr w B st) (hl : st.bs.length ≤ 1099511627776) :
    Calls Try.prog 53 #[.pointer (some ⟨B, 0, none⟩), .int .i64 most, .int .i64 long] w (Rows6 w B (rowS st most long).1 (rowS st most long).2) := by
  obtain ⟨i0, hi, hz0, hz1, hz2⟩ := info_parts infoText
  have HN := Lib.hid (rlength_calls B st most w h hl)
  have hll := lengthS_left st most
  have hlt := lengthS_lt st most
  have HR : Hid (rowGo long (lengthS st most).2 (lengthS st most).1 [] = rowS st most long) := rfl
  generalize rowS st most long = res at *
  generalize (lengthS st most).2 = n at *
  generalize (lengthS st most).1 = s0 at *
  have hl0 : s0.bs.length ≤ 1099511627776 := by omega
  clear h hl hll
  go_enter Try.func53, Try.ntmps53
  go_wp2_with fail
  with_reducible refine HN.out.mono ?_
  rintro e w1 ⟨rfl, hd⟩
  have HD := Lib.hid hd
  clear hd HN
  go_wp2
  go_loopw [7, 12] (fun l i wr => ∃ (k : Nat) (s1 : St) (ss : List ByteArray) (A : Option Addr) (c : Nat), k ≤ n ∧ i = .int .i64 k ∧ l = .slice A ss.length c ∧ ss.length = k ∧ wr.ownsRow 0 9 1 (.slice A ss.length c) ss.length (textCells ss) ∧ (∀ j, Value.ownBlock (.slice A ss.length c) = some j → w.heap.size ≤ j) ∧ Did w B s1 wr ∧ s1.bs.length ≤ 1099511627776 ∧ rowGo long (n - k) s1 ss = res) (fun _ i _ => n - (intOf i).toNat)
  case atStart => exact ⟨0, s0, [], none, 0, Nat.zero_le _, rfl, rfl, rfl, World.ownsRow_nil _ _ _ _, by simp [Value.ownBlock], HD.out, hl0, HR.out⟩
  case round =>
    obtain ⟨k, s1, ss, A, c, hk, rfl, rfl, hsl, hown, hnew, hdid, hsb, hgo⟩ := hrel
    clear HD HR hl0
    by_cases hltk : k < n
    · rw [show n - k = (n - (k + 1)) + 1 by omega] at hgo
      have hne := own_ne_reader hdid.rdr hown
      have HTX := Lib.hid (rtext_calls B s1 long wr hdid.rdr hsb)
      have htl := textS_left s1 long
      have hge : w.heap.size ≤ wr.heap.size := hdid.2.size
      unfold rowGo at hgo
      generalize hs2 : (textS s1 long).1 = s2 at *
      generalize (textS s1 long).2 = tx at *
      have hsz : s2.bs.length ≤ 1099511627776 := by omega
      have HOW := Lib.hid hown
      have HNEW := Lib.hid hnew
      have HDID := Lib.hid hdid
      have HNE := Lib.hid hne
      have HGO := Lib.hid hgo
      have HSL := Lib.hid hsl
      clear hown hnew hdid hne hgo hs2 htl hsb hsl
      go_wp2_with fail
      with_reducible refine HTX.out.mono ?_
      rintro e w2 ⟨rfl, hd2⟩
      obtain ⟨v2, hb2, hrd2⟩ := hd2.rdr
      have c1 : w2.cell? ⟨B, 1, none⟩ = some (.int .i64 s2.e) := by rw [cell_of_row w2 B 1 _ _ (0, 0) hb2]; rfl
      have HD2 := Lib.hid (HDID.out.next hd2)
      have HO2 := Lib.hid (hd2.2.owns HOW.out (fun j hj he => HNE.out (by rw [hj, he])))
      have hge2 : w.heap.size ≤ w2.heap.size := Nat.le_trans hge hd2.2.size
      clear hb2 hrd2 hd2 HTX HOW HDID
      by_cases he : s2.e = 0
      · have hgo := HGO.out
        rw [if_neg (by simpa using he)] at hgo
        have HG2 := Lib.hid hgo
        have d1 : (s2.e != 0) = false := by simpa using he
        have hsrc : Src Try.prog 1 28 (.slice (some ⟨w2.heap.size, 0, none⟩) 1 1) 1 (textCells [⟨tx.toArray⟩]) (w2.alloc (.cells #[.string ⟨tx.toArray⟩] 9)) :=
          Src.ofSlice _ Try.underlying28 _ 1 1 _ rfl (cell_one_new _ _ _) (by intro u hu; simp [textCells] at hu; subst hu; rfl)
        have HSRC := Lib.hid hsrc
        clear hgo hsrc he HGO
        have hsn : ss.length ≤ 65536 := by have := HSL.out; omega
        go_wp2_with (at_builtin; refine wpList_append_src _ rfl (.tmp 22) (.tmp 24) 28 28 (by rfl) 9 i0 _ 1 16 Try.underlying28 hi hz0 hz1 hz2 rfl (.slice A ss.length c) ss.length (textCells ss) (by rfl) (HO2.out.alloc _) (.slice (some ⟨w2.heap.size, 0, none⟩) 1 1) 1 (textCells [⟨tx.toArray⟩]) (by rfl) HSRC.out (by simp only [maxLen]; omega) (by omega) ?_; intro A3 c3 w3 ho3 hg3 ha3)
        have R3 : w3.ownsRow 0 9 1 (.slice A3 (ss ++ [ByteArray.mk tx.toArray]).length c3) (ss ++ [ByteArray.mk tx.toArray]).length (textCells (ss ++ [ByteArray.mk tx.toArray])) := by
          have e1 : (ss ++ [ByteArray.mk tx.toArray]).length = ss.length + 1 := by simp
          rw [e1]
          simpa [textCells] using ho3
        have N3 : ∀ j, Value.ownBlock (.slice A3 (ss ++ [ByteArray.mk tx.toArray]).length c3) = some j → w.heap.size ≤ j := by
          intro j hj
          have hj' : Value.ownBlock (.slice A3 (ss.length + 1) c3) = some j := by simpa [Value.ownBlock] using hj
          rcases ha3 with h3 | h3
          · exact HNEW.out j (h3 ▸ hj')
          · rw [h3] at hj'
            injection hj' with hj'
            simp at hj'
            omega
        have D3 : Did w B s2 w3 := by
          have hB : B < w2.heap.size := HD2.out.rdr.lt
          have ht : Turns (fun i => Value.ownBlock (.slice A ss.length c) = some i) w2 w3 := (((Turns.refl _ w2).alloc _).grown hg3 (fun k hk _ => hk))
          refine ⟨?_, HD2.out.2.next ht (fun i hi he => by have := HNEW.out i he; omega)⟩
          obtain ⟨u, hu, hru⟩ := HD2.out.rdr
          refine ⟨u, (ht.block B hB HNE.out).trans hu, ?_⟩
          rcases hru with h0 | ⟨g, off, cc, rfl, h1, h2, h3, h4, hbk, h5⟩
          · exact .inl h0
          · have hgn : Value.ownBlock (.slice A ss.length c) ≠ some g := by
              obtain ⟨cur, fr, hcur⟩ := hbk
              intro he
              rcases HO2.out.2 with ⟨hv, _⟩ | ⟨g', cap', cur', hv, _, hg', _⟩
              · rw [hv] at he; simp [Value.ownBlock] at he
              · rw [hv] at he
                have : g' = g := by simpa [Value.ownBlock] using he
                subst this
                have := hcur.symm.trans hg'
                simp at this
            exact .inr ⟨g, off, cc, rfl, h1, h2, Nat.lt_of_lt_of_le h3 ht.size, h4, hbk.keep ht hgn, fun j hj => (ht.cell (p := ⟨g, off + j, none⟩) h3 hgn).trans (h5 j hj)⟩
        have HR3 := Lib.hid R3
        have HN3 := Lib.hid N3
        have HD3 := Lib.hid D3
        clear ho3 hg3 ha3 R3 N3 D3
        go_wp2
        go_roundw
        case rel => exact ⟨k + 1, s2, ss ++ [⟨tx.toArray⟩], A3, c3, by omega, by go_num, by simp, by simp [HSL.out], HR3.out, HN3.out, HD3.out, hsz, HG2.out⟩
        case measure => simp [intOf]; omega
      · have hgo := HGO.out
        rw [if_pos (by simpa using he)] at hgo
        have HG2 := Lib.hid hgo
        have d1 : (s2.e != 0) = true := by simpa using he
        clear hgo he HGO
        go_wp2
        go_ret
        refine ⟨none, 0, ?_, ?_, ?_, ?_⟩
        · rw [← HG2.out]; rfl
        · rw [← HG2.out]; exact World.ownsRow_nil _ _ _ _
        · intro j hj; simp [Value.ownBlock] at hj
        · rw [← HG2.out]; exact HD2.out
    · obtain rfl : k = n := by omega
      rw [Nat.sub_self] at hgo
      have HGO : Hid ((s1, ss) = res) := hgo
      have HOW := Lib.hid hown
      have HDID := Lib.hid hdid
      have HNR := Lib.hid hnew
      clear hgo hown hdid hnew
      go_wp2
      go_ret
      rw [← HGO.out]
      exact ⟨A, c, rfl, HOW.out, HNR.out, HDID.out⟩
end Go.Proofs.Ytadecmjojnhlnaa
