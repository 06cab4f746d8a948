/-
  One part of an operation is read: readPart; a Reader beside an operation's block and an iterator.
  Conditions: at most 2^40 bytes.
-/
import Derived.Test.YtacmjmfdhegojaaDoorOpRefC
import Derived.Test.YtacmjmfdhegojaaDoorReadC
namespace Go.Proofs.YtacmjmfdhegojaaDoor
open Go.RowKit

theorem Rdr.shift14 {S : Nat → Prop} {w w' : World} {B : Nat} {st : St} (h : Rdr w B st) (ht : Turns S w w') (hB : ¬ S B) (hS : ∀ g, ByteBlk w g → ¬ S g) : Rdr w' B st := by
  obtain ⟨v, h1, h2⟩ := h
  refine ⟨v, (ht.block B (Array.getElem?_eq_some_iff.1 h1).1 hB).trans h1, ?_⟩
  rcases h2 with h | ⟨g, off, c, rfl, h1, h2, h3, h4, hbk, h5⟩
  · exact .inl h
  · have hn := hS g hbk
    exact .inr ⟨g, off, c, rfl, h1, h2, Nat.lt_of_lt_of_le h3 ht.size, h4, hbk.keep ht hn, fun j hj => (ht.cell (p := ⟨g, off + j, none⟩) h3 hn).trans (h5 j hj)⟩
theorem Rdr.set14 {w : World} {B Q : Nat} {st : St} {o : O14} (h : Rdr w B st) (ho : OpAt w Q o) (hne : B ≠ Q) (i : Nat) (u : Value) : Rdr (w.setCell ⟨Q, i, none⟩ u) B st := by
  refine h.shift14 (S := fun k => k = Q) ((Turns.refl (fun k => k = Q) w).setCell (p := ⟨Q, i, none⟩) (fun _ => rfl) u) hne ?_
  rintro g ⟨cur, fr, hg⟩ rfl
  have := ho.symm.trans hg
  simp at this
theorem turns_iter14 (w : World) (it : Nat) (s : ByteArray) (p : Nat) : Turns (fun i => i = it) w (w.iterAt it s p) :=
  ⟨rfl, rfl, rfl, by rw [Lib.iterAt_size]; exact Nat.le_refl _, fun k _ hn => Lib.iterAt_other w it k s p hn⟩
theorem Rdr.iter14 {w : World} {B it : Nat} {st : St} {s : ByteArray} {p : Nat} (h : Rdr w B st) (hi : w.heap[it]? = some (Obj.stringIter s p)) (q : Nat) : Rdr (w.iterAt it s q) B st := by
  refine h.shift14 (turns_iter14 w it s q) ?_ ?_
  · rintro rfl
    obtain ⟨v, h1, _⟩ := h
    rw [h1] at hi
    cases hi
  · rintro g ⟨cur, fr, hg⟩ rfl
    rw [hg] at hi
    cases hi
theorem Rdr.no_iter14 {w : World} {B k : Nat} {st : St} {s : ByteArray} {p : Nat} (h : Rdr w B st) (hi : w.heap[k]? = some (Obj.stringIter s p)) : k ≠ B := by
  rintro rfl
  obtain ⟨v, h1, _⟩ := h
  rw [h1] at hi
  cases hi
theorem OpAt.no_iter {w : World} {Q k : Nat} {o : O14} {s : ByteArray} {p : Nat} (h : OpAt w Q o) (hi : w.heap[k]? = some (Obj.stringIter s p)) : k ≠ Q := by
  rintro rfl
  unfold OpAt at h
  rw [h] at hi
  cases hi

/-- Where the part may not be, the Reader fails. -/
def stp14 (st : St) (c : UInt8) : St := if c = 97 ∨ c = 98 then (textS st 65535).1 else if snd14 (numS st 1).2 (numS st 1).2 c = true then (numS st 1).1 else failS (numS st 1).1 4
/-- The operation behind one part. -/
def opp14 (st : St) (o : O14) (c : UInt8) : O14 := if c = 97 then { o with a := tx14 (textS st 65535).2 } else if c = 98 then { o with b := tx14 (textS st 65535).2 } else if c = 110 then { o with nd := UInt8.ofNat (numS st 1).2 } else { o with rl := UInt8.ofNat (numS st 1).2 }
/-- What has become of both. -/
def Part14 (w : World) (B Q : Nat) (st : St) (o : O14) (e : Ending) (w' : World) : Prop := e = .returned (.tuple #[]) ∧ Rdr w' B st ∧ OpAt w' Q o ∧ Turns (fun i => i = B ∨ i = Q) w w'
theorem stp14_left (st : St) (c : UInt8) : (stp14 st c).bs.length ≤ st.bs.length := by
  have h1 := textS_left st 65535
  have h2 := numS_left st 1
  have h3 := failS_length (numS st 1).1 4
  unfold stp14
  split
  · exact h1
  · split
    · exact h2
    · exact Nat.le_trans h3 h2
theorem num_u814 (st : St) : (UInt8.ofNat (numS st 1).2).toNat = (numS st 1).2 := by
  have := numS_lt st 1
  simp only [UInt8.toNat_ofNat']
  omega

set_option maxRecDepth 100000 in
set_option maxHeartbeats 2000000 in
theorem readPart14_calls (B Q : Nat) (st : St) (o : O14) (c : UInt8) (w : World) (hr : Rdr w B st) (ho : OpAt w Q o) (hne : B ≠ Q) (hl : st.bs.length ≤ 1099511627776) (hc : c = 97 ∨ c = 98 ∨ c = 110 ∨ c = 114) :
    Calls Tryd.prog 31 #[.pointer (some ⟨B, 0, none⟩), .pointer (some ⟨Q, 0, none⟩), .int .i32 c.toNat] w (Part14 w B Q (stp14 st c) (opp14 st o c)) := by
  have HTX : Hid (Calls Tryd.prog 51 #[.pointer (some ⟨B, 0, none⟩), .int .i64 65535] w fun e w' => e = .returned (.string (tx14 (textS st 65535).2)) ∧ Did w B (textS st 65535).1 w') := rtext_calls B st 65535 w hr hl
  have HNM := Lib.hid (rbyte_calls B st w hr hl)
  have HNE := Lib.hid hne
  have HO := Lib.hid ho
  have HU := Lib.hid (num_u814 st)
  have HSO := Lib.hid (fun o c W => sound14_calls o c W)
  have HFL := Lib.hid (fun st W (h : Rdr W B st) => fail_calls B st 4 W h)
  unfold O14.v O14.cells at HSO
  rcases hc with rfl | rfl | rfl | rfl
  · have e : ((97 : UInt8).toNat : Int) = 97 := rfl
    have e1 : stp14 st 97 = (textS st 65535).1 := by unfold stp14; rw [if_pos (by decide)]
    have e2 : opp14 st o 97 = { o with a := tx14 (textS st 65535).2 } := by unfold opp14; rw [if_pos rfl]
    rw [e, e1, e2]
    have HS1 : Hid (∀ W, Calls Tryd.prog 47 #[.agg #[.int .u8 o.kd.toNat, .string (tx14 (textS st 65535).2), .string o.b, .int .u8 o.nd.toNat, .int .u8 o.rl.toNat], .int .i32 97] W (Says14 (.bool true) W)) := fun W => HSO.out { o with a := tx14 (textS st 65535).2 } 97 W
    clear e e1 e2 HSO HNM HU HFL hr ho hne hl
    generalize (textS st 65535).1 = s1 at *
    generalize tx14 (textS st 65535).2 = tl at *
    go_enter Tryd.func31, Tryd.ntmps31
    go_wp2_with fail
    with_reducible refine HTX.out.mono ?_
    rintro e w1 ⟨rfl, hd⟩
    have hq : OpAt w1 Q o := HO.out.turns hd.2 (fun h => HNE.out h.symm)
    have HQ := Lib.hid hq
    have HD := Lib.hid hd
    have z0 := hq.c0
    have z1 := hq.c1
    have z2 := hq.c2
    have z3 := hq.c3
    have z4 := hq.c4
    have zf := hq.fr
    have H2 : Hid (Rdr (w1.setCell ⟨Q, 1, none⟩ (.string tl)) B s1 ∧ OpAt (w1.setCell ⟨Q, 1, none⟩ (.string tl)) Q { o with a := tl } ∧ Turns (fun i => i = B ∨ i = Q) w (w1.setCell ⟨Q, 1, none⟩ (.string tl))) := ⟨hd.1.set14 hq HNE.out _ _, hq.set1 tl, (hd.2.mono (fun _ _ h => .inl h)).setCell (fun _ => .inr rfl) _⟩
    clear hq hd HTX
    go_wp2_with fail
    with_reducible refine (HS1.out _).mono ?_
    rintro e w3 ⟨rfl, hb⟩
    have H3 := Lib.hid (H2.out.1.still (turns14 hb))
    have H4 := Lib.hid (H2.out.2.1.below hb)
    have H5 := Lib.hid (H2.out.2.2.next (turns14 hb) (fun _ _ f => f.elim))
    clear hb
    go_wp2
    go_end0
    exact ⟨rfl, H3.out, H4.out, H5.out⟩
  · have e : ((98 : UInt8).toNat : Int) = 98 := rfl
    have e1 : stp14 st 98 = (textS st 65535).1 := by unfold stp14; rw [if_pos (by decide)]
    have e2 : opp14 st o 98 = { o with b := tx14 (textS st 65535).2 } := by unfold opp14; rw [if_neg (by decide), if_pos rfl]
    rw [e, e1, e2]
    have HS1 : Hid (∀ W, Calls Tryd.prog 47 #[.agg #[.int .u8 o.kd.toNat, .string o.a, .string (tx14 (textS st 65535).2), .int .u8 o.nd.toNat, .int .u8 o.rl.toNat], .int .i32 98] W (Says14 (.bool true) W)) := fun W => HSO.out { o with b := tx14 (textS st 65535).2 } 98 W
    clear e e1 e2 HSO HNM HU HFL hr ho hne hl
    generalize (textS st 65535).1 = s1 at *
    generalize tx14 (textS st 65535).2 = tl at *
    go_enter Tryd.func31, Tryd.ntmps31
    go_wp2_with fail
    with_reducible refine HTX.out.mono ?_
    rintro e w1 ⟨rfl, hd⟩
    have hq : OpAt w1 Q o := HO.out.turns hd.2 (fun h => HNE.out h.symm)
    have HQ := Lib.hid hq
    have HD := Lib.hid hd
    have z0 := hq.c0
    have z1 := hq.c1
    have z2 := hq.c2
    have z3 := hq.c3
    have z4 := hq.c4
    have zf := hq.fr
    have H2 : Hid (Rdr (w1.setCell ⟨Q, 2, none⟩ (.string tl)) B s1 ∧ OpAt (w1.setCell ⟨Q, 2, none⟩ (.string tl)) Q { o with b := tl } ∧ Turns (fun i => i = B ∨ i = Q) w (w1.setCell ⟨Q, 2, none⟩ (.string tl))) := ⟨hd.1.set14 hq HNE.out _ _, hq.set2 tl, (hd.2.mono (fun _ _ h => .inl h)).setCell (fun _ => .inr rfl) _⟩
    clear hq hd HTX
    go_wp2_with fail
    with_reducible refine (HS1.out _).mono ?_
    rintro e w3 ⟨rfl, hb⟩
    have H3 := Lib.hid (H2.out.1.still (turns14 hb))
    have H4 := Lib.hid (H2.out.2.1.below hb)
    have H5 := Lib.hid (H2.out.2.2.next (turns14 hb) (fun _ _ f => f.elim))
    clear hb
    go_wp2
    go_end0
    exact ⟨rfl, H3.out, H4.out, H5.out⟩
  · have e : ((110 : UInt8).toNat : Int) = 110 := rfl
    have e1 : stp14 st 110 = if snd14 (numS st 1).2 (numS st 1).2 110 = true then (numS st 1).1 else failS (numS st 1).1 4 := by unfold stp14; rw [if_neg (by decide)]
    have e2 : opp14 st o 110 = { o with nd := UInt8.ofNat (numS st 1).2 } := by unfold opp14; rw [if_neg (by decide), if_neg (by decide), if_pos rfl]
    rw [e, e1, e2]
    have hsn : snd14 (numS st 1).2 o.rl.toNat 110 = snd14 (numS st 1).2 (numS st 1).2 110 := by unfold snd14; simp
    have HS1 : Hid (∀ W, Calls Tryd.prog 47 #[.agg #[.int .u8 o.kd.toNat, .string o.a, .string o.b, .int .u8 (numS st 1).2, .int .u8 o.rl.toNat], .int .i32 110] W (Says14 (.bool (snd14 (numS st 1).2 (numS st 1).2 110)) W)) := fun W => by have := HSO.out { o with nd := UInt8.ofNat (numS st 1).2 } 110 W; simp only [HU.out] at this; rw [hsn] at this; exact this
    have HU1 : Hid (∀ W, Rdr W B (numS st 1).1 → Calls Tryd.prog 29 #[.pointer (some ⟨B, 0, none⟩), .int .i64 4] W (Void W B (failS (numS st 1).1 4))) := fun W h => HFL.out _ W h
    obtain ⟨y, hy⟩ : ∃ y, y = UInt8.ofNat (numS st 1).2 := ⟨_, rfl⟩
    rw [← hy] at HU ⊢
    have hyy := HU.out
    clear e e1 e2 HSO HTX HFL hr ho hne hl hsn hy HU
    generalize snd14 (numS st 1).2 (numS st 1).2 110 = b at *
    generalize (numS st 1).1 = s1 at *
    generalize (numS st 1).2 = x at *
    subst hyy
    cases b
    · rw [if_neg (by decide)]
      go_enter Tryd.func31, Tryd.ntmps31
      go_wp2_with fail
      with_reducible refine HNM.out.mono ?_
      rintro e w1 ⟨rfl, hd⟩
      have hq : OpAt w1 Q o := HO.out.turns hd.2 (fun h => HNE.out h.symm)
      have HQ := Lib.hid hq
      have HD := Lib.hid hd
      have z0 := hq.c0
      have z1 := hq.c1
      have z2 := hq.c2
      have z3 := hq.c3
      have z4 := hq.c4
      have zf := hq.fr
      have H2 : Hid (Rdr (w1.setCell ⟨Q, 3, none⟩ (.int .u8 y.toNat)) B s1 ∧ OpAt (w1.setCell ⟨Q, 3, none⟩ (.int .u8 y.toNat)) Q { o with nd := y } ∧ Turns (fun i => i = B ∨ i = Q) w (w1.setCell ⟨Q, 3, none⟩ (.int .u8 y.toNat))) := ⟨hd.1.set14 hq HNE.out _ _, hq.set3 y, (hd.2.mono (fun _ _ h => .inl h)).setCell (fun _ => .inr rfl) _⟩
      clear hq hd HNM
      go_wp2_with fail
      with_reducible refine (HS1.out _).mono ?_
      rintro e w3 ⟨rfl, hb⟩
      have H3 := Lib.hid (H2.out.1.still (turns14 hb))
      have H4 := Lib.hid (H2.out.2.1.below hb)
      have H5 := Lib.hid (H2.out.2.2.next (turns14 hb) (fun _ _ f => f.elim))
      clear hb
      go_wp2_with fail
      with_reducible refine (HU1.out _ H3.out).mono ?_
      rintro e w4 ⟨rfl, hd⟩
      have H6 := Lib.hid hd.1
      have H7 := Lib.hid (H4.out.turns hd.2 (fun h => HNE.out h.symm))
      have H8 := Lib.hid (H5.out.next hd.2 (fun _ _ h => .inl h))
      clear hd
      go_wp2
      go_end0
      exact ⟨rfl, H6.out, H7.out, H8.out⟩
    · rw [if_pos rfl]
      go_enter Tryd.func31, Tryd.ntmps31
      go_wp2_with fail
      with_reducible refine HNM.out.mono ?_
      rintro e w1 ⟨rfl, hd⟩
      have hq : OpAt w1 Q o := HO.out.turns hd.2 (fun h => HNE.out h.symm)
      have HQ := Lib.hid hq
      have HD := Lib.hid hd
      have z0 := hq.c0
      have z1 := hq.c1
      have z2 := hq.c2
      have z3 := hq.c3
      have z4 := hq.c4
      have zf := hq.fr
      have H2 : Hid (Rdr (w1.setCell ⟨Q, 3, none⟩ (.int .u8 y.toNat)) B s1 ∧ OpAt (w1.setCell ⟨Q, 3, none⟩ (.int .u8 y.toNat)) Q { o with nd := y } ∧ Turns (fun i => i = B ∨ i = Q) w (w1.setCell ⟨Q, 3, none⟩ (.int .u8 y.toNat))) := ⟨hd.1.set14 hq HNE.out _ _, hq.set3 y, (hd.2.mono (fun _ _ h => .inl h)).setCell (fun _ => .inr rfl) _⟩
      clear hq hd HNM
      go_wp2_with fail
      with_reducible refine (HS1.out _).mono ?_
      rintro e w3 ⟨rfl, hb⟩
      have H3 := Lib.hid (H2.out.1.still (turns14 hb))
      have H4 := Lib.hid (H2.out.2.1.below hb)
      have H5 := Lib.hid (H2.out.2.2.next (turns14 hb) (fun _ _ f => f.elim))
      clear hb
      go_wp2
      go_end0
      exact ⟨rfl, H3.out, H4.out, H5.out⟩
  · have e : ((114 : UInt8).toNat : Int) = 114 := rfl
    have e1 : stp14 st 114 = if snd14 (numS st 1).2 (numS st 1).2 114 = true then (numS st 1).1 else failS (numS st 1).1 4 := by unfold stp14; rw [if_neg (by decide)]
    have e2 : opp14 st o 114 = { o with rl := UInt8.ofNat (numS st 1).2 } := by unfold opp14; rw [if_neg (by decide), if_neg (by decide), if_neg (by decide)]
    rw [e, e1, e2]
    have hsn : snd14 o.nd.toNat (numS st 1).2 114 = snd14 (numS st 1).2 (numS st 1).2 114 := by unfold snd14; simp
    have HS1 : Hid (∀ W, Calls Tryd.prog 47 #[.agg #[.int .u8 o.kd.toNat, .string o.a, .string o.b, .int .u8 o.nd.toNat, .int .u8 (numS st 1).2], .int .i32 114] W (Says14 (.bool (snd14 (numS st 1).2 (numS st 1).2 114)) W)) := fun W => by have := HSO.out { o with rl := UInt8.ofNat (numS st 1).2 } 114 W; simp only [HU.out] at this; rw [hsn] at this; exact this
    have HU1 : Hid (∀ W, Rdr W B (numS st 1).1 → Calls Tryd.prog 29 #[.pointer (some ⟨B, 0, none⟩), .int .i64 4] W (Void W B (failS (numS st 1).1 4))) := fun W h => HFL.out _ W h
    obtain ⟨y, hy⟩ : ∃ y, y = UInt8.ofNat (numS st 1).2 := ⟨_, rfl⟩
    rw [← hy] at HU ⊢
    have hyy := HU.out
    clear e e1 e2 HSO HTX HFL hr ho hne hl hsn hy HU
    generalize snd14 (numS st 1).2 (numS st 1).2 114 = b at *
    generalize (numS st 1).1 = s1 at *
    generalize (numS st 1).2 = x at *
    subst hyy
    cases b
    · rw [if_neg (by decide)]
      go_enter Tryd.func31, Tryd.ntmps31
      go_wp2_with fail
      with_reducible refine HNM.out.mono ?_
      rintro e w1 ⟨rfl, hd⟩
      have hq : OpAt w1 Q o := HO.out.turns hd.2 (fun h => HNE.out h.symm)
      have HQ := Lib.hid hq
      have HD := Lib.hid hd
      have z0 := hq.c0
      have z1 := hq.c1
      have z2 := hq.c2
      have z3 := hq.c3
      have z4 := hq.c4
      have zf := hq.fr
      have H2 : Hid (Rdr (w1.setCell ⟨Q, 4, none⟩ (.int .u8 y.toNat)) B s1 ∧ OpAt (w1.setCell ⟨Q, 4, none⟩ (.int .u8 y.toNat)) Q { o with rl := y } ∧ Turns (fun i => i = B ∨ i = Q) w (w1.setCell ⟨Q, 4, none⟩ (.int .u8 y.toNat))) := ⟨hd.1.set14 hq HNE.out _ _, hq.set4 y, (hd.2.mono (fun _ _ h => .inl h)).setCell (fun _ => .inr rfl) _⟩
      clear hq hd HNM
      go_wp2_with fail
      with_reducible refine (HS1.out _).mono ?_
      rintro e w3 ⟨rfl, hb⟩
      have H3 := Lib.hid (H2.out.1.still (turns14 hb))
      have H4 := Lib.hid (H2.out.2.1.below hb)
      have H5 := Lib.hid (H2.out.2.2.next (turns14 hb) (fun _ _ f => f.elim))
      clear hb
      go_wp2_with fail
      with_reducible refine (HU1.out _ H3.out).mono ?_
      rintro e w4 ⟨rfl, hd⟩
      have H6 := Lib.hid hd.1
      have H7 := Lib.hid (H4.out.turns hd.2 (fun h => HNE.out h.symm))
      have H8 := Lib.hid (H5.out.next hd.2 (fun _ _ h => .inl h))
      clear hd
      go_wp2
      go_end0
      exact ⟨rfl, H6.out, H7.out, H8.out⟩
    · rw [if_pos rfl]
      go_enter Tryd.func31, Tryd.ntmps31
      go_wp2_with fail
      with_reducible refine HNM.out.mono ?_
      rintro e w1 ⟨rfl, hd⟩
      have hq : OpAt w1 Q o := HO.out.turns hd.2 (fun h => HNE.out h.symm)
      have HQ := Lib.hid hq
      have HD := Lib.hid hd
      have z0 := hq.c0
      have z1 := hq.c1
      have z2 := hq.c2
      have z3 := hq.c3
      have z4 := hq.c4
      have zf := hq.fr
      have H2 : Hid (Rdr (w1.setCell ⟨Q, 4, none⟩ (.int .u8 y.toNat)) B s1 ∧ OpAt (w1.setCell ⟨Q, 4, none⟩ (.int .u8 y.toNat)) Q { o with rl := y } ∧ Turns (fun i => i = B ∨ i = Q) w (w1.setCell ⟨Q, 4, none⟩ (.int .u8 y.toNat))) := ⟨hd.1.set14 hq HNE.out _ _, hq.set4 y, (hd.2.mono (fun _ _ h => .inl h)).setCell (fun _ => .inr rfl) _⟩
      clear hq hd HNM
      go_wp2_with fail
      with_reducible refine (HS1.out _).mono ?_
      rintro e w3 ⟨rfl, hb⟩
      have H3 := Lib.hid (H2.out.1.still (turns14 hb))
      have H4 := Lib.hid (H2.out.2.1.below hb)
      have H5 := Lib.hid (H2.out.2.2.next (turns14 hb) (fun _ _ f => f.elim))
      clear hb
      go_wp2
      go_end0
      exact ⟨rfl, H3.out, H4.out, H5.out⟩
end Go.Proofs.YtacmjmfdhegojaaDoor
