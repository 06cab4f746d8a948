/-
  UserPuts walked: a user that may be is written as the document says, and read; another one isn't written, and it is told why.
  Conditions: texts and rows are no longer than they may be; the library's own variable MaxLen holds some number.
-/
import Derived.Test.YtghmcbgejeanfaaDoorBackU
import Derived.Test.YtghmcbgejeanfaaDoorRefChk
import Derived.Test.YtghmcbgejeanfaaDoorUserH
namespace Go.Proofs.YtghmcbgejeanfaaDoor
open Go.RowKit

/-- What each operation makes. -/
def YPs (B R : Nat) (l : List UInt8) (t : ByteArray) (s : Int) (u u' : Us) : Nat → Value → World → Prop
  | 0, v, _ => v = .pointer (some ⟨B, 0, none⟩)
  | 1, v, W => Rd W v l
  | 2, v, _ => v = .string t
  | 3, v, _ => v = .int .i64 s
  | 4, v, _ => v = u.v
  | 5, v, _ => v = .string t
  | 6, v, _ => v = .bool true
  | 7, v, _ => v = .bool true
  | 8, v, _ => v = .pointer (some ⟨R, 0, none⟩)
  | 9, v, _ => v = .int .i64 0
  | 10, v, _ => v = .bool true
  | 11, v, _ => v = .bool true
  | 12, v, _ => v = .bool true
  | 13, v, _ => v = u.v
  | 14, v, _ => v = u'.v
  | 15, v, _ => v = .bool true
  | 16, v, _ => v = .bool true
  | _, v, _ => v = .bool true
theorem YPs_keep {B R : Nat} {l : List UInt8} {t : ByteArray} {s : Int} {u u' : Us} {W W' : World} (hb : Below W.heap.size W W') (j : Nat) (z : Value) (h : YPs B R l t s u u' j z W) : YPs B R l t s u u' j z W' := by
  match j, h with
  | 0, h => exact h
  | 1, h => exact h.still (Turns.of_below hb (fun _ => False))
  | 2, h => exact h
  | 3, h => exact h
  | 4, h => exact h
  | 5, h => exact h
  | 6, h => exact h
  | 7, h => exact h
  | 8, h => exact h
  | 9, h => exact h
  | 10, h => exact h
  | 11, h => exact h
  | 12, h => exact h
  | 13, h => exact h
  | 14, h => exact h
  | 15, h => exact h
  | 16, h => exact h
  | _ + 17, h => exact h

set_option maxRecDepth 100000 in
set_option maxHeartbeats 4000000 in
theorem puts_walk (s : Int) (u : Us) (w : World) (h : u.Ok w) (hm : Len5 w) :
    Calls Tryd.prog 3 #[.int .i64 s, u.v] w (Tells5 true w) := by
  have hnot : ∀ (x : Bool) (w : World), (Op.unary .not (.bool x)).run Tryd.prog w = .ok (.bool (!x)) w := fun _ _ => rfl
  have HB0 := Lib.hid (below_alloc (Below.refl w.heap.size w) (.cells u.cells 24))
  have HA0 : Hid (UsAt (w.alloc (.cells u.cells 24)) w.heap.size u) := UsAt.new w u _
  have HV : Hid (∀ W, Below w.heap.size w W → Calls Tryd.prog 7 #[] W (Tells5 true W)) := fun W hb => lives6_calls W (hm.later hb)
  have HF : Hid (∀ W, Below w.heap.size w W → Calls Tryd.prog 8 #[u.v] W (Tells5 (fewU u) W)) := fun W hb => few6U_calls u W (h.below hb)
  have HCK : Hid (∀ W, Below w.heap.size w W → Calls Tryd.prog 9 #[.int .i64 s, u.v] W (Errs5 (chk6 s u) W)) := fun W hb => check6_calls s u W (h.below hb) (hm.later hb)
  have HRC : Hid (fewU u = true → ∀ W, Below w.heap.size w W → Calls Tryd.prog 10 #[.int .i64 s, u.v] W (Errs5 (chk6 s u) W)) := fun hf W hb => by
    obtain ⟨f1, f2, f3, _, f5⟩ := fewU_facts hf
    exact rcheck6_calls s u W (h.below hb) (by omega) (by omega) (by omega) (fun g hg => by have := f5 g hg; omega)
  have HPT : Hid (∀ W0 B W, Below w.heap.size w W0 → NW6 W0 B [] W → Calls Tryd.prog 11 #[.pointer (some ⟨B, 0, none⟩), .int .i64 s, u.v] W (Put6 W0 B [] s u)) := fun W0 B W hb hn => put6_calls W0 B [] s u W hn (h.below hb) (hm.later hb) (by decide)
  have HGT : Hid (chk6 s u = 0 → ∀ W B, Below w.heap.size w W → w.heap.size ≤ B → Rdr W B ⟨userB s u, 0⟩ → Calls Tryd.prog 14 #[.pointer (some ⟨B, 0, none⟩), .int .i64 s] W (Back6 W B u)) := fun hc W B hb hB hr => get6_back s u B W hr hc (hm.later hb) (by have := hm.1; omega)
  have HTX0 : Hid (chk6 s u = 0 → ∀ W, Below w.heap.size w W → Calls Tryd.prog 15 #[.int .i64 s, u.v] W fun e w' => e = .returned (.string (mk6 (userB s u))) ∧ Below W.heap.size W w') := fun hc W hb => rtext6_calls s u W (h.below hb) (chk6_little hc).1
  have HLN : Hid (chk6 s u = 0 → (userB s u).length ≤ 1000) := fun hc => userB_length (chk6_little hc).1
  have HRS0 : Hid (∀ (W : World) (v : Value) (l : List UInt8), Rd W v l → (convert 28 9 v).run Tryd.prog W = .ok (.string (mk6 l)) W) :=
    fun W v l h => h.string Tryd.underlying28 Tryd.underlying5 Tryd.underlying9
  have HSM0 : Hid (∀ (A2 : Option Addr) (c2 : Nat) W, Below w.heap.size w W → W.ownsRow 0 9 1 (.slice A2 u.gs.length c2) u.gs.length (u.gs.map Value.string) → Calls Tryd.prog 17 #[u.v, Us.v { u with ga := A2, gc := c2 }] W (Tells5 true W)) := fun A2 c2 W hW ho => by
    have hf := owns_facts6 (gs := u.gs) ho rfl
    have := rsame6_calls u { u with ga := A2, gc := c2 } W (h.below hW) ⟨hf.1, h.nm, h.hs, h.ml, hf.2.1, hf.2.2.1, hf.2.2.2, h.all⟩
    have e : sameU u { u with ga := A2, gc := c2 } = true := by simp [sameU]
    rw [e] at this
    exact this
  clear h hm
  unfold Back6 at HGT
  unfold Put6 at HPT
  unfold Us.v at *
  unfold Us.cells at *
  obtain ⟨ck, hck⟩ : ∃ ck, ck = chk6 s u := ⟨_, rfl⟩
  obtain ⟨l, hl⟩ : ∃ l, l = userB s u := ⟨_, rfl⟩
  rw [← hck] at HCK HRC HPT HGT HTX0 HLN
  rw [← hl] at HPT HGT HTX0 HLN
  clear hck hl
  obtain ⟨nm, hs, ml, dis, A, gs, c⟩ := u
  dsimp only at *
  generalize fewU ⟨nm, hs, ml, dis, A, gs, c⟩ = q at *
  go_enter Tryd.func3, Tryd.ntmps3
  go_wp2_with fail
  generalize w.alloc (.cells #[.string nm, .string hs, .string ml, .bool dis, .slice A gs.length c] 24) = w1 at *
  with_reducible refine (HV.out w1 HB0.out).mono ?_
  rintro e w2 ⟨rfl, hb⟩
  have HA2 := Lib.hid (HA0.out.below hb)
  have HB2 := Lib.hid (below_next HB0.out hb)
  clear hb HA0 HB0
  have c0 : _ = some (.string nm : Value) := HA2.out.c0
  have c1 : _ = some (.string hs : Value) := HA2.out.c1
  have c2 : _ = some (.string ml : Value) := HA2.out.c2
  have c3 : _ = some (.bool dis : Value) := HA2.out.c3
  have c4 : _ = some (.slice A gs.length c : Value) := HA2.out.c4
  go_wp2_with fail
  with_reducible refine (HF.out w2 HB2.out).mono ?_
  rintro e w3 ⟨rfl, hb⟩
  have HA3 := Lib.hid (HA2.out.below hb)
  have HB3 := Lib.hid (below_next HB2.out hb)
  clear hb HA2 HB2 HF c0 c1 c2 c3 c4
  cases q with
  | false =>
    go_wp2_with fail
    with_reducible refine (HV.out w3 HB3.out).mono ?_
    rintro e w4 ⟨rfl, hb⟩
    have HB4 := Lib.hid (below_next HB3.out hb)
    clear hb
    go_wp2
    go_ret
    exact ⟨rfl, HB4.out⟩
  | true =>
    have HRC1 := Lib.hid (HRC.out rfl)
    have hb4 := below_alloc (Below.refl w3.heap.size w3) (.cells #[.slice none 0 0] 30)
    have HN4 := Lib.hid (NW6.zero w3)
    have HA4 := Lib.hid (HA3.out.below hb4)
    have HB4 := Lib.hid (below_next HB3.out hb4)
    clear HRC HV hb4
    have c0 : _ = some (.string nm : Value) := HA4.out.c0
    have c1 : _ = some (.string hs : Value) := HA4.out.c1
    have c2 : _ = some (.string ml : Value) := HA4.out.c2
    have c3 : _ = some (.bool dis : Value) := HA4.out.c3
    have c4 : _ = some (.slice A gs.length c : Value) := HA4.out.c4
    go_wp2_with fail
    generalize w3.alloc (.cells #[.slice none 0 0] 30) = w4 at *
    with_reducible refine (HCK.out w4 HB4.out).mono ?_
    rintro e w5 ⟨rfl, hb⟩
    have HA5 := Lib.hid (HA4.out.below hb)
    have HB5 := Lib.hid (below_next HB4.out hb)
    have HN5 := Lib.hid (HN4.out.below hb)
    clear hb HA4 HB4 HN4 HCK c0 c1 c2 c3 c4
    have c0 : _ = some (.string nm : Value) := HA5.out.c0
    have c1 : _ = some (.string hs : Value) := HA5.out.c1
    have c2 : _ = some (.string ml : Value) := HA5.out.c2
    have c3 : _ = some (.bool dis : Value) := HA5.out.c3
    have c4 : _ = some (.slice A gs.length c : Value) := HA5.out.c4
    go_wp2_with fail
    with_reducible refine (HRC1.out w5 HB5.out).mono ?_
    rintro e w6 ⟨rfl, hb⟩
    have HA6 := Lib.hid (HA5.out.below hb)
    have HB6 := Lib.hid (below_next HB5.out hb)
    have HN6 := Lib.hid (HN5.out.below hb)
    clear hb HA5 HB5 HN5 HRC1 c0 c1 c2 c3 c4
    have c0 : _ = some (.string nm : Value) := HA6.out.c0
    have c1 : _ = some (.string hs : Value) := HA6.out.c1
    have c2 : _ = some (.string ml : Value) := HA6.out.c2
    have c3 : _ = some (.bool dis : Value) := HA6.out.c3
    have c4 : _ = some (.slice A gs.length c : Value) := HA6.out.c4
    have hckn : (ck != ck) = false := by simp
    have hPT := HPT.out w3 w3.heap.size w6 HB3.out HN6.out
    have HP6 := Lib.hid hPT
    clear hPT HPT
    have hB3 : w.heap.size ≤ w3.heap.size := HB3.out.size
    go_wp2_with fail
    generalize w3.heap.size = B at *
    with_reducible refine HP6.out.mono ?_
    rintro e w7 (⟨h0, rfl, hn⟩ | ⟨h0, rfl, hn⟩)
    · subst h0
      rw [List.nil_append] at hn
      have hl := HLN.out rfl
      have HGT1 := Lib.hid (HGT.out rfl)
      have HTX := Lib.hid (HTX0.out rfl)
      have HRS := Lib.hid (fun W v h => HRS0.out W v l h)
      have hA7 := HA3.out.below hn.2.2
      have hB7 := below_next HB3.out hn.2.2
      have HBY7 := Lib.hid (hn.bytes (by omega))
      have HA7 := Lib.hid hA7
      have HB7 := Lib.hid hB7
      have HN7 := Lib.hid hn
      clear hA7 hB7 hn HLN HGT HTX0 HRS0 HA3 HB3 HA6 HB6 HN6 HP6 hckn c0 c1 c2 c3 c4
      have e00 : ((0 : Int) != 0) = false := by decide
      go_wp2_with fail
      with_reducible refine HBY7.out.mono ?_
      rintro e w8 ⟨v8, rfl, ho8, _, hb8⟩
      have HA8 := Lib.hid (HA7.out.below hb8)
      have HB8 := Lib.hid (below_next HB7.out hb8)
      have HN8 := Lib.hid (HN7.out.below hb8)
      have HOF := Lib.hid (of_calls v8 l w8 (Rd.of_own ho8) (by omega))
      clear ho8 hb8 HA7 HB7 HN7 HBY7
      go_wp2_with fail
      with_reducible refine HOF.out.mono ?_
      rintro e w9 ⟨R, hR, rfl, hr, ht⟩
      have hsz8 : w.heap.size ≤ w8.heap.size := HB8.out.size
      have HT9 := Lib.hid ht
      have HG9 := Lib.hid (HGT1.out w9 R (below_next HB8.out (ht.below (fun _ f => f.elim))) (by omega) hr)
      clear hr ht HOF HGT1
      go_wp2_with fail
      with_reducible refine HG9.out.mono ?_
      rintro e w10 ⟨A2, c2', rfl, ho, hnw, hd⟩
      have hb10 : Below w8.heap.size w8 w10 := ((HT9.out.mono (S' := fun i => i = R) (fun _ _ f => f.elim)).next hd.2 (fun _ _ h => h)).below (fun i hi => by omega)
      have hb11 := below_alloc (Below.refl w10.heap.size w10) (.cells #[.string nm, .string hs, .string ml, .bool dis, .slice A2 gs.length c2'] 24)
      have HV9 : Hid (UsAt (w10.alloc (.cells #[.string nm, .string hs, .string ml, .bool dis, .slice A2 gs.length c2'] 24)) w10.heap.size ⟨nm, hs, ml, dis, A2, gs, c2'⟩) := UsAt.new w10 ⟨nm, hs, ml, dis, A2, gs, c2'⟩ _
      have HA9 := Lib.hid ((HA8.out.below hb10).below hb11)
      have HB9 := Lib.hid (below_next (below_next HB8.out hb10) hb11)
      have HN9 := Lib.hid ((HN8.out.below hb10).below hb11)
      have HR9 := Lib.hid (hd.1.still ((Turns.refl (fun _ => False) w10).alloc (.cells #[.string nm, .string hs, .string ml, .bool dis, .slice A2 gs.length c2'] 24)))
      have HO9 := Lib.hid (((Turns.refl (fun _ => False) w10).alloc (.cells #[.string nm, .string hs, .string ml, .bool dis, .slice A2 gs.length c2'] 24)).owns ho (fun _ _ f => f))
      clear ho hnw hd hb10 hb11 HA8 HB8 HN8 HT9 HG9
      go_wp2_with fail
      generalize w10.alloc (.cells #[.string nm, .string hs, .string ml, .bool dis, .slice A2 gs.length c2'] 24) = w11 at *
      generalize w10.heap.size = Bv at *
      have HBY : Hid (∀ W, Below w11.heap.size w11 W → Calls Tryd.prog 12 #[.pointer (some ⟨B, 0, none⟩)] W (Told6 W l)) := fun W hW => (HN9.out.below hW).bytes (by omega)
      have HEN : Hid (∀ W, Below w11.heap.size w11 W → Calls Tryd.prog 16 #[.pointer (some ⟨R, 0, none⟩)] W fun e w' => e = .returned (.int .i64 0) ∧ W = w') := fun W hW => rend_calls R ⟨[], 0⟩ W (HR9.out.still (Turns.of_below hW _))
      have HSM : Hid (∀ W, Below w11.heap.size w11 W → Calls Tryd.prog 17 #[.agg #[.string nm, .string hs, .string ml, .bool dis, .slice A gs.length c], .agg #[.string nm, .string hs, .string ml, .bool dis, .slice A2 gs.length c2']] W (Tells5 true W)) := fun W hW => HSM0.out A2 c2' W (below_next HB9.out hW) ((Turns.of_below hW (fun _ => False)).owns HO9.out (fun _ _ f => f))
      clear HSM0 HN9 HR9 HO9
      unfold mk6 at HTX HRS
      generalize (⟨l.toArray⟩ : ByteArray) = tx at *
      refine wp_region_inv (by kernel_rfl) (fun W => Below w11.heap.size w11 W) (YPs B R l tx s ⟨nm, hs, ml, dis, A, gs, c⟩ ⟨nm, hs, ml, dis, A2, gs, c2'⟩) ?F ?hF (by kernel_rfl) (by kernel_rfl) (below_drew (Below.refl _ _)) ?step ?fin
      case hF =>
        intro x
        simp only [List.map_cons, List.map_nil, putL, Act.put, List.setIfInBounds_toArray, List.set_cons_zero, List.set_cons_succ, Nat.zero_add, Nat.reduceAdd]
        exact rfl
      case step =>
        refine ⟨?_, ?_, ?_, ?_, ?_, ?_, ?_, ?_, ?_, ?_, ?_, ?_, ?_, ?_, ?_, ?_, ?_, ?_, trivial⟩
        all_goals intro x W hW hdep K hK
        · clear hdep
          go_simp
          exact hK _ _ rfl hW (fun _ _ h => h)
        · have h0 : x 0 = _ := hdep 0 rfl
          clear hdep
          simp only [h0] at hK
          go_simp
          refine (HBY.out W hW).mono ?_
          rintro e W' ⟨v', rfl, ho, _, hb⟩
          exact hK _ _ (Rd.of_own ho) (below_next hW hb) (fun j z h => YPs_keep hb j z h)
        · have h1 : Rd W (x 1) l := hdep 1 rfl
          have hc := HRS.out W _ h1
          clear hdep
          go_simp
          exact hK _ _ rfl hW (fun _ _ h => h)
        · clear hdep
          go_simp
          exact hK _ _ rfl hW (fun _ _ h => h)
        · have hu := HA9.out.below hW
          have c0 : _ = some (.string nm : Value) := hu.c0
          have c1 : _ = some (.string hs : Value) := hu.c1
          have c2 : _ = some (.string ml : Value) := hu.c2
          have c3 : _ = some (.bool dis : Value) := hu.c3
          have c4 : _ = some (.slice A gs.length c : Value) := hu.c4
          clear hu
          clear hdep
          go_simp
          exact hK _ _ rfl hW (fun _ _ h => h)
        · have h3 : x 3 = _ := hdep 3 rfl
          have h4 : x 4 = _ := hdep 4 rfl
          clear hdep
          simp only [h3, h4] at hK
          go_simp
          refine (HTX.out W (below_next HB9.out hW)).mono ?_
          rintro e W' ⟨rfl, hb⟩
          exact hK _ _ rfl (below_next hW hb) (fun j z h => YPs_keep hb j z h)
        · have h2 : x 2 = _ := hdep 2 rfl
          have h5 : x 5 = _ := hdep 5 rfl
          clear hdep
          simp only [h2, h5] at hK
          go_simp
          exact hK _ _ rfl hW (fun _ _ h => h)
        · have h6 : x 6 = _ := hdep 6 rfl
          clear hdep
          simp only [h6] at hK
          go_simp
          exact hK _ _ rfl hW (fun _ _ h => h)
        · have h7 : x 7 = _ := hdep 7 rfl
          clear hdep
          simp only [h7] at hK
          go_simp
          exact hK _ _ rfl hW (fun _ _ h => h)
        · have h7 : x 7 = _ := hdep 7 rfl
          have h8 : x 8 = _ := hdep 8 rfl
          clear hdep
          simp only [h7, h8] at hK
          go_simp
          refine (HEN.out W hW).mono ?_
          rintro e W' ⟨rfl, rfl⟩
          exact hK _ _ rfl hW (fun _ _ h => h)
        · have h7 : x 7 = _ := hdep 7 rfl
          have h9 : x 9 = _ := hdep 9 rfl
          clear hdep
          simp only [h7, h9] at hK
          go_simp
          exact hK _ _ rfl hW (fun _ _ h => h)
        · have h7 : x 7 = _ := hdep 7 rfl
          have h10 : x 10 = _ := hdep 10 rfl
          clear hdep
          simp only [h7, h10] at hK
          go_simp
          exact hK _ _ rfl hW (fun _ _ h => h)
        · have h11 : x 11 = _ := hdep 11 rfl
          clear hdep
          simp only [h11] at hK
          go_simp
          exact hK _ _ rfl hW (fun _ _ h => h)
        · have h12 : x 12 = _ := hdep 12 rfl
          have hu := HA9.out.below hW
          have c0 : _ = some (.string nm : Value) := hu.c0
          have c1 : _ = some (.string hs : Value) := hu.c1
          have c2 : _ = some (.string ml : Value) := hu.c2
          have c3 : _ = some (.bool dis : Value) := hu.c3
          have c4 : _ = some (.slice A gs.length c : Value) := hu.c4
          clear hu
          clear hdep
          simp only [h12] at hK
          go_simp
          exact hK _ _ rfl hW (fun _ _ h => h)
        · have h12 : x 12 = _ := hdep 12 rfl
          have hu := HV9.out.below hW
          have c0 : _ = some (.string nm : Value) := hu.c0
          have c1 : _ = some (.string hs : Value) := hu.c1
          have c2 : _ = some (.string ml : Value) := hu.c2
          have c3 : _ = some (.bool dis : Value) := hu.c3
          have c4 : _ = some (.slice A2 gs.length c2' : Value) := hu.c4
          clear hu
          clear hdep
          simp only [h12] at hK
          go_simp
          exact hK _ _ rfl hW (fun _ _ h => h)
        · have h12 : x 12 = _ := hdep 12 rfl
          have h13 : x 13 = _ := hdep 13 rfl
          have h14 : x 14 = _ := hdep 14 rfl
          clear hdep
          simp only [h12, h13, h14] at hK
          go_simp
          refine (HSM.out W hW).mono ?_
          rintro e W' ⟨rfl, hb⟩
          exact hK _ _ rfl (below_next hW hb) (fun j z h => YPs_keep hb j z h)
        · have h12 : x 12 = _ := hdep 12 rfl
          have h15 : x 15 = _ := hdep 15 rfl
          clear hdep
          simp only [h12, h15] at hK
          go_simp
          exact hK _ _ rfl hW (fun _ _ h => h)
        · have h16 : x 16 = _ := hdep 16 rfl
          clear hdep
          simp only [h16] at hK
          go_simp
          exact hK _ _ rfl hW (fun _ _ h => h)
      case fin =>
        intro x W hW hY
        have h17 : x 17 = .bool true := hY 17 (by decide)
        clear hY
        rw [h17]
        have HF := Lib.hid (below_next HB9.out hW)
        clear hW h17
        go_wp2
        go_ret
        exact ⟨rfl, HF.out⟩
    · have h0d : (ck == 0) = false := by simpa using h0
      have h0n : (ck != 0) = true := by simpa using h0
      have HBY7 := Lib.hid (hn.bytes (by decide))
      have HB7 := Lib.hid (below_next HB3.out hn.2.2)
      clear hn HLN HGT HTX0 HRS0 HA3 HB3 HA6 HB6 HN6 HP6 hckn c0 c1 c2 c3 c4 h0 HSM0
      go_wp2_with fail
      with_reducible refine HBY7.out.mono ?_
      rintro e w8 ⟨v8, rfl, ho8, _, hb8⟩
      obtain ⟨A8, c8, rfl⟩ := owns_shape ho8
      have HB8 := Lib.hid (below_next HB7.out hb8)
      clear ho8 hb8 HB7 HBY7
      simp only [List.length_nil]
      go_wp2
      go_ret
      exact ⟨rfl, HB8.out⟩
end Go.Proofs.YtghmcbgejeanfaaDoor
