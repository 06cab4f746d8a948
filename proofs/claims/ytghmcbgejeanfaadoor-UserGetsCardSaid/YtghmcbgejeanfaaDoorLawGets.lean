/-
  UserGets walked: of any bytes the user that they begin with is the document's, or what is wrong first.
  Conditions: the library's own variable MaxLen holds some number.
-/
import Derived.Test.YtghmcbgejeanfaaDoorGetAll
import Derived.Test.YtghmcbgejeanfaaDoorUserH
namespace Go.Proofs.YtghmcbgejeanfaaDoor
open Go.RowKit

/-- What each operation makes. -/
def YGs (R D : Nat) (n er : Int) (tx : ByteArray) (u u' : Us) : Nat → Value → World → Prop
  | 0, v, _ => v = u.v
  | 1, v, _ => v = u'.v
  | 2, v, _ => v = .bool true
  | 3, v, _ => v = .bool true
  | 4, v, _ => v = .pointer (some ⟨R, 0, none⟩)
  | 5, v, _ => v = .int .i64 er
  | 6, v, _ => v = .pointer (some ⟨D, 1, none⟩)
  | 7, v, _ => v = .int .i64 er
  | 8, v, _ => v = .bool true
  | 9, v, _ => v = .bool true
  | 10, v, _ => v = .bool true
  | 11, v, _ => v = .pointer (some ⟨R, 0, none⟩)
  | 12, v, _ => v = .int .i64 n
  | 13, v, _ => v = .pointer (some ⟨D, 0, none⟩)
  | 14, v, _ => v = .string tx
  | 15, v, _ => v = .int .i64 n
  | 16, v, _ => v = .bool true
  | 17, v, _ => v = .bool true
  | _, v, _ => v = .bool true
theorem YGs_keep {R D : Nat} {n er : Int} {tx : ByteArray} {u u' : Us} {W W' : World} (j : Nat) (z : Value) (h : YGs R D n er tx u u' j z W) : YGs R D n er tx u u' j z W' := by
  match j, h with
  | 0, h => exact h
  | 1, h => exact h
  | 2, h => exact h
  | 3, h => exact h
  | 4, h => exact h
  | 5, h => exact h
  | 6, h => exact h
  | 7, h => exact h
  | 8, h => exact h
  | 9, h => exact h
  | 10, h => exact h
  | 11, h => exact h
  | 12, h => exact h
  | 13, h => exact h
  | 14, h => exact h
  | 15, h => exact h
  | 16, h => exact h
  | 17, h => exact h
  | _ + 18, h => exact h

set_option maxRecDepth 100000 in
set_option maxHeartbeats 4000000 in
theorem gets_walk (s : Int) (A0 : Option Addr) (len c0 : Nat) (bl : List UInt8) (w : World) (hlen : len = bl.length) (hmax : bl.length ≤ 9223372036854775807) (hrd : Rd w (.slice A0 len c0) bl) (hm : Len5 w) :
    Calls Tryd.prog 4 #[.int .i64 s, .slice A0 len c0] w (Tells5 true w) := by
  have hnot : ∀ (x : Bool) (w : World), (Op.unary .not (.bool x)).run Tryd.prog w = .ok (.bool (!x)) w := fun _ _ => rfl
  have HV : Hid (∀ W, Below w.heap.size w W → Calls Tryd.prog 7 #[] W (Tells5 true W)) := fun W hb => lives6_calls W (hm.later hb)
  have HOF : Hid (len ≤ 300 → ∀ W, Below w.heap.size w W → Calls Tryd.prog 13 #[.slice A0 len c0] W (Made W bl)) := fun h3 W hb => of_calls _ bl W (hrd.still (Turns.of_below hb _)) (by omega)
  have HGT : Hid (len ≤ 300 → ∀ W B, Below w.heap.size w W → w.heap.size ≤ B → Rdr W B ⟨bl, 0⟩ → Calls Tryd.prog 14 #[.pointer (some ⟨B, 0, none⟩), .int .i64 s] W (Got6 W B (getS s ⟨bl, 0⟩).1 (getS s ⟨bl, 0⟩).2)) := fun h3 W B hb hB hr => get6_all s B ⟨bl, 0⟩ W hr (by show bl.length ≤ _; omega) (hm.later hb) (by have := hm.1; omega)
  have HRG : Hid (len ≤ 300 → ∀ W, Calls Tryd.prog 18 #[.agg #[.string ⟨bl.toArray⟩, .int .i64 0], .int .i64 s] W (RGot6 W (getS s ⟨bl, 0⟩).1 (getS s ⟨bl, 0⟩).2)) := fun h3 W => rget6_all s ⟨bl, 0⟩ W (fun h => absurd rfl h) (by show bl.length ≤ _; omega)
  have HRS : Hid (∀ W, Below w.heap.size w W → (convert 28 9 (.slice A0 len c0)).run Tryd.prog W = .ok (.string ⟨bl.toArray⟩) W) := fun W hb => (hrd.still (Turns.of_below hb _)).string Tryd.underlying28 Tryd.underlying5 Tryd.underlying9
  have HSH : Hid (len ≤ 300 → (getS s ⟨bl, 0⟩).2.Short) := fun h3 => getS_short s ⟨bl, 0⟩ (by show bl.length ≤ _; omega)
  generalize getS s ⟨bl, 0⟩ = gt at *
  obtain ⟨sf, u⟩ := gt
  dsimp only at *
  unfold Got6 at HGT
  unfold RGot6 at HRG
  have HB0 := Lib.hid (Below.refl w.heap.size w)
  clear hrd hm hlen hmax
  generalize (⟨bl.toArray⟩ : ByteArray) = bx at *
  go_enter Tryd.func4, Tryd.ntmps4
  go_wp2_with fail
  with_reducible refine (HV.out w HB0.out).mono ?_
  rintro e w1 ⟨rfl, hb⟩
  have HB1 := Lib.hid (below_next HB0.out hb)
  clear hb HB0
  by_cases h3 : len ≤ 300
  · have z : ¬ (len : Int) > 300 := by omega
    have z' : ¬ 300 < len := by omega
    have z2 : decide ((len : Int) > 300) = false := decide_eq_false z
    have HOF1 := Lib.hid (HOF.out h3 w1 HB1.out)
    have HGT1 := Lib.hid (HGT.out h3)
    have HRG1 := Lib.hid (HRG.out h3)
    have HSH1 := Lib.hid (HSH.out h3)
    clear HV HOF HGT HRG HSH
    go_wp2_with fail
    with_reducible refine HOF1.out.mono ?_
    rintro e w2 ⟨R, hR, rfl, hr, ht⟩
    have hb2 := ht.below (fun _ f => f.elim)
    have hsz1 : w.heap.size ≤ w1.heap.size := HB1.out.size
    have HB2 := Lib.hid (below_next HB1.out hb2)
    have HG2 := Lib.hid (HGT1.out w2 R HB2.out (by omega) hr)
    have hB3 : ∀ w3, Did w2 R sf w3 → Below w1.heap.size w1 w3 := fun w3 hd => ((ht.mono (S' := fun i => i = R) (fun _ _ f => f.elim)).next hd.2 (fun _ _ h => h)).below (fun i hi => by omega)
    have HB3f := Lib.hid hB3
    clear ht hr hb2 hB3 HGT1 HOF1
    go_wp2_with fail
    with_reducible refine HG2.out.mono ?_
    rintro e w3 ⟨Aa, ca, rfl, ho, hnw, hd⟩
    have HOK1 : Hid (∀ W, Below w3.heap.size w3 W → (tell6 sf u Aa ca).Ok W) := fun W hb => tell6_ok HSH1.out ((Turns.of_below hb (fun _ => False)).owns ho (fun _ _ f => f))
    have HB3 := Lib.hid (below_next HB1.out (HB3f.out w3 hd))
    have HR3 := Lib.hid hd.1
    have HSM1 : Hid (∀ A' c', sameU (tell6 sf u Aa ca) (tell6 sf u A' c') = true) := fun A' c' => tell6_same sf u Aa A' ca c'
    have hue : (if sf.e = 0 then ({ u with ga := Aa, gc := ca } : Us) else zeroU) = tell6 sf u Aa ca := rfl
    rw [hue]
    clear hue ho hnw hd HG2 HB3f HB2
    generalize tell6 sf u Aa ca = ua at *
    obtain ⟨n1, h1, m1, d1, A1, g1, c1⟩ := ua
    unfold Us.v Us.cells
    dsimp only
    have hb4 := below_alloc (Below.refl w3.heap.size w3) (.cells #[.string n1, .string h1, .string m1, .bool d1, .slice A1 g1.length c1] 24)
    have HU4 : Hid (UsAt (w3.alloc (.cells #[.string n1, .string h1, .string m1, .bool d1, .slice A1 g1.length c1] 24)) w3.heap.size ⟨n1, h1, m1, d1, A1, g1, c1⟩) := UsAt.new w3 ⟨n1, h1, m1, d1, A1, g1, c1⟩ _
    have HB34 := Lib.hid hb4
    have HB4 := Lib.hid (below_next HB3.out hb4)
    have hcv := HRS.out _ HB4.out
    clear hb4 HRS HB3
    go_wp2_with fail
    clear hcv
    generalize w3.alloc (.cells #[.string n1, .string h1, .string m1, .bool d1, .slice A1 g1.length c1] 24) = w4 at *
    with_reducible refine (HRG1.out w4).mono ?_
    rintro e w5 ⟨Ab, cb, rfl, ho, hnw, ht⟩
    have HOK2 : Hid (∀ W, Below w5.heap.size w5 W → (tell6 sf u Ab cb).Ok W) := fun W hb => tell6_ok HSH1.out ((Turns.of_below hb (fun _ => False)).owns ho (fun _ _ f => f))
    have HSM2 := Lib.hid (HSM1.out Ab cb)
    have hb5 := ht.below (fun _ f => f.elim)
    have HB45 := Lib.hid hb5
    have HU5 := Lib.hid (HU4.out.below hb5)
    have HB5 := Lib.hid (below_next HB4.out hb5)
    have hue : (if sf.e = 0 then ({ u with ga := Ab, gc := cb } : Us) else zeroU) = tell6 sf u Ab cb := rfl
    rw [hue]
    clear hue ho hnw ht hb5 HU4 HB4 HRG1 HSM1
    generalize tell6 sf u Ab cb = ub at *
    obtain ⟨n2, h2, m2, d2, A2, g2, c2⟩ := ub
    unfold refV Us.v Us.cells
    dsimp only
    have HTN : Hid ((⟨sf.bs.toArray⟩ : ByteArray).size = sf.bs.length) := by show sf.bs.toArray.size = _; rw [List.size_toArray]
    generalize (⟨sf.bs.toArray⟩ : ByteArray) = tx at *
    have HERb : Hid (∀ W, Rdr W R sf → Calls Tryd.prog 19 #[.pointer (some ⟨R, 0, none⟩)] W fun e w' => e = .returned (.int .i64 sf.e) ∧ W = w') := fun W hr => rerr_calls R sf W hr
    have HLFb : Hid (∀ W, Rdr W R sf → Calls Tryd.prog 20 #[.pointer (some ⟨R, 0, none⟩)] W fun e w' => e = .returned (.int .i64 sf.bs.length) ∧ W = w') := fun W hr => rleft_calls R sf W hr
    generalize sf.e = er at *
    generalize sf.bs.length = ln at *
    have hTN := HTN.out
    subst hTN
    clear HTN
    have hb6 := below_alloc (below_alloc (Below.refl w5.heap.size w5) (.cells #[.string tx, .int .i64 er] 44)) (.cells #[.string n2, .string h2, .string m2, .bool d2, .slice A2 g2.length c2] 24)
    have HB56 := Lib.hid hb6
    have HU6 := Lib.hid (HU5.out.below hb6)
    have HB6 := Lib.hid (below_next HB5.out hb6)
    have hD : ((w5.alloc (.cells #[.string tx, .int .i64 er] 44)).alloc (.cells #[.string n2, .string h2, .string m2, .bool d2, .slice A2 g2.length c2] 24)).heap[w5.heap.size]? = some (.cells #[.string tx, .int .i64 er] 44 (0, 0)) := alloc_old6 (alloc_at6 rfl)
    have HD0 : Hid (_ = some (.string tx : Value)) := cell6 hD 0
    have HD1 : Hid (_ = some (.int .i64 er : Value)) := cell6 hD 1
    have HDL := Lib.hid (Array.getElem?_eq_some_iff.1 hD).1
    have hV := UsAt.new (w5.alloc (.cells #[.string tx, .int .i64 er] 44)) ⟨n2, h2, m2, d2, A2, g2, c2⟩ 24
    rw [show (w5.alloc (.cells #[.string tx, .int .i64 er] 44)).heap.size = w5.heap.size + 1 by simp] at hV
    have HV6 := Lib.hid hV
    clear hb6 hD hV HU5 HB5
    go_wp2_with fail
    generalize (w5.alloc (.cells #[.string tx, .int .i64 er] 44)).alloc (.cells #[.string n2, .string h2, .string m2, .bool d2, .slice A2 g2.length c2] 24) = w6 at *
    have HB36 := Lib.hid (below_next (below_next HB34.out HB45.out) HB56.out)
    have HR6 := Lib.hid (HR3.out.still (Turns.of_below HB36.out _))
    have HER : Hid (∀ W, Below w6.heap.size w6 W → Calls Tryd.prog 19 #[.pointer (some ⟨R, 0, none⟩)] W fun e w' => e = .returned (.int .i64 er) ∧ W = w') := fun W hW => HERb.out W (HR6.out.still (Turns.of_below hW _))
    have HLF : Hid (∀ W, Below w6.heap.size w6 W → Calls Tryd.prog 20 #[.pointer (some ⟨R, 0, none⟩)] W fun e w' => e = .returned (.int .i64 tx.size) ∧ W = w') := fun W hW => HLFb.out W (HR6.out.still (Turns.of_below hW _))
    have HSM : Hid (∀ W, Below w6.heap.size w6 W → Calls Tryd.prog 17 #[.agg #[.string n1, .string h1, .string m1, .bool d1, .slice A1 g1.length c1], .agg #[.string n2, .string h2, .string m2, .bool d2, .slice A2 g2.length c2]] W (Tells5 true W)) := fun W hW => by
      have := rsame6_calls ⟨n1, h1, m1, d1, A1, g1, c1⟩ ⟨n2, h2, m2, d2, A2, g2, c2⟩ W (HOK1.out W (below_next HB36.out hW)) (HOK2.out W (below_next HB56.out hW))
      rw [HSM2.out] at this
      exact this
    generalize w5.heap.size = D at *
    generalize w3.heap.size = B3 at *
    clear HERb HLFb HSM2 HOK1 HOK2 HR3 HR6 HB34 HB45 HB56 HB36 HSH1 z z' z2 h3 hR hsz1 HB1
    refine wp_region_inv (by kernel_rfl) (fun W => Below w6.heap.size w6 W) (YGs R D tx.size er tx ⟨n1, h1, m1, d1, A1, g1, c1⟩ ⟨n2, h2, m2, d2, A2, g2, c2⟩) ?F ?hF (by kernel_rfl) (by kernel_rfl) (below_drew (Below.refl _ _)) ?step ?fin
    case hF =>
      intro x
      simp only [List.map_cons, List.map_nil, putL, Act.put, List.setIfInBounds_toArray, List.set_cons_zero, List.set_cons_succ, Nat.zero_add, Nat.reduceAdd]
      exact rfl
    case step =>
      refine ⟨?_, ?_, ?_, ?_, ?_, ?_, ?_, ?_, ?_, ?_, ?_, ?_, ?_, ?_, ?_, ?_, ?_, ?_, ?_, trivial⟩
      all_goals intro x W hW hdep K hK
      · have hu := HU6.out.below hW
        have k0 : _ = some (.string n1 : Value) := hu.c0
        have k1 : _ = some (.string h1 : Value) := hu.c1
        have k2 : _ = some (.string m1 : Value) := hu.c2
        have k3 : _ = some (.bool d1 : Value) := hu.c3
        have k4 : _ = some (.slice A1 g1.length c1 : Value) := hu.c4
        clear hu
        clear hdep
        go_simp
        exact hK _ _ rfl hW (fun _ _ h => h)
      · have hu := HV6.out.below hW
        have k0 : _ = some (.string n2 : Value) := hu.c0
        have k1 : _ = some (.string h2 : Value) := hu.c1
        have k2 : _ = some (.string m2 : Value) := hu.c2
        have k3 : _ = some (.bool d2 : Value) := hu.c3
        have k4 : _ = some (.slice A2 g2.length c2 : Value) := hu.c4
        clear hu
        clear hdep
        go_simp
        exact hK _ _ rfl hW (fun _ _ h => h)
      · have h0 : x 0 = _ := hdep 0 rfl
        have h1 : x 1 = _ := hdep 1 rfl
        clear hdep
        simp only [h0, h1] at hK
        go_simp
        refine (HSM.out W hW).mono ?_
        rintro e W' ⟨rfl, hb⟩
        exact hK _ _ rfl (below_next hW hb) (fun j z h => YGs_keep j z h)
      · have h2 : x 2 = _ := hdep 2 rfl
        clear hdep
        simp only [h2] at hK
        go_simp
        exact hK _ _ rfl hW (fun _ _ h => h)
      · have h3 : x 3 = _ := hdep 3 rfl
        clear hdep
        simp only [h3] at hK
        go_simp
        exact hK _ _ rfl hW (fun _ _ h => h)
      · have h3 : x 3 = _ := hdep 3 rfl
        have h4 : x 4 = _ := hdep 4 rfl
        clear hdep
        simp only [h3, h4] at hK
        go_simp
        refine (HER.out W hW).mono ?_
        rintro e W' ⟨rfl, rfl⟩
        exact hK _ _ rfl hW (fun _ _ h => h)
      · have h3 : x 3 = _ := hdep 3 rfl
        clear hdep
        simp only [h3] at hK
        go_simp
        exact hK _ _ rfl hW (fun _ _ h => h)
      · have h3 : x 3 = _ := hdep 3 rfl
        have h6 : x 6 = _ := hdep 6 rfl
        have k1 : W.cell? ⟨D, 1, none⟩ = some (.int .i64 er) := (hW.cell (p := ⟨D, 1, none⟩) HDL.out).trans HD1.out
        clear hdep
        simp only [h3, h6] at hK
        go_simp
        exact hK _ _ rfl hW (fun _ _ h => h)
      · have h3 : x 3 = _ := hdep 3 rfl
        have h5 : x 5 = _ := hdep 5 rfl
        have h7 : x 7 = _ := hdep 7 rfl
        clear hdep
        simp only [h3, h5, h7] at hK
        go_simp
        exact hK _ _ rfl hW (fun _ _ h => h)
      · have h3 : x 3 = _ := hdep 3 rfl
        have h8 : x 8 = _ := hdep 8 rfl
        clear hdep
        simp only [h3, h8] at hK
        go_simp
        exact hK _ _ rfl hW (fun _ _ h => h)
      · have h9 : x 9 = _ := hdep 9 rfl
        clear hdep
        simp only [h9] at hK
        go_simp
        exact hK _ _ rfl hW (fun _ _ h => h)
      · have h10 : x 10 = _ := hdep 10 rfl
        clear hdep
        simp only [h10] at hK
        go_simp
        exact hK _ _ rfl hW (fun _ _ h => h)
      · have h10 : x 10 = _ := hdep 10 rfl
        have h11 : x 11 = _ := hdep 11 rfl
        clear hdep
        simp only [h10, h11] at hK
        go_simp
        refine (HLF.out W hW).mono ?_
        rintro e W' ⟨rfl, rfl⟩
        exact hK _ _ rfl hW (fun _ _ h => h)
      · have h10 : x 10 = _ := hdep 10 rfl
        clear hdep
        simp only [h10] at hK
        go_simp
        exact hK _ _ rfl hW (fun _ _ h => h)
      · have h10 : x 10 = _ := hdep 10 rfl
        have h13 : x 13 = _ := hdep 13 rfl
        have k0 : W.cell? ⟨D, 0, none⟩ = some (.string tx) := (hW.cell (p := ⟨D, 0, none⟩) HDL.out).trans HD0.out
        clear hdep
        simp only [h10, h13] at hK
        go_simp
        exact hK _ _ rfl hW (fun _ _ h => h)
      · have h10 : x 10 = _ := hdep 10 rfl
        have h14 : x 14 = _ := hdep 14 rfl
        clear hdep
        simp only [h10, h14] at hK
        go_simp
        exact hK _ _ rfl hW (fun _ _ h => h)
      · have h10 : x 10 = _ := hdep 10 rfl
        have h12 : x 12 = _ := hdep 12 rfl
        have h15 : x 15 = _ := hdep 15 rfl
        clear hdep
        simp only [h10, h12, h15] at hK
        go_simp
        exact hK _ _ rfl hW (fun _ _ h => h)
      · have h10 : x 10 = _ := hdep 10 rfl
        have h16 : x 16 = _ := hdep 16 rfl
        clear hdep
        simp only [h10, h16] at hK
        go_simp
        exact hK _ _ rfl hW (fun _ _ h => h)
      · have h17 : x 17 = _ := hdep 17 rfl
        clear hdep
        simp only [h17] at hK
        go_simp
        exact hK _ _ rfl hW (fun _ _ h => h)
    case fin =>
      intro x W hW hY
      have h18 : x 18 = .bool true := hY 18 (by decide)
      clear hY
      rw [h18]
      have HF := Lib.hid (below_next HB6.out hW)
      clear hW h18
      go_wp2
      go_ret
      exact ⟨rfl, HF.out⟩
  · have z : (len : Int) > 300 := by omega
    have z' : 300 < len := by omega
    have z2 : decide ((len : Int) > 300) = true := decide_eq_true z
    go_wp2_with fail
    with_reducible refine (HV.out w1 HB1.out).mono ?_
    rintro e w2 ⟨rfl, hb⟩
    have HB2 := Lib.hid (below_next HB1.out hb)
    clear hb
    go_wp2
    go_ret
    exact ⟨rfl, HB2.out⟩
end Go.Proofs.YtghmcbgejeanfaaDoor
