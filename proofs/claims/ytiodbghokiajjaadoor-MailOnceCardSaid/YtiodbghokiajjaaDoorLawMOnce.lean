/-
  MailOnce walked: whatever is done, no two names have one address, and each address is found by its name, in letters of any size.
  Conditions: texts and rows are no longer than they may be.
-/
import Derived.Test.YtiodbghokiajjaaDoorLawMBack
import Derived.BigQuiet
namespace Go.Proofs.YtiodbghokiajjaaDoor
open Go.RowKit Go.Maps

theorem less9 : ∀ a b : List UInt8, Op.bytesLess a b = bytesBefore a b
  | [], [] => by simp [Op.bytesLess, bytesBefore]
  | [], _ :: _ => by simp [Op.bytesLess, bytesBefore]
  | _ :: _, [] => by simp [Op.bytesLess, bytesBefore]
  | a :: r, b :: s => by simp [Op.bytesLess, bytesBefore, less9 r s]

theorem geq9 (a b : ByteArray) (w : World) : (binOp .geq 9 (.string a) (.string b)).run Tryd.prog w = .ok (.bool (!Op.bytesLess a.toList b.toList)) w := rfl

/-- A small letter at an even place, made great. -/
def upC9 (k : Nat) (x : UInt8) : UInt8 := if 97 ≤ x.toNat ∧ x.toNat ≤ 122 ∧ k % 2 = 0 then x - 32 else x
theorem upC9_hit {k : Nat} {x : UInt8} (h1 : 97 ≤ x.toNat) (h2 : x.toNat ≤ 122) (h3 : k % 2 = 0) : ((upC9 k x).toNat : Int) = (x.toNat : Int) - 97 + 65 ∧ inR 65 90 (upC9 k x) = true := by
  have hu : upC9 k x = x - 32 := if_pos ⟨h1, h2, h3⟩
  have hn : (x - 32).toNat = x.toNat - 32 := by
    rw [UInt8.toNat_sub_of_le]
    · rfl
    · rw [UInt8.le_iff_toNat_le]
      show 32 ≤ x.toNat
      omega
  rw [hu]
  refine ⟨by rw [hn]; omega, ?_⟩
  unfold inR
  rw [hn]
  simp
  omega
theorem upC9_odd {k : Nat} (x : UInt8) (h : ¬ k % 2 = 0) : upC9 k x = x := if_neg fun h' => h h'.2.2
theorem upC9_miss (k : Nat) (x : UInt8) (h : ¬ (97 ≤ x.toNat ∧ x.toNat ≤ 122)) : upC9 k x = x := if_neg fun h' => h ⟨h'.1, h'.2.1⟩
theorem upC9_fold (k : Nat) (x : UInt8) : foldC (upC9 k x) = foldC x := by
  by_cases h : 97 ≤ x.toNat ∧ x.toNat ≤ 122
  · by_cases h3 : k % 2 = 0
    · obtain ⟨e1, e2⟩ := upC9_hit h.1 h.2 h3
      obtain ⟨f1, _, _⟩ := foldC_hit e2
      have hm : inR 65 90 x = false := by
        unfold inR
        have : ¬ x.toNat ≤ 90 := by omega
        rw [decide_eq_false this, Bool.and_false]
      rw [foldC_miss hm]
      apply UInt8.toNat_inj.1
      omega
    · rw [upC9_odd x h3]
  · rw [upC9_miss k x h]

/-- Block S is a map of counts: of at most N keys; z tells each. -/
def Cnt9 (w : World) (S N : Nat) (z : List UInt8 → Int) : Prop :=
  ∃ D : DataW Unit, w.ownsMap Tryd.prog 9 (plainElem Tryd.prog 3) S N D ∧ ∀ k, D.atKey (.string k) (.lit (.int .i64 0)) = .lit (.int .i64 (z k))
theorem zero9 (w : World) : (zeroValue 3).run Tryd.prog w = .ok (.int .i64 0) w := by kernel_rfl
theorem cnt9_new (w : World) : Cnt9 (w.alloc (.map #[] 0)) w.heap.size 0 (fun _ => 0) := ⟨_, World.ownsMap_made (H := Unit) w Tryd.prog 9 (plainElem Tryd.prog 3), fun _ => rfl⟩
section
variable {w w' : World} {S N : Nat} {z : List UInt8 → Int}
theorem Cnt9.lt (h : Cnt9 w S N z) : S < w.heap.size := by obtain ⟨_, h, _⟩ := h; exact h.lt
theorem Cnt9.kept (h : Cnt9 w S N z) (hb : w'.heap[S]? = w.heap[S]?) : Cnt9 w' S N z := by
  obtain ⟨D, ⟨es, clock, h1, r⟩, h2⟩ := h
  exact ⟨D, ⟨es, clock, hb.trans h1, r⟩, h2⟩
theorem Cnt9.later (h : Cnt9 w S N z) (hb : Below w.heap.size w w') : Cnt9 w' S N z := h.kept (hb.block S h.lt)
theorem Cnt9.drewN (h : Cnt9 w S N z) (q : Nat) : Cnt9 (w.drewN q) S N z := h.kept rfl
theorem Cnt9.is (h : Cnt9 w S N z) : ∃ es clock, w.heap[S]? = some (.map es clock) := by
  obtain ⟨D, ⟨es, clock, h1, _⟩, _⟩ := h
  exact ⟨es, clock, h1⟩
theorem Cnt9.look (h : Cnt9 w S N z) (s : ByteArray) (hs : s.size ≤ maxLen) : (Instr.lookup 47 (.map (some S)) (.string s) false).run Tryd.prog w = .ok (.int .i64 (z s.data.toList)) w := by
  obtain ⟨D, h1, h2⟩ := h
  obtain ⟨v, ps, hrun, hv⟩ := h1.lookup keyed7 Tryd.underlying47 (zero9 w) (plainElem_int (H := Unit) Tryd.underlying3 (by decide)) (key7 s hs)
  obtain ⟨c, rfl, hc, _⟩ := plainElem_int_inv Tryd.underlying3 hv
  have hc' : D.atKey (.string s.data.toList) (.lit (.int .i64 0)) = .lit (.int .i64 c) := by first | exact hc | exact congrArg Prod.fst hc
  rw [h2] at hc'
  have : z s.data.toList = c := by simpa using hc'
  rw [hrun, this]
theorem Cnt9.store (h : Cnt9 w S N z) (s : ByteArray) (hs : s.size ≤ maxLen) (x : Int) (hx : (Lit.int .i64 x).wf = true) (hN : N ≤ 1000) :
    ∃ w', (Instr.mapUpdate 47 (.map (some S)) (.string s) (.int .i64 x)).run Tryd.prog w = .ok () w' ∧ Cnt9 w' S (N + 1) (fun k => if k = s.data.toList then x else z k) ∧ w.mapTurned w' S := by
  obtain ⟨D, h1, h2⟩ := h
  obtain ⟨w', hrun, hown, ht⟩ := h1.store keyed7 Tryd.underlying47 (Nat.lt_of_le_of_lt hN (by decide)) (key7 s hs) (plainElem_int (H := Unit) Tryd.underlying3 hx)
  refine ⟨w', hrun, ⟨_, hown, fun k => ?_⟩, ht⟩
  show _ = DataW.lit (Lit.int .i64 (if k = s.data.toList then x else z k))
  by_cases e : k = s.data.toList
  · subst e
    have hk : WideAt.IsKeyLit (.string s.data.toList) := trivial
    rw [if_pos rfl, Maps.atKey_put_same h1.isMap hk]
  · rw [if_neg e, Maps.atKey_put_other (fun h => e (by injection h)), h2]
end
theorem turned_at9 {W W' : World} {b i : Nat} (ht : W.mapTurned W' b) (hne : i ≠ b) : W'.heap[i]? = W.heap[i]? := turned_cells ht (fun e => hne e.symm)
theorem keeps_of_map9 {S : Nat} {W W' : World} (hm : ∃ es clock, W.heap[S]? = some (.map es clock)) (ht : Turns (fun b => b = S) W W') : Keeps9 W W' := fun k c T fr hk _ => by
  refine (ht.block k (Array.getElem?_eq_some_iff.1 hk).1 ?_).trans hk
  intro e
  obtain ⟨es, clock, h1⟩ := hm
  have e' : k = S := e
  rw [e', h1] at hk; cases hk
theorem below_r9 {a b c : World} {R : Nat} (h : Below a.heap.size a b) (ht : Turns (fun k => k = R) b c) (hR : a.heap.size ≤ R) : Below a.heap.size a c :=
  h.trans (ht.below_at h.size (fun i e => by have : i = R := e; omega))
theorem Own9.turns9 {w0 W5 W W' : World} {B S : Nat} {L : Row7} (h5 : Own9 w0 W5 B L) (hb : Below W5.heap.size W5 W) (ht : Turns (fun b => b = S) W W') (hS : W5.heap.size ≤ S) : Own9 w0 W' B L :=
  h5.later (below_r9 hb ht hS)

set_option maxRecDepth 100000 in
set_option maxHeartbeats 16000000 in
theorem once_walk (A : Option Addr) (c n : Nat) (l : List Act7) (w : World) (hl : n = l.length) (hn : n ≤ 9223372036854775807) (hr : RdA7 w A l) (hsz : ∀ t ∈ l, t.nm.size ≤ 9223372036854775807 ∧ t.hs.size ≤ 9223372036854775807) (h5 : Len5 w) :
    Calls Tryd.prog 4 #[.slice A n c] w (Tells5 true w) := by
  have hnot : ∀ (x : Bool) (w : World), (Op.unary .not (.bool x)).run Tryd.prog w = .ok (.bool (!x)) w := fun _ _ => rfl
  have HV : Hid (∀ W, Below w.heap.size w W → Calls Tryd.prog 6 #[] W (Tells5 true W)) := fun W hb => lives9_calls W (h5.later hb)
  have HNW : Hid (∀ W, Calls Tryd.prog 8 #[] W fun e w' => e = .returned (.pointer (some ⟨W.heap.size, 0, none⟩)) ∧ w' = W.alloc (.cells #[.map none, .map none] 54)) := fun W => new9_calls W
  have HF : Hid (∀ W, Below w.heap.size w W → Calls Tryd.prog 7 #[.slice A n c] W (Tells5 (few9 l) W)) := fun W hb => few9_calls A c n l W hl hn (hr.later hb)
  have HFW : Hid (few9 l = true → n ≤ 60) := fun h => by rw [hl]; exact few9_len h
  have HR := Lib.hid hr
  have HL := Lib.hid hl
  have HSZ := Lib.hid hsz
  have H5 := Lib.hid h5
  clear hr hl hsz h5
  generalize few9 l = q at *
  go_enter Tryd.func4, Tryd.ntmps4
  go_wp2_with fail
  with_reducible refine (HV.out w (Below.refl _ _)).mono ?_
  rintro e w1 ⟨rfl, hb⟩
  have HB1 := Lib.hid hb
  clear hb
  go_wp2_with fail
  with_reducible refine (HF.out w1 HB1.out).mono ?_
  rintro e w2 ⟨rfl, hb⟩
  have HB2 := Lib.hid (below_next HB1.out hb)
  clear hb HF HB1
  have BAD : Hid (∀ W, Below w.heap.size w W → Calls Tryd.prog 6 #[] W fun e w' => e = .returned (.bool true) ∧ Hid (Below w.heap.size w w')) := fun W hb => (HV.out W hb).mono fun e w' ⟨he, hb'⟩ => ⟨he, below_next hb hb'⟩
  clear HV
  cases q with
  | false =>
    go_wp2_with fail
    with_reducible refine (BAD.out w2 HB2.out).mono ?_
    rintro e w3 ⟨rfl, HB3⟩
    go_wp2
    go_ret
    exact ⟨rfl, HB3.out⟩
  | true =>
  have hn60 := HFW.out rfl
  clear HFW BAD
  go_wp2_with fail
  with_reducible refine (HNW.out w2).mono ?_
  rintro e w3 ⟨rfl, rfl⟩
  have HO := Lib.hid (own9_new w2)
  generalize w2.alloc (.cells #[.map none, .map none] 54) = w3 at *
  generalize w2.heap.size = B at *
  clear HNW
  go_wp2
  go_loopg [26] n (fun gg s26 wr => ∃ k : Nat, k ≤ n ∧ n - k ≤ gg ∧ s26 = .int .i64 k ∧ Hid (∃ L, Own9 w2 wr B L ∧ L.length ≤ k))
  case atStart => exact ⟨0, Nat.zero_le _, by omega, rfl, ⟨_, HO.out, by simp⟩⟩
  case round =>
    obtain ⟨k, hk, hg, rfl, HW⟩ := hrel
    by_cases hlt : k < n
    · have hltz : (k : Int) < (n : Int) := by omega
      have hkl : k < l.length := HL.out ▸ hlt
      obtain ⟨L0, ho, hlk⟩ := HW.out
      obtain ⟨b, off, rfl, hb, hc⟩ := (HR.out.later (below_next HB2.out ho.below)) (by intro e; rw [e] at hkl; exact absurd hkl (Nat.not_lt_zero _))
      have c0 : wr.cell? ⟨b, off + k * 3, none⟩ = some (.int .u8 (l[k].kd : Int)) := hc k hkl 0 _ rfl
      have c1 : wr.cell? ⟨b, off + k * 3 + 1, none⟩ = some (.string l[k].nm) := hc k hkl 1 _ rfl
      have c2 : wr.cell? ⟨b, off + k * 3 + 2, none⟩ = some (.string l[k].hs) := hc k hkl 2 _ rfl
      have ho2 := ho.later (below_alloc (Below.refl wr.heap.size wr) (.cells #[.int .u8 (l[k].kd : Int), .string l[k].nm, .string l[k].hs] 29))
      have hrise := ho.rise
      have hs1 := (HSZ.out _ (List.getElem_mem hkl)).1
      have hs2 := (HSZ.out _ (List.getElem_mem hkl)).2
      have HC := Lib.hid (ho2.set l[k].nm l[k].hs hs1 hs2 (by omega) (H5.out.later (below_next HB2.out ho2.below)))
      have HC2 := Lib.hid (ho2.rename l[k].nm l[k].hs hs1 hs2)
      have HC3 := Lib.hid (ho2.drop l[k].nm hs1)
      have HLN1 : Hid ((seL9 L0 l[k].nm.data.toList l[k].hs.data.toList).length ≤ k + 1) := Nat.le_trans (seL9_len hrise _ _) (by omega)
      have HLN2 : Hid ((reL9 L0 l[k].nm.data.toList l[k].hs.data.toList).length ≤ k + 1) := Nat.le_trans (reL9_len hrise _ _) (by omega)
      have HLN3 : Hid ((delE L0 l[k].nm.data.toList).length ≤ k + 1) := Nat.le_trans (List.length_filter_le _ _) (by omega)
      clear hc hb ho ho2 hs1 hs2 hrise
      generalize seE9 L0 l[k].nm.data.toList l[k].hs.data.toList = x1 at *
      generalize seL9 L0 l[k].nm.data.toList l[k].hs.data.toList = L1 at *
      generalize reE9 L0 l[k].nm.data.toList l[k].hs.data.toList = x2 at *
      generalize reL9 L0 l[k].nm.data.toList l[k].hs.data.toList = L2 at *
      generalize hasE L0 l[k].nm.data.toList = x3 at *
      generalize delE L0 l[k].nm.data.toList = L3 at *
      generalize l[k].kd = kd at *
      generalize l[k].nm = anm at *
      generalize l[k].hs = ahs at *
      obtain ⟨r, hr⟩ : ∃ r, r = kd % 4 := ⟨_, rfl⟩
      have hrem : (kd : Int).tmod 4 = (r : Int) := by rw [hr]; rfl
      have hr4 : r < 4 := by omega
      clear hr
      by_cases r2 : r = 2
      · subst r2
        clear HC HC2 HLN1 HLN2
        go_wp2_with fail
        with_reducible refine HC3.out.mono ?_
        rintro e w5 ⟨rfl, ho, _⟩
        have HO5 := Lib.hid ho
        have HLK := HLN3
        clear ho HC3
        obtain ⟨L, hL⟩ : ∃ L, L = L3 := ⟨_, rfl⟩
        subst hL
        clear HLN3
        have hof := HO5.out.few
        have hor := HO5.out.rise
        have hoa := HO5.out.all
        obtain ⟨M, hmir⟩ := HO5.out.mir
        have hb6 := below_alloc (Below.refl w5.heap.size w5) (.map #[] 0)
        have HB56 := Lib.hid hb6
        have HO6 := Lib.hid (HO5.out.later hb6)
        have hcn := cnt9_new w5
        have HCN := Lib.hid hcn
        have HW5 := Lib.hid (Nat.le_refl w5.heap.size)
        have hpr := HO6.out.pairs100
        have HPR := Lib.hid hpr
        clear hb6 hpr hcn
        have hmm := @run_makeMap Tryd.prog
        go_wp2_with fail
        have hwz : w5.heap.size < (w5.alloc (.map #[] 0)).heap.size := by simp
        generalize hS : w5.heap.size = S at *
        have HSS := Lib.hid hS
        generalize w5.alloc (.map #[] 0) = w6 at *
        clear hmm hS
        with_reducible refine HPR.out.mono ?_
        rintro e w7 ⟨v, rfl, hp, hb⟩
        have hrow := Row9.of_own hp
        obtain ⟨A7, c7, rfl⟩ := hrow.shape
        have HRW := Lib.hid hrow
        have HB57 : Hid (Below w5.heap.size w5 w7) := below_next (by rw [HSS.out]; exact HB56.out) hb
        have hcn7 := HCN.out.later hb
        have HCN7 := Lib.hid hcn7
        have HS7 := Lib.hid hcn7.lt
        have HSM := Lib.hid hcn7.is
        clear hp hb hrow hcn7 HPR HCN HO6 hwz
        obtain ⟨m, hm⟩ : ∃ m, m = L.length := ⟨_, rfl⟩
        rw [← hm]
        have HMM := Lib.hid hm
        have hm100 : m ≤ 100 := by rw [hm]; exact hof
        clear hm hof
        go_wp2
        go_loopg [58] m (fun gg s58 wr => ∃ i : Nat, i ≤ m ∧ m - i ≤ gg ∧ s58 = .int .i64 i ∧ Hid (Turns (fun b => b = S) w7 wr) ∧ Hid (∃ z, Cnt9 wr S i z ∧ ∀ j (h : j < L.length), i ≤ j → z L[j].2 = 0))
        case atStart => exact ⟨0, Nat.zero_le _, by omega, rfl, Turns.refl _ _, _, HCN7.out, fun _ _ _ => rfl⟩
        case round =>
          obtain ⟨i, hi, hgi, rfl, HT, HN⟩ := hrel
          obtain ⟨wi, hwi⟩ : ∃ wi, wi = wr := ⟨_, rfl⟩
          subst hwi
          have hkeep : Keeps9 w7 wi := keeps_of_map9 HSM.out HT.out
          have hrw := HRW.out.keeps hkeep
          have HOi : Hid (Own9 w2 wi B L) := HO5.out.turns9 HB57.out HT.out (by rw [HSS.out]; exact Nat.le_refl _)
          have HRWi := Lib.hid hrw
          clear hkeep
          by_cases hlt2 : i < m
          · have hltz2 : (i : Int) < (m : Int) := by omega
            have hil : i < L.length := HMM.out ▸ hlt2
            obtain ⟨Ax, cx, e1, hcs⟩ := hrw.pv
            injection e1 with e1 e1n e1c
            clear e1n e1c
            obtain ⟨g, e2, x0, x1⟩ := hcs i hil
            rw [e2] at e1
            subst e1
            have HPREV : Hid (∀ i', i = i' + 1 → ∃ s : ByteArray, wi.cell? ⟨g, i' * 2, none⟩ = some (.string s) ∧ Op.bytesLess s.toList (tx7 L[i].1).toList = true ∧ ¬ s.toList = (tx7 L[i].1).toList) := fun i' hi' => by
              have hil' : i' < L.length := by omega
              obtain ⟨g', e3, y0, _⟩ := hcs i' hil'
              rw [e2] at e3
              injection e3 with e3
              injection e3 with e3
              subst e3
              have hbf : bytesBefore L[i'].1 L[i].1 = true := List.pairwise_iff_getElem.1 hor i' i hil' hil (by omega)
              refine ⟨_, y0, ?_, fun e => before_ne hbf ?_⟩
              · rw [Lib.toList_data, Lib.toList_data, tx7_list, tx7_list, less9]; exact hbf
              · rw [Lib.toList_data, Lib.toList_data, tx7_list, tx7_list] at e; exact e
            have hmay := hoa _ (List.getElem_mem hil)
            have hfd : fold5 L[i].2 = L[i].2 := hmay.2.2
            have hma : mail5 L[i].2 = true := hmay.2.1
            have how : ownO L L[i].2 = L[i].1 := hmir.own (List.getElem_mem hil)
            have hho : hasO L L[i].2 = true := mem_hasO (List.getElem_mem hil)
            have hml20 := mail5_len hma
            obtain ⟨z, hcz, hz0⟩ := HN.out
            have hzi := hz0 i hil (Nat.le_refl _)
            have HFI : Hid (∀ (t : ByteArray) W, fold5 t.data.toList = L[i].2 → t.size ≤ 9223372036854775807 → Own9 w2 W B L → Calls Tryd.prog 18 #[.pointer (some ⟨B, 0, none⟩), .string t] W fun e w' => e = .returned (.tuple #[.string (tx7 L[i].1), .int .i64 0]) ∧ Below W.heap.size W w') := fun t W ht htz hW => by
              have := hW.find t htz (H5.out.later (below_next HB2.out hW.below))
              have e1 : fiE9 L t.data.toList = 0 := by
                unfold fiE9
                rw [mail5_fold (l := t.data.toList) (m := L[i].2) (by rw [ht, hfd]), hma, if_pos rfl, ht, hho, if_pos rfl]
              have e2 : fiS9 L t.data.toList = L[i].1 := by
                unfold fiS9
                rw [if_pos e1, ht, how]
              rw [e1, e2] at this
              exact this
            have HCZ : Hid (∀ W, Cnt9 W S i z → (Instr.lookup 47 (.map (some S)) (.string (tx7 L[i].2)) false).run Tryd.prog W = .ok (.int .i64 0) W ∧
                ∃ W', (Instr.mapUpdate 47 (.map (some S)) (.string (tx7 L[i].2)) (.int .i64 1)).run Tryd.prog W = .ok () W' ∧ W.mapTurned W' S ∧
                  (∀ q, (Instr.lookup 47 (.map (some S)) (.string (tx7 L[i].2)) false).run Tryd.prog (W'.drewN q) = .ok (.int .i64 1) (W'.drewN q)) ∧
                  ∀ q, ∃ z, Cnt9 (W'.drewN q) S (i + 1) z ∧ ∀ j (h : j < L.length), i + 1 ≤ j → z L[j].2 = 0) := fun W hW => by
              have hsz : (tx7 L[i].2).size ≤ maxLen := by rw [tx7_size]; exact Nat.le_trans hml20 (by decide)
              have h1 := hW.look (tx7 L[i].2) hsz
              rw [tx7_list, hzi] at h1
              obtain ⟨W', h2, h3, h4⟩ := hW.store (tx7 L[i].2) hsz 1 (by decide) (by omega)
              refine ⟨h1, W', h2, h4, fun q => ?_, fun q => ⟨_, h3.drewN q, fun j hj hij => ?_⟩⟩
              · have := (h3.drewN q).look (tx7 L[i].2) hsz
                rwa [tx7_list, if_pos rfl] at this
              · rw [tx7_list, if_neg]
                · exact hz0 j hj (by omega)
                · intro e
                  have h1 : (L[j].1, L[i].2) ∈ L := by
                    have : (L[j].1, L[j].2) ∈ L := List.getElem_mem hj
                    rwa [e] at this
                  have h2 := hmir.one h1 (List.getElem_mem hil)
                  have h3 : bytesBefore L[i].1 L[j].1 = true := List.pairwise_iff_getElem.1 hor i j hil hj (by omega)
                  exact before_ne h3 h2.symm
            have hfz : (tx7 L[i].2).data.toList = L[i].2 := tx7_list _
            have HFZ : Hid (∀ j < (tx7 L[i].2).size, foldC ((tx7 L[i].2).data.toList.getD j 0) = (tx7 L[i].2).data.toList.getD j 0) := fun j hj => by
              rw [tx7_size] at hj
              rw [tx7_list]
              have h1 : (fold5 L[i].2)[j]? = some (L[i].2[j]'hj) := by rw [hfd]; exact List.getElem?_eq_getElem hj
              unfold fold5 at h1
              rw [List.getElem?_map, List.getElem?_eq_getElem hj] at h1
              simp only [Option.map_some, Option.some.injEq] at h1
              rw [List.getD_eq_getElem?_getD, List.getElem?_eq_getElem hj]
              exact h1
            have HFD : Hid (∀ t : ByteArray, t.data.toList.length = (tx7 L[i].2).size → (∀ j < (tx7 L[i].2).size, foldC (t.data.toList.getD j 0) = (tx7 L[i].2).data.toList.getD j 0) → fold5 t.data.toList = L[i].2) := fun t h1 h2 => by
              rw [← tx7_list L[i].2]
              unfold fold5
              apply List.ext_getElem (by rw [List.length_map, h1, size_list])
              intro j hj1 hj2
              have hj : j < (tx7 L[i].2).size := by rw [← size_list]; exact hj2
              have := h2 j hj
              rw [List.length_map] at hj1
              rw [List.getD_eq_getElem?_getD, List.getElem?_eq_getElem hj1, List.getD_eq_getElem?_getD, List.getElem?_eq_getElem hj2] at this
              rw [List.getElem_map]
              exact this
            have HCW := Lib.hid hcz
            have hmlz : (tx7 L[i].2).size ≤ 20 := by rw [tx7_size]; exact hml20
            clear hcs hz0 hzi hmay hfd hma how hho hml20 hcz hrw hfz e2
            generalize tx7 L[i].1 = nm at *
            generalize tx7 L[i].2 = ml at *
            have hcv := run_bytes_of_string (P := Tryd.prog) (wi.alloc (.cells #[.string nm, .string ml] 49)) 9 50 5 ml Tryd.underlying9 Tryd.underlying50 Tryd.underlying5
            have hro := row_new (wi.alloc (.cells #[.string nm, .string ml] 49)).drew ml (grownCap (wi.alloc (.cells #[.string nm, .string ml] 49)) ml.size 0 5) 5
            generalize grownCap (wi.alloc (.cells #[.string nm, .string ml] 49)) ml.size 0 5 = cap at hcv hro
            have hbp : Below wi.heap.size wi (wi.alloc (.cells #[.string nm, .string ml] 49)) := below_alloc (Below.refl _ _) _
            have hb2 := below_alloc (below_drew (Below.refl (wi.alloc (.cells #[.string nm, .string ml] 49)).heap.size (wi.alloc (.cells #[.string nm, .string ml] 49)))) (.cells (bytesRow ml cap) 5 ((bytesRow ml cap).size, (bytesRow ml cap).size + 1))
            have q0 : (wi.alloc (.cells #[.string nm, .string ml] 49)).cell? ⟨wi.heap.size, 0, none⟩ = some (.string nm) := by rw [World.cell?_alloc_at _ _ _ _ rfl]; rfl
            have q1 : (wi.alloc (.cells #[.string nm, .string ml] 49)).cell? ⟨wi.heap.size, 1, none⟩ = some (.string ml) := by rw [World.cell?_alloc_at _ _ _ _ rfl]; rfl
            have hlp : wi.heap.size < (wi.alloc (.cells #[.string nm, .string ml] 49)).heap.size := by simp
            have q0' := (hb2.cell (p := ⟨wi.heap.size, 0, none⟩) hlp).trans q0
            have q1' := (hb2.cell (p := ⟨wi.heap.size, 1, none⟩) hlp).trans q1
            have hb3 := below_next hbp hb2
            have hsz2 : wi.heap.size + 1 < ((wi.alloc (.cells #[.string nm, .string ml] 49)).drew.alloc (.cells (bytesRow ml cap) 5 ((bytesRow ml cap).size, (bytesRow ml cap).size + 1))).heap.size := by simp
            have hdz : (wi.alloc (.cells #[.string nm, .string ml] 49)).drew.heap.size = wi.heap.size + 1 := by simp
            have haz : (wi.alloc (.cells #[.string nm, .string ml] 49)).heap.size = wi.heap.size + 1 := by simp
            rw [hdz] at hro
            rw [haz] at hcv
            clear hb2 hbp hlp hdz haz q0 q1
            generalize (wi.alloc (.cells #[.string nm, .string ml] 49)).drew.alloc (.cells (bytesRow ml cap) 5 ((bytesRow ml cap).size, (bytesRow ml cap).size + 1)) = w8 at *
            have HRO := Lib.hid hro
            have HQ0 := Lib.hid q0'
            have HQ1 := Lib.hid q1'
            have HB3 := Lib.hid hb3
            obtain ⟨P0, hP0⟩ : ∃ P0, P0 = wi.heap.size := ⟨_, rfl⟩
            obtain ⟨R, hR⟩ : ∃ R, R = wi.heap.size + 1 := ⟨_, rfl⟩
            rw [← hR] at HRO
            rw [← hP0] at HQ0 HQ1
            have HPP := Lib.hid hP0
            have HRR := Lib.hid hR
            have HZ8 : Hid (R < w8.heap.size) := by show _ < _; rw [hR]; exact hsz2
            clear hro q0' q1' hb3 hsz2 hP0 hR
            generalize hf0 : (fun j => ml.data.toList.getD j 0) = f0 at *
            have HF0 := Lib.hid hf0
            clear hf0
            obtain ⟨mz, hmz⟩ : ∃ mz, mz = ml.size := ⟨_, rfl⟩
            rw [← hmz] at hcv hmlz HRO
            have HMZ := Lib.hid hmz
            clear hmz
            go_wp2
            clear hcv x0 x1
            have hr1 := HRR.out
            have hp1' := HPP.out
            rw [← hr1, ← hp1']
            clear hr1 hp1'
            go_loopg [68] mz (fun gg s68 wr => ∃ k : Nat, k ≤ mz ∧ mz - k ≤ gg ∧ s68 = .int .i64 k ∧ Hid (Row5 wr R mz (fun j => if j < k then upC9 (i + j) (f0 j) else f0 j)) ∧ Hid (Turns (fun b => b = R) w8 wr))
            case atStart => exact ⟨0, Nat.zero_le _, by omega, rfl, by simpa using HRO, Turns.refl _ _⟩
            case round =>
              obtain ⟨k2, hk2, hg2, rfl, HR1, HT8⟩ := hrel
              by_cases hlt3 : k2 < mz
              · have hltz3 : (k2 : Int) < (mz : Int) := by omega
                have hcell := (HR1.out.2 k2 hlt3).1
                have hfz := (HR1.out.2 k2 hlt3).2
                simp only [Nat.lt_irrefl, if_false] at hcell
                have HYI : Hid (∀ j, (if j = k2 then upC9 (i + k2) (f0 k2) else (if j < k2 then upC9 (i + j) (f0 j) else f0 j)) = (if j < k2 + 1 then upC9 (i + j) (f0 j) else f0 j)) := fun j => by
                  by_cases h1 : j = k2
                  · subst h1; simp
                  · by_cases h2 : j < k2
                    · simp [h1, h2, Nat.lt_succ_of_lt h2]
                    · have : ¬ j < k2 + 1 := by omega
                      simp [h1, h2, this]
                by_cases hup : 97 ≤ (f0 k2).toNat ∧ (f0 k2).toNat ≤ 122
                · by_cases hev : (i + k2) % 2 = 0
                  · obtain ⟨u1, u2⟩ := upC9_hit hup.1 hup.2 hev
                    have HY : Hid (Row5 (wr.setCell ⟨R, k2, none⟩ (.int .u8 ((f0 k2).toNat - 97 + 65))) R mz (fun j => if j < k2 + 1 then upC9 (i + j) (f0 j) else f0 j)) := (HR1.out.set k2 hlt3 _ (upC9 (i + k2) (f0 k2)) u1).like HYI.out
                    have HTY : Hid (∀ v, Turns (fun b => b = R) w8 (wr.setCell ⟨R, k2, none⟩ v)) := fun v => HT8.out.setCell (p := ⟨R, k2, none⟩) (fun _ => rfl) v
                    have hrm : ((i : Int) + (k2 : Int)).tmod 2 = 0 := by
                      have : ((i : Int) + (k2 : Int)).tmod 2 = (((i + k2) % 2 : Nat) : Int) := rfl
                      rw [this, hev]; rfl
                    clear u1 u2 HYI
                    generalize (f0 k2).toNat = x at *
                    have y1 : (97 : Int) ≤ (x : Int) := by omega
                    have y2 : (x : Int) ≤ 122 := by omega
                    have y3 : decide ((x : Int) ≥ 97) = true := decide_eq_true y1
                    have y4 : decide ((x : Int) ≤ 122) = true := decide_eq_true y2
                    have z1 : IntKind.u8.wrap ((x : Int) - 97) = (x : Int) - 97 := by unfold IntKind.wrap; simp [IntKind.bits, IntKind.signed]; omega
                    have z2 : IntKind.u8.wrap ((x : Int) - 97 + 65) = (x : Int) - 97 + 65 := by unfold IntKind.wrap; simp [IntKind.bits, IntKind.signed]; omega
                    go_wp2
                    go_roundg (mz - (k2 + 1))
                    case measure => omega
                    case rel => exact ⟨k2 + 1, by omega, by omega, by go_num, HY, HTY.out _⟩
                  · have hum := upC9_odd (f0 k2) hev
                    have HY : Hid (Row5 wr R mz (fun j => if j < k2 + 1 then upC9 (i + j) (f0 j) else f0 j)) := HR1.out.like fun j => by
                      have h9 := HYI.out j
                      rw [hum] at h9
                      rw [← h9]
                      by_cases h1 : j = k2
                      · subst h1; simp
                      · simp [h1]
                    have hrm : ((i : Int) + (k2 : Int)).tmod 2 = 1 := by
                      have : ((i : Int) + (k2 : Int)).tmod 2 = (((i + k2) % 2 : Nat) : Int) := rfl
                      rw [this, show (i + k2) % 2 = 1 by omega]; rfl
                    clear hum HYI
                    generalize (f0 k2).toNat = x at *
                    have y1 : (97 : Int) ≤ (x : Int) := by omega
                    have y2 : (x : Int) ≤ 122 := by omega
                    have y3 : decide ((x : Int) ≥ 97) = true := decide_eq_true y1
                    have y4 : decide ((x : Int) ≤ 122) = true := decide_eq_true y2
                    go_wp2
                    go_roundg (mz - (k2 + 1))
                    case measure => omega
                    case rel => exact ⟨k2 + 1, by omega, by omega, by go_num, HY, HT8⟩
                · have hum := upC9_miss (i + k2) (f0 k2) hup
                  have HY : Hid (Row5 wr R mz (fun j => if j < k2 + 1 then upC9 (i + j) (f0 j) else f0 j)) := HR1.out.like fun j => by
                    have h9 := HYI.out j
                    rw [hum] at h9
                    rw [← h9]
                    by_cases h1 : j = k2
                    · subst h1; simp
                    · simp [h1]
                  clear hum HYI
                  generalize (f0 k2).toNat = x at *
                  by_cases y1 : (97 : Int) ≤ (x : Int)
                  · have y2 : ¬ (x : Int) ≤ 122 := by omega
                    have y3 : decide ((x : Int) ≥ 97) = true := decide_eq_true y1
                    have y4 : decide ((x : Int) ≤ 122) = false := decide_eq_false y2
                    go_wp2
                    go_roundg (mz - (k2 + 1))
                    case measure => omega
                    case rel => exact ⟨k2 + 1, by omega, by omega, by go_num, HY, HT8⟩
                  · have y3 : decide ((x : Int) ≥ 97) = false := decide_eq_false y1
                    go_wp2
                    go_roundg (mz - (k2 + 1))
                    case measure => omega
                    case rel => exact ⟨k2 + 1, by omega, by omega, by go_num, HY, HT8⟩
              · have hltz3 : ¬ (k2 : Int) < (mz : Int) := by omega
                obtain rfl : k2 = mz := by omega
                have hst := row_string (cap := cap) HR1.out
                have htl : (ByteArray.mk ((List.range k2).map fun j => if j < k2 then upC9 (i + j) (f0 j) else f0 j).toArray).data.toList.length = ml.size := by rw [← HMZ.out]; simp
                have htf := HFD.out _ htl (fun j hj => by
                  rw [← HMZ.out] at hj
                  have h1 : (ByteArray.mk ((List.range k2).map fun j => if j < k2 then upC9 (i + j) (f0 j) else f0 j).toArray).data.toList.getD j 0 = upC9 (i + j) (f0 j) := by
                    rw [List.getD_eq_getElem?_getD, List.getElem?_eq_getElem (by simpa using hj)]
                    simp [hj]
                  rw [h1, upC9_fold, ← HF0.out]
                  exact HFZ.out j (by rw [← HMZ.out]; exact hj))
                have htz : (ByteArray.mk ((List.range k2).map fun j => if j < k2 then upC9 (i + j) (f0 j) else f0 j).toArray).size ≤ 9223372036854775807 := by rw [← size_list, htl, ← HMZ.out]; omega
                have hbw : Below wi.heap.size wi wr := below_r9 HB3.out HT8.out (by have := HRR.out; omega)
                have hq0 : wr.cell? ⟨P0, 0, none⟩ = some (.string nm) := (HT8.out.cell (p := ⟨P0, 0, none⟩) (by have h1 := HPP.out; have h2 := HRR.out; have h3 := HZ8.out; show P0 < _; omega) (by have h1 := HPP.out; have h2 := HRR.out; show ¬ P0 = R; omega)).trans HQ0.out
                have hq1 : wr.cell? ⟨P0, 1, none⟩ = some (.string ml) := (HT8.out.cell (p := ⟨P0, 1, none⟩) (by have h1 := HPP.out; have h2 := HRR.out; have h3 := HZ8.out; show P0 < _; omega) (by have h1 := HPP.out; have h2 := HRR.out; show ¬ P0 = R; omega)).trans HQ1.out
                have HFF := Lib.hid (HFI.out _ wr htf htz (HOi.out.later hbw))
                have HBW := Lib.hid hbw
                have HX0 := Lib.hid hq0
                have HX1 := Lib.hid hq1
                have HPL : Hid (P0 < wr.heap.size) := World.block_lt_of_cell? wr _ hq0
                clear htl htf htz hbw hq0 hq1 HFI HFZ HFD HF0 HRO HR1
                generalize (ByteArray.mk ((List.range k2).map fun j => if j < k2 then upC9 (i + j) (f0 j) else f0 j).toArray) = t at *
                go_wp2_with fail
                clear hst
                with_reducible refine HFF.out.mono ?_
                rintro e w9 ⟨rfl, hb⟩
                have hbw9 := below_next HBW.out hb
                have hq1 := (hb.cell (p := ⟨P0, 1, none⟩) HPL.out).trans HX1.out
                have hq0 := (hb.cell (p := ⟨P0, 0, none⟩) HPL.out).trans HX0.out
                have hP9 : P0 < w9.heap.size := Nat.lt_of_lt_of_le HPL.out hb.size
                obtain ⟨hl0, w5, hup5, hmt, hl5, hn5⟩ := HCZ.out w9 (HCW.out.later hbw9)
                have hPS : P0 ≠ S := fun e => by
                  have h1 := HCW.out.lt
                  have h2 := HPP.out
                  omega
                have hk5 : ∀ T fr c j, w9.heap[j]? = some (.cells c T fr) → j ≠ S := fun T fr c j h e => by
                  obtain ⟨es, clock, es', clock', h1, _⟩ := hmt
                  rw [e, h1] at h; cases h
                have hgc : ∀ (p : Addr), p.block ≠ S → w5.cell? p = w9.cell? p := fun p hp => World.cell?_of_block (turned_at9 hmt hp)
                have HP5 : Hid (w5.cell? ⟨P0, 0, none⟩ = some (.string nm) ∧ w5.cell? ⟨P0, 1, none⟩ = some (.string ml)) := ⟨(hgc _ hPS).trans hq0, (hgc _ hPS).trans hq1⟩
                have HL5 := Lib.hid hl5
                have HN5 := Lib.hid hn5
                have HT5 : Hid (∀ q, Turns (fun b => b = S) w7 (w5.drewN q)) := fun q => (((HT.out.next (Turns.of_below hbw9 (fun _ => False)) (fun _ _ f => f.elim))).grown hmt.grown (fun k e _ => by cases e; rfl)).drewN q
                have HPV5 : Hid (∀ i', i = i' + 1 → ∃ s : ByteArray, w5.cell? ⟨g, i' * 2, none⟩ = some (.string s) ∧ Op.bytesLess s.toList nm.toList = true ∧ ¬ s.toList = nm.toList) := fun i' hi' => by
                  obtain ⟨s, h1, h2, h3⟩ := HPREV.out i' hi'
                  have hgl := World.block_lt_of_cell? wi _ h1
                  refine ⟨s, ?_, h2, h3⟩
                  have h4 := (hbw9.cell (p := ⟨g, i' * 2, none⟩) hgl).trans h1
                  refine (hgc _ ?_).trans h4
                  intro e
                  obtain ⟨es, clock, es', clock', h5, _⟩ := hmt
                  have e' : g = S := e
                  rw [← e'] at h5
                  simp [World.cell?, h5] at h4
                have n1 : (nm.toList != nm.toList) = false := by simp
                have n2 : (nm.toList == nm.toList) = true := by simp
                clear hq0 hmt hbw9 hgc hk5 hPS hP9 hl5 hn5 hb HCZ HCW HPREV HX0 HX1 HBW HPL HFF HT8 HB3 HQ0 HQ1 HOi HRWi
                cases i with
                | zero =>
                  go_wp2
                  have hp0 := HP5.out.1
                  have hp1 := HP5.out.2
                  have hl5 := HL5.out
                  clear HPV5
                  go_quiet (fail)
                  go_wp2
                  go_roundg (m - (0 + 1))
                  case measure => omega
                  case rel => exact ⟨0 + 1, by omega, by omega, by go_num, HT5.out _, HN5.out _⟩
                | succ i' =>
                  obtain ⟨sp, hsc, hls, hns⟩ := HPV5.out i' rfl
                  have hne1 : (sp.toList == nm.toList) = false := by simpa using hns
                  have hiz : ((i' + 1 : Nat) : Int) - 1 = (i' : Int) := by omega
                  have hiz2 : ((i' : Int) + 1) - 1 = (i' : Int) := by omega
                  have hipos : (0 : Int) < (i' : Int) + 1 := by omega
                  have himz : (i' : Int) < (m : Int) := by omega
                  have hge : ∀ W, (binOp .geq 9 (.string sp) (.string nm)).run Tryd.prog W = .ok (.bool false) W := fun W => by rw [geq9, hls]; rfl
                  have hwr : IntKind.i64.wrap (i' : Int) = (i' : Int) := by unfold IntKind.wrap; simp [IntKind.bits, IntKind.signed]; omega
                  go_wp2
                  have hp0 := HP5.out.1
                  have hp1 := HP5.out.2
                  have hl5 := HL5.out
                  clear HPV5
                  go_quiet (fail)
                  go_wp2
                  go_roundg (m - ((i' + 1) + 1))
                  case measure => omega
                  case rel => exact ⟨(i' + 1) + 1, by omega, by omega, by go_num, HT5.out _, HN5.out _⟩
          · have hltz2 : ¬ (i : Int) < (m : Int) := by omega
            obtain rfl : i = m := by omega
            have HLN := Lib.hid HOi.out.len
            have hlm := HMM.out
            have HOz : Hid (∃ L, Own9 w2 wi B L ∧ L.length ≤ k + 1) := ⟨_, HOi.out, HLK.out⟩
            rw [← hlm] at HLN
            clear hrw HN hlm
            go_wp2_with fail
            with_reducible refine HLN.out.mono ?_
            rintro e w9 ⟨rfl, rfl⟩
            go_wp2
            go_roundg (n - (k + 1))
            case measure => omega
            case rel => exact ⟨k + 1, by omega, by omega, by go_num, HOz⟩
      by_cases r3 : r = 3
      · subst r3
        clear r2 HC HC3 HLN1 HLN3
        go_wp2_with fail
        with_reducible refine HC2.out.mono ?_
        rintro e w5 ⟨rfl, ho, _⟩
        have HO5 := Lib.hid ho
        have HLK := HLN2
        clear ho HC2
        obtain ⟨L, hL⟩ : ∃ L, L = L2 := ⟨_, rfl⟩
        subst hL
        clear HLN2
        have hof := HO5.out.few
        have hor := HO5.out.rise
        have hoa := HO5.out.all
        obtain ⟨M, hmir⟩ := HO5.out.mir
        have hb6 := below_alloc (Below.refl w5.heap.size w5) (.map #[] 0)
        have HB56 := Lib.hid hb6
        have HO6 := Lib.hid (HO5.out.later hb6)
        have hcn := cnt9_new w5
        have HCN := Lib.hid hcn
        have HW5 := Lib.hid (Nat.le_refl w5.heap.size)
        have hpr := HO6.out.pairs100
        have HPR := Lib.hid hpr
        clear hb6 hpr hcn
        have hmm := @run_makeMap Tryd.prog
        go_wp2_with fail
        have hwz : w5.heap.size < (w5.alloc (.map #[] 0)).heap.size := by simp
        generalize hS : w5.heap.size = S at *
        have HSS := Lib.hid hS
        generalize w5.alloc (.map #[] 0) = w6 at *
        clear hmm hS
        with_reducible refine HPR.out.mono ?_
        rintro e w7 ⟨v, rfl, hp, hb⟩
        have hrow := Row9.of_own hp
        obtain ⟨A7, c7, rfl⟩ := hrow.shape
        have HRW := Lib.hid hrow
        have HB57 : Hid (Below w5.heap.size w5 w7) := below_next (by rw [HSS.out]; exact HB56.out) hb
        have hcn7 := HCN.out.later hb
        have HCN7 := Lib.hid hcn7
        have HS7 := Lib.hid hcn7.lt
        have HSM := Lib.hid hcn7.is
        clear hp hb hrow hcn7 HPR HCN HO6 hwz
        obtain ⟨m, hm⟩ : ∃ m, m = L.length := ⟨_, rfl⟩
        rw [← hm]
        have HMM := Lib.hid hm
        have hm100 : m ≤ 100 := by rw [hm]; exact hof
        clear hm hof
        go_wp2
        go_loopg [58] m (fun gg s58 wr => ∃ i : Nat, i ≤ m ∧ m - i ≤ gg ∧ s58 = .int .i64 i ∧ Hid (Turns (fun b => b = S) w7 wr) ∧ Hid (∃ z, Cnt9 wr S i z ∧ ∀ j (h : j < L.length), i ≤ j → z L[j].2 = 0))
        case atStart => exact ⟨0, Nat.zero_le _, by omega, rfl, Turns.refl _ _, _, HCN7.out, fun _ _ _ => rfl⟩
        case round =>
          obtain ⟨i, hi, hgi, rfl, HT, HN⟩ := hrel
          obtain ⟨wi, hwi⟩ : ∃ wi, wi = wr := ⟨_, rfl⟩
          subst hwi
          have hkeep : Keeps9 w7 wi := keeps_of_map9 HSM.out HT.out
          have hrw := HRW.out.keeps hkeep
          have HOi : Hid (Own9 w2 wi B L) := HO5.out.turns9 HB57.out HT.out (by rw [HSS.out]; exact Nat.le_refl _)
          have HRWi := Lib.hid hrw
          clear hkeep
          by_cases hlt2 : i < m
          · have hltz2 : (i : Int) < (m : Int) := by omega
            have hil : i < L.length := HMM.out ▸ hlt2
            obtain ⟨Ax, cx, e1, hcs⟩ := hrw.pv
            injection e1 with e1 e1n e1c
            clear e1n e1c
            obtain ⟨g, e2, x0, x1⟩ := hcs i hil
            rw [e2] at e1
            subst e1
            have HPREV : Hid (∀ i', i = i' + 1 → ∃ s : ByteArray, wi.cell? ⟨g, i' * 2, none⟩ = some (.string s) ∧ Op.bytesLess s.toList (tx7 L[i].1).toList = true ∧ ¬ s.toList = (tx7 L[i].1).toList) := fun i' hi' => by
              have hil' : i' < L.length := by omega
              obtain ⟨g', e3, y0, _⟩ := hcs i' hil'
              rw [e2] at e3
              injection e3 with e3
              injection e3 with e3
              subst e3
              have hbf : bytesBefore L[i'].1 L[i].1 = true := List.pairwise_iff_getElem.1 hor i' i hil' hil (by omega)
              refine ⟨_, y0, ?_, fun e => before_ne hbf ?_⟩
              · rw [Lib.toList_data, Lib.toList_data, tx7_list, tx7_list, less9]; exact hbf
              · rw [Lib.toList_data, Lib.toList_data, tx7_list, tx7_list] at e; exact e
            have hmay := hoa _ (List.getElem_mem hil)
            have hfd : fold5 L[i].2 = L[i].2 := hmay.2.2
            have hma : mail5 L[i].2 = true := hmay.2.1
            have how : ownO L L[i].2 = L[i].1 := hmir.own (List.getElem_mem hil)
            have hho : hasO L L[i].2 = true := mem_hasO (List.getElem_mem hil)
            have hml20 := mail5_len hma
            obtain ⟨z, hcz, hz0⟩ := HN.out
            have hzi := hz0 i hil (Nat.le_refl _)
            have HFI : Hid (∀ (t : ByteArray) W, fold5 t.data.toList = L[i].2 → t.size ≤ 9223372036854775807 → Own9 w2 W B L → Calls Tryd.prog 18 #[.pointer (some ⟨B, 0, none⟩), .string t] W fun e w' => e = .returned (.tuple #[.string (tx7 L[i].1), .int .i64 0]) ∧ Below W.heap.size W w') := fun t W ht htz hW => by
              have := hW.find t htz (H5.out.later (below_next HB2.out hW.below))
              have e1 : fiE9 L t.data.toList = 0 := by
                unfold fiE9
                rw [mail5_fold (l := t.data.toList) (m := L[i].2) (by rw [ht, hfd]), hma, if_pos rfl, ht, hho, if_pos rfl]
              have e2 : fiS9 L t.data.toList = L[i].1 := by
                unfold fiS9
                rw [if_pos e1, ht, how]
              rw [e1, e2] at this
              exact this
            have HCZ : Hid (∀ W, Cnt9 W S i z → (Instr.lookup 47 (.map (some S)) (.string (tx7 L[i].2)) false).run Tryd.prog W = .ok (.int .i64 0) W ∧
                ∃ W', (Instr.mapUpdate 47 (.map (some S)) (.string (tx7 L[i].2)) (.int .i64 1)).run Tryd.prog W = .ok () W' ∧ W.mapTurned W' S ∧
                  (∀ q, (Instr.lookup 47 (.map (some S)) (.string (tx7 L[i].2)) false).run Tryd.prog (W'.drewN q) = .ok (.int .i64 1) (W'.drewN q)) ∧
                  ∀ q, ∃ z, Cnt9 (W'.drewN q) S (i + 1) z ∧ ∀ j (h : j < L.length), i + 1 ≤ j → z L[j].2 = 0) := fun W hW => by
              have hsz : (tx7 L[i].2).size ≤ maxLen := by rw [tx7_size]; exact Nat.le_trans hml20 (by decide)
              have h1 := hW.look (tx7 L[i].2) hsz
              rw [tx7_list, hzi] at h1
              obtain ⟨W', h2, h3, h4⟩ := hW.store (tx7 L[i].2) hsz 1 (by decide) (by omega)
              refine ⟨h1, W', h2, h4, fun q => ?_, fun q => ⟨_, h3.drewN q, fun j hj hij => ?_⟩⟩
              · have := (h3.drewN q).look (tx7 L[i].2) hsz
                rwa [tx7_list, if_pos rfl] at this
              · rw [tx7_list, if_neg]
                · exact hz0 j hj (by omega)
                · intro e
                  have h1 : (L[j].1, L[i].2) ∈ L := by
                    have : (L[j].1, L[j].2) ∈ L := List.getElem_mem hj
                    rwa [e] at this
                  have h2 := hmir.one h1 (List.getElem_mem hil)
                  have h3 : bytesBefore L[i].1 L[j].1 = true := List.pairwise_iff_getElem.1 hor i j hil hj (by omega)
                  exact before_ne h3 h2.symm
            have hfz : (tx7 L[i].2).data.toList = L[i].2 := tx7_list _
            have HFZ : Hid (∀ j < (tx7 L[i].2).size, foldC ((tx7 L[i].2).data.toList.getD j 0) = (tx7 L[i].2).data.toList.getD j 0) := fun j hj => by
              rw [tx7_size] at hj
              rw [tx7_list]
              have h1 : (fold5 L[i].2)[j]? = some (L[i].2[j]'hj) := by rw [hfd]; exact List.getElem?_eq_getElem hj
              unfold fold5 at h1
              rw [List.getElem?_map, List.getElem?_eq_getElem hj] at h1
              simp only [Option.map_some, Option.some.injEq] at h1
              rw [List.getD_eq_getElem?_getD, List.getElem?_eq_getElem hj]
              exact h1
            have HFD : Hid (∀ t : ByteArray, t.data.toList.length = (tx7 L[i].2).size → (∀ j < (tx7 L[i].2).size, foldC (t.data.toList.getD j 0) = (tx7 L[i].2).data.toList.getD j 0) → fold5 t.data.toList = L[i].2) := fun t h1 h2 => by
              rw [← tx7_list L[i].2]
              unfold fold5
              apply List.ext_getElem (by rw [List.length_map, h1, size_list])
              intro j hj1 hj2
              have hj : j < (tx7 L[i].2).size := by rw [← size_list]; exact hj2
              have := h2 j hj
              rw [List.length_map] at hj1
              rw [List.getD_eq_getElem?_getD, List.getElem?_eq_getElem hj1, List.getD_eq_getElem?_getD, List.getElem?_eq_getElem hj2] at this
              rw [List.getElem_map]
              exact this
            have HCW := Lib.hid hcz
            have hmlz : (tx7 L[i].2).size ≤ 20 := by rw [tx7_size]; exact hml20
            clear hcs hz0 hzi hmay hfd hma how hho hml20 hcz hrw hfz e2
            generalize tx7 L[i].1 = nm at *
            generalize tx7 L[i].2 = ml at *
            have hcv := run_bytes_of_string (P := Tryd.prog) (wi.alloc (.cells #[.string nm, .string ml] 49)) 9 50 5 ml Tryd.underlying9 Tryd.underlying50 Tryd.underlying5
            have hro := row_new (wi.alloc (.cells #[.string nm, .string ml] 49)).drew ml (grownCap (wi.alloc (.cells #[.string nm, .string ml] 49)) ml.size 0 5) 5
            generalize grownCap (wi.alloc (.cells #[.string nm, .string ml] 49)) ml.size 0 5 = cap at hcv hro
            have hbp : Below wi.heap.size wi (wi.alloc (.cells #[.string nm, .string ml] 49)) := below_alloc (Below.refl _ _) _
            have hb2 := below_alloc (below_drew (Below.refl (wi.alloc (.cells #[.string nm, .string ml] 49)).heap.size (wi.alloc (.cells #[.string nm, .string ml] 49)))) (.cells (bytesRow ml cap) 5 ((bytesRow ml cap).size, (bytesRow ml cap).size + 1))
            have q0 : (wi.alloc (.cells #[.string nm, .string ml] 49)).cell? ⟨wi.heap.size, 0, none⟩ = some (.string nm) := by rw [World.cell?_alloc_at _ _ _ _ rfl]; rfl
            have q1 : (wi.alloc (.cells #[.string nm, .string ml] 49)).cell? ⟨wi.heap.size, 1, none⟩ = some (.string ml) := by rw [World.cell?_alloc_at _ _ _ _ rfl]; rfl
            have hlp : wi.heap.size < (wi.alloc (.cells #[.string nm, .string ml] 49)).heap.size := by simp
            have q0' := (hb2.cell (p := ⟨wi.heap.size, 0, none⟩) hlp).trans q0
            have q1' := (hb2.cell (p := ⟨wi.heap.size, 1, none⟩) hlp).trans q1
            have hb3 := below_next hbp hb2
            have hsz2 : wi.heap.size + 1 < ((wi.alloc (.cells #[.string nm, .string ml] 49)).drew.alloc (.cells (bytesRow ml cap) 5 ((bytesRow ml cap).size, (bytesRow ml cap).size + 1))).heap.size := by simp
            have hdz : (wi.alloc (.cells #[.string nm, .string ml] 49)).drew.heap.size = wi.heap.size + 1 := by simp
            have haz : (wi.alloc (.cells #[.string nm, .string ml] 49)).heap.size = wi.heap.size + 1 := by simp
            rw [hdz] at hro
            rw [haz] at hcv
            clear hb2 hbp hlp hdz haz q0 q1
            generalize (wi.alloc (.cells #[.string nm, .string ml] 49)).drew.alloc (.cells (bytesRow ml cap) 5 ((bytesRow ml cap).size, (bytesRow ml cap).size + 1)) = w8 at *
            have HRO := Lib.hid hro
            have HQ0 := Lib.hid q0'
            have HQ1 := Lib.hid q1'
            have HB3 := Lib.hid hb3
            obtain ⟨P0, hP0⟩ : ∃ P0, P0 = wi.heap.size := ⟨_, rfl⟩
            obtain ⟨R, hR⟩ : ∃ R, R = wi.heap.size + 1 := ⟨_, rfl⟩
            rw [← hR] at HRO
            rw [← hP0] at HQ0 HQ1
            have HPP := Lib.hid hP0
            have HRR := Lib.hid hR
            have HZ8 : Hid (R < w8.heap.size) := by show _ < _; rw [hR]; exact hsz2
            clear hro q0' q1' hb3 hsz2 hP0 hR
            generalize hf0 : (fun j => ml.data.toList.getD j 0) = f0 at *
            have HF0 := Lib.hid hf0
            clear hf0
            obtain ⟨mz, hmz⟩ : ∃ mz, mz = ml.size := ⟨_, rfl⟩
            rw [← hmz] at hcv hmlz HRO
            have HMZ := Lib.hid hmz
            clear hmz
            go_wp2
            clear hcv x0 x1
            have hr1 := HRR.out
            have hp1' := HPP.out
            rw [← hr1, ← hp1']
            clear hr1 hp1'
            go_loopg [68] mz (fun gg s68 wr => ∃ k : Nat, k ≤ mz ∧ mz - k ≤ gg ∧ s68 = .int .i64 k ∧ Hid (Row5 wr R mz (fun j => if j < k then upC9 (i + j) (f0 j) else f0 j)) ∧ Hid (Turns (fun b => b = R) w8 wr))
            case atStart => exact ⟨0, Nat.zero_le _, by omega, rfl, by simpa using HRO, Turns.refl _ _⟩
            case round =>
              obtain ⟨k2, hk2, hg2, rfl, HR1, HT8⟩ := hrel
              by_cases hlt3 : k2 < mz
              · have hltz3 : (k2 : Int) < (mz : Int) := by omega
                have hcell := (HR1.out.2 k2 hlt3).1
                have hfz := (HR1.out.2 k2 hlt3).2
                simp only [Nat.lt_irrefl, if_false] at hcell
                have HYI : Hid (∀ j, (if j = k2 then upC9 (i + k2) (f0 k2) else (if j < k2 then upC9 (i + j) (f0 j) else f0 j)) = (if j < k2 + 1 then upC9 (i + j) (f0 j) else f0 j)) := fun j => by
                  by_cases h1 : j = k2
                  · subst h1; simp
                  · by_cases h2 : j < k2
                    · simp [h1, h2, Nat.lt_succ_of_lt h2]
                    · have : ¬ j < k2 + 1 := by omega
                      simp [h1, h2, this]
                by_cases hup : 97 ≤ (f0 k2).toNat ∧ (f0 k2).toNat ≤ 122
                · by_cases hev : (i + k2) % 2 = 0
                  · obtain ⟨u1, u2⟩ := upC9_hit hup.1 hup.2 hev
                    have HY : Hid (Row5 (wr.setCell ⟨R, k2, none⟩ (.int .u8 ((f0 k2).toNat - 97 + 65))) R mz (fun j => if j < k2 + 1 then upC9 (i + j) (f0 j) else f0 j)) := (HR1.out.set k2 hlt3 _ (upC9 (i + k2) (f0 k2)) u1).like HYI.out
                    have HTY : Hid (∀ v, Turns (fun b => b = R) w8 (wr.setCell ⟨R, k2, none⟩ v)) := fun v => HT8.out.setCell (p := ⟨R, k2, none⟩) (fun _ => rfl) v
                    have hrm : ((i : Int) + (k2 : Int)).tmod 2 = 0 := by
                      have : ((i : Int) + (k2 : Int)).tmod 2 = (((i + k2) % 2 : Nat) : Int) := rfl
                      rw [this, hev]; rfl
                    clear u1 u2 HYI
                    generalize (f0 k2).toNat = x at *
                    have y1 : (97 : Int) ≤ (x : Int) := by omega
                    have y2 : (x : Int) ≤ 122 := by omega
                    have y3 : decide ((x : Int) ≥ 97) = true := decide_eq_true y1
                    have y4 : decide ((x : Int) ≤ 122) = true := decide_eq_true y2
                    have z1 : IntKind.u8.wrap ((x : Int) - 97) = (x : Int) - 97 := by unfold IntKind.wrap; simp [IntKind.bits, IntKind.signed]; omega
                    have z2 : IntKind.u8.wrap ((x : Int) - 97 + 65) = (x : Int) - 97 + 65 := by unfold IntKind.wrap; simp [IntKind.bits, IntKind.signed]; omega
                    go_wp2
                    go_roundg (mz - (k2 + 1))
                    case measure => omega
                    case rel => exact ⟨k2 + 1, by omega, by omega, by go_num, HY, HTY.out _⟩
                  · have hum := upC9_odd (f0 k2) hev
                    have HY : Hid (Row5 wr R mz (fun j => if j < k2 + 1 then upC9 (i + j) (f0 j) else f0 j)) := HR1.out.like fun j => by
                      have h9 := HYI.out j
                      rw [hum] at h9
                      rw [← h9]
                      by_cases h1 : j = k2
                      · subst h1; simp
                      · simp [h1]
                    have hrm : ((i : Int) + (k2 : Int)).tmod 2 = 1 := by
                      have : ((i : Int) + (k2 : Int)).tmod 2 = (((i + k2) % 2 : Nat) : Int) := rfl
                      rw [this, show (i + k2) % 2 = 1 by omega]; rfl
                    clear hum HYI
                    generalize (f0 k2).toNat = x at *
                    have y1 : (97 : Int) ≤ (x : Int) := by omega
                    have y2 : (x : Int) ≤ 122 := by omega
                    have y3 : decide ((x : Int) ≥ 97) = true := decide_eq_true y1
                    have y4 : decide ((x : Int) ≤ 122) = true := decide_eq_true y2
                    go_wp2
                    go_roundg (mz - (k2 + 1))
                    case measure => omega
                    case rel => exact ⟨k2 + 1, by omega, by omega, by go_num, HY, HT8⟩
                · have hum := upC9_miss (i + k2) (f0 k2) hup
                  have HY : Hid (Row5 wr R mz (fun j => if j < k2 + 1 then upC9 (i + j) (f0 j) else f0 j)) := HR1.out.like fun j => by
                    have h9 := HYI.out j
                    rw [hum] at h9
                    rw [← h9]
                    by_cases h1 : j = k2
                    · subst h1; simp
                    · simp [h1]
                  clear hum HYI
                  generalize (f0 k2).toNat = x at *
                  by_cases y1 : (97 : Int) ≤ (x : Int)
                  · have y2 : ¬ (x : Int) ≤ 122 := by omega
                    have y3 : decide ((x : Int) ≥ 97) = true := decide_eq_true y1
                    have y4 : decide ((x : Int) ≤ 122) = false := decide_eq_false y2
                    go_wp2
                    go_roundg (mz - (k2 + 1))
                    case measure => omega
                    case rel => exact ⟨k2 + 1, by omega, by omega, by go_num, HY, HT8⟩
                  · have y3 : decide ((x : Int) ≥ 97) = false := decide_eq_false y1
                    go_wp2
                    go_roundg (mz - (k2 + 1))
                    case measure => omega
                    case rel => exact ⟨k2 + 1, by omega, by omega, by go_num, HY, HT8⟩
              · have hltz3 : ¬ (k2 : Int) < (mz : Int) := by omega
                obtain rfl : k2 = mz := by omega
                have hst := row_string (cap := cap) HR1.out
                have htl : (ByteArray.mk ((List.range k2).map fun j => if j < k2 then upC9 (i + j) (f0 j) else f0 j).toArray).data.toList.length = ml.size := by rw [← HMZ.out]; simp
                have htf := HFD.out _ htl (fun j hj => by
                  rw [← HMZ.out] at hj
                  have h1 : (ByteArray.mk ((List.range k2).map fun j => if j < k2 then upC9 (i + j) (f0 j) else f0 j).toArray).data.toList.getD j 0 = upC9 (i + j) (f0 j) := by
                    rw [List.getD_eq_getElem?_getD, List.getElem?_eq_getElem (by simpa using hj)]
                    simp [hj]
                  rw [h1, upC9_fold, ← HF0.out]
                  exact HFZ.out j (by rw [← HMZ.out]; exact hj))
                have htz : (ByteArray.mk ((List.range k2).map fun j => if j < k2 then upC9 (i + j) (f0 j) else f0 j).toArray).size ≤ 9223372036854775807 := by rw [← size_list, htl, ← HMZ.out]; omega
                have hbw : Below wi.heap.size wi wr := below_r9 HB3.out HT8.out (by have := HRR.out; omega)
                have hq0 : wr.cell? ⟨P0, 0, none⟩ = some (.string nm) := (HT8.out.cell (p := ⟨P0, 0, none⟩) (by have h1 := HPP.out; have h2 := HRR.out; have h3 := HZ8.out; show P0 < _; omega) (by have h1 := HPP.out; have h2 := HRR.out; show ¬ P0 = R; omega)).trans HQ0.out
                have hq1 : wr.cell? ⟨P0, 1, none⟩ = some (.string ml) := (HT8.out.cell (p := ⟨P0, 1, none⟩) (by have h1 := HPP.out; have h2 := HRR.out; have h3 := HZ8.out; show P0 < _; omega) (by have h1 := HPP.out; have h2 := HRR.out; show ¬ P0 = R; omega)).trans HQ1.out
                have HFF := Lib.hid (HFI.out _ wr htf htz (HOi.out.later hbw))
                have HBW := Lib.hid hbw
                have HX0 := Lib.hid hq0
                have HX1 := Lib.hid hq1
                have HPL : Hid (P0 < wr.heap.size) := World.block_lt_of_cell? wr _ hq0
                clear htl htf htz hbw hq0 hq1 HFI HFZ HFD HF0 HRO HR1
                generalize (ByteArray.mk ((List.range k2).map fun j => if j < k2 then upC9 (i + j) (f0 j) else f0 j).toArray) = t at *
                go_wp2_with fail
                clear hst
                with_reducible refine HFF.out.mono ?_
                rintro e w9 ⟨rfl, hb⟩
                have hbw9 := below_next HBW.out hb
                have hq1 := (hb.cell (p := ⟨P0, 1, none⟩) HPL.out).trans HX1.out
                have hq0 := (hb.cell (p := ⟨P0, 0, none⟩) HPL.out).trans HX0.out
                have hP9 : P0 < w9.heap.size := Nat.lt_of_lt_of_le HPL.out hb.size
                obtain ⟨hl0, w5, hup5, hmt, hl5, hn5⟩ := HCZ.out w9 (HCW.out.later hbw9)
                have hPS : P0 ≠ S := fun e => by
                  have h1 := HCW.out.lt
                  have h2 := HPP.out
                  omega
                have hk5 : ∀ T fr c j, w9.heap[j]? = some (.cells c T fr) → j ≠ S := fun T fr c j h e => by
                  obtain ⟨es, clock, es', clock', h1, _⟩ := hmt
                  rw [e, h1] at h; cases h
                have hgc : ∀ (p : Addr), p.block ≠ S → w5.cell? p = w9.cell? p := fun p hp => World.cell?_of_block (turned_at9 hmt hp)
                have HP5 : Hid (w5.cell? ⟨P0, 0, none⟩ = some (.string nm) ∧ w5.cell? ⟨P0, 1, none⟩ = some (.string ml)) := ⟨(hgc _ hPS).trans hq0, (hgc _ hPS).trans hq1⟩
                have HL5 := Lib.hid hl5
                have HN5 := Lib.hid hn5
                have HT5 : Hid (∀ q, Turns (fun b => b = S) w7 (w5.drewN q)) := fun q => (((HT.out.next (Turns.of_below hbw9 (fun _ => False)) (fun _ _ f => f.elim))).grown hmt.grown (fun k e _ => by cases e; rfl)).drewN q
                have HPV5 : Hid (∀ i', i = i' + 1 → ∃ s : ByteArray, w5.cell? ⟨g, i' * 2, none⟩ = some (.string s) ∧ Op.bytesLess s.toList nm.toList = true ∧ ¬ s.toList = nm.toList) := fun i' hi' => by
                  obtain ⟨s, h1, h2, h3⟩ := HPREV.out i' hi'
                  have hgl := World.block_lt_of_cell? wi _ h1
                  refine ⟨s, ?_, h2, h3⟩
                  have h4 := (hbw9.cell (p := ⟨g, i' * 2, none⟩) hgl).trans h1
                  refine (hgc _ ?_).trans h4
                  intro e
                  obtain ⟨es, clock, es', clock', h5, _⟩ := hmt
                  have e' : g = S := e
                  rw [← e'] at h5
                  simp [World.cell?, h5] at h4
                have n1 : (nm.toList != nm.toList) = false := by simp
                have n2 : (nm.toList == nm.toList) = true := by simp
                clear hq0 hmt hbw9 hgc hk5 hPS hP9 hl5 hn5 hb HCZ HCW HPREV HX0 HX1 HBW HPL HFF HT8 HB3 HQ0 HQ1 HOi HRWi
                cases i with
                | zero =>
                  go_wp2
                  have hp0 := HP5.out.1
                  have hp1 := HP5.out.2
                  have hl5 := HL5.out
                  clear HPV5
                  go_quiet (fail)
                  go_wp2
                  go_roundg (m - (0 + 1))
                  case measure => omega
                  case rel => exact ⟨0 + 1, by omega, by omega, by go_num, HT5.out _, HN5.out _⟩
                | succ i' =>
                  obtain ⟨sp, hsc, hls, hns⟩ := HPV5.out i' rfl
                  have hne1 : (sp.toList == nm.toList) = false := by simpa using hns
                  have hiz : ((i' + 1 : Nat) : Int) - 1 = (i' : Int) := by omega
                  have hiz2 : ((i' : Int) + 1) - 1 = (i' : Int) := by omega
                  have hipos : (0 : Int) < (i' : Int) + 1 := by omega
                  have himz : (i' : Int) < (m : Int) := by omega
                  have hge : ∀ W, (binOp .geq 9 (.string sp) (.string nm)).run Tryd.prog W = .ok (.bool false) W := fun W => by rw [geq9, hls]; rfl
                  have hwr : IntKind.i64.wrap (i' : Int) = (i' : Int) := by unfold IntKind.wrap; simp [IntKind.bits, IntKind.signed]; omega
                  go_wp2
                  have hp0 := HP5.out.1
                  have hp1 := HP5.out.2
                  have hl5 := HL5.out
                  clear HPV5
                  go_quiet (fail)
                  go_wp2
                  go_roundg (m - ((i' + 1) + 1))
                  case measure => omega
                  case rel => exact ⟨(i' + 1) + 1, by omega, by omega, by go_num, HT5.out _, HN5.out _⟩
          · have hltz2 : ¬ (i : Int) < (m : Int) := by omega
            obtain rfl : i = m := by omega
            have HLN := Lib.hid HOi.out.len
            have hlm := HMM.out
            have HOz : Hid (∃ L, Own9 w2 wi B L ∧ L.length ≤ k + 1) := ⟨_, HOi.out, HLK.out⟩
            rw [← hlm] at HLN
            clear hrw HN hlm
            go_wp2_with fail
            with_reducible refine HLN.out.mono ?_
            rintro e w9 ⟨rfl, rfl⟩
            go_wp2
            go_roundg (n - (k + 1))
            case measure => omega
            case rel => exact ⟨k + 1, by omega, by omega, by go_num, HOz⟩
      · have z2 : ((r : Int) == 2) = false := beq_eq_false_iff_ne.2 (by omega)
        have z3 : ((r : Int) == 3) = false := beq_eq_false_iff_ne.2 (by omega)
        have z2' : ¬ (r : Int) = 2 := by omega
        have z3' : ¬ (r : Int) = 3 := by omega
        clear HC2 HC3 HLN2 HLN3
        go_wp2_with fail
        with_reducible refine HC.out.mono ?_
        rintro e w5 ⟨rfl, ho, _⟩
        have HO5 := Lib.hid ho
        have HLK := HLN1
        clear ho HC z2 z3 z2' z3'
        obtain ⟨L, hL⟩ : ∃ L, L = L1 := ⟨_, rfl⟩
        subst hL
        clear HLN1
        have hof := HO5.out.few
        have hor := HO5.out.rise
        have hoa := HO5.out.all
        obtain ⟨M, hmir⟩ := HO5.out.mir
        have hb6 := below_alloc (Below.refl w5.heap.size w5) (.map #[] 0)
        have HB56 := Lib.hid hb6
        have HO6 := Lib.hid (HO5.out.later hb6)
        have hcn := cnt9_new w5
        have HCN := Lib.hid hcn
        have HW5 := Lib.hid (Nat.le_refl w5.heap.size)
        have hpr := HO6.out.pairs100
        have HPR := Lib.hid hpr
        clear hb6 hpr hcn
        have hmm := @run_makeMap Tryd.prog
        go_wp2_with fail
        have hwz : w5.heap.size < (w5.alloc (.map #[] 0)).heap.size := by simp
        generalize hS : w5.heap.size = S at *
        have HSS := Lib.hid hS
        generalize w5.alloc (.map #[] 0) = w6 at *
        clear hmm hS
        with_reducible refine HPR.out.mono ?_
        rintro e w7 ⟨v, rfl, hp, hb⟩
        have hrow := Row9.of_own hp
        obtain ⟨A7, c7, rfl⟩ := hrow.shape
        have HRW := Lib.hid hrow
        have HB57 : Hid (Below w5.heap.size w5 w7) := below_next (by rw [HSS.out]; exact HB56.out) hb
        have hcn7 := HCN.out.later hb
        have HCN7 := Lib.hid hcn7
        have HS7 := Lib.hid hcn7.lt
        have HSM := Lib.hid hcn7.is
        clear hp hb hrow hcn7 HPR HCN HO6 hwz
        obtain ⟨m, hm⟩ : ∃ m, m = L.length := ⟨_, rfl⟩
        rw [← hm]
        have HMM := Lib.hid hm
        have hm100 : m ≤ 100 := by rw [hm]; exact hof
        clear hm hof
        go_wp2
        go_loopg [58] m (fun gg s58 wr => ∃ i : Nat, i ≤ m ∧ m - i ≤ gg ∧ s58 = .int .i64 i ∧ Hid (Turns (fun b => b = S) w7 wr) ∧ Hid (∃ z, Cnt9 wr S i z ∧ ∀ j (h : j < L.length), i ≤ j → z L[j].2 = 0))
        case atStart => exact ⟨0, Nat.zero_le _, by omega, rfl, Turns.refl _ _, _, HCN7.out, fun _ _ _ => rfl⟩
        case round =>
          obtain ⟨i, hi, hgi, rfl, HT, HN⟩ := hrel
          obtain ⟨wi, hwi⟩ : ∃ wi, wi = wr := ⟨_, rfl⟩
          subst hwi
          have hkeep : Keeps9 w7 wi := keeps_of_map9 HSM.out HT.out
          have hrw := HRW.out.keeps hkeep
          have HOi : Hid (Own9 w2 wi B L) := HO5.out.turns9 HB57.out HT.out (by rw [HSS.out]; exact Nat.le_refl _)
          have HRWi := Lib.hid hrw
          clear hkeep
          by_cases hlt2 : i < m
          · have hltz2 : (i : Int) < (m : Int) := by omega
            have hil : i < L.length := HMM.out ▸ hlt2
            obtain ⟨Ax, cx, e1, hcs⟩ := hrw.pv
            injection e1 with e1 e1n e1c
            clear e1n e1c
            obtain ⟨g, e2, x0, x1⟩ := hcs i hil
            rw [e2] at e1
            subst e1
            have HPREV : Hid (∀ i', i = i' + 1 → ∃ s : ByteArray, wi.cell? ⟨g, i' * 2, none⟩ = some (.string s) ∧ Op.bytesLess s.toList (tx7 L[i].1).toList = true ∧ ¬ s.toList = (tx7 L[i].1).toList) := fun i' hi' => by
              have hil' : i' < L.length := by omega
              obtain ⟨g', e3, y0, _⟩ := hcs i' hil'
              rw [e2] at e3
              injection e3 with e3
              injection e3 with e3
              subst e3
              have hbf : bytesBefore L[i'].1 L[i].1 = true := List.pairwise_iff_getElem.1 hor i' i hil' hil (by omega)
              refine ⟨_, y0, ?_, fun e => before_ne hbf ?_⟩
              · rw [Lib.toList_data, Lib.toList_data, tx7_list, tx7_list, less9]; exact hbf
              · rw [Lib.toList_data, Lib.toList_data, tx7_list, tx7_list] at e; exact e
            have hmay := hoa _ (List.getElem_mem hil)
            have hfd : fold5 L[i].2 = L[i].2 := hmay.2.2
            have hma : mail5 L[i].2 = true := hmay.2.1
            have how : ownO L L[i].2 = L[i].1 := hmir.own (List.getElem_mem hil)
            have hho : hasO L L[i].2 = true := mem_hasO (List.getElem_mem hil)
            have hml20 := mail5_len hma
            obtain ⟨z, hcz, hz0⟩ := HN.out
            have hzi := hz0 i hil (Nat.le_refl _)
            have HFI : Hid (∀ (t : ByteArray) W, fold5 t.data.toList = L[i].2 → t.size ≤ 9223372036854775807 → Own9 w2 W B L → Calls Tryd.prog 18 #[.pointer (some ⟨B, 0, none⟩), .string t] W fun e w' => e = .returned (.tuple #[.string (tx7 L[i].1), .int .i64 0]) ∧ Below W.heap.size W w') := fun t W ht htz hW => by
              have := hW.find t htz (H5.out.later (below_next HB2.out hW.below))
              have e1 : fiE9 L t.data.toList = 0 := by
                unfold fiE9
                rw [mail5_fold (l := t.data.toList) (m := L[i].2) (by rw [ht, hfd]), hma, if_pos rfl, ht, hho, if_pos rfl]
              have e2 : fiS9 L t.data.toList = L[i].1 := by
                unfold fiS9
                rw [if_pos e1, ht, how]
              rw [e1, e2] at this
              exact this
            have HCZ : Hid (∀ W, Cnt9 W S i z → (Instr.lookup 47 (.map (some S)) (.string (tx7 L[i].2)) false).run Tryd.prog W = .ok (.int .i64 0) W ∧
                ∃ W', (Instr.mapUpdate 47 (.map (some S)) (.string (tx7 L[i].2)) (.int .i64 1)).run Tryd.prog W = .ok () W' ∧ W.mapTurned W' S ∧
                  (∀ q, (Instr.lookup 47 (.map (some S)) (.string (tx7 L[i].2)) false).run Tryd.prog (W'.drewN q) = .ok (.int .i64 1) (W'.drewN q)) ∧
                  ∀ q, ∃ z, Cnt9 (W'.drewN q) S (i + 1) z ∧ ∀ j (h : j < L.length), i + 1 ≤ j → z L[j].2 = 0) := fun W hW => by
              have hsz : (tx7 L[i].2).size ≤ maxLen := by rw [tx7_size]; exact Nat.le_trans hml20 (by decide)
              have h1 := hW.look (tx7 L[i].2) hsz
              rw [tx7_list, hzi] at h1
              obtain ⟨W', h2, h3, h4⟩ := hW.store (tx7 L[i].2) hsz 1 (by decide) (by omega)
              refine ⟨h1, W', h2, h4, fun q => ?_, fun q => ⟨_, h3.drewN q, fun j hj hij => ?_⟩⟩
              · have := (h3.drewN q).look (tx7 L[i].2) hsz
                rwa [tx7_list, if_pos rfl] at this
              · rw [tx7_list, if_neg]
                · exact hz0 j hj (by omega)
                · intro e
                  have h1 : (L[j].1, L[i].2) ∈ L := by
                    have : (L[j].1, L[j].2) ∈ L := List.getElem_mem hj
                    rwa [e] at this
                  have h2 := hmir.one h1 (List.getElem_mem hil)
                  have h3 : bytesBefore L[i].1 L[j].1 = true := List.pairwise_iff_getElem.1 hor i j hil hj (by omega)
                  exact before_ne h3 h2.symm
            have hfz : (tx7 L[i].2).data.toList = L[i].2 := tx7_list _
            have HFZ : Hid (∀ j < (tx7 L[i].2).size, foldC ((tx7 L[i].2).data.toList.getD j 0) = (tx7 L[i].2).data.toList.getD j 0) := fun j hj => by
              rw [tx7_size] at hj
              rw [tx7_list]
              have h1 : (fold5 L[i].2)[j]? = some (L[i].2[j]'hj) := by rw [hfd]; exact List.getElem?_eq_getElem hj
              unfold fold5 at h1
              rw [List.getElem?_map, List.getElem?_eq_getElem hj] at h1
              simp only [Option.map_some, Option.some.injEq] at h1
              rw [List.getD_eq_getElem?_getD, List.getElem?_eq_getElem hj]
              exact h1
            have HFD : Hid (∀ t : ByteArray, t.data.toList.length = (tx7 L[i].2).size → (∀ j < (tx7 L[i].2).size, foldC (t.data.toList.getD j 0) = (tx7 L[i].2).data.toList.getD j 0) → fold5 t.data.toList = L[i].2) := fun t h1 h2 => by
              rw [← tx7_list L[i].2]
              unfold fold5
              apply List.ext_getElem (by rw [List.length_map, h1, size_list])
              intro j hj1 hj2
              have hj : j < (tx7 L[i].2).size := by rw [← size_list]; exact hj2
              have := h2 j hj
              rw [List.length_map] at hj1
              rw [List.getD_eq_getElem?_getD, List.getElem?_eq_getElem hj1, List.getD_eq_getElem?_getD, List.getElem?_eq_getElem hj2] at this
              rw [List.getElem_map]
              exact this
            have HCW := Lib.hid hcz
            have hmlz : (tx7 L[i].2).size ≤ 20 := by rw [tx7_size]; exact hml20
            clear hcs hz0 hzi hmay hfd hma how hho hml20 hcz hrw hfz e2
            generalize tx7 L[i].1 = nm at *
            generalize tx7 L[i].2 = ml at *
            have hcv := run_bytes_of_string (P := Tryd.prog) (wi.alloc (.cells #[.string nm, .string ml] 49)) 9 50 5 ml Tryd.underlying9 Tryd.underlying50 Tryd.underlying5
            have hro := row_new (wi.alloc (.cells #[.string nm, .string ml] 49)).drew ml (grownCap (wi.alloc (.cells #[.string nm, .string ml] 49)) ml.size 0 5) 5
            generalize grownCap (wi.alloc (.cells #[.string nm, .string ml] 49)) ml.size 0 5 = cap at hcv hro
            have hbp : Below wi.heap.size wi (wi.alloc (.cells #[.string nm, .string ml] 49)) := below_alloc (Below.refl _ _) _
            have hb2 := below_alloc (below_drew (Below.refl (wi.alloc (.cells #[.string nm, .string ml] 49)).heap.size (wi.alloc (.cells #[.string nm, .string ml] 49)))) (.cells (bytesRow ml cap) 5 ((bytesRow ml cap).size, (bytesRow ml cap).size + 1))
            have q0 : (wi.alloc (.cells #[.string nm, .string ml] 49)).cell? ⟨wi.heap.size, 0, none⟩ = some (.string nm) := by rw [World.cell?_alloc_at _ _ _ _ rfl]; rfl
            have q1 : (wi.alloc (.cells #[.string nm, .string ml] 49)).cell? ⟨wi.heap.size, 1, none⟩ = some (.string ml) := by rw [World.cell?_alloc_at _ _ _ _ rfl]; rfl
            have hlp : wi.heap.size < (wi.alloc (.cells #[.string nm, .string ml] 49)).heap.size := by simp
            have q0' := (hb2.cell (p := ⟨wi.heap.size, 0, none⟩) hlp).trans q0
            have q1' := (hb2.cell (p := ⟨wi.heap.size, 1, none⟩) hlp).trans q1
            have hb3 := below_next hbp hb2
            have hsz2 : wi.heap.size + 1 < ((wi.alloc (.cells #[.string nm, .string ml] 49)).drew.alloc (.cells (bytesRow ml cap) 5 ((bytesRow ml cap).size, (bytesRow ml cap).size + 1))).heap.size := by simp
            have hdz : (wi.alloc (.cells #[.string nm, .string ml] 49)).drew.heap.size = wi.heap.size + 1 := by simp
            have haz : (wi.alloc (.cells #[.string nm, .string ml] 49)).heap.size = wi.heap.size + 1 := by simp
            rw [hdz] at hro
            rw [haz] at hcv
            clear hb2 hbp hlp hdz haz q0 q1
            generalize (wi.alloc (.cells #[.string nm, .string ml] 49)).drew.alloc (.cells (bytesRow ml cap) 5 ((bytesRow ml cap).size, (bytesRow ml cap).size + 1)) = w8 at *
            have HRO := Lib.hid hro
            have HQ0 := Lib.hid q0'
            have HQ1 := Lib.hid q1'
            have HB3 := Lib.hid hb3
            obtain ⟨P0, hP0⟩ : ∃ P0, P0 = wi.heap.size := ⟨_, rfl⟩
            obtain ⟨R, hR⟩ : ∃ R, R = wi.heap.size + 1 := ⟨_, rfl⟩
            rw [← hR] at HRO
            rw [← hP0] at HQ0 HQ1
            have HPP := Lib.hid hP0
            have HRR := Lib.hid hR
            have HZ8 : Hid (R < w8.heap.size) := by show _ < _; rw [hR]; exact hsz2
            clear hro q0' q1' hb3 hsz2 hP0 hR
            generalize hf0 : (fun j => ml.data.toList.getD j 0) = f0 at *
            have HF0 := Lib.hid hf0
            clear hf0
            obtain ⟨mz, hmz⟩ : ∃ mz, mz = ml.size := ⟨_, rfl⟩
            rw [← hmz] at hcv hmlz HRO
            have HMZ := Lib.hid hmz
            clear hmz
            go_wp2
            clear hcv x0 x1
            have hr1 := HRR.out
            have hp1' := HPP.out
            rw [← hr1, ← hp1']
            clear hr1 hp1'
            go_loopg [68] mz (fun gg s68 wr => ∃ k : Nat, k ≤ mz ∧ mz - k ≤ gg ∧ s68 = .int .i64 k ∧ Hid (Row5 wr R mz (fun j => if j < k then upC9 (i + j) (f0 j) else f0 j)) ∧ Hid (Turns (fun b => b = R) w8 wr))
            case atStart => exact ⟨0, Nat.zero_le _, by omega, rfl, by simpa using HRO, Turns.refl _ _⟩
            case round =>
              obtain ⟨k2, hk2, hg2, rfl, HR1, HT8⟩ := hrel
              by_cases hlt3 : k2 < mz
              · have hltz3 : (k2 : Int) < (mz : Int) := by omega
                have hcell := (HR1.out.2 k2 hlt3).1
                have hfz := (HR1.out.2 k2 hlt3).2
                simp only [Nat.lt_irrefl, if_false] at hcell
                have HYI : Hid (∀ j, (if j = k2 then upC9 (i + k2) (f0 k2) else (if j < k2 then upC9 (i + j) (f0 j) else f0 j)) = (if j < k2 + 1 then upC9 (i + j) (f0 j) else f0 j)) := fun j => by
                  by_cases h1 : j = k2
                  · subst h1; simp
                  · by_cases h2 : j < k2
                    · simp [h1, h2, Nat.lt_succ_of_lt h2]
                    · have : ¬ j < k2 + 1 := by omega
                      simp [h1, h2, this]
                by_cases hup : 97 ≤ (f0 k2).toNat ∧ (f0 k2).toNat ≤ 122
                · by_cases hev : (i + k2) % 2 = 0
                  · obtain ⟨u1, u2⟩ := upC9_hit hup.1 hup.2 hev
                    have HY : Hid (Row5 (wr.setCell ⟨R, k2, none⟩ (.int .u8 ((f0 k2).toNat - 97 + 65))) R mz (fun j => if j < k2 + 1 then upC9 (i + j) (f0 j) else f0 j)) := (HR1.out.set k2 hlt3 _ (upC9 (i + k2) (f0 k2)) u1).like HYI.out
                    have HTY : Hid (∀ v, Turns (fun b => b = R) w8 (wr.setCell ⟨R, k2, none⟩ v)) := fun v => HT8.out.setCell (p := ⟨R, k2, none⟩) (fun _ => rfl) v
                    have hrm : ((i : Int) + (k2 : Int)).tmod 2 = 0 := by
                      have : ((i : Int) + (k2 : Int)).tmod 2 = (((i + k2) % 2 : Nat) : Int) := rfl
                      rw [this, hev]; rfl
                    clear u1 u2 HYI
                    generalize (f0 k2).toNat = x at *
                    have y1 : (97 : Int) ≤ (x : Int) := by omega
                    have y2 : (x : Int) ≤ 122 := by omega
                    have y3 : decide ((x : Int) ≥ 97) = true := decide_eq_true y1
                    have y4 : decide ((x : Int) ≤ 122) = true := decide_eq_true y2
                    have z1 : IntKind.u8.wrap ((x : Int) - 97) = (x : Int) - 97 := by unfold IntKind.wrap; simp [IntKind.bits, IntKind.signed]; omega
                    have z2 : IntKind.u8.wrap ((x : Int) - 97 + 65) = (x : Int) - 97 + 65 := by unfold IntKind.wrap; simp [IntKind.bits, IntKind.signed]; omega
                    go_wp2
                    go_roundg (mz - (k2 + 1))
                    case measure => omega
                    case rel => exact ⟨k2 + 1, by omega, by omega, by go_num, HY, HTY.out _⟩
                  · have hum := upC9_odd (f0 k2) hev
                    have HY : Hid (Row5 wr R mz (fun j => if j < k2 + 1 then upC9 (i + j) (f0 j) else f0 j)) := HR1.out.like fun j => by
                      have h9 := HYI.out j
                      rw [hum] at h9
                      rw [← h9]
                      by_cases h1 : j = k2
                      · subst h1; simp
                      · simp [h1]
                    have hrm : ((i : Int) + (k2 : Int)).tmod 2 = 1 := by
                      have : ((i : Int) + (k2 : Int)).tmod 2 = (((i + k2) % 2 : Nat) : Int) := rfl
                      rw [this, show (i + k2) % 2 = 1 by omega]; rfl
                    clear hum HYI
                    generalize (f0 k2).toNat = x at *
                    have y1 : (97 : Int) ≤ (x : Int) := by omega
                    have y2 : (x : Int) ≤ 122 := by omega
                    have y3 : decide ((x : Int) ≥ 97) = true := decide_eq_true y1
                    have y4 : decide ((x : Int) ≤ 122) = true := decide_eq_true y2
                    go_wp2
                    go_roundg (mz - (k2 + 1))
                    case measure => omega
                    case rel => exact ⟨k2 + 1, by omega, by omega, by go_num, HY, HT8⟩
                · have hum := upC9_miss (i + k2) (f0 k2) hup
                  have HY : Hid (Row5 wr R mz (fun j => if j < k2 + 1 then upC9 (i + j) (f0 j) else f0 j)) := HR1.out.like fun j => by
                    have h9 := HYI.out j
                    rw [hum] at h9
                    rw [← h9]
                    by_cases h1 : j = k2
                    · subst h1; simp
                    · simp [h1]
                  clear hum HYI
                  generalize (f0 k2).toNat = x at *
                  by_cases y1 : (97 : Int) ≤ (x : Int)
                  · have y2 : ¬ (x : Int) ≤ 122 := by omega
                    have y3 : decide ((x : Int) ≥ 97) = true := decide_eq_true y1
                    have y4 : decide ((x : Int) ≤ 122) = false := decide_eq_false y2
                    go_wp2
                    go_roundg (mz - (k2 + 1))
                    case measure => omega
                    case rel => exact ⟨k2 + 1, by omega, by omega, by go_num, HY, HT8⟩
                  · have y3 : decide ((x : Int) ≥ 97) = false := decide_eq_false y1
                    go_wp2
                    go_roundg (mz - (k2 + 1))
                    case measure => omega
                    case rel => exact ⟨k2 + 1, by omega, by omega, by go_num, HY, HT8⟩
              · have hltz3 : ¬ (k2 : Int) < (mz : Int) := by omega
                obtain rfl : k2 = mz := by omega
                have hst := row_string (cap := cap) HR1.out
                have htl : (ByteArray.mk ((List.range k2).map fun j => if j < k2 then upC9 (i + j) (f0 j) else f0 j).toArray).data.toList.length = ml.size := by rw [← HMZ.out]; simp
                have htf := HFD.out _ htl (fun j hj => by
                  rw [← HMZ.out] at hj
                  have h1 : (ByteArray.mk ((List.range k2).map fun j => if j < k2 then upC9 (i + j) (f0 j) else f0 j).toArray).data.toList.getD j 0 = upC9 (i + j) (f0 j) := by
                    rw [List.getD_eq_getElem?_getD, List.getElem?_eq_getElem (by simpa using hj)]
                    simp [hj]
                  rw [h1, upC9_fold, ← HF0.out]
                  exact HFZ.out j (by rw [← HMZ.out]; exact hj))
                have htz : (ByteArray.mk ((List.range k2).map fun j => if j < k2 then upC9 (i + j) (f0 j) else f0 j).toArray).size ≤ 9223372036854775807 := by rw [← size_list, htl, ← HMZ.out]; omega
                have hbw : Below wi.heap.size wi wr := below_r9 HB3.out HT8.out (by have := HRR.out; omega)
                have hq0 : wr.cell? ⟨P0, 0, none⟩ = some (.string nm) := (HT8.out.cell (p := ⟨P0, 0, none⟩) (by have h1 := HPP.out; have h2 := HRR.out; have h3 := HZ8.out; show P0 < _; omega) (by have h1 := HPP.out; have h2 := HRR.out; show ¬ P0 = R; omega)).trans HQ0.out
                have hq1 : wr.cell? ⟨P0, 1, none⟩ = some (.string ml) := (HT8.out.cell (p := ⟨P0, 1, none⟩) (by have h1 := HPP.out; have h2 := HRR.out; have h3 := HZ8.out; show P0 < _; omega) (by have h1 := HPP.out; have h2 := HRR.out; show ¬ P0 = R; omega)).trans HQ1.out
                have HFF := Lib.hid (HFI.out _ wr htf htz (HOi.out.later hbw))
                have HBW := Lib.hid hbw
                have HX0 := Lib.hid hq0
                have HX1 := Lib.hid hq1
                have HPL : Hid (P0 < wr.heap.size) := World.block_lt_of_cell? wr _ hq0
                clear htl htf htz hbw hq0 hq1 HFI HFZ HFD HF0 HRO HR1
                generalize (ByteArray.mk ((List.range k2).map fun j => if j < k2 then upC9 (i + j) (f0 j) else f0 j).toArray) = t at *
                go_wp2_with fail
                clear hst
                with_reducible refine HFF.out.mono ?_
                rintro e w9 ⟨rfl, hb⟩
                have hbw9 := below_next HBW.out hb
                have hq1 := (hb.cell (p := ⟨P0, 1, none⟩) HPL.out).trans HX1.out
                have hq0 := (hb.cell (p := ⟨P0, 0, none⟩) HPL.out).trans HX0.out
                have hP9 : P0 < w9.heap.size := Nat.lt_of_lt_of_le HPL.out hb.size
                obtain ⟨hl0, w5, hup5, hmt, hl5, hn5⟩ := HCZ.out w9 (HCW.out.later hbw9)
                have hPS : P0 ≠ S := fun e => by
                  have h1 := HCW.out.lt
                  have h2 := HPP.out
                  omega
                have hk5 : ∀ T fr c j, w9.heap[j]? = some (.cells c T fr) → j ≠ S := fun T fr c j h e => by
                  obtain ⟨es, clock, es', clock', h1, _⟩ := hmt
                  rw [e, h1] at h; cases h
                have hgc : ∀ (p : Addr), p.block ≠ S → w5.cell? p = w9.cell? p := fun p hp => World.cell?_of_block (turned_at9 hmt hp)
                have HP5 : Hid (w5.cell? ⟨P0, 0, none⟩ = some (.string nm) ∧ w5.cell? ⟨P0, 1, none⟩ = some (.string ml)) := ⟨(hgc _ hPS).trans hq0, (hgc _ hPS).trans hq1⟩
                have HL5 := Lib.hid hl5
                have HN5 := Lib.hid hn5
                have HT5 : Hid (∀ q, Turns (fun b => b = S) w7 (w5.drewN q)) := fun q => (((HT.out.next (Turns.of_below hbw9 (fun _ => False)) (fun _ _ f => f.elim))).grown hmt.grown (fun k e _ => by cases e; rfl)).drewN q
                have HPV5 : Hid (∀ i', i = i' + 1 → ∃ s : ByteArray, w5.cell? ⟨g, i' * 2, none⟩ = some (.string s) ∧ Op.bytesLess s.toList nm.toList = true ∧ ¬ s.toList = nm.toList) := fun i' hi' => by
                  obtain ⟨s, h1, h2, h3⟩ := HPREV.out i' hi'
                  have hgl := World.block_lt_of_cell? wi _ h1
                  refine ⟨s, ?_, h2, h3⟩
                  have h4 := (hbw9.cell (p := ⟨g, i' * 2, none⟩) hgl).trans h1
                  refine (hgc _ ?_).trans h4
                  intro e
                  obtain ⟨es, clock, es', clock', h5, _⟩ := hmt
                  have e' : g = S := e
                  rw [← e'] at h5
                  simp [World.cell?, h5] at h4
                have n1 : (nm.toList != nm.toList) = false := by simp
                have n2 : (nm.toList == nm.toList) = true := by simp
                clear hq0 hmt hbw9 hgc hk5 hPS hP9 hl5 hn5 hb HCZ HCW HPREV HX0 HX1 HBW HPL HFF HT8 HB3 HQ0 HQ1 HOi HRWi
                cases i with
                | zero =>
                  go_wp2
                  have hp0 := HP5.out.1
                  have hp1 := HP5.out.2
                  have hl5 := HL5.out
                  clear HPV5
                  go_quiet (fail)
                  go_wp2
                  go_roundg (m - (0 + 1))
                  case measure => omega
                  case rel => exact ⟨0 + 1, by omega, by omega, by go_num, HT5.out _, HN5.out _⟩
                | succ i' =>
                  obtain ⟨sp, hsc, hls, hns⟩ := HPV5.out i' rfl
                  have hne1 : (sp.toList == nm.toList) = false := by simpa using hns
                  have hiz : ((i' + 1 : Nat) : Int) - 1 = (i' : Int) := by omega
                  have hiz2 : ((i' : Int) + 1) - 1 = (i' : Int) := by omega
                  have hipos : (0 : Int) < (i' : Int) + 1 := by omega
                  have himz : (i' : Int) < (m : Int) := by omega
                  have hge : ∀ W, (binOp .geq 9 (.string sp) (.string nm)).run Tryd.prog W = .ok (.bool false) W := fun W => by rw [geq9, hls]; rfl
                  have hwr : IntKind.i64.wrap (i' : Int) = (i' : Int) := by unfold IntKind.wrap; simp [IntKind.bits, IntKind.signed]; omega
                  go_wp2
                  have hp0 := HP5.out.1
                  have hp1 := HP5.out.2
                  have hl5 := HL5.out
                  clear HPV5
                  go_quiet (fail)
                  go_wp2
                  go_roundg (m - ((i' + 1) + 1))
                  case measure => omega
                  case rel => exact ⟨(i' + 1) + 1, by omega, by omega, by go_num, HT5.out _, HN5.out _⟩
          · have hltz2 : ¬ (i : Int) < (m : Int) := by omega
            obtain rfl : i = m := by omega
            have HLN := Lib.hid HOi.out.len
            have hlm := HMM.out
            have HOz : Hid (∃ L, Own9 w2 wi B L ∧ L.length ≤ k + 1) := ⟨_, HOi.out, HLK.out⟩
            rw [← hlm] at HLN
            clear hrw HN hlm
            go_wp2_with fail
            with_reducible refine HLN.out.mono ?_
            rintro e w9 ⟨rfl, rfl⟩
            go_wp2
            go_roundg (n - (k + 1))
            case measure => omega
            case rel => exact ⟨k + 1, by omega, by omega, by go_num, HOz⟩
    · have hltz : ¬ (k : Int) < (n : Int) := by omega
      obtain rfl : k = n := by omega
      obtain ⟨L, ho, hlk⟩ := HW.out
      have HB := Lib.hid (below_next HB2.out ho.below)
      clear ho HW
      go_wp2
      go_ret
      exact ⟨rfl, HB.out⟩
end Go.Proofs.YtiodbghokiajjaaDoor
