/-
  The law OctetReads tells true of any bytes and any items, and turns nothing that was there.
  Conditions: none but that bytes and items can be read.
-/
import Derived.Test.YtgipafdfmghogaaGet
import Derived.Test.YtgipafdfmghogaaLawWrites
import Derived.Deep.QuietTactic
import Derived.BigQuiet
namespace Go.Proofs.Ytgipafdfmghogaa
open Go.RowKit

/-- A new Reader, whose bytes are its own. -/
def MadeN (w : World) (l : List UInt8) (e : Ending) (w' : World) : Prop := ∃ B v, w.heap.size ≤ B ∧ e = .returned (.pointer (some ⟨B, 0, none⟩)) ∧ w'.heap[B]? = some (.cells #[v, .int .i64 0] 71 (0, 0)) ∧ RdR w' B v l ∧ (∀ k, v.ownBlock = some k → w.heap.size ≤ k) ∧ Turns (fun _ => False) w w'
theorem ofN_calls (u : Value) (l : List UInt8) (w : World) (hu : Rd w u l) (hroom : l.length ≤ 1099511627776) :
    Calls Try.prog 15 #[u] w (MadeN w l) := by
  have HU := Lib.hid hu
  clear hu
  go_enter Try.func15, Try.ntmps15
  go_wp2_with fail
  with_reducible refine (clone_calls u l w HU.out hroom).mono ?_
  rintro e w1 ⟨v, rfl, ho, hb, ht⟩
  have HF : Hid (MadeN w l (.returned (.pointer (some ⟨w1.heap.size, 0, none⟩))) (w1.alloc (.cells #[v, .int .i64 0] 71))) := by
    refine ⟨w1.heap.size, v, ht.size, rfl, heap_alloc_new w1 _, ?_, hb, ht.alloc _⟩
    have ho' := ho.alloc (.cells #[v, .int .i64 0] 71)
    rcases ho.2 with ⟨rfl, h0⟩ | ⟨g, cap, cur, rfl, _, hg, hnc, hcm, _⟩
    · exact .inl ⟨rfl, List.eq_nil_of_length_eq_zero h0⟩
    · have hlt := (Array.getElem?_eq_some_iff.1 hg).1
      refine .inr ⟨g, 0, cap, rfl, hnc, by simpa [maxLen] using hcm, by simp; omega, by omega, ⟨cur, _, (Below.heap_alloc w1 _ g hlt).trans hg⟩, fun j hj => ?_⟩
      have := ho'.cells (g := g) rfl j (.int .u8 (l[j].toNat : Int)) (by simp [cellsOf, List.getElem?_eq_getElem hj])
      rwa [Addr.add_lit] at this
  obtain ⟨A, c, rfl⟩ := owns_shape ho
  clear ho hb ht
  go_wp2
  go_ret
  exact HF.out
theorem RdR.apart {w w' : World} {B : Nat} {v : Value} {l : List UInt8} {S : Nat → Prop} (h : RdR w B v l) (ht : Turns S w w') (hn : ∀ k, v.ownBlock = some k → ¬ S k) : RdR w' B v l := by
  rcases h with h | ⟨g, off, c, rfl, h1, h2, h3, h4, hbk, h5⟩
  · exact .inl h
  · have hg : ¬ S g := hn g rfl
    exact .inr ⟨g, off, c, rfl, h1, h2, Nat.lt_of_lt_of_le h3 ht.size, h4, hbk.keep ht hg, fun j hj => (ht.cell (p := ⟨g, off + j, none⟩) h3 hg).trans (h5 j hj)⟩

theorem rleft_q (R : Nat) (l : List UInt8) (e : Int) (w : World) (h : Rdr w R ⟨l, e⟩) : Calls Try.prog 17 #[.pointer (some ⟨R, 0, none⟩)] w fun x w' => x = .returned (.int .i64 l.length) ∧ w' = w :=
  (rleft_calls R ⟨l, e⟩ w h).mono fun _ _ ⟨a, b⟩ => ⟨a, b.symm⟩
theorem rerr_q (R : Nat) (l : List UInt8) (e : Int) (w : World) (h : Rdr w R ⟨l, e⟩) : Calls Try.prog 18 #[.pointer (some ⟨R, 0, none⟩)] w fun x w' => x = .returned (.int .i64 e) ∧ w' = w :=
  (rerr_calls R ⟨l, e⟩ w h).mono fun _ _ ⟨a, b⟩ => ⟨a, b.symm⟩
theorem rend_q (R : Nat) (l : List UInt8) (e : Int) (w : World) (h : Rdr w R ⟨l, e⟩) : Calls Try.prog 19 #[.pointer (some ⟨R, 0, none⟩)] w fun x w' => x = .returned (.int .i64 (endS ⟨l, e⟩)) ∧ w' = w :=
  (rend_calls R ⟨l, e⟩ w h).mono fun _ _ ⟨a, b⟩ => ⟨a, b.symm⟩

/-- An ask, of an item. -/
def It.ask (t : It) (st : St) : St := askS t.kind.toNat t.most t.long t.e st
theorem gets_it (R : Nat) (st : St) (t : It) (w : World) (h : Rdr w R st) (hok : Ok st) (hl : st.bs.length ≤ 1099511627776) (hw : ItWf t) :
    Calls Try.prog 16 #[.pointer (some ⟨R, 0, none⟩), refV st, .agg #[.int .u8 t.kind, .int .u64 t.x, .bool t.is, .string t.s, .slice t.la t.ls.length t.lc, .int .i64 t.most, .int .i64 t.long, .int .i64 t.e]] w (Got w R (t.ask st)) := by
  obtain ⟨kind, x, is, s, la, ls, lc, mo, lo, ee⟩ := t
  obtain ⟨k0, k1, x0, x1, l0, l1, m0, m1, _⟩ := hw
  dsimp only at *
  obtain ⟨kd, rfl⟩ := Int.eq_ofNat_of_zero_le k0
  obtain ⟨xn, rfl⟩ := Int.eq_ofNat_of_zero_le x0
  exact gets R st kd xn is s la ls.length lc mo lo ee w h hok hl m1

set_option maxRecDepth 100000 in
set_option maxHeartbeats 4000000 in
theorem reads_walk (A0 : Option Addr) (c0 : Nat) (bl : List UInt8) (A : Option Addr) (c : Nat) (its : List It) (w : World) (hb : Rd w (.slice A0 bl.length c0) bl) (hbm : bl.length ≤ 9223372036854775807) (h : RdI w A its) (hm : its.length ≤ 9223372036854775807) (hwf : ∀ t ∈ its, ItWf t) :
    Calls Try.prog 5 #[.slice A0 bl.length c0, .slice A its.length c] w (Told true w) := by
  obtain ⟨i0, hi, hz0, hz1, hz2⟩ := info_parts infoByte
  have HI := Lib.hid h
  have HB := Lib.hid hb
  have HWF := Lib.hid hwf
  clear h hwf hb
  obtain ⟨m, hmE⟩ : ∃ m, m = its.length := ⟨_, rfl⟩
  obtain ⟨n, hnE⟩ : ∃ n, n = bl.length := ⟨_, rfl⟩
  rw [← hmE, ← hnE]
  rw [← hmE] at hm
  rw [← hnE] at hbm HB
  have HM := Lib.hid hmE
  have HN := Lib.hid hnE
  clear hmE hnE
  by_cases hbad : 30 < m ∨ 500 < n
  · have hcase : 30 < m ∨ (¬ 30 < m ∧ 500 < n) := by omega
    clear hbad
    rcases hcase with h30 | ⟨h30, h500⟩
    all_goals
      go_enter Try.func5, Try.ntmps5
      go_wp2_with fail
      with_reducible refine (lives_calls w).mono ?_
      rintro e w1 ⟨rfl, t1⟩
      have HT1 := Lib.hid t1
      clear t1
      go_wp2_with fail
      with_reducible refine (lives_calls w1).mono ?_
      rintro e w3 ⟨rfl, t3⟩
      have HT3 := Lib.hid (HT1.out.still t3)
      clear t3
      go_wp2
      go_ret
      exact ⟨rfl, HT3.out⟩
  · have h30 : ¬ 30 < m := fun h => hbad (.inl h)
    have h500 : ¬ 500 < n := fun h => hbad (.inr h)
    clear hbad
    go_enter Try.func5, Try.ntmps5
    go_wp2_with fail
    with_reducible refine (lives_calls w).mono ?_
    rintro e w1 ⟨rfl, t1⟩
    have HT1 := Lib.hid t1
    have hge : w.heap.size ≤ w1.heap.size := t1.size
    have HB1 := Lib.hid ((HB.out.still t1).still ((Turns.refl _ _).alloc (.cells #[] 5)))
    have hmade : (w1.alloc (.cells #[] 5)).ownsRow 0 5 1 (.slice (some ⟨w1.heap.size, 0, none⟩) 0 0) 0 [] := World.ownsRow_made w1 #[] 0 (Nat.zero_le _) (Nat.zero_le _) rfl
    have HMD := Lib.hid hmade
    have HBS : Hid (Src Try.prog 1 30 (.slice A0 n c0) n (cellsOf bl) (w1.alloc (.cells #[] 5))) := by
      have := HB1.out
      have h2 := Rd.src this Try.underlying30
      rwa [← HN.out] at h2
    clear t1 hmade
    go_wp2_with (at_builtin; refine wpList_append_src _ rfl (.tmp 26) (.tmp 27) 30 30 (by rfl) 5 i0 _ 1 1 Try.underlying30 hi hz0 hz1 hz2 rfl (.slice (some ⟨w1.heap.size, 0, none⟩) 0 0) 0 [] (by rfl) HMD.out (.slice A0 n c0) n (cellsOf bl) (by rfl) HBS.out (by simp only [maxLen]; omega) (by omega) ?_; intro A2 c2 w2 ho2 hg2 ha2)
    rw [Nat.zero_add] at ho2 ha2
    have ho : w2.ownsRow 0 5 1 (.slice A2 n c2) n (cellsOf bl) := by simpa using ho2
    have hnew2 : ∀ j, Value.ownBlock (.slice A2 n c2) = some j → w1.heap.size ≤ j := by
      intro j hj
      rcases ha2 with h2 | h2
      · rw [h2] at hj; simp [Value.ownBlock] at hj; omega
      · rw [h2] at hj; simp at hj; omega
    have ht2 : Turns (fun _ => False) w w2 := (HT1.out.alloc _).grown hg2 (fun k hk hlt => by simp [Value.ownBlock] at hk; omega)
    have hrd2 : Rd w2 (.slice A2 n c2) bl := Rd.of_own (l := bl) (e := 5) (by rw [← HN.out]; exact ho)
    have HOF := Lib.hid (ofN_calls _ bl w2 hrd2 (by rw [← HN.out]; omega))
    have HO := Lib.hid ho
    have HNEW := Lib.hid hnew2
    have HT2 := Lib.hid ht2
    clear ho2 hg2 ha2 ho hnew2 ht2 hrd2 HB1 HMD HBS HT1
    with_reducible refine HOF.out.mono ?_
    rintro e w3 ⟨R, v, hR, rfl, hRb, hRd, hRv, ht3⟩
    have HO3 := Lib.hid (ht3.owns HO.out (fun _ _ f => f))
    have HEND : Hid (∀ W, Turns (fun i => Value.ownBlock (.slice A2 n c2) = some i) w3 W → Rdr W R ⟨bl, 0⟩ ∧ Turns (fun _ => False) w W) := fun W hW => by
      have hlt := fun j hj => (HO.out.lt j hj).2
      refine ⟨⟨v, (hW.block R (Array.getElem?_eq_some_iff.1 hRb).1 (fun he => by have := hlt _ he; omega)).trans hRb, hRd.apart hW (fun k hk hs => by have := hRv k hk; have := hlt _ hs; omega)⟩, ?_⟩
      exact (HT2.out.next ht3 (fun _ _ f => f)).next hW (fun i hi hs => by have := HNEW.out _ hs; omega)
    have hRge : w.heap.size ≤ R := by have := HT2.out.size; omega
    clear hRb hRd hRv ht3 HOF HO HNEW HT2
    go_wp2
    go_loopw [33] (fun i wr => ∃ (k : Nat) (xs : List Value), k ≤ n ∧ i = .int .i64 k ∧ wr.ownsRow 0 5 1 (.slice A2 n c2) n xs ∧ (∀ (j : Nat) u, xs[j]? = some u → ∃ y, u = .int .u8 y) ∧ Turns (fun i => Value.ownBlock (.slice A2 n c2) = some i) w3 wr) (fun i _ => n - (intOf i).toNat)
    case atStart =>
      refine ⟨0, cellsOf bl, Nat.zero_le _, rfl, HO3.out, fun j u hu => ?_, Turns.refl _ _⟩
      rw [cellsOf, List.getElem?_map] at hu
      obtain ⟨x, _, rfl⟩ := Option.map_eq_some_iff.1 hu
      exact ⟨_, rfl⟩
    case round =>
      obtain ⟨k, xs, hk, rfl, hor, hxs, htr⟩ := hrel
      clear HO3
      by_cases hlt : k < n
      · obtain ⟨g, cap, hv, _, hgl⟩ := hor.form (by omega)
        injection hv with hA hn hc
        subst hA hc
        have hcell := hor.cellAt k (by omega)
        have hkl : k < xs.length := by rw [hor.1]; omega
        rw [List.getElem?_eq_getElem hkl] at hcell
        obtain ⟨y, hy⟩ := hxs k _ (List.getElem?_eq_getElem hkl)
        rw [hy] at hcell
        have hfz := hor.frozenAt k
        have HST := Lib.hid (fun u => (hor.stored k u).1)
        have HTS : Hid (∀ u, Turns (fun i => Value.ownBlock (.slice (some ⟨g, 0, none⟩) n c2) = some i) w3 (wr.setCell ⟨g, k, none⟩ u)) := fun u => htr.setCell (p := ⟨g, k, none⟩) (fun _ => rfl) u
        have HXS := Lib.hid hxs
        clear hor htr hxs hy hkl hn
        go_wp2
        go_roundw
        case rel =>
          refine ⟨k + 1, _, by omega, by go_num, HST.out _, fun j u hu => ?_, HTS.out _⟩
          rw [List.getElem?_set] at hu
          split at hu
          · split at hu
            · injection hu with hu; exact ⟨_, hu.symm⟩
            · cases hu
          · exact HXS.out j u hu
        case measure => simp [intOf]; omega
      · obtain ⟨hrdr, htw⟩ := HEND.out wr htr
        have hst := (HB.out.still htw).string (P := Try.prog) (src := 30) (dst := 9) Try.underlying30 Try.underlying5 Try.underlying9
        have hge2 : w.heap.size ≤ wr.heap.size := htw.size
        have HR0 := Lib.hid hrdr
        have HT0 := Lib.hid htw
        have hR8 : R < wr.heap.size := hrdr.lt
        have HB8 := Lib.hid (Blk2.new wr (.string ⟨bl.toArray⟩) (.int .i64 0))
        have HR1 := Lib.hid (hrdr.still ((Turns.refl _ _).alloc (.cells #[.string ⟨bl.toArray⟩, .int .i64 0] 42)))
        have HT1 := Lib.hid (htw.alloc (.cells #[.string ⟨bl.toArray⟩, .int .i64 0] 42))
        have hbl : bl.length ≤ 500 := by rw [← HN.out]; omega
        have HBL := Lib.hid hbl
        clear hrdr htw htr hor hxs HEND HR0 HT0 hbl
        go_wp2
        clear hst
        generalize wr.heap.size = b8 at *
        go_loopw [48] (fun i wq => ∃ (q : Nat) (st : St), q ≤ m ∧ i = .int .i64 q ∧ Rdr wq R st ∧ Blk2 wq b8 (.string ⟨st.bs.toArray⟩) (.int .i64 st.e) ∧ Ok st ∧ st.bs.length ≤ 500 ∧ Turns (fun _ => False) w wq) (fun i _ => m - (intOf i).toNat)
        case atStart => exact ⟨0, ⟨bl, 0⟩, Nat.zero_le _, rfl, HR1.out, HB8.out, fun h => absurd rfl h, HBL.out, HT1.out⟩
        case round =>
          obtain ⟨q, st, hq, rfl, hrd, hk8, hok, hlen, htq⟩ := hrel
          clear HB8 HR1 HT1 HBL
          by_cases hltq : q < m
          · have q1 : q < its.length := by have := HM.out; omega
            obtain ⟨b, off, t, rfl, hb, hcl, hrs, hs1, hs2, hs3, hit⟩ := (HI.out.still htq).at_ q q1
            have htm : t ∈ its := List.mem_of_getElem? hit
            have HBX := Lib.hid ((Turns.refl (fun _ => False) wr).alloc (.cells #[.int .u8 t.kind, .int .u64 t.x, .bool t.is, .string t.s, .slice t.la t.ls.length t.lc, .int .i64 t.most, .int .i64 t.long, .int .i64 t.e] 27))
            have HG := Lib.hid (gets_it R st t _ (hrd.still HBX.out) hok (by omega) (HWF.out t htm))
            have HOK2 : Hid (Ok (t.ask st)) := askS_ok _ _ _ _ _ hok
            have HLEN2 : Hid ((t.ask st).bs.length ≤ 500) := Nat.le_trans (askS_left _ _ _ _ _) hlen
            have z0 : wr.cell? ⟨b, off + q * 8, none⟩ = _ := hcl 0 _ rfl
            have z1 := hcl 1 _ rfl
            have z2 := hcl 2 _ rfl
            have z3 := hcl 3 _ rfl
            have z4 := hcl 4 _ rfl
            have z5 := hcl 5 _ rfl
            have z6 := hcl 6 _ rfl
            have z7 := hcl 7 _ rfl
            have d0 := hk8.c0
            have d1 := hk8.c1
            have hlt8 := hk8.lt
            have HK8 := Lib.hid (hk8.still HBX.out)
            have HTQ := Lib.hid (htq.still HBX.out)
            clear hcl hrs hs1 hs2 hs3 hit htm hrd hk8 hok hlen htq q1
            generalize t.ask st = s2 at *
            unfold refV at HG
            go_wp2_with fail
            with_reducible refine HG.out.mono ?_
            rintro e w5 ⟨rfl, hd5⟩
            have hb85 := HK8.out.turns hd5.2 (by omega)
            have f0 := hb85.c0
            have f1 := hb85.c1
            have f2 := hb85.fr
            have HS := Lib.hid (hb85.set (a' := .string ⟨s2.bs.toArray⟩) (b' := .int .i64 s2.e))
            have HR5 := Lib.hid (hd5.1.far hb85 (by omega) (((Turns.refl (fun i => i = b8) w5).setCell (p := ⟨b8, 0, none⟩) (fun _ => rfl) (.string ⟨s2.bs.toArray⟩)).setCell (p := ⟨b8, 1, none⟩) (fun _ => rfl) (.int .i64 s2.e)))
            have HT5 := Lib.hid ((HTQ.out.next hd5.2 (fun i hi he => by omega)).set2 (g := b8) (by omega) (.string ⟨s2.bs.toArray⟩) (.int .i64 s2.e))
            clear hd5 hb85 HK8 HTQ HBX HG z0 z1 z2 z3 z4 z5 z6 z7 d0 d1
            unfold refV
            obtain ⟨l2, e2⟩ := s2
            dsimp only at *
            have HL := Lib.hid (fun n => rleft_q R l2 e2 _ (HR5.out.still ((Turns.refl _ _).drewN n)))
            have HE := Lib.hid (fun n => rerr_q R l2 e2 _ (HR5.out.still ((Turns.refl _ _).drewN n)))
            have HD := Lib.hid (fun n => rend_q R l2 e2 _ (HR5.out.still ((Turns.refl _ _).drewN n)))
            have hsz : (ByteArray.mk l2.toArray).size = l2.length := by rw [← bytes_length]
            have hcase : (e2 ≠ 0 ∧ l2 = []) ∨ (e2 = 0 ∧ l2 = []) ∨ (e2 = 0 ∧ l2 ≠ []) := by
              by_cases h1 : e2 = 0
              · by_cases h2 : l2 = []
                · exact .inr (.inl ⟨h1, h2⟩)
                · exact .inr (.inr ⟨h1, h2⟩)
              · exact .inl ⟨h1, HOK2.out h1⟩
            rcases hcase with ⟨h1, rfl⟩ | ⟨rfl, rfl⟩ | ⟨rfl, h1⟩
            · have g1 : (e2 == 0) = false := by simpa using h1
              have hend : endS ⟨[], e2⟩ = e2 := rfl
              rw [hend] at HD
              clear h1 hend
              go_wp2_with fail
              go_quiet (first
                | (go_at_call 17; exact Calls.quiet_of_same (HL.out _))
                | (go_at_call 18; exact Calls.quiet_of_same (HE.out _))
                | (go_at_call 19; exact Calls.quiet_of_same (HD.out _)))
              go_wp2
              go_roundw
              case rel => exact ⟨q + 1, _, by omega, by go_num, HR5.out.still ((Turns.refl _ _).drewN nq), HS.out.still ((Turns.refl _ _).drewN nq), HOK2.out, HLEN2.out, HT5.out.drewN nq⟩
              case measure => simp [intOf]; omega
            · have hend : endS ⟨[], 0⟩ = 0 := rfl
              rw [hend] at HD
              clear hend
              go_wp2_with fail
              go_quiet (first
                | (go_at_call 17; exact Calls.quiet_of_same (HL.out _))
                | (go_at_call 18; exact Calls.quiet_of_same (HE.out _))
                | (go_at_call 19; exact Calls.quiet_of_same (HD.out _)))
              go_wp2
              go_roundw
              case rel => exact ⟨q + 1, _, by omega, by go_num, HR5.out.still ((Turns.refl _ _).drewN nq), HS.out.still ((Turns.refl _ _).drewN nq), HOK2.out, HLEN2.out, HT5.out.drewN nq⟩
              case measure => simp [intOf]; omega
            · have hend : endS ⟨l2, 0⟩ = 3 := by
                have : 0 < l2.length := List.length_pos_iff.2 h1
                simp [endS, this]
              rw [hend] at HD
              have hte : (ByteArray.mk l2.toArray).toList.isEmpty = false := by
                rw [ByteArray.toList_eq]
                simpa using h1
              have HSB : Hid (∃ sb, sb = ByteArray.mk l2.toArray) := ⟨_, rfl⟩
              obtain ⟨sb, hsb⟩ := HSB.out
              rw [← hsb] at HS HR5 HT5 HE HD HL hsz hte ⊢
              have HSB := Lib.hid hsb
              generalize l2.length = len2 at HL hsz
              clear hend h1 hsb
              go_wp2_with fail
              go_quiet (first
                | (go_at_call 17; exact Calls.quiet_of_same (HL.out _))
                | (go_at_call 18; exact Calls.quiet_of_same (HE.out _))
                | (go_at_call 19; exact Calls.quiet_of_same (HD.out _)))
              go_wp2
              go_roundw
              case rel => exact ⟨q + 1, _, by omega, by go_num, HR5.out.still ((Turns.refl _ _).drewN nq), by show Blk2 _ _ (.string (ByteArray.mk l2.toArray)) _; rw [← HSB.out]; exact HS.out.still ((Turns.refl _ _).drewN nq), HOK2.out, HLEN2.out, HT5.out.drewN nq⟩
              case measure => simp [intOf]; omega
          · have HTQ := Lib.hid htq
            clear hrd hk8 hok hlen htq
            go_wp2
            go_ret
            exact ⟨rfl, HTQ.out⟩
end Go.Proofs.Ytgipafdfmghogaa
