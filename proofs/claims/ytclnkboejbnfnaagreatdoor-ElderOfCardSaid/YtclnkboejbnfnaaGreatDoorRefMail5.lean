/-
  The document's Mail: a local part up to the first @, then labels byte by byte.
  Conditions: the text has at most 1000 bytes.
-/
import Derived.Test.YtclnkboejbnfnaaGreatDoorRefFold5
import Derived.Test.YtclnkboejbnfnaaGreatDoorMail
namespace Go.Proofs.YtclnkboejbnfnaaGreatDoor
open Go.RowKit

theorem idx_hit (c : UInt8) : ∀ (l : List UInt8) (k : Nat) (hk : k < l.length), (∀ j (h : j < l.length), j < k → ¬ l[j] = c) → l[k] = c → Lib.indexByte l c = k
  | [], k, hk, _, _ => absurd hk (by simp)
  | x :: l, 0, _, _, h => by
    have : x = c := h
    unfold Lib.indexByte
    rw [if_pos (beq_iff_eq.2 this)]; rfl
  | x :: l, k + 1, hk, ha, h => by
    have h0 : ¬ x = c := ha 0 (by simp) (by omega)
    have ih := idx_hit c l k (by simpa using hk) (fun j hj hjk => ha (j + 1) (by simpa using hj) (by omega)) (by simpa using h)
    unfold Lib.indexByte
    rw [if_neg (by simpa using h0), ih]
    have : ((k : Int) == -1) = false := by simp
    rw [this]
    simp
theorem idx_none (c : UInt8) : ∀ (l : List UInt8), (∀ j (h : j < l.length), ¬ l[j] = c) → Lib.indexByte l c = -1
  | [], _ => rfl
  | x :: l, ha => by
    have h0 : ¬ x = c := ha 0 (by simp)
    have ih := idx_none c l (fun j hj => ha (j + 1) (by simpa using hj))
    unfold Lib.indexByte
    rw [if_neg (by simpa using h0), ih]
    rfl

theorem cut5_hit (l : List UInt8) (k : Nat) (hk : k < (fold5 l).length) (ha : ∀ j (h : j < (fold5 l).length), j < k → ¬ (fold5 l)[j] = 64) (h : (fold5 l)[k] = 64) :
    cut5 l = ((fold5 l).take k, (fold5 l).drop (k + 1), true) := by
  have hi := (Lib.index_one (fold5 l) 64).trans (idx_hit 64 _ k hk ha h)
  unfold cut5 Lib.cut
  rw [hi, if_pos (by omega)]
  simp
theorem cut5_none (l : List UInt8) (ha : ∀ j (h : j < (fold5 l).length), ¬ (fold5 l)[j] = 64) : (cut5 l).2.2 = false := by
  have hi := (Lib.index_one (fold5 l) 64).trans (idx_none 64 _ ha)
  unfold cut5 Lib.cut
  rw [hi, if_neg (by omega)]

theorem cut_to (s : ByteArray) (k : Nat) (h : k ≤ s.size) (W : World) :
    (Instr.slice 9 (.string s) none (some (.int .i64 k)) none).run Tryz.prog W = .ok (.string (s.extract 0 k)) W := by
  rw [run_slice_string_to_if W 9 s .i64 (k : Int) Tryz.underlying9]
  simp [h]

/-- An address is told, or that it is none. -/
def RMails5 (b : Bool) (t : ByteArray) (w : World) (e : Ending) (w' : World) : Prop := e = .returned (.tuple #[.string t, .bool b]) ∧ ∃ q, w' = w.drewN q

set_option maxRecDepth 100000 in
theorem rmail_calls (s : ByteArray) (w : World) (hs : s.size ≤ 1000) :
    Calls Tryz.prog 124 #[.string s] w (RMails5 (mail5 s.data.toList) (mailT s.data.toList) w) := by
  by_cases h20 : s.size ≤ 20
  · have hm1 : mail5 s.data.toList = ((cut5 s.data.toList).2.2 && name5 (cut5 s.data.toList).1 && dom5 both5 (cut5 s.data.toList).2.1) := by
      unfold mail5
      rw [size_list, decide_eq_true h20, Bool.true_and]
    have hfl : (fold5 s.data.toList).length = s.size := by rw [fold5_length, size_list]
    have HF := Lib.hid (rfold_calls s w hs)
    unfold mailT
    rw [hm1]
    clear hm1
    have HCH := Lib.hid (cut5_hit s.data.toList)
    have HCN := Lib.hid (cut5_none s.data.toList)
    generalize hcc : cut5 s.data.toList = c at *
    clear hcc
    generalize fold5 s.data.toList = l at *
    generalize hn : s.size = n at *
    have z : ¬ (n : Int) > 20 := by omega
    have z' : ¬ 20 < n := by omega
    obtain ⟨f, hf⟩ : ∃ f : ByteArray, f = ⟨l.toArray⟩ := ⟨_, rfl⟩
    have hfs : f.size = n := by rw [hf]; show l.toArray.size = n; rw [List.size_toArray, hfl]
    have hfl2 : f.data.toList = l := by rw [hf]
    have HGet : Hid (∀ j (h : j < l.length) (h2 : j < f.size), l[j] = f[j]) := fun j h h2 => by subst hf; rfl
    rw [← hf] at HF ⊢
    clear hf
    obtain ⟨r, hr⟩ : ∃ r : Bool, r = (c.2.2 && name5 c.1 && dom5 both5 c.2.1) := ⟨_, rfl⟩
    obtain ⟨rt, hrt⟩ : ∃ rt : ByteArray, rt = if (c.2.2 && name5 c.1 && dom5 both5 c.2.1) = true then f else ⟨#[]⟩ := ⟨_, rfl⟩
    rw [← hrt, ← hr]
    rw [← hr] at hrt
    have HR := Lib.hid hr
    have HRT := Lib.hid hrt
    have HFL := Lib.hid hfl
    have HFL2 := Lib.hid hfl2
    have HFS := Lib.hid hfs
    clear hr hrt hfl hfl2 hfs
    go_enter Tryz.func124, Tryz.ntmps124
    go_wp2_with fail
    with_reducible refine HF.out.mono ?_
    rintro e w1 ⟨rfl, q, rfl⟩
    have HQ : Hid (∃ q', w.drewN q = w.drewN q') := ⟨q, rfl⟩
    generalize w.drewN q = w1 at *
    clear HF
    have hfs := HFS.out
    go_wp2
    go_loopg [4] n (fun gg s4 wr => ∃ k : Nat, k ≤ n ∧ n - k ≤ gg ∧ s4 = .int .i64 k ∧ wr = w1 ∧ Hid (∀ j (h : j < l.length), j < k → ¬ l[j] = 64))
    case atStart => exact ⟨0, Nat.zero_le _, by omega, rfl, rfl, fun j _ hj => absurd hj (Nat.not_lt_zero _)⟩
    case round =>
      obtain ⟨k, hk, hg, rfl, rfl, A⟩ := hrel
      by_cases hlt : k < n
      · have hltz : (k : Int) < (n : Int) := by omega
        have hkf : k < f.size := by omega
        have hkl : k < l.length := by have := HFL.out; omega
        have hx : ∀ (h : k < f.size), ((f[k]'h).toNat : Int) = bt5 f k := fun h => bt5_eq f k h
        have hlx := HGet.out k hkl hkf
        have h64 : l[k] = 64 ↔ bt5 f k = 64 := by
          rw [← hx hkf, hlx]
          constructor
          · intro h; rw [h]; rfl
          · intro h; exact UInt8.toNat_inj.1 (by have : (64 : UInt8).toNat = 64 := rfl; omega)
        by_cases hq : l[k] = 64
        · have hq' := h64.1 hq
          have hcc := HCH.out k hkl A.out hq
          have hc1 : c.1 = l.take k := by rw [hcc]
          have hc2 : c.2.1 = l.drop (k + 1) := by rw [hcc]
          have hc3 : c.2.2 = true := by rw [hcc]
          have HNM := Lib.hid (rname_calls (f.extract 0 k) wr (by simp; omega))
          have hex : (f.extract 0 k).data.toList = l.take k := by
            rw [← HFL2.out]
            exact Lib.extract_from_zero f k
          rw [hex, ← hc1] at HNM
          have hct := cut_to f k (by omega)
          generalize f.extract 0 k = f1 at *
          have hr1 : r = (name5 c.1 && dom5 both5 (l.drop (k + 1))) := by rw [HR.out, hc3, hc2, Bool.true_and]
          clear HR HCH HCN hcc hc2 hc3 hc1 hex h64 hlx hq A
          generalize name5 c.1 = bn at *
          have zk : ¬ (k : Int) = (n : Int) := by omega
          have zk' : ¬ k = n := by omega
          have zkb : ((k : Int) == (n : Int)) = false := by simp; omega
          cases bn with
          | false =>
            have hr : r = false := hr1
            have hrt : rt = ⟨#[]⟩ := by rw [HRT.out, hr]; rfl
            subst hr; subst hrt
            clear hr1 HRT
            go_wp2_with fail
            with_reducible refine HNM.out.mono ?_
            rintro e w2 ⟨rfl, rfl⟩
            go_wp2
            go_ret2
            exact ⟨rfl, HQ.out⟩
          | true =>
            rw [Bool.true_and, ← scan5_dom] at hr1
            have HR1 := Lib.hid hr1
            clear hr1
            go_wp2_with fail
            with_reducible refine HNM.out.mono ?_
            rintro e w2 ⟨rfl, rfl⟩
            clear HNM hct
            go_wp2
            go_loopg [5, 6, 7] n (fun gg s5 s6 s7 wr => ∃ i st lg : Nat, i ≤ n ∧ n - i ≤ gg ∧ st ≤ i ∧ lg ≤ i ∧ s5 = .int .i64 st ∧ s6 = .int .i64 lg ∧ s7 = .int .i64 i ∧ wr = w2 ∧ Hid (r = scan5 both5 (l.drop i) st lg))
            case atStart => exact ⟨k + 1, 0, 0, by omega, by omega, by omega, by omega, rfl, rfl, by go_num, rfl, HR1⟩
            case round =>
              obtain ⟨i, st, lg, hi, hgi, hst, hlg, rfl, rfl, rfl, rfl, HS⟩ := hrel
              by_cases hil : i < n
              · have hilz : (i : Int) < (n : Int) := by omega
                have hif : i < f.size := by omega
                have hill : i < l.length := by have := HFL.out; omega
                have hxi : ∀ (h : i < f.size), ((f[i]'h).toNat : Int) = bt5 f i := fun h => bt5_eq f i h
                have hli := HGet.out i hill hif
                have hsc : r = scan5 both5 (f[i] :: l.drop (i + 1)) st lg := by
                  rw [HS.out, List.drop_eq_getElem_cons hill, hli]
                have HI := Lib.hid (hxi hif ▸ inboth_calls f[i] wr)
                have h46 : f[i] = 46 ↔ bt5 f i = 46 := by
                  rw [← hxi hif]
                  constructor
                  · intro h; rw [h]; rfl
                  · intro h; exact UInt8.toNat_inj.1 (by have : (46 : UInt8).toNat = 46 := rfl; omega)
                rw [scan5] at hsc
                clear hx
                by_cases hd : f[i] = 46
                · rw [if_pos hd] at hsc
                  have hd' := h46.1 hd
                  clear h46 hd HI hli HS
                  by_cases hl0 : lg = 0
                  · rw [if_pos hl0] at hsc
                    have hrt : rt = ⟨#[]⟩ := by rw [HRT.out, hsc]; rfl
                    subst hsc; subst hrt
                    have zl : (lg : Int) = 0 := by omega
                    clear HRT
                    go_wp2
                    go_ret2
                    exact ⟨rfl, HQ.out⟩
                  · rw [if_neg hl0] at hsc
                    have zl : ¬ (lg : Int) = 0 := by omega
                    have HS2 := Lib.hid hsc
                    clear hsc
                    go_wp2
                    go_roundg (n - (i + 1))
                    case measure => omega
                    case rel => exact ⟨i + 1, st + 1, 0, by omega, by omega, by omega, by omega, by go_num, rfl, by go_num, rfl, HS2⟩
                · rw [if_neg hd] at hsc
                  have hd' : ¬ bt5 f i = 46 := fun h => hd (h46.2 h)
                  clear h46 hd hli HS
                  generalize both5 f[i] = bb at *
                  cases bb with
                  | false =>
                    have hrf : r = false := hsc
                    have hrt : rt = ⟨#[]⟩ := by rw [HRT.out, hrf]; rfl
                    subst hrf; subst hrt
                    clear HRT hsc
                    go_wp2_with fail
                    with_reducible refine HI.out.mono ?_
                    rintro e w3 ⟨rfl, rfl⟩
                    go_wp2
                    go_ret2
                    exact ⟨rfl, HQ.out⟩
                  | true =>
                    have HS2 : Hid (r = scan5 both5 (l.drop (i + 1)) st (lg + 1)) := hsc
                    clear hsc
                    go_wp2_with (go_at_call 211; with_reducible refine HI.out.mono ?_; rintro e w3 ⟨rfl, rfl⟩)
                    go_roundg (n - (i + 1))
                    case measure => omega
                    case rel => exact ⟨i + 1, st, lg + 1, by omega, by omega, by omega, by omega, rfl, by go_num, by go_num, rfl, HS2⟩
              · have hilz : ¬ (i : Int) < (n : Int) := by omega
                obtain rfl : i = n := by omega
                have hnil : l.drop i = [] := List.drop_eq_nil_of_le (by have := HFL.out; omega)
                have hsc : r = (decide (1 ≤ st) && decide (1 ≤ lg)) := by rw [HS.out, hnil]; rfl
                clear hnil HS hx
                by_cases hs0 : st = 0
                · have hrf : r = false := by rw [hsc, decide_eq_false (by omega)]; rfl
                  have hrt : rt = ⟨#[]⟩ := by rw [HRT.out, hrf]; rfl
                  subst hrf; subst hrt
                  clear hsc HRT
                  have zs : (st : Int) = 0 := by omega
                  go_wp2
                  go_ret2
                  exact ⟨rfl, HQ.out⟩
                · have zs : ¬ (st : Int) = 0 := by omega
                  have zsb : ((st : Int) == 0) = false := by simp; omega
                  by_cases hl0 : lg = 0
                  · have hrf : r = false := by rw [hsc, decide_eq_false (by omega : ¬ 1 ≤ lg), Bool.and_false]
                    have hrt : rt = ⟨#[]⟩ := by rw [HRT.out, hrf]; rfl
                    subst hrf; subst hrt
                    clear hsc HRT
                    have zl : (lg : Int) = 0 := by omega
                    go_wp2
                    go_ret2
                    exact ⟨rfl, HQ.out⟩
                  · have zl : ¬ (lg : Int) = 0 := by omega
                    have zlb : ((lg : Int) == 0) = false := by simp; omega
                    have hrf : r = true := by rw [hsc, decide_eq_true (by omega : 1 ≤ st), decide_eq_true (by omega : 1 ≤ lg)]; rfl
                    have hrt : rt = f := by rw [HRT.out, hrf]; rfl
                    subst hrf; subst hrt
                    clear hsc HRT
                    go_wp2
                    go_ret2
                    exact ⟨rfl, HQ.out⟩
        · have hq' : ¬ bt5 f k = 64 := fun h => hq (h64.2 h)
          have HQ2 := Lib.hid hq
          clear hq h64 hlx
          go_wp2
          go_roundg (n - (k + 1))
          case measure => omega
          case rel =>
            refine ⟨k + 1, by omega, by omega, by go_num, rfl, (show Hid _ from fun j h hj => ?_)⟩
            by_cases e : j = k
            · subst e
              exact HQ2.out
            · exact A.out j h (by omega)
      · have hltz : ¬ (k : Int) < (n : Int) := by omega
        obtain rfl : k = n := by omega
        have hb : c.2.2 = false := HCN.out fun j hj => A.out j hj (by have := HFL.out; omega)
        have hr : r = false := by rw [HR.out, hb]; rfl
        have hrt : rt = ⟨#[]⟩ := by rw [HRT.out, hr]; rfl
        subst hr; subst hrt
        clear hb
        go_wp2
        go_ret2
        exact ⟨rfl, HQ.out⟩
  · have hm1 : mail5 s.data.toList = false := by
      unfold mail5
      rw [size_list, decide_eq_false h20]; rfl
    have hm2 : mailT s.data.toList = ⟨#[]⟩ := by unfold mailT; rw [hm1]; rfl
    rw [hm1, hm2]
    clear hm1 hm2
    generalize hn : s.size = n at *
    have z : (n : Int) > 20 := by omega
    have z' : 20 < n := by omega
    go_enter Tryz.func124, Tryz.ntmps124
    go_wp2
    go_ret2
    exact ⟨rfl, 0, rfl⟩
end Go.Proofs.YtclnkboejbnfnaaGreatDoor
