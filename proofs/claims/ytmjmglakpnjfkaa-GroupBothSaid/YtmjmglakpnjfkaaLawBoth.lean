/-
  A name is among a group's members just if the group is among those of the name; rows rise: the law's walk.
  Conditions: none beyond the law's own.
-/
import Derived.Test.YtmjmglakpnjfkaaGroupLoop
import Derived.Test.YtmjmglakpnjfkaaAppKeep
namespace Go.Proofs.Ytmjmglakpnjfkaa
open Go.RowKit Go.Maps

def ann10 (MM : List (List UInt8)) (a b : ByteArray) : List (List UInt8) := MM ++ [a.data.toList, b.data.toList, [97, 110, 110]]
theorem ann10_size {MM : List (List UInt8)} {a b : ByteArray} (h : ∀ x ∈ MM, name5 x = true) (h1 : a.size ≤ 50) (h2 : b.size ≤ 50) : ∀ y ∈ ann10 MM a b, (tx10 y).size ≤ 9223372036854775807 := by
  intro y hy
  rw [tx10_size]
  unfold ann10 at hy
  rcases List.mem_append.1 hy with hy | hy
  · exact Nat.le_trans (name10_len (h y hy)) (by decide)
  · rcases List.mem_cons.1 hy with rfl | hy
    · have := size_list a; omega
    · rcases List.mem_cons.1 hy with rfl | hy
      · have := size_list b; omega
      · rcases List.mem_cons.1 hy with rfl | hy
        · decide
        · cases hy
theorem app3_10 {w8 w10 w11 : World} {o : Obj} {v v' : Value} {MM : List (List UInt8)} {a b : ByteArray} {nM : Nat} (hn : nM = MM.length) (hb : Below w8.heap.size w8 w10) (hu : w10.ownsRow w8.heap.size 9 1 v nM (MM.map encStr)) (h1 : w11.ownsRow w8.heap.size 9 1 v' (nM + 3) (MM.map encStr ++ [.string a, .string b, .string ⟨#[97, 110, 110]⟩])) (h2 : (w10.alloc o).grownBy w11 v.ownBlock) (h3 : w11.ownsRow w8.heap.size 9 1 v nM (MM.map encStr)) :
    ∃ q A C, q = (ann10 MM a b).length ∧ v' = .slice A q C ∧ NmR w11 (.slice A q C) (ann10 MM a b) ∧ NmR w11 v MM ∧ Below w8.heap.size w8 w11 := by
  subst hn
  have e : (ann10 MM a b).map encStr = MM.map encStr ++ [.string a, .string b, .string ⟨#[97, 110, 110]⟩] := by
    unfold ann10
    rw [List.map_append]
    show _ ++ [encStr a.data.toList, encStr b.data.toList, encStr [97, 110, 110]] = _
    rw [encStr_back10, encStr_back10]
  have el : (ann10 MM a b).length = MM.length + 3 := by unfold ann10; simp
  have hq : NmR w11 v' (ann10 MM a b) := by
    show World.ownsRow _ _ _ _ _ _ _
    rw [e, el]
    exact ownsRow_low10 h1 (Nat.zero_le _)
  obtain ⟨A, C, rfl⟩ := hq.shape
  exact ⟨_, A, C, rfl, rfl, hq, ownsRow_low10 h3 (Nat.zero_le _), app10 hb hu h2⟩
theorem loop10_later {w0 W W' : World} {B Wb k : Nat} (h : Loop10 w0 B Wb k W) (hb : Below W.heap.size W W') : Loop10 w0 B Wb k W' := by
  obtain ⟨S, N, M, A1, C1, A2, C2, ho, hx, hn, hm, hr, hl⟩ := h
  exact ⟨S, N, M, A1, C1, A2, C2, ho.later hb, hx.later hb, hn.later hb, hm.later hb, hr, hl⟩

set_option maxRecDepth 100000 in
set_option maxHeartbeats 16000000 in
theorem both10l_walk (A : Option Addr) (c n : Nat) (l : List Act7) (w : World) (hl : n = l.length) (hn : n ≤ 9223372036854775807) (hr : RdA7 w A l) :
    Calls Try.prog 4 #[.slice A n c] w (Tells5 true w) := by
  have HV : Hid (∀ W, Calls Try.prog 6 #[] W (Tells5 true W)) := lives10_calls
  have HNW : Hid (∀ W, Calls Try.prog 8 #[] W fun e w' => e = .returned (.pointer (some ⟨W.heap.size, 0, none⟩)) ∧ w' = W.alloc (.cells #[.map none] 53)) := new10_calls
  have HF : Hid (∀ W, Below w.heap.size w W → Calls Try.prog 7 #[.slice A n c] W (Tells5 (few10 l) W)) := fun W hb => few10_calls A c n l W hl hn (hr.later hb)
  have HFW : Hid (few10 l = true → n ≤ 60 ∧ ∀ t ∈ l, t.nm.size ≤ 50 ∧ t.hs.size ≤ 50) := fun h => ⟨by rw [hl]; exact few10_len h, few10_size h⟩
  have HR := Lib.hid hr
  have HL := Lib.hid hl
  clear hr hl
  generalize few10 l = fw at *
  go_enter Try.func4, Try.ntmps4
  go_wp2_with fail
  with_reducible refine (HV.out w).mono ?_
  rintro e w1 ⟨rfl, hb⟩
  have HB1 := Lib.hid hb
  clear hb
  go_wp2_with fail
  with_reducible refine (HF.out w1 HB1.out).mono ?_
  rintro e w2 ⟨rfl, hb⟩
  have HB2 := Lib.hid (below_next HB1.out hb)
  clear hb HF HB1
  have BAD : Hid (∀ W, Below w.heap.size w W → Calls Try.prog 6 #[] W fun e w' => e = .returned (.bool true) ∧ Hid (Below w.heap.size w w')) := fun W hb => (HV.out W).mono fun e w' ⟨he, hb'⟩ => ⟨he, below_next hb hb'⟩
  clear HV
  cases fw with
  | false =>
    go_wp2_with fail
    with_reducible refine (BAD.out w2 HB2.out).mono ?_
    rintro e w3 ⟨rfl, HB3⟩
    go_wp2
    go_ret
    exact ⟨rfl, HB3.out⟩
  | true =>
  obtain ⟨hn60, hsz⟩ := HFW.out rfl
  have HSZ := Lib.hid hsz
  clear HFW hsz
  clear BAD
  go_wp2_with fail
  with_reducible refine (HNW.out w2).mono ?_
  rintro e w3 ⟨rfl, rfl⟩
  have HO := Lib.hid (own10_new w2)
  have HZB : Hid (w2.heap.size ≤ (w2.alloc (.cells #[.map none] 53)).heap.size) := by show _ ≤ _; simp
  generalize w2.alloc (.cells #[.map none] 53) = w3 at *
  generalize w2.heap.size = B at HO ⊢
  clear HNW 
  have HL0 : Hid (Loop10 w2 B w3.heap.size 0 (w3.alloc (.cells #[.slice none 0 0, .slice none 0 0] TG))) := by
    have hb := below_alloc (Below.refl w3.heap.size w3) (.cells #[.slice none 0 0, .slice none 0 0] TG)
    exact ⟨[], [], [], none, 0, none, 0, HO.out.later hb, bx10_new _ _ _, NmR.nil _, MbR.nil _, Rel10.nil, Nat.le_refl _⟩
  clear HO
  go_wp2
  generalize w3.alloc (.cells #[.slice none 0 0, .slice none 0 0] TG) = w4 at *
  generalize w3.heap.size = Wb at *
  go_loopg [25] n (fun gg s25 wr => ∃ k : Nat, k ≤ n ∧ n - k ≤ gg ∧ s25 = .int .i64 k ∧ Hid (Loop10 w2 B Wb k wr))
  case atStart => exact ⟨0, Nat.zero_le _, by omega, rfl, HL0⟩
  case round =>
    obtain ⟨k, hk, hg, rfl, HW⟩ := hrel
    by_cases hlt : k < n
    · have hltz : (k : Int) < (n : Int) := by omega
      have hkl : k < l.length := HL.out ▸ hlt
      obtain ⟨S, N, M, A1, C1, A2, C2, ho, hx, hn1, hm1, hrl, hml⟩ := HW.out
      obtain ⟨b, off, rfl, hb, hc⟩ := (HR.out.later (below_next HB2.out ho.below)) (by intro e; rw [e] at hkl; exact absurd hkl (Nat.not_lt_zero _))
      have c0 : wr.cell? ⟨b, off + k * 3, none⟩ = some (.int .u8 (l[k].kd : Int)) := hc k hkl 0 _ rfl
      have c1 : wr.cell? ⟨b, off + k * 3 + 1, none⟩ = some (.string l[k].nm) := hc k hkl 1 _ rfl
      have c2 : wr.cell? ⟨b, off + k * 3 + 2, none⟩ = some (.string l[k].hs) := hc k hkl 2 _ rfl
      have hbv := below_alloc (Below.refl wr.heap.size wr) (.cells #[.int .u8 (l[k].kd : Int), .string l[k].nm, .string l[k].hs] 32)
      have HDO := Lib.hid (do10_calls w2 B S k _ _ N M l[k].kd l[k].nm l[k].hs _ (ho.later hbv) (by omega) (hn1.later hbv) (hm1.later hbv) hrl (by omega) (HSZ.out _ (List.getElem_mem hkl)).1 (HSZ.out _ (List.getElem_mem hkl)).2)
      have HXV := Lib.hid (hx.later hbv)
      have HAV := Lib.hid (actat10_new wr l[k].kd l[k].nm l[k].hs)
      have HML := Lib.hid hml
      have HS5 := Lib.hid (HSZ.out _ (List.getElem_mem hkl))
      have x0 := hx.c0
      have x1 := hx.c1
      have xl := hx.lt
      clear hc hb ho hx hn1 hm1 hrl hml hbv HW
      generalize l[k].kd = kd at *
      generalize l[k].nm = nm at *
      generalize l[k].hs = hs at *
      clear hkl
      go_wp2_with fail
      with_reducible refine HDO.out.mono ?_
      rintro e w5 ⟨S5, N5, M5, v1, v2, rfl, ho5, hn5, hm5, hr5, hl5, hk5⟩
      obtain ⟨A5, C5, rfl⟩ := hn5.shape
      obtain ⟨A6, C6, rfl⟩ := hm5.shape
      have hx5 := HXV.out.keeps hk5
      have r0 := hx5.c0
      have r1 := hx5.c1
      have rf0 := hx5.f0
      have rf1 := hx5.f1
      have HLN : Hid (Loop10 w2 B Wb (k + 1) ((w5.setCell ⟨Wb, 0, none⟩ (.slice A5 N5.length C5)).setCell ⟨Wb, 1, none⟩ (.slice A6 M5.length C6))) := loop10_next HXV.out HZB.out hk5 ho5 hn5 hm5 hr5 hl5 HML.out
      have HA6 : Hid (ActAt10 ((w5.setCell ⟨Wb, 0, none⟩ (.slice A5 N5.length C5)).setCell ⟨Wb, 1, none⟩ (.slice A6 M5.length C6)) wr.heap.size kd nm hs) := (HAV.out.keeps hk5).keepG ((hx5.keep 0 _).trans ((hx5.set0 _).keep 1 _))

      clear ho5 hn5 hm5 hr5 hl5 hk5 hx5 HXV HDO HAV HML x0 x1 xl c0 c1 c2
      generalize List.length N5 = nn5 at *
      generalize List.length M5 = nm5 at *
      go_wp2_with fail
      generalize (w5.setCell ⟨Wb, 0, none⟩ (.slice A5 nn5 C5)).setCell ⟨Wb, 1, none⟩ (.slice A6 nm5 C6) = w6 at *
      generalize wr.heap.size = ab at *
      obtain ⟨wi, hwi⟩ : ∃ wi, wi = wr := ⟨_, rfl⟩
      subst hwi

      obtain ⟨S, N, M, A1, C1, A2, C2, ho, _⟩ := HLN.out
      have HAL := Lib.hid ho.all_
      have HO6 := Lib.hid ho
      have HGD := Lib.hid ho.good
      clear ho
      with_reducible refine HAL.out.mono ?_
      rintro e w7 ⟨va, rfl, hra, hba⟩
      have HLR : Hid (NmR w7 va (names10 S)) := NmR.of hra
      have HO7 := Lib.hid (HO6.out.later hba)
      have HA7 := Lib.hid (HA6.out.later hba)
      have HL7 := Lib.hid (loop10_later HLN.out hba)
      clear hra hba HAL HO6 HA6 HLN
      obtain ⟨L, hL⟩ : ∃ L, names10 S = L := ⟨_, rfl⟩
      rw [hL] at HLR
      have HLE := Lib.hid hL
      have hLl : L.length ≤ 6 := by rw [← hL, names10_length]; exact HGD.out.few
      have hLr : RiseT L := by rw [← hL]; exact HGD.out.rise.names
      have HLZ : Hid (∀ g ∈ L, (tx10 g).size ≤ 9223372036854775807) := fun g hg => by
        rw [← hL] at hg
        obtain ⟨x, hx, rfl⟩ := List.mem_map.1 hg
        rw [tx10_size]
        exact Nat.le_trans (name10_len (HGD.out.named x hx)) (by decide)
      have HRS := Lib.hid (rises10_tells va L w7 hLr HLR.out (by omega))
      clear hL hLr
      obtain ⟨AL, CL, rfl⟩ := HLR.out.shape
      obtain ⟨m, hm⟩ : ∃ m, m = L.length := ⟨_, rfl⟩
      rw [← hm] at HLR HRS hLl ⊢
      have HM := Lib.hid hm
      clear hm
      have y : ¬ (m : Int) > 6 := by omega
      have y' : ¬ 6 < m := by omega
      have y2 : decide ((m : Int) > 6) = false := decide_eq_false y
      go_wp2_with fail
      with_reducible refine HRS.out.mono ?_
      rintro e w8 ⟨rfl, hb8⟩
      have HR8 := Lib.hid (HLR.out.later hb8)
      have HO8 := Lib.hid (HO7.out.later hb8)
      have HA8 := Lib.hid (HA7.out.later hb8)
      have HL8 := Lib.hid (loop10_later HL7.out hb8)
      clear hb8 HRS HLR HO7 HA7 HL7
      go_wp2
      go_loopg [48] m (fun gg s48 wr => ∃ j : Nat, j ≤ m ∧ m - j ≤ gg ∧ s48 = .int .i64 j ∧ Hid (Below w8.heap.size w8 wr))
      case atStart => exact ⟨0, Nat.zero_le _, by omega, rfl, Below.refl _ _⟩
      case round =>
        obtain ⟨j, hj, hg2, rfl, HW2⟩ := hrel
        by_cases hlt2 : j < m
        · have hltz2 : (j : Int) < (m : Int) := by omega
          have hjl : j < L.length := HM.out ▸ hlt2
          obtain ⟨gb, cx, e2, x0⟩ := (HR8.out.later HW2.out).at_ hjl
          injection e2 with e2 e2n e2c
          subst e2
          clear e2n e2c
          have hgd := HGD.out
          have hxm : L[j] ∈ names10 S := by rw [HLE.out]; exact List.getElem_mem hjl
          have hde : drE10 S (tx10 L[j]).data.toList = 0 := by rw [tx10_list]; exact drE10_named hgd hxm
          have hme : meL10 S (tx10 L[j]).data.toList = names10 (mem10 S (tx10 L[j]).data.toList) := by unfold meL10; rw [if_pos hde]
          have HMB := Lib.hid ((HO8.out.later HW2.out).members (by omega) (tx10 L[j]) (HLZ.out _ (List.getElem_mem hjl)))
          rw [hde, hme] at HMB
          obtain ⟨MM, hMM⟩ : ∃ MM, names10 (mem10 S (tx10 L[j]).data.toList) = MM := ⟨_, rfl⟩
          have HMR : Hid (RiseT MM) := by show RiseT _; rw [← hMM]; exact (mem10_rise hgd _).names
          have hml : MM.length ≤ 61 := by rw [← hMM, names10_length]; have := mem10_le hgd (tx10 L[j]).data.toList; omega
          have HMN : Hid (∀ x ∈ MM, name5 x = true) := by show ∀ x ∈ MM, _; rw [← hMM]; exact mem10_named hgd _
          have HBO : Hid (∀ y, hasT (of10 S y) (tx10 L[j]).data.toList = hasT MM y) := fun y => by rw [← hMM]; exact (both10 hgd.rise _ _).symm
          have HOL : Hid (∀ y, (of10 S y).length ≤ 1000) := fun y => Nat.le_trans (of10_le _ _) (Nat.le_trans hgd.few (by decide))
          rw [hMM] at HMB
          clear hgd hxm hde hme hMM
          generalize tx10 L[j] = xs at *
          clear hjl
          obtain ⟨nM, hnM⟩ : ∃ nM, nM = MM.length := ⟨_, rfl⟩
          rw [← hnM] at HMB hml
          have HNM := Lib.hid hnM
          clear hnM
          go_wp2_with fail
          with_reducible refine HMB.out.mono ?_
          rintro e w9 ⟨v9, rfl, hr9, hb9⟩
          have HR9 : Hid (NmR w9 v9 MM) := by
            have := ownsRow_low10 hr9 (Nat.zero_le _)
            rw [HNM.out] at this
            exact this
          have HRI := Lib.hid (rises10_tells v9 MM w9 HMR.out HR9.out (by have := HNM.out; omega))
          have HB9 : Hid (Below w8.heap.size w8 w9) := below_next HW2.out hb9
          have HU9 := Lib.hid (ownsRow_low10 hr9 HW2.out.size)
          obtain ⟨A9, C9, rfl⟩ := HR9.out.shape
          rw [← HNM.out] at HRI HU9 ⊢
          clear hr9 hb9 HMB HR9
          go_wp2_with fail
          with_reducible refine HRI.out.mono ?_
          rintro e w10 ⟨rfl, hb10⟩
          have HB10 : Hid (Below w8.heap.size w8 w10) := below_next HB9.out hb10
          have HU := Lib.hid (ownsRow_below10 HU9.out hb10)
          have c1 := (HA8.out.later HB10.out).c1
          have c2 := (HA8.out.later HB10.out).c2
          clear hb10 HRI HB9 HU9
          obtain ⟨i0, hi, hz0, hz1, hz2⟩ := info_parts infoStr10
          go_wp2_with (first
          | (at_builtin; refine wpList_append_keep10 _ rfl _ _ 27 rfl w8.heap.size 9 i0 (.string ⟨#[]⟩) 1 16 Try.underlying27 hi hz0 hz1 hz2 rfl (by decide) _ _ _ rfl (HU.out.alloc _) ⟨w10.heap.size, 0, none⟩ 3 3 [.string nm, .string hs, .string ⟨#[97, 110, 110]⟩] rfl rfl (fun j u hu => by rw [Addr.add_lit, Nat.zero_add, World.cell?_alloc_at _ _ _ _ (by simp)]; simpa using hu) (by simp [Value.oneCell']) (by unfold maxLen; omega) (by omega) (by have := HB10.out.size; simp; omega) ?_; intro v11 w11 h1' h2' h3'; obtain ⟨q, AQ, CQ, hq, rfl, hq1, hq2, hq3⟩ := app3_10 HNM.out HB10.out HU.out h1' h2' h3'; have HQL := Lib.hid hq; have HQ := Lib.hid hq1; have HM11 := Lib.hid hq2; have HB11 := Lib.hid hq3; clear h1' h2' h3' hq hq1 hq2 hq3)
          | fail)
          have hql : q ≤ 64 := by have h1 := HQL.out; have h2 := HNM.out; unfold ann10 at h1; simp at h1; omega
          clear HU HB10 c1 c2
          go_loopg [73] q (fun gg s73 wr => ∃ i : Nat, i ≤ q ∧ q - i ≤ gg ∧ s73 = .int .i64 i ∧ Hid (Below w11.heap.size w11 wr))
          case atStart => exact ⟨0, Nat.zero_le _, by omega, rfl, Below.refl _ _⟩
          case round =>
            obtain ⟨i, hi3, hg3, rfl, HW3⟩ := hrel
            by_cases hlt3 : i < q
            · have hltz3 : (i : Int) < (q : Int) := by omega
              have hil : i < (ann10 MM nm hs).length := HQL.out ▸ hlt3
              obtain ⟨gc, cy, e3, x1⟩ := (HQ.out.later HW3.out).at_ hil
              injection e3 with e3 e3n e3c
              subst e3
              clear e3n e3c
              have HYZ := Lib.hid (ann10_size HMN.out HS5.out.1 HS5.out.2 _ (List.getElem_mem hil))
              generalize tx10 (ann10 MM nm hs)[i] = ys at *
              clear hil
              have HLM := Lib.hid (lhas10_calls _ MM ys _ (by have := HNM.out; omega) (HM11.out.later HW3.out))
              have HEQ := Lib.hid (HBO.out ys.data.toList)
              go_wp2_with fail
              with_reducible refine HLM.out.mono ?_
              rintro e w12 ⟨rfl, hb12⟩
              have HB12 := Lib.hid (below_next HW3.out hb12)
              have HOY := Lib.hid ((HO8.out.later (below_next HB11.out HB12.out)).of_ ys HYZ.out)
              clear hb12 HLM
              go_wp2_with fail
              with_reducible refine HOY.out.mono ?_
              rintro e w13 ⟨v13, rfl, hr13, hb13⟩
              have hr13' : NmR w13 v13 (of10 S ys.data.toList) := NmR.of hr13
              have HLO := Lib.hid (lhas10_calls v13 _ xs w13 (HOL.out _) hr13')
              rw [HEQ.out] at HLO
              obtain ⟨A13, C13, rfl⟩ := hr13'.shape
              have HB13 := Lib.hid (below_next HB12.out hb13)
              clear hr13 hr13' hb13 HOY HB12
              go_wp2_with fail
              with_reducible refine HLO.out.mono ?_
              rintro e w14 ⟨rfl, hb14⟩
              have HB14 := Lib.hid (below_next HB13.out hb14)
              clear hb14 HLO HB13 HEQ
              generalize hasT MM ys.data.toList = r at *
              cases r
              all_goals
                go_wp2
                go_roundg (q - (i + 1))
                case measure => omega
                case rel => exact ⟨i + 1, by omega, by omega, by go_num, HB14⟩
            · have hltz3 : ¬ (i : Int) < (q : Int) := by omega
              have HBE := Lib.hid (below_next HB11.out HW3.out)
              go_wp2
              go_roundg (m - (j + 1))
              case measure => omega
              case rel => exact ⟨j + 1, by omega, by omega, by go_num, HBE⟩
        · have hltz2 : ¬ (j : Int) < (m : Int) := by omega
          have HLE2 := Lib.hid (loop10_later HL8.out HW2.out)
          go_wp2
          go_roundg (n - (k + 1))
          case measure => omega
          case rel => exact ⟨k + 1, by omega, by omega, by go_num, HLE2⟩
    · have hltz : ¬ (k : Int) < (n : Int) := by omega
      obtain ⟨S, N, M, A1, C1, A2, C2, ho, _⟩ := HW.out
      have HBE := Lib.hid (below_next HB2.out ho.below)
      clear ho HW
      go_wp2
      go_ret
      exact ⟨rfl, HBE.out⟩
end Go.Proofs.Ytmjmglakpnjfkaa
