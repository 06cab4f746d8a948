/-
  Behind any deeds each answer is the document's: the law's walk.
  Conditions: none beyond the law's own.
-/
import Derived.Test.YtmjmglakpnjfkaaGroupLoop
namespace Go.Proofs.Ytmjmglakpnjfkaa
open Go.RowKit Go.Maps

def YPa10 (B Wb : Nat) (v1 : Value) (N : List (List UInt8)) : Nat → Value → World → Prop
  | 0, v, _ => v = .bool true
  | 3, v, _ => v = .pointer (some ⟨B, 0, none⟩)
  | 4, v, W => NmR W v N
  | 5, v, _ => v = .pointer (some ⟨Wb, 0, none⟩)
  | 6, v, _ => v = v1
  | 7, v, _ => v = .bool true
  | _, v, _ => v = .bool false
theorem YPa10_keep {B Wb : Nat} {v1 : Value} {N : List (List UInt8)} {W W' : World} (hb : Below W.heap.size W W') (j : Nat) (u : Value) (h : YPa10 B Wb v1 N j u W) : YPa10 B Wb v1 N j u W' := by
  by_cases h4 : j = 4
  · subst h4
    exact NmR.later (show NmR W u N from h) hb
  revert h
  unfold YPa10
  split <;> first | exact id | (exfalso; omega)
def YPb10 (B : Nat) (ys : ByteArray) (u1 u2 v1 v2 : Value) (de : Int) (ls : List (List UInt8)) : Nat → Value → World → Prop
  | 0, v, _ => v = u1
  | 1, v, _ => v = u2
  | 2, v, _ => v = .bool true
  | 5, v, _ => v = .int .i64 de
  | 6, v, _ => v = .int .i64 de
  | 10, v, _ => v = .pointer (some ⟨B, 0, none⟩)
  | 11, v, _ => v = .string ys
  | 12, v, W => NmR W v ls
  | 13, v, _ => v = .agg #[v1, v2]
  | 14, v, _ => v = .string ys
  | 15, v, W => NmR W v ls
  | 16, v, _ => v = .bool true
  | _, v, _ => v = .bool false
theorem YPb10_keep {B : Nat} {ys : ByteArray} {u1 u2 v1 v2 : Value} {de : Int} {ls : List (List UInt8)} {W W' : World} (hb : Below W.heap.size W W') (j : Nat) (u : Value) (h : YPb10 B ys u1 u2 v1 v2 de ls j u W) : YPb10 B ys u1 u2 v1 v2 de ls j u W' := by
  by_cases h12 : j = 12
  · subst h12
    exact NmR.later (show NmR W u ls from h) hb
  by_cases h15 : j = 15
  · subst h15
    exact NmR.later (show NmR W u ls from h) hb
  revert h
  unfold YPb10
  split <;> first | exact id | (exfalso; omega)
theorem dmeL_eq {S : Grs10} {N : List (List UInt8)} {M : List Who10} {k : Nat} (h : Rel10 S N M) (hg : Good10 S k) (g : List UInt8) : dmeL N M g = meL10 S g := by
  unfold dmeL meL10
  rw [ddrE_eq h, h.who hg]
theorem meL10_le {S : Grs10} {k : Nat} (hg : Good10 S k) (g : List UInt8) : (meL10 S g).length ≤ k := by
  unfold meL10
  split
  · rw [names10_length]; exact mem10_le hg g
  · exact Nat.zero_le _
/-- Three texts of at most 50 bytes, in a block. -/
def Three10 (W : World) (b : Nat) : Prop := ∀ i, i < 3 → ∃ ys : ByteArray, W.cell? ⟨b, i, none⟩ = some (.string ys) ∧ ys.size ≤ 50
theorem Three10.later {W W' : World} {b : Nat} (h : Three10 W b) (hb : Below W.heap.size W W') : Three10 W' b := fun i hi => by
  obtain ⟨ys, h1, h2⟩ := h i hi
  exact ⟨ys, (hb.cell (p := ⟨b, i, none⟩) (World.block_lt_of_cell? W _ h1)).trans h1, h2⟩
theorem three10_new (W : World) (x y z : ByteArray) (T : TypeId) (hx : x.size ≤ 50) (hy : y.size ≤ 50) (hz : z.size ≤ 50) : Three10 (W.alloc (.cells #[.string x, .string y, .string z] T)) W.heap.size := fun i hi => by
  match i, hi with
  | 0, _ => exact ⟨x, by rw [World.cell?_alloc_at _ _ _ _ rfl]; rfl, hx⟩
  | 1, _ => exact ⟨y, by rw [World.cell?_alloc_at _ _ _ _ rfl]; rfl, hy⟩
  | 2, _ => exact ⟨z, by rw [World.cell?_alloc_at _ _ _ _ rfl]; rfl, hz⟩
theorem loop10_later {w0 W W' : World} {B Wb k : Nat} (h : Loop10 w0 B Wb k W) (hb : Below W.heap.size W W') : Loop10 w0 B Wb k W' := by
  obtain ⟨S, N, M, A1, C1, A2, C2, ho, hx, hn, hm, hr, hl⟩ := h
  exact ⟨S, N, M, A1, C1, A2, C2, ho.later hb, hx.later hb, hn.later hb, hm.later hb, hr, hl⟩

set_option maxRecDepth 100000 in
set_option maxHeartbeats 16000000 in
theorem plays10_walk (A : Option Addr) (c n : Nat) (l : List Act7) (name : ByteArray) (w : World) (hl : n = l.length) (hn : n ≤ 9223372036854775807) (hr : RdA7 w A l) :
    Calls Try.prog 3 #[.slice A n c, .string name] w (Tells5 true w) := by
  have HV : Hid (∀ W, Calls Try.prog 6 #[] W (Tells5 true W)) := lives10_calls
  have HNW : Hid (∀ W, Calls Try.prog 8 #[] W fun e w' => e = .returned (.pointer (some ⟨W.heap.size, 0, none⟩)) ∧ w' = W.alloc (.cells #[.map none] 53)) := new10_calls
  have HF : Hid (∀ W, Below w.heap.size w W → Calls Try.prog 7 #[.slice A n c] W (Tells5 (few10 l) W)) := fun W hb => few10_calls A c n l W hl hn (hr.later hb)
  have HFW : Hid (few10 l = true → n ≤ 60 ∧ ∀ t ∈ l, t.nm.size ≤ 50 ∧ t.hs.size ≤ 50) := fun h => ⟨by rw [hl]; exact few10_len h, few10_size h⟩
  have HR := Lib.hid hr
  have HL := Lib.hid hl
  clear hr hl
  generalize few10 l = fw at *
  go_enter Try.func3, Try.ntmps3
  go_wp2_with fail
  with_reducible refine (HV.out w).mono ?_
  rintro e w1 ⟨rfl, hb⟩
  have HB1 := Lib.hid hb
  clear hb
  go_wp2_with fail
  with_reducible refine (HF.out w1 HB1.out).mono ?_
  rintro e w2 ⟨rfl, hb⟩
  have HB2 := Lib.hid (below_next HB1.out hb)
  clear hb HF HB1
  have BAD : Hid (∀ W, Below w.heap.size w W → Calls Try.prog 6 #[] W fun e w' => e = .returned (.bool true) ∧ Hid (Below w.heap.size w w')) := fun W hb => (HV.out W).mono fun e w' ⟨he, hb'⟩ => ⟨he, below_next hb hb'⟩
  clear HV
  cases fw with
  | false =>
    go_wp2_with fail
    with_reducible refine (BAD.out w2 HB2.out).mono ?_
    rintro e w3 ⟨rfl, HB3⟩
    go_wp2
    go_ret
    exact ⟨rfl, HB3.out⟩
  | true =>
  obtain ⟨hn60, hsz⟩ := HFW.out rfl
  have HSZ := Lib.hid hsz
  clear HFW hsz
  by_cases hp0 : name.size ≤ 50
  case neg =>
    have z : (name.size : Int) > 50 := by omega
    have z' : 50 < name.size := by omega
    have z2 : decide ((name.size : Int) > 50) = true := decide_eq_true z
    go_wp2_with fail
    with_reducible refine (BAD.out w2 HB2.out).mono ?_
    rintro e w3 ⟨rfl, HB3⟩
    go_wp2
    go_ret
    exact ⟨rfl, HB3.out⟩
  have y0 : ¬ (name.size : Int) > 50 := by omega
  have y0' : ¬ 50 < name.size := by omega
  have y02 : decide ((name.size : Int) > 50) = false := decide_eq_false y0
  clear BAD
  go_wp2_with fail
  with_reducible refine (HNW.out w2).mono ?_
  rintro e w3 ⟨rfl, rfl⟩
  have HO := Lib.hid (own10_new w2)
  have HZB : Hid (w2.heap.size ≤ (w2.alloc (.cells #[.map none] 53)).heap.size) := by show _ ≤ _; simp
  generalize w2.alloc (.cells #[.map none] 53) = w3 at *
  generalize w2.heap.size = B at HO ⊢
  clear HNW y0 y0' y02
  have HL0 : Hid (Loop10 w2 B w3.heap.size 0 (w3.alloc (.cells #[.slice none 0 0, .slice none 0 0] TG))) := by
    have hb := below_alloc (Below.refl w3.heap.size w3) (.cells #[.slice none 0 0, .slice none 0 0] TG)
    exact ⟨[], [], [], none, 0, none, 0, HO.out.later hb, bx10_new _ _ _, NmR.nil _, MbR.nil _, Rel10.nil, Nat.le_refl _⟩
  clear HO
  go_wp2
  generalize w3.alloc (.cells #[.slice none 0 0, .slice none 0 0] TG) = w4 at *
  generalize w3.heap.size = Wb at *
  go_loopg [32] n (fun gg s32 wr => ∃ k : Nat, k ≤ n ∧ n - k ≤ gg ∧ s32 = .int .i64 k ∧ Hid (Loop10 w2 B Wb k wr))
  case atStart => exact ⟨0, Nat.zero_le _, by omega, rfl, HL0⟩
  case round =>
    obtain ⟨k, hk, hg, rfl, HW⟩ := hrel
    by_cases hlt : k < n
    · have hltz : (k : Int) < (n : Int) := by omega
      have hkl : k < l.length := HL.out ▸ hlt
      obtain ⟨S, N, M, A1, C1, A2, C2, ho, hx, hn1, hm1, hrl, hml⟩ := HW.out
      obtain ⟨b, off, rfl, hb, hc⟩ := (HR.out.later (below_next HB2.out ho.below)) (by intro e; rw [e] at hkl; exact absurd hkl (Nat.not_lt_zero _))
      have c0 : wr.cell? ⟨b, off + k * 3, none⟩ = some (.int .u8 (l[k].kd : Int)) := hc k hkl 0 _ rfl
      have c1 : wr.cell? ⟨b, off + k * 3 + 1, none⟩ = some (.string l[k].nm) := hc k hkl 1 _ rfl
      have c2 : wr.cell? ⟨b, off + k * 3 + 2, none⟩ = some (.string l[k].hs) := hc k hkl 2 _ rfl
      have hbv := below_alloc (Below.refl wr.heap.size wr) (.cells #[.int .u8 (l[k].kd : Int), .string l[k].nm, .string l[k].hs] 32)
      have HDO := Lib.hid (do10_calls w2 B S k _ _ N M l[k].kd l[k].nm l[k].hs _ (ho.later hbv) (by omega) (hn1.later hbv) (hm1.later hbv) hrl (by omega) (HSZ.out _ (List.getElem_mem hkl)).1 (HSZ.out _ (List.getElem_mem hkl)).2)
      have HXV := Lib.hid (hx.later hbv)
      have HAV := Lib.hid (actat10_new wr l[k].kd l[k].nm l[k].hs)
      have HML := Lib.hid hml
      have HS5 := Lib.hid (HSZ.out _ (List.getElem_mem hkl))
      have x0 := hx.c0
      have x1 := hx.c1
      have xl := hx.lt
      clear hc hb ho hx hn1 hm1 hrl hml hbv HW
      generalize l[k].kd = kd at *
      generalize l[k].nm = nm at *
      generalize l[k].hs = hs at *
      clear hkl
      go_wp2_with fail
      with_reducible refine HDO.out.mono ?_
      rintro e w5 ⟨S5, N5, M5, v1, v2, rfl, ho5, hn5, hm5, hr5, hl5, hk5⟩
      obtain ⟨A5, C5, rfl⟩ := hn5.shape
      obtain ⟨A6, C6, rfl⟩ := hm5.shape
      have hx5 := HXV.out.keeps hk5
      have r0 := hx5.c0
      have r1 := hx5.c1
      have rf0 := hx5.f0
      have rf1 := hx5.f1
      have HLN : Hid (Loop10 w2 B Wb (k + 1) ((w5.setCell ⟨Wb, 0, none⟩ (.slice A5 N5.length C5)).setCell ⟨Wb, 1, none⟩ (.slice A6 M5.length C6))) := loop10_next HXV.out HZB.out hk5 ho5 hn5 hm5 hr5 hl5 HML.out
      have HA6 : Hid (ActAt10 ((w5.setCell ⟨Wb, 0, none⟩ (.slice A5 N5.length C5)).setCell ⟨Wb, 1, none⟩ (.slice A6 M5.length C6)) wr.heap.size kd nm hs) := (HAV.out.keeps hk5).keepG ((hx5.keep 0 _).trans ((hx5.set0 _).keep 1 _))

      clear ho5 hn5 hm5 hr5 hl5 hk5 hx5 HXV HDO HAV HML x0 x1 xl c0 c1 c2
      generalize List.length N5 = nn5 at *
      generalize List.length M5 = nm5 at *
      go_wp2_with fail
      generalize (w5.setCell ⟨Wb, 0, none⟩ (.slice A5 nn5 C5)).setCell ⟨Wb, 1, none⟩ (.slice A6 nm5 C6) = w6 at *
      generalize wr.heap.size = ab at *
      obtain ⟨wi, hwi⟩ : ∃ wi, wi = wr := ⟨_, rfl⟩
      subst hwi

      obtain ⟨S, N, M, A1, C1, A2, C2, ho, hx6, hn6, hm6, hrl, hml⟩ := HLN.out
      have HO6 := Lib.hid ho
      have HX6 := Lib.hid hx6
      have HN6 := Lib.hid hn6
      have HM6 := Lib.hid hm6
      have HRL := Lib.hid hrl
      have HGD := Lib.hid ho.good
      have hm60 : List.length M ≤ 61 := by omega
      have hn60' : List.length N ≤ 61 := by have := hrl.six ho.good; omega
      have hk61 : k + 1 ≤ 900 := by omega
      have HNL : Hid (List.length N ≤ 1000) := by show _ ≤ _; omega
      have HAL : Hid (∀ W, Below w6.heap.size w6 W → Calls Try.prog 11 #[.pointer (some ⟨B, 0, none⟩)] W fun e w' => ∃ v, e = .returned v ∧ NmR w' v N ∧ Below W.heap.size W w') := fun W hb => by
        refine ((HO6.out.later hb).all_).mono ?_
        rintro e w' ⟨v, he, hr, hb'⟩
        rw [← HRL.out.names] at hr
        exact ⟨v, he, NmR.of hr, hb'⟩
      clear ho hx6 hn6 hm6 hrl hml
      generalize hnN : List.length N = nN at *
      generalize hnM : List.length M = nM at *
      have HNN : Hid (List.length N = nN ∧ List.length M = nM) := ⟨hnN, hnM⟩
      clear hnN hnM
      refine wp_region_inv (by kernel_rfl) (fun W => Below w6.heap.size w6 W) (YPa10 B Wb (.slice A1 nN C1) N) ?Fa ?hFa (by kernel_rfl) (by kernel_rfl) (below_drew (Below.refl _ _)) ?stepa ?fina
      case hFa =>
        intro x
        simp only [List.map_cons, List.map_nil, putL, Act.put, List.setIfInBounds_toArray, List.set_cons_zero, List.set_cons_succ, Nat.zero_add, Nat.reduceAdd]
        exact rfl
      case stepa =>
        refine ⟨?_, ?_, ?_, ?_, ?_, ?_, ?_, ?_, ?_, ?_, trivial⟩
        · intro x W hR hdep K hK
          clear hdep
          go_simp
          exact hK _ _ rfl hR (fun _ _ h => h)
        · intro x W hR hdep K hK
          have h0 : x 0 = _ := hdep 0 rfl
          clear hdep
          simp only [h0] at hK
          go_simp
          exact hK _ _ rfl hR (fun _ _ h => h)
        · intro x W hR hdep K hK
          have h1 : x 1 = _ := hdep 1 rfl
          clear hdep
          simp only [h1] at hK
          go_simp
          exact hK _ _ rfl hR (fun _ _ h => h)
        · intro x W hR hdep K hK
          have h2 : x 2 = _ := hdep 2 rfl
          clear hdep
          simp only [h2] at hK
          go_simp
          exact hK _ _ rfl hR (fun _ _ h => h)
        · intro x W hR hdep K hK
          have h2 : x 2 = _ := hdep 2 rfl
          have h3 : x 3 = _ := hdep 3 rfl
          clear hdep
          simp only [h2, h3] at hK
          go_simp
          refine (HAL.out W hR).mono ?_
          rintro e W' ⟨v, rfl, hr, hb⟩
          exact hK _ _ hr (below_next hR hb) (fun j u h => YPa10_keep hb j u h)
        · intro x W hR hdep K hK
          have h2 : x 2 = _ := hdep 2 rfl
          clear hdep
          simp only [h2] at hK
          go_simp
          exact hK _ _ rfl hR (fun _ _ h => h)
        · intro x W hR hdep K hK
          have h2 : x 2 = _ := hdep 2 rfl
          have h5 : x 5 = _ := hdep 5 rfl
          clear hdep
          simp only [h2, h5] at hK
          have q0 := (HX6.out.later hR).c0
          go_simp
          exact hK _ _ rfl hR (fun _ _ h => h)
        · intro x W hR hdep K hK
          have h2 : x 2 = _ := hdep 2 rfl
          have h4 : NmR W (x 4) N := hdep 4 rfl
          have h6 : x 6 = _ := hdep 6 rfl
          clear hdep
          simp only [h2, h6] at hK
          go_simp
          refine (samet10_calls _ _ N W h4 (HN6.out.later hR) (by have := HNN.out; have := HNL.out; omega)).mono ?_
          rintro e W' ⟨rfl, hb⟩
          exact hK _ _ rfl (below_next hR hb) (fun j u h => YPa10_keep hb j u h)
        · intro x W hR hdep K hK
          have h2 : x 2 = _ := hdep 2 rfl
          have h7 : x 7 = _ := hdep 7 rfl
          clear hdep
          simp only [h2, h7] at hK
          go_simp
          exact hK _ _ rfl hR (fun _ _ h => h)
        · intro x W hR hdep K hK
          have h2 : x 2 = _ := hdep 2 rfl
          have h8 : x 8 = _ := hdep 8 rfl
          clear hdep
          simp only [h2, h8] at hK
          go_simp
          exact hK _ _ rfl hR (fun _ _ h => h)
      case fina =>
        intro x W hW hY
        have h9 : x 9 = _ := hY 9 (by decide)
        have HO7 := Lib.hid (HO6.out.later hW)
        have HX7 := Lib.hid (HX6.out.later hW)
        have HN7 := Lib.hid (HN6.out.later hW)
        have HM7 := Lib.hid (HM6.out.later hW)
        have HL7 := Lib.hid (loop10_later HLN.out hW)
        have c1 := (HA6.out.later hW).c1
        have c2 := (HA6.out.later hW).c2
        clear hY hW HAL HO6 HX6 HN6 HM6 HLN HA6
        rw [h9]
        clear h9
        go_wp2
        obtain ⟨T3, HT3⟩ : ∃ T3 : World, Hid (Below W.heap.size W T3 ∧ Three10 T3 W.heap.size ∧ T3 = W.alloc (.cells #[.string name, .string nm, .string hs] 9)) := ⟨_, below_alloc (Below.refl _ _) _, three10_new W name nm hs _ (by omega) HS5.out.1 HS5.out.2, rfl⟩
        have HTB := Lib.hid HT3.out.1
        have HTT := Lib.hid HT3.out.2.1
        have hte := HT3.out.2.2
        clear HT3 c1 c2
        go_loopg [60] 3 (fun gg s60 wr => ∃ i : Nat, i ≤ 3 ∧ 3 - i ≤ gg ∧ s60 = .int .i64 i ∧ Hid (Below T3.heap.size T3 wr))
        case atStart => exact ⟨0, Nat.zero_le _, by omega, rfl, by rw [hte]; exact Below.refl _ _⟩
        case round =>
          clear hte
          obtain ⟨i, hi3, hg3, rfl, HW3⟩ := hrel
          by_cases hlt3 : i < 3
          · have hltz3 : (i : Int) < (3 : Int) := by omega
            obtain ⟨ys, x0, hys⟩ := (HTT.out.later HW3.out) i hlt3
            have HBW := Lib.hid (below_next HTB.out HW3.out)
            have HMB := Lib.hid ((HO7.out.later HBW.out).members hk61 ys (by omega))
            have HLS : Hid ((of10 S ys.data.toList).length ≤ 1000) := Nat.le_trans (of10_le _ _) (Nat.le_trans HGD.out.few (by decide))
            have HML : Hid ((meL10 S ys.data.toList).length ≤ 1000) := Nat.le_trans (meL10_le HGD.out _) (by omega)
            have HRM : Hid (∀ W', Below W.heap.size W W' → Calls Try.prog 13 #[.agg #[.slice A1 nN C1, .slice A2 nM C2], .string ys] W' fun e w' => ∃ v, e = .returned (.tuple #[v, .int .i64 (drE10 S ys.data.toList)]) ∧ w'.ownsRow W'.heap.size 9 1 v (meL10 S ys.data.toList).length ((meL10 S ys.data.toList).map encStr) ∧ Below W'.heap.size W' w') := fun W' hb => by
              have := rmembers10_calls _ _ N M ys W' (by have := HNN.out; omega) (by have := HNN.out; omega) (by omega) (HN7.out.later hb) (HM7.out.later hb)
              rw [ddrE_eq HRL.out, dmeL_eq HRL.out HGD.out] at this
              exact this
            have HRO : Hid (∀ W', Below W.heap.size W W' → Calls Try.prog 15 #[.agg #[.slice A1 nN C1, .slice A2 nM C2], .string ys] W' fun e w' => ∃ v, e = .returned v ∧ NmR w' v (of10 S ys.data.toList) ∧ Below W'.heap.size W' w') := fun W' hb => by
              have := rof10_calls _ _ N M ys W' (by have := HNN.out; omega) (HN7.out.later hb) (HM7.out.later hb)
              rw [HRL.out.of_ HGD.out.rise] at this
              refine this.mono ?_
              rintro e w' ⟨v, he, hr, hb'⟩
              exact ⟨v, he, NmR.of hr, hb'⟩
            have HCO : Hid (∀ W', Below W.heap.size W W' → Calls Try.prog 14 #[.pointer (some ⟨B, 0, none⟩), .string ys] W' fun e w' => ∃ v, e = .returned v ∧ NmR w' v (of10 S ys.data.toList) ∧ Below W'.heap.size W' w') := fun W' hb => by
              refine ((HO7.out.later hb).of_ ys (by omega)).mono ?_
              rintro e w' ⟨v, he, hr, hb'⟩
              exact ⟨v, he, NmR.of hr, hb'⟩
            generalize drE10 S ys.data.toList = de at *
            generalize meL10 S ys.data.toList = ml at *
            generalize of10 S ys.data.toList = ls at *
            go_wp2_with fail
            with_reducible refine HMB.out.mono ?_
            rintro e w8 ⟨v8, rfl, hr8, hb8⟩
            have HV0 : Hid (NmR w8 v8 ml) := NmR.of hr8
            have HB8 := Lib.hid (below_next HBW.out hb8)
            have HB3 := Lib.hid (below_next HW3.out hb8)
            have HRM8 := Lib.hid (HRM.out w8 HB8.out)
            have q0 := (HX7.out.later HB8.out).c0
            have q1 := (HX7.out.later HB8.out).c1
            have q2 := (HX7.out.later HB8.out).lt
            clear hr8 hb8 HMB HRM HBW HW3 x0
            go_wp2_with fail
            with_reducible refine HRM8.out.mono ?_
            rintro e w9 ⟨v9, rfl, hr9, hb9⟩
            have HV9 : Hid (NmR w9 v9 ml) := NmR.of hr9
            have HV8 := Lib.hid (HV0.out.later hb9)
            have HB9 := Lib.hid (below_next HB3.out hb9)
            have HBV := Lib.hid (below_next HB8.out hb9)
            have HX9 := Lib.hid (HX7.out.later HBV.out)
            have HOR : Hid (∀ W', Below w9.heap.size w9 W' → _) := fun W' hb => HRO.out W' (below_next HBV.out hb)
            have HOC : Hid (∀ W', Below w9.heap.size w9 W' → _) := fun W' hb => HCO.out W' (below_next HBV.out hb)
            clear hr9 hb9 HRM8 HV0 HB3 HB8 HRO HCO q0 q1 q2 HBV
            go_wp2_with fail
            refine wp_region_inv (by kernel_rfl) (fun W => Below w9.heap.size w9 W) (YPb10 B ys v8 v9 (.slice A1 nN C1) (.slice A2 nM C2) de ls) ?Fb ?hFb (by kernel_rfl) (by kernel_rfl) (below_drew (Below.refl _ _)) ?stepb ?finb
            case hFb =>
              intro x
              simp only [List.map_cons, List.map_nil, putL, Act.put, List.setIfInBounds_toArray, List.set_cons_zero, List.set_cons_succ, Nat.zero_add, Nat.reduceAdd]
              exact rfl
            case stepb =>
              refine ⟨?_, ?_, ?_, ?_, ?_, ?_, ?_, ?_, ?_, ?_, ?_, ?_, ?_, ?_, ?_, ?_, ?_, ?_, ?_, trivial⟩
              · intro x W hR hdep K hK
                clear hdep
                go_simp
                exact hK _ _ rfl hR (fun _ _ h => h)
              · intro x W hR hdep K hK
                clear hdep
                go_simp
                exact hK _ _ rfl hR (fun _ _ h => h)
              · intro x W hR hdep K hK
                have h0 : x 0 = _ := hdep 0 rfl
                have h1 : x 1 = _ := hdep 1 rfl
                clear hdep
                simp only [h0, h1] at hK
                go_simp
                refine (samet10_calls _ _ ml W (HV8.out.later hR) (HV9.out.later hR) HML.out).mono ?_
                rintro e W' ⟨rfl, hb⟩
                exact hK _ _ rfl (below_next hR hb) (fun j u h => YPb10_keep hb j u h)
              · intro x W hR hdep K hK
                have h2 : x 2 = _ := hdep 2 rfl
                clear hdep
                simp only [h2] at hK
                go_simp
                exact hK _ _ rfl hR (fun _ _ h => h)
              · intro x W hR hdep K hK
                have h3 : x 3 = _ := hdep 3 rfl
                clear hdep
                simp only [h3] at hK
                go_simp
                exact hK _ _ rfl hR (fun _ _ h => h)
              · intro x W hR hdep K hK
                have h4 : x 4 = _ := hdep 4 rfl
                clear hdep
                simp only [h4] at hK
                go_simp
                exact hK _ _ rfl hR (fun _ _ h => h)
              · intro x W hR hdep K hK
                have h4 : x 4 = _ := hdep 4 rfl
                clear hdep
                simp only [h4] at hK
                go_simp
                exact hK _ _ rfl hR (fun _ _ h => h)
              · intro x W hR hdep K hK
                have h4 : x 4 = _ := hdep 4 rfl
                have h5 : x 5 = _ := hdep 5 rfl
                have h6 : x 6 = _ := hdep 6 rfl
                clear hdep
                simp only [h4, h5, h6] at hK
                go_simp
                exact hK _ _ rfl hR (fun _ _ h => h)
              · intro x W hR hdep K hK
                have h4 : x 4 = _ := hdep 4 rfl
                have h7 : x 7 = _ := hdep 7 rfl
                clear hdep
                simp only [h4, h7] at hK
                go_simp
                exact hK _ _ rfl hR (fun _ _ h => h)
              · intro x W hR hdep K hK
                have h8 : x 8 = _ := hdep 8 rfl
                clear hdep
                simp only [h8] at hK
                go_simp
                exact hK _ _ rfl hR (fun _ _ h => h)
              · intro x W hR hdep K hK
                have h9 : x 9 = _ := hdep 9 rfl
                clear hdep
                simp only [h9] at hK
                go_simp
                exact hK _ _ rfl hR (fun _ _ h => h)
              · intro x W hR hdep K hK
                have h9 : x 9 = _ := hdep 9 rfl
                clear hdep
                simp only [h9] at hK
                go_simp
                exact hK _ _ rfl hR (fun _ _ h => h)
              · intro x W hR hdep K hK
                have h9 : x 9 = _ := hdep 9 rfl
                have h10 : x 10 = _ := hdep 10 rfl
                have h11 : x 11 = _ := hdep 11 rfl
                clear hdep
                simp only [h9, h10, h11] at hK
                go_simp
                refine (HOC.out W hR).mono ?_
                rintro e W' ⟨v, rfl, hr, hb⟩
                exact hK _ _ hr (below_next hR hb) (fun j u h => YPb10_keep hb j u h)
              · intro x W hR hdep K hK
                have h9 : x 9 = _ := hdep 9 rfl
                clear hdep
                simp only [h9] at hK
                have q0 := (HX9.out.later hR).c0
                have q1 := (HX9.out.later hR).c1
                have q2 := (HX9.out.later hR).lt
                go_simp
                exact hK _ _ rfl hR (fun _ _ h => h)
              · intro x W hR hdep K hK
                have h9 : x 9 = _ := hdep 9 rfl
                clear hdep
                simp only [h9] at hK
                go_simp
                exact hK _ _ rfl hR (fun _ _ h => h)
              · intro x W hR hdep K hK
                have h9 : x 9 = _ := hdep 9 rfl
                have h13 : x 13 = _ := hdep 13 rfl
                have h14 : x 14 = _ := hdep 14 rfl
                clear hdep
                simp only [h9, h13, h14] at hK
                go_simp
                refine (HOR.out W hR).mono ?_
                rintro e W' ⟨v, rfl, hr, hb⟩
                exact hK _ _ hr (below_next hR hb) (fun j u h => YPb10_keep hb j u h)
              · intro x W hR hdep K hK
                have h9 : x 9 = _ := hdep 9 rfl
                have h12 : NmR W (x 12) ls := hdep 12 rfl
                have h15 : NmR W (x 15) ls := hdep 15 rfl
                clear hdep
                simp only [h9] at hK
                go_simp
                refine (samet10_calls _ _ ls W h12 h15 HLS.out).mono ?_
                rintro e W' ⟨rfl, hb⟩
                exact hK _ _ rfl (below_next hR hb) (fun j u h => YPb10_keep hb j u h)
              · intro x W hR hdep K hK
                have h9 : x 9 = _ := hdep 9 rfl
                have h16 : x 16 = _ := hdep 16 rfl
                clear hdep
                simp only [h9, h16] at hK
                go_simp
                exact hK _ _ rfl hR (fun _ _ h => h)
              · intro x W hR hdep K hK
                have h9 : x 9 = _ := hdep 9 rfl
                have h17 : x 17 = _ := hdep 17 rfl
                clear hdep
                simp only [h9, h17] at hK
                go_simp
                exact hK _ _ rfl hR (fun _ _ h => h)
            case finb =>
              intro x W hW hY
              have h18 : x 18 = _ := hY 18 (by decide)
              have HBE := Lib.hid (below_next HB9.out hW)
              clear hY hW HOC HOR HX9 HV8 HV9
              rw [h18]
              clear h18
              go_wp2
              go_roundg (3 - (i + 1))
              case measure => omega
              case rel => exact ⟨i + 1, by omega, by omega, by go_num, HBE⟩
          · have hltz3 : ¬ (i : Int) < (3 : Int) := by omega
            have HLE := Lib.hid (loop10_later HL7.out (below_next HTB.out HW3.out))
            go_wp2
            go_roundg (n - (k + 1))
            case measure => omega
            case rel => exact ⟨k + 1, by omega, by omega, by go_num, HLE⟩
    · have hltz : ¬ (k : Int) < (n : Int) := by omega
      obtain ⟨S, N, M, A1, C1, A2, C2, ho, _⟩ := HW.out
      have HBE := Lib.hid (below_next HB2.out ho.below)
      clear ho HW
      go_wp2
      go_ret
      exact ⟨rfl, HBE.out⟩
end Go.Proofs.Ytmjmglakpnjfkaa
