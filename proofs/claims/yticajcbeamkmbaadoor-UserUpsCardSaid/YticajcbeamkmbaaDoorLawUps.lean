/-
  UserUps walked: what may be of the first schema may, taken up, be of the second one; it is in no group; whoever is in one says so.
  Conditions: texts and rows are no longer than they may be; the library's own variable MaxLen holds some number.
-/
import Derived.Test.YticajcbeamkmbaaDoorUserF
namespace Go.Proofs.YticajcbeamkmbaaDoor
open Go.RowKit

theorem first6_all : ∀ {l : List Int}, (∀ e ∈ l, e = 0) → first6 l = 0
  | [], _ => rfl
  | x :: l, h => by
    unfold first6
    rw [if_pos (h x (List.mem_cons_self ..))]
    exact first6_all fun e he => h e (List.mem_cons_of_mem _ he)
theorem chk6_two_of {u : Us} (h2 : name5 u.nm.data.toList = true) (h3 : hash5 u.hs.data.toList = true) (e1 : u.ml = ⟨#[]⟩) (e3 : u.gs = []) : chk6 2 u = 0 := by
  have k : know6 2 = true := by decide
  have f : fold6 u.ml = true := by rw [e1]; decide
  have n : names6 u.gs = true := by rw [e3]; rfl
  have r : rise6 u.gs = true := by rw [e3]; rfl
  have l : decide (u.gs.length ≤ 6) = true := by rw [e3]; rfl
  unfold chk6
  rw [if_neg (by decide), k, h2, h3, f, n, r, l]
  decide
theorem chk6_ups {u : Us} (h : chk6 1 u = 0) : chk6 2 (upU u) = 0 ∧ chk6 2 u = 0 := by
  obtain ⟨_, h2, h3⟩ := chk6_head h
  obtain ⟨e1, _, e3⟩ := bare6_eq (chk6_one h)
  exact ⟨chk6_two_of h2 h3 rfl rfl, chk6_two_of h2 h3 e1 e3⟩

/-- Is a text among the first so many? -/
def any6 (gs : List ByteArray) (g : ByteArray) : Bool := gs.any fun x => decide (x = g)
theorem any6_snoc (gs : List ByteArray) (g : ByteArray) (k : Nat) (hk : k < gs.length) : any6 (gs.take (k + 1)) g = (any6 (gs.take k) g || decide (gs[k] = g)) := by
  unfold any6
  rw [List.take_succ_eq_append_getElem hk, List.any_append]
  simp

set_option maxRecDepth 100000 in
set_option maxHeartbeats 4000000 in
theorem ups_walk (u : Us) (g : ByteArray) (w : World) (h : u.Ok w) (hg : g.size ≤ 9223372036854775807) (hm : Len5 w) :
    Calls Tryd.prog 5 #[u.v, .string g] w (Tells5 true w) := by
  have hnot : ∀ (x : Bool) (w : World), (Op.unary .not (.bool x)).run Tryd.prog w = .ok (.bool (!x)) w := fun _ _ => rfl
  have HB0 := Lib.hid (below_alloc (Below.refl w.heap.size w) (.cells #[.string u.nm, .string u.hs, .string u.ml, .bool u.dis, .slice u.ga u.gs.length u.gc] 24))
  have HA0 := Lib.hid (UsAt.new w u 24)
  have huv : Hid (u.v = .agg #[.string u.nm, .string u.hs, .string u.ml, .bool u.dis, .slice u.ga u.gs.length u.gc]) := rfl
  have hvv : Hid ((upU u).v = .agg #[.string u.nm, .string u.hs, .string ⟨#[]⟩, .bool false, .slice none 0 0]) := rfl
  have HV : Hid (∀ W, Below w.heap.size w W → Calls Tryd.prog 6 #[] W (Tells5 true W)) := fun W hb => lives6_calls W (hm.later hb)
  have HF : Hid (∀ W, Below w.heap.size w W → Calls Tryd.prog 7 #[.agg #[.string u.nm, .string u.hs, .string u.ml, .bool u.dis, .slice u.ga u.gs.length u.gc]] W (Tells5 (fewU u) W)) := fun W hb => few6U_calls u W (h.below hb)
  have HU : Hid (∀ W, Calls Tryd.prog 19 #[.agg #[.string u.nm, .string u.hs, .string u.ml, .bool u.dis, .slice u.ga u.gs.length u.gc]] W fun e w' => e = .returned (.agg #[.string u.nm, .string u.hs, .string ⟨#[]⟩, .bool false, .slice none 0 0]) ∧ Below W.heap.size W w') := fun W => up6_calls u W
  have HI0 : Hid (∀ W, Calls Tryd.prog 20 #[.agg #[.string u.nm, .string u.hs, .string ⟨#[]⟩, .bool false, .slice none 0 0], .string g] W (Tells5 false W)) := fun W => in6_calls (upU u) g W (upU_ok h W)
  have HI : Hid (∀ W, Below w.heap.size w W → Calls Tryd.prog 20 #[.agg #[.string u.nm, .string u.hs, .string u.ml, .bool u.dis, .slice u.ga u.gs.length u.gc], .string g] W (Tells5 (any6 u.gs g) W)) := fun W hb => by
    have h1 := in6_calls u g W (h.below hb)
    have e : inU u g = any6 u.gs g := by
      unfold inU any6
      rw [Bool.eq_iff_iff, Lib.containsS_iff, List.any_eq_true]
      exact ⟨fun hm => ⟨g, hm, by simp⟩, fun ⟨x, hm, he⟩ => by simp at he; subst he; exact hm⟩
    rw [e] at h1
    exact h1
  have HC1 : Hid (∀ W, Below w.heap.size w W → Calls Tryd.prog 8 #[.int .i64 1, .agg #[.string u.nm, .string u.hs, .string u.ml, .bool u.dis, .slice u.ga u.gs.length u.gc]] W (Errs5 (chk6 1 u) W)) := fun W hb => check6_calls 1 u W (h.below hb) (hm.later hb)
  have HC2 : Hid (∀ W, Below w.heap.size w W → chk6 1 u = 0 → Calls Tryd.prog 8 #[.int .i64 2, .agg #[.string u.nm, .string u.hs, .string u.ml, .bool u.dis, .slice u.ga u.gs.length u.gc]] W (Errs5 0 W)) := fun W hb h0 => by
    have := check6_calls 2 u W (h.below hb) (hm.later hb)
    rw [(chk6_ups h0).2] at this
    exact this
  have HC3 : Hid (∀ W, Below w.heap.size w W → chk6 1 u = 0 → Calls Tryd.prog 8 #[.int .i64 2, .agg #[.string u.nm, .string u.hs, .string ⟨#[]⟩, .bool false, .slice none 0 0]] W (Errs5 0 W)) := fun W hb h0 => by
    have := check6_calls 2 (upU u) W (upU_ok h W) (hm.later hb)
    rw [(chk6_ups h0).1] at this
    exact this
  have HRD := Lib.hid h.rd
  have hlen := h.len
  have hcap := h.cap
  obtain ⟨ck, hck⟩ : ∃ ck, ck = chk6 1 u := ⟨_, rfl⟩
  rw [← hck] at HC1 HC2 HC3
  clear h hm hck
  rw [huv.out]
  clear huv hvv
  obtain ⟨nm, hs, ml, dis, A, gs, c⟩ := u
  dsimp only at *
  obtain ⟨gn, hgn⟩ : ∃ gn, gn = g.size := ⟨_, rfl⟩
  generalize fewU ⟨nm, hs, ml, dis, A, gs, c⟩ = q at *
  go_enter Tryd.func5, Tryd.ntmps5
  go_wp2_with fail
  generalize w.alloc (.cells #[.string nm, .string hs, .string ml, .bool dis, .slice A gs.length c] 24) = w1 at *
  with_reducible refine (HV.out w1 HB0.out).mono ?_
  rintro e w2 ⟨rfl, hb⟩
  have HA2 := Lib.hid (HA0.out.below hb)
  have HB2 := Lib.hid (below_next HB0.out hb)
  clear hb HA0 HB0
  have c0 : _ = some (.string nm : Value) := HA2.out.c0
  have c1 : _ = some (.string hs : Value) := HA2.out.c1
  have c2 : _ = some (.string ml : Value) := HA2.out.c2
  have c3 : _ = some (.bool dis : Value) := HA2.out.c3
  have c4 : _ = some (.slice A gs.length c : Value) := HA2.out.c4
  go_wp2_with fail
  with_reducible refine (HF.out w2 HB2.out).mono ?_
  rintro e w3 ⟨rfl, hb⟩
  have HA3 := Lib.hid (HA2.out.below hb)
  have HB3 := Lib.hid (below_next HB2.out hb)
  clear hb HA2 HB2 HF c0 c1 c2 c3 c4
  have c0 : _ = some (.string nm : Value) := HA3.out.c0
  have c1 : _ = some (.string hs : Value) := HA3.out.c1
  have c2 : _ = some (.string ml : Value) := HA3.out.c2
  have c3 : _ = some (.bool dis : Value) := HA3.out.c3
  have c4 : _ = some (.slice A gs.length c : Value) := HA3.out.c4
  cases q with
  | false =>
    go_wp2_with fail
    with_reducible refine (HV.out w3 HB3.out).mono ?_
    rintro e w4 ⟨rfl, hb⟩
    have HB4 := Lib.hid (below_next HB3.out hb)
    clear hb
    go_wp2
    go_ret
    exact ⟨rfl, HB4.out⟩
  | true =>
    by_cases h100 : gn ≤ 100
    · have z : ¬ (g.size : Int) > 100 := by omega
      have z' : ¬ 100 < g.size := by omega
      have z2 : decide ((g.size : Int) > 100) = false := decide_eq_false z
      go_wp2_with fail
      with_reducible refine (HU.out w3).mono ?_
      rintro e w4 ⟨rfl, hb⟩
      have HA4 := Lib.hid (HA3.out.below hb)
      have HB4 := Lib.hid (below_next HB3.out hb)
      clear hb HA3 HB3 HU c0 c1 c2 c3 c4
      have hb5 := below_alloc (Below.refl w4.heap.size w4) (.cells #[.string nm, .string hs, .string ⟨#[]⟩, .bool false, .slice none 0 0] 24)
      have hA5 := HA4.out.below hb5
      have hV5 : UsAt (w4.alloc (.cells #[.string nm, .string hs, .string ⟨#[]⟩, .bool false, .slice none 0 0] 24)) w4.heap.size (upU ⟨nm, hs, ml, dis, A, gs, c⟩) := UsAt.new w4 (upU ⟨nm, hs, ml, dis, A, gs, c⟩) 24
      have HA5 := Lib.hid hA5
      have HV5 := Lib.hid hV5
      have HB5 := Lib.hid (below_next HB4.out hb5)
      have c0 : _ = some (.string nm : Value) := hA5.c0
      have c1 : _ = some (.string hs : Value) := hA5.c1
      have c2 : _ = some (.string ml : Value) := hA5.c2
      have c3 : _ = some (.bool dis : Value) := hA5.c3
      have c4 : _ = some (.slice A gs.length c : Value) := hA5.c4
      clear hA5 hV5 hb5 HA4 HB4
      go_wp2_with fail
      generalize w4.alloc (.cells #[.string nm, .string hs, .string ⟨#[]⟩, .bool false, .slice none 0 0] 24) = w5 at *
      generalize w4.heap.size = B5 at *
      with_reducible refine (HI0.out w5).mono ?_
      rintro e w6 ⟨rfl, hb⟩
      have HA6 := Lib.hid (HA5.out.below hb)
      have HV6 := Lib.hid (HV5.out.below hb)
      have HB6 := Lib.hid (below_next HB5.out hb)
      clear hb HA5 HV5 HB5 c0 c1 c2 c3 c4 HI0
      have c4 : _ = some (.slice A gs.length c : Value) := HA6.out.c4
      have HR6 := Lib.hid (HRD.out.below HB6.out)
      go_wp2
      clear c4
      go_loopg [6, 8, 59] gs.length (fun gg s6 _ s59 wr => ∃ (k : Nat) (b : Bool), k ≤ gs.length ∧ gs.length - k ≤ gg ∧ s59 = .int .i64 k ∧ s6 = .bool b ∧ Hid (b = any6 (gs.take k) g) ∧ wr = w6)
      case atStart => exact ⟨0, false, Nat.zero_le _, by omega, rfl, rfl, rfl, rfl⟩
      case round =>
        obtain ⟨k, b, hk, hgg, rfl, rfl, HT, rfl⟩ := hrel
        by_cases hlt : k < gs.length
        · have hltz : (k : Int) < (gs.length : Int) := by omega
          obtain ⟨bb, off, rfl, hcell⟩ := HR6.out.at6 k hlt
          have HX : Hid ((b || decide (gs[k] = g)) = any6 (gs.take (k + 1)) g) := by
            show _ = _
            rw [any6_snoc gs g k hlt, HT.out]
          generalize gs[k] = x at *
          clear HT
          cases b with
          | true =>
            have HX2 : Hid (true = any6 (gs.take (k + 1)) g) := HX
            clear HX
            go_wp2
            go_roundg (gs.length - (k + 1))
            case measure => omega
            case rel => exact ⟨k + 1, true, by omega, by omega, by go_num, rfl, HX2, rfl⟩
          | false =>
            by_cases hxg : x = g
            · have HX2 : Hid (true = any6 (gs.take (k + 1)) g) := by
                have := HX.out
                rw [decide_eq_true hxg] at this
                exact this
              clear HX
              subst hxg
              go_wp2
              go_roundg (gs.length - (k + 1))
              case measure => omega
              case rel => exact ⟨k + 1, true, by omega, by omega, by go_num, rfl, HX2, rfl⟩
            · have HX2 : Hid (false = any6 (gs.take (k + 1)) g) := by
                have := HX.out
                rw [decide_eq_false hxg] at this
                exact this
              have hne := toList_ne6 hxg
              have hne2 : (x.toList == g.toList) = false := by simpa using hne
              clear HX hxg
              go_wp2
              go_roundg (gs.length - (k + 1))
              case measure => omega
              case rel => exact ⟨k + 1, false, by omega, by omega, by go_num, rfl, HX2, rfl⟩
        · have hltz : ¬ (k : Int) < (gs.length : Int) := by omega
          obtain rfl : k = gs.length := by omega
          have hb : any6 gs g = b := by rw [HT.out, List.take_length]
          rw [hb] at HI
          clear hb HT
          have c0 : _ = some (.string nm : Value) := HA6.out.c0
          have c1 : _ = some (.string hs : Value) := HA6.out.c1
          have c2 : _ = some (.string ml : Value) := HA6.out.c2
          have c3 : _ = some (.bool dis : Value) := HA6.out.c3
          have c4 : _ = some (.slice A gs.length c : Value) := HA6.out.c4
          have hbb : (b == b) = true := by simp
          go_wp2_with fail
          with_reducible refine (HI.out wr HB6.out).mono ?_
          rintro e w7 ⟨rfl, hb⟩
          have HA7 := Lib.hid (HA6.out.below hb)
          have HV7 := Lib.hid (HV6.out.below hb)
          have HB7 := Lib.hid (below_next HB6.out hb)
          clear hb HA6 HV6 HB6 HI c0 c1 c2 c3 c4
          have c0 : _ = some (.string nm : Value) := HA7.out.c0
          have c1 : _ = some (.string hs : Value) := HA7.out.c1
          have c2 : _ = some (.string ml : Value) := HA7.out.c2
          have c3 : _ = some (.bool dis : Value) := HA7.out.c3
          have c4 : _ = some (.slice A gs.length c : Value) := HA7.out.c4
          go_wp2_with fail
          with_reducible refine (HC1.out w7 HB7.out).mono ?_
          rintro e w8 ⟨rfl, hb⟩
          have HA8 := Lib.hid (HA7.out.below hb)
          have HV8 := Lib.hid (HV7.out.below hb)
          have HB8 := Lib.hid (below_next HB7.out hb)
          clear hb HA7 HV7 HB7 HC1 c0 c1 c2 c3 c4
          by_cases h0 : ck = 0
          · have HC4 := Lib.hid (HC3.out w8 HB8.out h0)
            have HC5 : Hid (∀ W, Below w.heap.size w W → Calls Tryd.prog 8 #[.int .i64 2, .agg #[.string nm, .string hs, .string ml, .bool dis, .slice A gs.length c]] W (Errs5 0 W)) := fun W hb => HC2.out W hb h0
            subst h0
            clear HC2 HC3
            have c0 : w8.cell? ⟨B5, 0, none⟩ = some (.string nm) := HV8.out.c0
            have c1 : w8.cell? ⟨B5, 1, none⟩ = some (.string hs) := HV8.out.c1
            have c2 : w8.cell? ⟨B5, 2, none⟩ = some (.string ⟨#[]⟩) := HV8.out.c2
            have c3 : w8.cell? ⟨B5, 3, none⟩ = some (.bool false) := HV8.out.c3
            have c4 : w8.cell? ⟨B5, 4, none⟩ = some (.slice none 0 0) := HV8.out.c4
            go_wp2_with fail
            with_reducible refine HC4.out.mono ?_
            rintro e w9 ⟨rfl, hb⟩
            have HA9 := Lib.hid (HA8.out.below hb)
            have HB9 := Lib.hid (below_next HB8.out hb)
            clear hb HA8 HV8 HB8 HC4 c0 c1 c2 c3 c4
            have c0 : _ = some (.string nm : Value) := HA9.out.c0
            have c1 : _ = some (.string hs : Value) := HA9.out.c1
            have c2 : _ = some (.string ml : Value) := HA9.out.c2
            have c3 : _ = some (.bool dis : Value) := HA9.out.c3
            have c4 : _ = some (.slice A gs.length c : Value) := HA9.out.c4
            go_wp2_with fail
            with_reducible refine (HC5.out w9 HB9.out).mono ?_
            rintro e w10 ⟨rfl, hb⟩
            have HB10 := Lib.hid (below_next HB9.out hb)
            clear hb
            go_wp2
            go_ret
            exact ⟨rfl, HB10.out⟩
          · have h0d : (ck != 0) = true := by simpa using h0
            go_wp2
            go_ret
            exact ⟨rfl, HB8.out⟩
    · have z : (g.size : Int) > 100 := by omega
      have z' : 100 < g.size := by omega
      have z2 : decide ((g.size : Int) > 100) = true := decide_eq_true z
      go_wp2_with fail
      with_reducible refine (HV.out w3 HB3.out).mono ?_
      rintro e w4 ⟨rfl, hb⟩
      have HB4 := Lib.hid (below_next HB3.out hb)
      clear hb
      go_wp2
      go_ret
      exact ⟨rfl, HB4.out⟩
end Go.Proofs.YticajcbeamkmbaaDoor
