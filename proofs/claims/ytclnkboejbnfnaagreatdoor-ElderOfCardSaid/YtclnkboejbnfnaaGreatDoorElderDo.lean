/-
  Create, Delete and SetHash of the directory: what they tell, and what it has then.
  Conditions: texts are no longer than they may be.
-/
import Derived.Test.YtclnkboejbnfnaaGreatDoorElderPut
import Derived.Test.YtclnkboejbnfnaaGreatDoorLast
namespace Go.Proofs.YtclnkboejbnfnaaGreatDoor
open Go.RowKit Go.Maps

/-- Askers in a row, in memory. -/
def Asks7 (W : World) (v : Value) (es : List Int) : Prop := ∃ G l, v = .slice (some ⟨G, 0, none⟩) es.length es.length ∧ l.map (·.2) = es ∧ AskRow7 W G l
theorem Asks7.below {W W' : World} {v : Value} {es : List Int} (h : Asks7 W v es) (hb : Below W.heap.size W W') : Asks7 W' v es := by
  obtain ⟨G, l, e, h1, h2⟩ := h
  exact ⟨G, l, e, h1, h2.later hb⟩
theorem asks7_new (W : World) (l : List (Value × Int)) (t : TypeId) (ha : ∀ x ∈ l, Ask7 x.1 x.2 W) : Asks7 (W.alloc (.cells (l.map (·.1)).toArray t)) (.slice (some ⟨W.heap.size, 0, none⟩) (l.map (·.2)).length (l.map (·.2)).length) (l.map (·.2)) := by
  refine ⟨_, l, rfl, rfl, by simp, fun j hj => ⟨?_, (ha _ (List.getElem_mem hj)).later (below_alloc (Below.refl _ _) _)⟩⟩
  rw [World.cell?_alloc_at _ _ _ _ rfl]
  simp [hj]

/-- Three variables in blocks of their own: the directory, a name, a sum. -/
structure Box7 (W : World) (b0 B : Nat) (n h : ByteArray) : Prop where
  lt : b0 + 2 < W.heap.size
  c0 : W.cell? ⟨b0, 0, none⟩ = some (.pointer (some ⟨B, 0, none⟩))
  c1 : W.cell? ⟨b0 + 1, 0, none⟩ = some (.string n)
  c2 : W.cell? ⟨b0 + 2, 0, none⟩ = some (.string h)
theorem Box7.later {W W' : World} {b0 B : Nat} {n h : ByteArray} (hx : Box7 W b0 B n h) (hb : Below W.heap.size W W') : Box7 W' b0 B n h :=
  have := hx.lt
  ⟨Nat.lt_of_lt_of_le hx.lt hb.size, (hb.cell (p := ⟨b0, 0, none⟩) (by show b0 < _; omega)).trans hx.c0, (hb.cell (p := ⟨b0 + 1, 0, none⟩) (by show b0 + 1 < _; omega)).trans hx.c1, (hb.cell (p := ⟨b0 + 2, 0, none⟩) (by show b0 + 2 < _; omega)).trans hx.c2⟩
theorem box7_new (w : World) (B : Nat) (n h : ByteArray) : Box7 (((w.alloc (.cells #[.pointer (some ⟨B, 0, none⟩)] 28)).alloc (.cells #[.string n] 9)).alloc (.cells #[.string h] 9)) w.heap.size B n h := by
  refine ⟨by simp, ?_, ?_, ?_⟩
  · rw [World.cell?_alloc_past _ _ _ (by simp; omega), World.cell?_alloc_past _ _ _ (by simp), World.cell?_alloc_at _ _ _ _ rfl]; rfl
  · rw [World.cell?_alloc_past _ _ _ (by simp), World.cell?_alloc_at _ _ _ _ (by simp)]; rfl
  · rw [World.cell?_alloc_at _ _ _ _ (by simp)]; rfl

set_option maxRecDepth 100000 in
theorem create71_calls (b0 B : Nat) (p : Option Nat) (L : Row7) (n h : ByteArray) (w : World) (hx : Box7 w b0 B n h) (hd : Dir7 w B p L) (hn : n.size ≤ 12) (hh : h.size ≤ 12) (hf : (putE L n.data.toList h.data.toList).length ≤ 12) :
    Calls Tryz.prog 111 #[.pointer (some ⟨b0, 0, none⟩), .pointer (some ⟨b0 + 1, 0, none⟩), .pointer (some ⟨b0 + 2, 0, none⟩)] w fun e w' => e = .returned (.tuple #[]) ∧ Goes7 w B p (putE L n.data.toList h.data.toList) w' := by
  have HP := Lib.hid (dput_calls B p L n h w hd hn hh hf)
  have c0 := hx.c0
  have c1 := hx.c1
  have c2 := hx.c2
  clear hd hf hx
  go_enter Tryz.func111, Tryz.ntmps111
  go_wp2_with fail
  with_reducible refine HP.out.mono ?_
  rintro e w1 ⟨rfl, hg⟩
  have HG := Lib.hid hg
  clear hg HP c0 c1 c2
  go_wp2
  go_end0
  exact ⟨rfl, HG.out⟩
set_option maxRecDepth 100000 in
theorem sethash71_calls (b0 B : Nat) (p : Option Nat) (L : Row7) (n h : ByteArray) (w : World) (hx : Box7 w b0 B n h) (hd : Dir7 w B p L) (hn : n.size ≤ 12) (hh : h.size ≤ 12) (hf : (putE L n.data.toList h.data.toList).length ≤ 12) :
    Calls Tryz.prog 145 #[.pointer (some ⟨b0, 0, none⟩), .pointer (some ⟨b0 + 1, 0, none⟩), .pointer (some ⟨b0 + 2, 0, none⟩)] w fun e w' => e = .returned (.tuple #[]) ∧ Goes7 w B p (putE L n.data.toList h.data.toList) w' := by
  have HP := Lib.hid (dput_calls B p L n h w hd hn hh hf)
  have c0 := hx.c0
  have c1 := hx.c1
  have c2 := hx.c2
  clear hd hf hx
  go_enter Tryz.func145, Tryz.ntmps145
  go_wp2_with fail
  with_reducible refine HP.out.mono ?_
  rintro e w1 ⟨rfl, hg⟩
  have HG := Lib.hid hg
  clear hg HP c0 c1 c2
  go_wp2
  go_end0
  exact ⟨rfl, HG.out⟩

/-- What is asked ahead of one more, of another sum; of one less. -/
def crE (L : Row7) (n h : List UInt8) : Int := first7 [err5 (name5 n) 10, err5 (hash5 h) 4, err5 (!hasE L n) 9, err5 (decide ((L.length : Int) + 1 ≤ 12)) 7]
def seE (L : Row7) (n h : List UInt8) : Int := first7 [err5 (name5 n) 10, err5 (hash5 h) 4, err5 (hasE L n) 8]
def deE (L : Row7) (n : List UInt8) : Int := first7 [err5 (name5 n) 10, err5 (hasE L n) 8]
def crL (L : Row7) (n h : List UInt8) : Row7 := if crE L n h = 0 then putE L n h else L
def seL (L : Row7) (n h : List UInt8) : Row7 := if seE L n h = 0 then putE L n h else L
def deL (L : Row7) (n : List UInt8) : Row7 := if deE L n = 0 then delE L n else L
theorem err7_zero {b : Bool} {n : Int} (hn : n ≠ 0) : err5 b n = 0 ↔ b = true := by cases b <;> simp [err5, hn]
theorem first7_cons {e : Int} {l : List Int} (h : first7 (e :: l) = 0) : e = 0 ∧ first7 l = 0 := by
  unfold first7 at h
  split at h
  · exact ⟨by assumption, h⟩
  · exact absurd h (by assumption)
theorem name7_size {n : ByteArray} (h : name5 n.data.toList = true) : n.size ≤ 12 := by
  unfold name5 pref5 at h
  simp only [Bool.and_eq_true, decide_eq_true_eq] at h
  have := h.1.1.2.1
  rwa [size_list] at this
theorem hash7_size {n : ByteArray} (h : hash5 n.data.toList = true) : n.size ≤ 12 := by
  unfold hash5 at h
  simp only [Bool.and_eq_true, decide_eq_true_eq] at h
  have := h.1.2
  rwa [size_list] at this
theorem crE_zero {L : Row7} {n h : List UInt8} (e : crE L n h = 0) : name5 n = true ∧ hash5 h = true ∧ hasE L n = false ∧ L.length + 1 ≤ 12 := by
  obtain ⟨e1, e⟩ := first7_cons e
  obtain ⟨e2, e⟩ := first7_cons e
  obtain ⟨e3, e⟩ := first7_cons e
  obtain ⟨e4, _⟩ := first7_cons e
  have := (err7_zero (by decide)).1 e4
  rw [decide_eq_true_eq] at this
  exact ⟨(err7_zero (by decide)).1 e1, (err7_zero (by decide)).1 e2, by simpa using (err7_zero (by decide)).1 e3, by omega⟩
theorem seE_zero {L : Row7} {n h : List UInt8} (e : seE L n h = 0) : name5 n = true ∧ hash5 h = true ∧ hasE L n = true := by
  obtain ⟨e1, e⟩ := first7_cons e
  obtain ⟨e2, e⟩ := first7_cons e
  obtain ⟨e3, _⟩ := first7_cons e
  exact ⟨(err7_zero (by decide)).1 e1, (err7_zero (by decide)).1 e2, (err7_zero (by decide)).1 e3⟩
theorem deE_zero {L : Row7} {n : List UInt8} (e : deE L n = 0) : name5 n = true ∧ hasE L n = true := by
  obtain ⟨e1, e⟩ := first7_cons e
  obtain ⟨e2, _⟩ := first7_cons e
  exact ⟨(err7_zero (by decide)).1 e1, (err7_zero (by decide)).1 e2⟩

/-- What each operation makes. -/
def YCr7 (b0 B : Nat) (n h : ByteArray) (m e0 e1 e2 e3 : Int) : Nat → Value → World → Prop
  | 0, v, _ => v = .func (.func 111) #[] #[.pointer (some ⟨b0, 0, none⟩), .pointer (some ⟨b0 + 1, 0, none⟩), .pointer (some ⟨b0 + 2, 0, none⟩)]
  | 1, v, _ => v = .string n
  | 2, v, W => Ask7 v e0 W
  | 3, v, _ => v = .string h
  | 4, v, W => Ask7 v e1 W
  | 5, v, _ => v = .pointer (some ⟨B, 0, none⟩)
  | 6, v, _ => v = .string n
  | 7, v, W => Ask7 v e2 W
  | 8, v, _ => v = .pointer (some ⟨B, 0, none⟩)
  | 9, v, _ => v = .int .i64 m
  | 10, v, _ => v = .int .i64 (m + 1)
  | 11, v, W => Ask7 v e3 W
  | _, v, W => Asks7 W v [e0, e1, e2, e3]
theorem YCr7_keep {b0 B : Nat} {n h : ByteArray} {m e0 e1 e2 e3 : Int} {W W' : World} (hb : Below W.heap.size W W') (j : Nat) (z : Value) (hz : YCr7 b0 B n h m e0 e1 e2 e3 j z W) : YCr7 b0 B n h m e0 e1 e2 e3 j z W' := by
  match j, hz with
  | 0, hz => exact hz
  | 1, hz => exact hz
  | 2, hz => exact hz.later hb
  | 3, hz => exact hz
  | 4, hz => exact hz.later hb
  | 5, hz => exact hz
  | 6, hz => exact hz
  | 7, hz => exact hz.later hb
  | 8, hz => exact hz
  | 9, hz => exact hz
  | 10, hz => exact hz
  | 11, hz => exact hz.later hb
  | _ + 12, hz => exact hz.below hb
/-- What each operation makes. -/
def YSe7 (b0 B : Nat) (n h : ByteArray) (e0 e1 e2 : Int) : Nat → Value → World → Prop
  | 0, v, _ => v = .func (.func 145) #[] #[.pointer (some ⟨b0, 0, none⟩), .pointer (some ⟨b0 + 1, 0, none⟩), .pointer (some ⟨b0 + 2, 0, none⟩)]
  | 1, v, _ => v = .string n
  | 2, v, W => Ask7 v e0 W
  | 3, v, _ => v = .string h
  | 4, v, W => Ask7 v e1 W
  | 5, v, _ => v = .pointer (some ⟨B, 0, none⟩)
  | 6, v, _ => v = .string n
  | 7, v, W => Ask7 v e2 W
  | _, v, W => Asks7 W v [e0, e1, e2]
theorem YSe7_keep {b0 B : Nat} {n h : ByteArray} {e0 e1 e2 : Int} {W W' : World} (hb : Below W.heap.size W W') (j : Nat) (z : Value) (hz : YSe7 b0 B n h e0 e1 e2 j z W) : YSe7 b0 B n h e0 e1 e2 j z W' := by
  match j, hz with
  | 0, hz => exact hz
  | 1, hz => exact hz
  | 2, hz => exact hz.later hb
  | 3, hz => exact hz
  | 4, hz => exact hz.later hb
  | 5, hz => exact hz
  | 6, hz => exact hz
  | 7, hz => exact hz.later hb
  | _ + 8, hz => exact hz.below hb
/-- What each operation makes. -/
def YDe7 (b0 B : Nat) (n : ByteArray) (e0 e1 : Int) : Nat → Value → World → Prop
  | 0, v, _ => v = .func (.func 144) #[] #[.pointer (some ⟨b0, 0, none⟩), .pointer (some ⟨b0 + 1, 0, none⟩)]
  | 1, v, _ => v = .string n
  | 2, v, W => Ask7 v e0 W
  | 3, v, _ => v = .pointer (some ⟨B, 0, none⟩)
  | 4, v, _ => v = .string n
  | 5, v, W => Ask7 v e1 W
  | _, v, W => Asks7 W v [e0, e1]
theorem YDe7_keep {b0 B : Nat} {n : ByteArray} {e0 e1 : Int} {W W' : World} (hb : Below W.heap.size W W') (j : Nat) (z : Value) (hz : YDe7 b0 B n e0 e1 j z W) : YDe7 b0 B n e0 e1 j z W' := by
  match j, hz with
  | 0, hz => exact hz
  | 1, hz => exact hz
  | 2, hz => exact hz.later hb
  | 3, hz => exact hz
  | 4, hz => exact hz
  | 5, hz => exact hz.later hb
  | _ + 6, hz => exact hz.below hb
set_option maxRecDepth 100000 in
set_option maxHeartbeats 2000000 in
theorem create7_calls (B : Nat) (p : Option Nat) (L : Row7) (n h : ByteArray) (w : World) (hd : Dir7 w B p L) (hn : n.size ≤ 9223372036854775807) (hh : h.size ≤ 9223372036854775807) :
    Calls Tryz.prog 43 #[.pointer (some ⟨B, 0, none⟩), .string n, .string h] w fun e w' => e = .returned (.int .i64 (crE L n.data.toList h.data.toList)) ∧ Goes7 w B p (crL L n.data.toList h.data.toList) w' := by
  have hn' : n.size ≤ maxLen := Nat.le_trans hn (by decide)
  have hmf := mkf
  have bl := below_alloc (below_alloc (below_alloc (Below.refl w.heap.size w) (.cells #[.pointer (some ⟨B, 0, none⟩)] 28)) (.cells #[.string n] 9)) (.cells #[.string h] 9)
  have HX := Lib.hid (box7_new w B n h)
  have HB0 := Lib.hid bl
  have HD1 := Lib.hid (hd.later bl)
  have HN : Hid (∀ W, Calls Tryz.prog 78 #[.string n] W (Makes7 (err5 (name5 n.data.toList) 10) W)) := fun W => isName7_calls n W hn
  have HS : Hid (∀ W, Calls Tryz.prog 113 #[.string h] W (Makes7 (err5 (hash5 h.data.toList) 4) W)) := fun W => isSum7_calls h W hh
  have HI : Hid (∀ W, Dir7 W B p L → Calls Tryz.prog 114 #[.pointer (some ⟨B, 0, none⟩), .string n] W (Makes7 (err5 (!hasE L n.data.toList) 9) W)) := fun W hD => isFree7_calls B p L n W hD hn'
  have HLN : Hid (∀ W, Dir7 W B p L → Calls Tryz.prog 17 #[.pointer (some ⟨B, 0, none⟩)] W fun e w' => e = .returned (.int .i64 L.length) ∧ w' = W) := fun W hD => len7_calls B p L W hD
  have HFT : Hid (∀ W, Calls Tryz.prog 47 #[.int .i64 ((L.length : Int) + 1)] W (Makes7 (err5 (decide ((L.length : Int) + 1 ≤ 12)) 7) W)) := fun W => fit7_calls _ W
  have HK : Hid (∀ W, Below ((((w.alloc (.cells #[.pointer (some ⟨B, 0, none⟩)] 28)).alloc (.cells #[.string n] 9)).alloc (.cells #[.string h] 9))).heap.size ((((w.alloc (.cells #[.pointer (some ⟨B, 0, none⟩)] 28)).alloc (.cells #[.string n] 9)).alloc (.cells #[.string h] 9))) W → ∀ G l, l.map (·.2) = [err5 (name5 n.data.toList) 10, err5 (hash5 h.data.toList) 4, err5 (!hasE L n.data.toList) 9, err5 (decide ((L.length : Int) + 1 ≤ 12)) 7] → AskRow7 W G l →
      Calls Tryz.prog 112 #[.func (.func 111) #[] #[.pointer (some ⟨w.heap.size, 0, none⟩), .pointer (some ⟨w.heap.size + 1, 0, none⟩), .pointer (some ⟨w.heap.size + 2, 0, none⟩)], .slice (some ⟨G, 0, none⟩) 4 4] W
        fun e w' => e = .returned (.int .i64 (crE L n.data.toList h.data.toList)) ∧ Goes7 W B p (crL L n.data.toList h.data.toList) w') := fun W hW G l hes hrow => by
    have hlen : 4 = l.length := by have := congrArg List.length hes; simpa using this.symm
    by_cases h0 : crE L n.data.toList h.data.toList = 0
    · obtain ⟨z1, z2, z3, z4⟩ := crE_zero h0
      have hf : (putE L n.data.toList h.data.toList).length ≤ 12 := by rw [put_length hd.rise, z3]; exact z4
      rw [h0, show crL L n.data.toList h.data.toList = putE L n.data.toList h.data.toList from if_pos h0]
      refine (do7_ok G 4 4 l _ _ W (fun W0 w' => Goes7 W0 B p (putE L n.data.toList h.data.toList) w') hlen (by decide) hrow (by rw [hes]; exact h0) (enters_of Tryz.func111 (by kernel_rfl) rfl) fun W2 hW2 => ?_).mono fun e w' ⟨he, W2, hb, hg⟩ => ⟨he, hg.ahead hb⟩
      exact create71_calls _ B p L n h W2 ((HX.out.later hW).later hW2) ((HD1.out.later hW).later hW2) (name7_size z1) (hash7_size z2) hf
    · rw [show crL L n.data.toList h.data.toList = L from if_neg h0]
      have hb := do7_bad G 4 4 l (.func (.func 111) #[] #[.pointer (some ⟨w.heap.size, 0, none⟩), .pointer (some ⟨w.heap.size + 1, 0, none⟩), .pointer (some ⟨w.heap.size + 2, 0, none⟩)]) W hlen (by decide) hrow (by rw [hes]; exact h0)
      rw [hes] at hb
      exact hb.mono fun e w' ⟨he, hbl⟩ => ⟨he, Goes7.still (HD1.out.later hW) hbl⟩
  generalize crE L n.data.toList h.data.toList = r at *
  generalize crL L n.data.toList h.data.toList = L' at *
  generalize err5 (name5 n.data.toList) 10 = e0 at *
  generalize err5 (hash5 h.data.toList) 4 = e1 at *
  generalize err5 (!hasE L n.data.toList) 9 = e2 at *
  generalize err5 (decide ((L.length : Int) + 1 ≤ 12)) 7 = e3 at *
  have hm12 : (L.length : Int) ≤ 12 := by have := hd.few; omega
  have hm0 : (0 : Int) ≤ (L.length : Int) := by omega
  generalize (L.length : Int) = m at *
  clear hd bl
  go_enter Tryz.func43, Tryz.ntmps43
  go_wp2_with fail
  generalize (((w.alloc (.cells #[.pointer (some ⟨B, 0, none⟩)] 28)).alloc (.cells #[.string n] 9)).alloc (.cells #[.string h] 9)) = w1 at *
  refine wp_region_last (by kernel_rfl) 13 (fun W => Below w1.heap.size w1 W) (fun W => Goes7 w1 B p L' W) (YCr7 w.heap.size B n h m e0 e1 e2 e3) (fun v => v = .int .i64 r) ?F ?hF (by kernel_rfl) (by kernel_rfl) (by kernel_rfl) (by kernel_rfl) (by decide) (below_drew (Below.refl _ _)) ?step ?fin
  case hF =>
    intro x
    simp only [List.map_cons, List.map_nil, putL, Act.put, List.setIfInBounds_toArray, List.set_cons_zero, List.set_cons_succ, Nat.zero_add, Nat.reduceAdd]
    exact rfl
  case step =>
    refine ⟨?_, ?_, ?_, ?_, ?_, ?_, ?_, ?_, ?_, ?_, ?_, ?_, ?_, ?_, ?_, trivial⟩
    · intro x W
      refine ⟨fun _ hW hdep K hK => ?_, (fun h => absurd h (by decide)), (fun h => absurd h (by decide))⟩
      clear hdep
      go_simp
      exact hK _ _ rfl hW (fun _ _ h => h)
    · intro x W
      refine ⟨fun _ hW hdep K hK => ?_, (fun h => absurd h (by decide)), (fun h => absurd h (by decide))⟩
      have c1 := (HX.out.later hW).c1
      clear hdep
      go_simp
      exact hK _ _ rfl hW (fun _ _ h => h)
    · intro x W
      refine ⟨fun _ hW hdep K hK => ?_, (fun h => absurd h (by decide)), (fun h => absurd h (by decide))⟩
      have h1 : x 1 = _ := hdep 1 rfl
      clear hdep
      simp only [h1] at hK
      go_simp
      refine (HN.out W).mono ?_
      rintro e W' ⟨g, lb, rfl, ha, hb⟩
      exact hK _ _ ha (below_next hW hb) (fun j u h => YCr7_keep hb j u h)
    · intro x W
      refine ⟨fun _ hW hdep K hK => ?_, (fun h => absurd h (by decide)), (fun h => absurd h (by decide))⟩
      have c2 := (HX.out.later hW).c2
      clear hdep
      go_simp
      exact hK _ _ rfl hW (fun _ _ h => h)
    · intro x W
      refine ⟨fun _ hW hdep K hK => ?_, (fun h => absurd h (by decide)), (fun h => absurd h (by decide))⟩
      have h3 : x 3 = _ := hdep 3 rfl
      clear hdep
      simp only [h3] at hK
      go_simp
      refine (HS.out W).mono ?_
      rintro e W' ⟨g, lb, rfl, ha, hb⟩
      exact hK _ _ ha (below_next hW hb) (fun j u h => YCr7_keep hb j u h)
    · intro x W
      refine ⟨fun _ hW hdep K hK => ?_, (fun h => absurd h (by decide)), (fun h => absurd h (by decide))⟩
      have c0 := (HX.out.later hW).c0
      clear hdep
      go_simp
      exact hK _ _ rfl hW (fun _ _ h => h)
    · intro x W
      refine ⟨fun _ hW hdep K hK => ?_, (fun h => absurd h (by decide)), (fun h => absurd h (by decide))⟩
      have c1 := (HX.out.later hW).c1
      clear hdep
      go_simp
      exact hK _ _ rfl hW (fun _ _ h => h)
    · intro x W
      refine ⟨fun _ hW hdep K hK => ?_, (fun h => absurd h (by decide)), (fun h => absurd h (by decide))⟩
      have h5 : x 5 = _ := hdep 5 rfl
      have h6 : x 6 = _ := hdep 6 rfl
      clear hdep
      simp only [h5, h6] at hK
      go_simp
      refine (HI.out W (HD1.out.later hW)).mono ?_
      rintro e W' ⟨g, lb, rfl, ha, hb⟩
      exact hK _ _ ha (below_next hW hb) (fun j u h => YCr7_keep hb j u h)
    · intro x W
      refine ⟨fun _ hW hdep K hK => ?_, (fun h => absurd h (by decide)), (fun h => absurd h (by decide))⟩
      have c0 := (HX.out.later hW).c0
      clear hdep
      go_simp
      exact hK _ _ rfl hW (fun _ _ h => h)
    · intro x W
      refine ⟨fun _ hW hdep K hK => ?_, (fun h => absurd h (by decide)), (fun h => absurd h (by decide))⟩
      have h8 : x 8 = _ := hdep 8 rfl
      clear hdep
      simp only [h8] at hK
      go_simp
      refine (HLN.out W (HD1.out.later hW)).mono ?_
      rintro e W' ⟨rfl, rfl⟩
      exact hK _ _ rfl hW (fun _ _ h => h)
    · intro x W
      refine ⟨fun _ hW hdep K hK => ?_, (fun h => absurd h (by decide)), (fun h => absurd h (by decide))⟩
      have h9 : x 9 = _ := hdep 9 rfl
      clear hdep
      simp only [h9] at hK
      go_simp
      exact hK _ _ (by show _ = _; rw [IntKind.wrap_i64, show (m + 1 + 9223372036854775808) % 18446744073709551616 - 9223372036854775808 = m + 1 by omega]) hW (fun _ _ h => h)
    · intro x W
      refine ⟨fun _ hW hdep K hK => ?_, (fun h => absurd h (by decide)), (fun h => absurd h (by decide))⟩
      have h10 : x 10 = _ := hdep 10 rfl
      clear hdep
      simp only [h10] at hK
      go_simp
      refine (HFT.out W).mono ?_
      rintro e W' ⟨g, lb, rfl, ha, hb⟩
      exact hK _ _ ha (below_next hW hb) (fun j u h => YCr7_keep hb j u h)
    · intro x W
      refine ⟨fun _ hW hdep K hK => ?_, (fun h => absurd h (by decide)), (fun h => absurd h (by decide))⟩
      have a2 : Ask7 (x 2) e0 W := hdep 2 rfl
      have a4 : Ask7 (x 4) e1 W := hdep 4 rfl
      have a7 : Ask7 (x 7) e2 W := hdep 7 rfl
      have a11 : Ask7 (x 11) e3 W := hdep 11 rfl
      have A2 := Lib.hid a2
      obtain ⟨g2, lb2, h2, _⟩ := a2
      rw [h2] at A2
      have A4 := Lib.hid a4
      obtain ⟨g4, lb4, h4, _⟩ := a4
      rw [h4] at A4
      have A7 := Lib.hid a7
      obtain ⟨g7, lb7, h7, _⟩ := a7
      rw [h7] at A7
      have A11 := Lib.hid a11
      obtain ⟨g11, lb11, h11, _⟩ := a11
      rw [h11] at A11
      simp only [h2, h4, h7, h11] at hK
      clear hdep
      go_simp
      have hn := asks7_new W [(.func (.func g2) #[] lb2, e0), (.func (.func g4) #[] lb4, e1), (.func (.func g7) #[] lb7, e2), (.func (.func g11) #[] lb11, e3)] 82 (by
        intro y hy
        simp only [List.mem_cons, List.not_mem_nil, or_false] at hy
        rcases hy with rfl | rfl | rfl | rfl
        · exact A2.out
        · exact A4.out
        · exact A7.out
        · exact A11.out)
      exact hK _ _ hn (below_alloc hW _) (fun j z h => YCr7_keep (below_alloc (Below.refl _ _) _) j z h)
    · intro x W
      refine ⟨(fun h => absurd h (by decide)), fun _ hW hdep K hK => ?_, (fun h => absurd h (by decide))⟩
      have h0 : x 0 = _ := hdep 0 rfl
      have hA : Asks7 W (x 12) [e0, e1, e2, e3] := hdep 12 rfl
      obtain ⟨G, l, h12, hes, hrow⟩ := hA
      simp only [h0, h12] at hK
      have HKW := Lib.hid (HK.out W hW G l hes hrow)
      clear hdep
      go_simp
      refine HKW.out.mono ?_
      rintro e W' ⟨rfl, hg⟩
      exact hK _ _ rfl (Goes7.ahead hW hg)
    · intro x W
      refine ⟨(fun h => absurd h (by decide)), (fun h => absurd h (by decide)), fun _ hW hdep K hK => ?_⟩
      have h13 : x 13 = _ := hdep 13 rfl (by decide)
      clear hdep
      simp only [h13] at hK
      go_simp
      exact hK _ rfl
  case fin =>
    intro x W hW hZ
    have h14 : x 14 = .int .i64 r := hZ 14 (by decide) (by decide)
    have HF := Lib.hid (Goes7.ahead HB0.out hW)
    clear hZ hW HX HB0 HD1 HK
    rw [h14]
    go_wp2
    go_ret
    exact ⟨rfl, HF.out⟩

set_option maxRecDepth 100000 in
set_option maxHeartbeats 2000000 in
theorem sethash7_calls (B : Nat) (p : Option Nat) (L : Row7) (n h : ByteArray) (w : World) (hd : Dir7 w B p L) (hn : n.size ≤ 9223372036854775807) (hh : h.size ≤ 9223372036854775807) :
    Calls Tryz.prog 69 #[.pointer (some ⟨B, 0, none⟩), .string n, .string h] w fun e w' => e = .returned (.int .i64 (seE L n.data.toList h.data.toList)) ∧ Goes7 w B p (seL L n.data.toList h.data.toList) w' := by
  have hn' : n.size ≤ maxLen := Nat.le_trans hn (by decide)
  have hmf := mkf
  have bl := below_alloc (below_alloc (below_alloc (Below.refl w.heap.size w) (.cells #[.pointer (some ⟨B, 0, none⟩)] 28)) (.cells #[.string n] 9)) (.cells #[.string h] 9)
  have HX := Lib.hid (box7_new w B n h)
  have HB0 := Lib.hid bl
  have HD1 := Lib.hid (hd.later bl)
  have HN : Hid (∀ W, Calls Tryz.prog 78 #[.string n] W (Makes7 (err5 (name5 n.data.toList) 10) W)) := fun W => isName7_calls n W hn
  have HS : Hid (∀ W, Calls Tryz.prog 113 #[.string h] W (Makes7 (err5 (hash5 h.data.toList) 4) W)) := fun W => isSum7_calls h W hh
  have HI : Hid (∀ W, Dir7 W B p L → Calls Tryz.prog 79 #[.pointer (some ⟨B, 0, none⟩), .string n] W (Makes7 (err5 (hasE L n.data.toList) 8) W)) := fun W hD => isThere7_calls B p L n W hD hn'
  have HK : Hid (∀ W, Below ((((w.alloc (.cells #[.pointer (some ⟨B, 0, none⟩)] 28)).alloc (.cells #[.string n] 9)).alloc (.cells #[.string h] 9))).heap.size ((((w.alloc (.cells #[.pointer (some ⟨B, 0, none⟩)] 28)).alloc (.cells #[.string n] 9)).alloc (.cells #[.string h] 9))) W → ∀ G l, l.map (·.2) = [err5 (name5 n.data.toList) 10, err5 (hash5 h.data.toList) 4, err5 (hasE L n.data.toList) 8] → AskRow7 W G l →
      Calls Tryz.prog 112 #[.func (.func 145) #[] #[.pointer (some ⟨w.heap.size, 0, none⟩), .pointer (some ⟨w.heap.size + 1, 0, none⟩), .pointer (some ⟨w.heap.size + 2, 0, none⟩)], .slice (some ⟨G, 0, none⟩) 3 3] W
        fun e w' => e = .returned (.int .i64 (seE L n.data.toList h.data.toList)) ∧ Goes7 W B p (seL L n.data.toList h.data.toList) w') := fun W hW G l hes hrow => by
    have hlen : 3 = l.length := by have := congrArg List.length hes; simpa using this.symm
    by_cases h0 : seE L n.data.toList h.data.toList = 0
    · obtain ⟨z1, z2, z3⟩ := seE_zero h0
      have hf : (putE L n.data.toList h.data.toList).length ≤ 12 := by rw [put_length hd.rise, z3]; exact hd.few
      rw [h0, show seL L n.data.toList h.data.toList = putE L n.data.toList h.data.toList from if_pos h0]
      refine (do7_ok G 3 3 l _ _ W (fun W0 w' => Goes7 W0 B p (putE L n.data.toList h.data.toList) w') hlen (by decide) hrow (by rw [hes]; exact h0) (enters_of Tryz.func145 (by kernel_rfl) rfl) fun W2 hW2 => ?_).mono fun e w' ⟨he, W2, hb, hg⟩ => ⟨he, hg.ahead hb⟩
      exact sethash71_calls _ B p L n h W2 ((HX.out.later hW).later hW2) ((HD1.out.later hW).later hW2) (name7_size z1) (hash7_size z2) hf
    · rw [show seL L n.data.toList h.data.toList = L from if_neg h0]
      have hb := do7_bad G 3 3 l (.func (.func 145) #[] #[.pointer (some ⟨w.heap.size, 0, none⟩), .pointer (some ⟨w.heap.size + 1, 0, none⟩), .pointer (some ⟨w.heap.size + 2, 0, none⟩)]) W hlen (by decide) hrow (by rw [hes]; exact h0)
      rw [hes] at hb
      exact hb.mono fun e w' ⟨he, hbl⟩ => ⟨he, Goes7.still (HD1.out.later hW) hbl⟩
  generalize seE L n.data.toList h.data.toList = r at *
  generalize seL L n.data.toList h.data.toList = L' at *
  generalize err5 (name5 n.data.toList) 10 = e0 at *
  generalize err5 (hash5 h.data.toList) 4 = e1 at *
  generalize err5 (hasE L n.data.toList) 8 = e2 at *
  clear hd bl
  go_enter Tryz.func69, Tryz.ntmps69
  go_wp2_with fail
  generalize (((w.alloc (.cells #[.pointer (some ⟨B, 0, none⟩)] 28)).alloc (.cells #[.string n] 9)).alloc (.cells #[.string h] 9)) = w1 at *
  refine wp_region_last (by kernel_rfl) 9 (fun W => Below w1.heap.size w1 W) (fun W => Goes7 w1 B p L' W) (YSe7 w.heap.size B n h e0 e1 e2) (fun v => v = .int .i64 r) ?F ?hF (by kernel_rfl) (by kernel_rfl) (by kernel_rfl) (by kernel_rfl) (by decide) (below_drew (Below.refl _ _)) ?step ?fin
  case hF =>
    intro x
    simp only [List.map_cons, List.map_nil, putL, Act.put, List.setIfInBounds_toArray, List.set_cons_zero, List.set_cons_succ, Nat.zero_add, Nat.reduceAdd]
    exact rfl
  case step =>
    refine ⟨?_, ?_, ?_, ?_, ?_, ?_, ?_, ?_, ?_, ?_, ?_, trivial⟩
    · intro x W
      refine ⟨fun _ hW hdep K hK => ?_, (fun h => absurd h (by decide)), (fun h => absurd h (by decide))⟩
      clear hdep
      go_simp
      exact hK _ _ rfl hW (fun _ _ h => h)
    · intro x W
      refine ⟨fun _ hW hdep K hK => ?_, (fun h => absurd h (by decide)), (fun h => absurd h (by decide))⟩
      have c1 := (HX.out.later hW).c1
      clear hdep
      go_simp
      exact hK _ _ rfl hW (fun _ _ h => h)
    · intro x W
      refine ⟨fun _ hW hdep K hK => ?_, (fun h => absurd h (by decide)), (fun h => absurd h (by decide))⟩
      have h1 : x 1 = _ := hdep 1 rfl
      clear hdep
      simp only [h1] at hK
      go_simp
      refine (HN.out W).mono ?_
      rintro e W' ⟨g, lb, rfl, ha, hb⟩
      exact hK _ _ ha (below_next hW hb) (fun j u h => YSe7_keep hb j u h)
    · intro x W
      refine ⟨fun _ hW hdep K hK => ?_, (fun h => absurd h (by decide)), (fun h => absurd h (by decide))⟩
      have c2 := (HX.out.later hW).c2
      clear hdep
      go_simp
      exact hK _ _ rfl hW (fun _ _ h => h)
    · intro x W
      refine ⟨fun _ hW hdep K hK => ?_, (fun h => absurd h (by decide)), (fun h => absurd h (by decide))⟩
      have h3 : x 3 = _ := hdep 3 rfl
      clear hdep
      simp only [h3] at hK
      go_simp
      refine (HS.out W).mono ?_
      rintro e W' ⟨g, lb, rfl, ha, hb⟩
      exact hK _ _ ha (below_next hW hb) (fun j u h => YSe7_keep hb j u h)
    · intro x W
      refine ⟨fun _ hW hdep K hK => ?_, (fun h => absurd h (by decide)), (fun h => absurd h (by decide))⟩
      have c0 := (HX.out.later hW).c0
      clear hdep
      go_simp
      exact hK _ _ rfl hW (fun _ _ h => h)
    · intro x W
      refine ⟨fun _ hW hdep K hK => ?_, (fun h => absurd h (by decide)), (fun h => absurd h (by decide))⟩
      have c1 := (HX.out.later hW).c1
      clear hdep
      go_simp
      exact hK _ _ rfl hW (fun _ _ h => h)
    · intro x W
      refine ⟨fun _ hW hdep K hK => ?_, (fun h => absurd h (by decide)), (fun h => absurd h (by decide))⟩
      have h5 : x 5 = _ := hdep 5 rfl
      have h6 : x 6 = _ := hdep 6 rfl
      clear hdep
      simp only [h5, h6] at hK
      go_simp
      refine (HI.out W (HD1.out.later hW)).mono ?_
      rintro e W' ⟨g, lb, rfl, ha, hb⟩
      exact hK _ _ ha (below_next hW hb) (fun j u h => YSe7_keep hb j u h)
    · intro x W
      refine ⟨fun _ hW hdep K hK => ?_, (fun h => absurd h (by decide)), (fun h => absurd h (by decide))⟩
      have a2 : Ask7 (x 2) e0 W := hdep 2 rfl
      have a4 : Ask7 (x 4) e1 W := hdep 4 rfl
      have a7 : Ask7 (x 7) e2 W := hdep 7 rfl
      have A2 := Lib.hid a2
      obtain ⟨g2, lb2, h2, _⟩ := a2
      rw [h2] at A2
      have A4 := Lib.hid a4
      obtain ⟨g4, lb4, h4, _⟩ := a4
      rw [h4] at A4
      have A7 := Lib.hid a7
      obtain ⟨g7, lb7, h7, _⟩ := a7
      rw [h7] at A7
      simp only [h2, h4, h7] at hK
      clear hdep
      go_simp
      have hn := asks7_new W [(.func (.func g2) #[] lb2, e0), (.func (.func g4) #[] lb4, e1), (.func (.func g7) #[] lb7, e2)] 82 (by
        intro y hy
        simp only [List.mem_cons, List.not_mem_nil, or_false] at hy
        rcases hy with rfl | rfl | rfl
        · exact A2.out
        · exact A4.out
        · exact A7.out)
      exact hK _ _ hn (below_alloc hW _) (fun j z h => YSe7_keep (below_alloc (Below.refl _ _) _) j z h)
    · intro x W
      refine ⟨(fun h => absurd h (by decide)), fun _ hW hdep K hK => ?_, (fun h => absurd h (by decide))⟩
      have h0 : x 0 = _ := hdep 0 rfl
      have hA : Asks7 W (x 8) [e0, e1, e2] := hdep 8 rfl
      obtain ⟨G, l, h8, hes, hrow⟩ := hA
      simp only [h0, h8] at hK
      have HKW := Lib.hid (HK.out W hW G l hes hrow)
      clear hdep
      go_simp
      refine HKW.out.mono ?_
      rintro e W' ⟨rfl, hg⟩
      exact hK _ _ rfl (Goes7.ahead hW hg)
    · intro x W
      refine ⟨(fun h => absurd h (by decide)), (fun h => absurd h (by decide)), fun _ hW hdep K hK => ?_⟩
      have h9 : x 9 = _ := hdep 9 rfl (by decide)
      clear hdep
      simp only [h9] at hK
      go_simp
      exact hK _ rfl
  case fin =>
    intro x W hW hZ
    have h10 : x 10 = .int .i64 r := hZ 10 (by decide) (by decide)
    have HF := Lib.hid (Goes7.ahead HB0.out hW)
    clear hZ hW HX HB0 HD1 HK
    rw [h10]
    go_wp2
    go_ret
    exact ⟨rfl, HF.out⟩

theorem del7 {w : World} {B : Nat} {p : Option Nat} {L : Row7} (hd : Dir7 w B p L) (s : ByteArray) (hs : s.size ≤ maxLen) :
    ∃ w', (Builtin.delete_ #[88, 9] 0 #[.map p, .string s]).run Tryz.prog w = .ok (.tuple #[]) w' ∧ Goes7 w B p (delE L s.data.toList) w' := by
  cases p with
  | none =>
    have hL := hd.nil rfl
    subst hL
    exact ⟨w, Maps.drop_nil keyed7 Tryz.underlying88 (key7 s hs) _, Goes7.still hd (Below.refl _ _)⟩
  | some b =>
    obtain ⟨w1, hrun, hown, hturn⟩ := (hd.map b rfl).drop keyed7 Tryz.underlying88 (key7 s hs) 0
    rw [datE_del] at hown
    refine ⟨w1, hrun, some b, dir7_stored ((turned_cells hturn (hd.apart b rfl)).trans hd.blk) rfl hown (rise_del hd.rise _) ?_ (fun q hq => hd.all q (mem_del.1 hq).1), (fun b' hb' => .inl hb'), ?_⟩
    · exact Nat.le_trans (List.length_filter_le _ _) hd.few
    · exact (Turns.refl _ w).grown hturn.grown (fun k hk _ => .inr hk)

def YDel7 (B : Nat) (p : Option Nat) (n : ByteArray) : Nat → Value → World → Prop
  | 3, v, _ => v = .map p
  | 4, v, _ => v = .string n
  | _, v, _ => v = .pointer (some ⟨B, 0, none⟩)

set_option maxRecDepth 100000 in
set_option maxHeartbeats 1000000 in
theorem delete71_calls (b0 B : Nat) (p : Option Nat) (L : Row7) (n : ByteArray) (w : World) (hc0 : w.cell? ⟨b0, 0, none⟩ = some (.pointer (some ⟨B, 0, none⟩))) (hc1 : w.cell? ⟨b0 + 1, 0, none⟩ = some (.string n)) (hd : Dir7 w B p L) (hn : n.size ≤ maxLen) :
    Calls Tryz.prog 144 #[.pointer (some ⟨b0, 0, none⟩), .pointer (some ⟨b0 + 1, 0, none⟩)] w fun e w' => e = .returned (.tuple #[]) ∧ Goes7 w B p (delE L n.data.toList) w' := by
  have l0 : b0 < w.heap.size := World.block_lt_of_cell? w _ hc0
  have l1 : b0 + 1 < w.heap.size := World.block_lt_of_cell? w _ hc1
  have HC0 := Lib.hid hc0
  have HC1 := Lib.hid hc1
  have HD := Lib.hid hd
  clear hc0 hc1 hd
  go_enter Tryz.func144, Tryz.ntmps144
  refine wp_region_last (by kernel_rfl) 5 (fun W => Below w.heap.size w W) (fun W => Goes7 w B p (delE L n.data.toList) W) (YDel7 B p n) (fun v => v = .tuple #[]) ?F ?hF (by kernel_rfl) (by kernel_rfl) (by kernel_rfl) (by kernel_rfl) (by decide) (below_drew (Below.refl _ _)) ?step ?fin
  case hF =>
    intro x
    simp only [List.map_cons, List.map_nil, putL, Act.put, List.setIfInBounds_toArray, List.set_cons_zero, List.set_cons_succ, Nat.zero_add, Nat.reduceAdd]
    exact rfl
  case step =>
    refine ⟨?_, ?_, ?_, ?_, ?_, ?_, trivial⟩
    · intro x W
      refine ⟨fun _ hW hdep K hK => ?_, (fun h => absurd h (by decide)), (fun h => absurd h (by decide))⟩
      have c0 := (hW.cell (p := ⟨b0, 0, none⟩) l0).trans HC0.out
      clear hdep
      go_simp
      exact hK _ _ rfl hW (fun _ _ h => h)
    · intro x W
      refine ⟨fun _ hW hdep K hK => ?_, (fun h => absurd h (by decide)), (fun h => absurd h (by decide))⟩
      have h0 : x 0 = _ := hdep 0 rfl
      clear hdep
      simp only [h0] at hK
      go_simp
      exact hK _ _ rfl hW (fun _ _ h => h)
    · intro x W
      refine ⟨fun _ hW hdep K hK => ?_, (fun h => absurd h (by decide)), (fun h => absurd h (by decide))⟩
      have h1 : x 1 = _ := hdep 1 rfl
      clear hdep
      simp only [h1] at hK
      go_simp
      exact hK _ _ rfl hW (fun _ _ h => h)
    · intro x W
      refine ⟨fun _ hW hdep K hK => ?_, (fun h => absurd h (by decide)), (fun h => absurd h (by decide))⟩
      have h2 : x 2 = _ := hdep 2 rfl
      have c := (HD.out.later hW).cell
      clear hdep
      simp only [h2] at hK
      go_simp
      exact hK _ _ rfl hW (fun _ _ h => h)
    · intro x W
      refine ⟨fun _ hW hdep K hK => ?_, (fun h => absurd h (by decide)), (fun h => absurd h (by decide))⟩
      have c1 := (hW.cell (p := ⟨b0 + 1, 0, none⟩) l1).trans HC1.out
      clear hdep
      go_simp
      exact hK _ _ rfl hW (fun _ _ h => h)
    · intro x W
      refine ⟨(fun h => absurd h (by decide)), fun _ hW hdep K hK => ?_, (fun h => absurd h (by decide))⟩
      have h3 : x 3 = _ := hdep 3 rfl
      have h4 : x 4 = _ := hdep 4 rfl
      obtain ⟨w', hrun, hg⟩ := del7 (HD.out.later hW) n hn
      clear hdep
      simp only [h3, h4] at hK
      go_simp
      exact hK _ _ rfl (hg.ahead hW)
  case fin =>
    intro x W hW _
    have HF := Lib.hid hW
    clear hW HD HC0 HC1
    go_end0
    exact ⟨rfl, HF.out⟩

set_option maxRecDepth 100000 in
set_option maxHeartbeats 2000000 in
theorem delete7_calls (B : Nat) (p : Option Nat) (L : Row7) (n : ByteArray) (w : World) (hd : Dir7 w B p L) (hn : n.size ≤ 9223372036854775807) :
    Calls Tryz.prog 68 #[.pointer (some ⟨B, 0, none⟩), .string n] w fun e w' => e = .returned (.int .i64 (deE L n.data.toList)) ∧ Goes7 w B p (deL L n.data.toList) w' := by
  have hn' : n.size ≤ maxLen := Nat.le_trans hn (by decide)
  have hmf := mkf
  have bl := below_alloc (below_alloc (Below.refl w.heap.size w) (.cells #[.pointer (some ⟨B, 0, none⟩)] 28)) (.cells #[.string n] 9)
  have HX := Lib.hid (trivial)
  have HB0 := Lib.hid bl
  have HD1 := Lib.hid (hd.later bl)
  have HN : Hid (∀ W, Calls Tryz.prog 78 #[.string n] W (Makes7 (err5 (name5 n.data.toList) 10) W)) := fun W => isName7_calls n W hn
  have HI : Hid (∀ W, Dir7 W B p L → Calls Tryz.prog 79 #[.pointer (some ⟨B, 0, none⟩), .string n] W (Makes7 (err5 (hasE L n.data.toList) 8) W)) := fun W hD => isThere7_calls B p L n W hD hn'
  have l0 : w.heap.size < (((w.alloc (.cells #[.pointer (some ⟨B, 0, none⟩)] 28)).alloc (.cells #[.string n] 9))).heap.size := by simp; omega
  have l1 : w.heap.size + 1 < (((w.alloc (.cells #[.pointer (some ⟨B, 0, none⟩)] 28)).alloc (.cells #[.string n] 9))).heap.size := by simp
  have HX0 : Hid ((((w.alloc (.cells #[.pointer (some ⟨B, 0, none⟩)] 28)).alloc (.cells #[.string n] 9))).cell? ⟨w.heap.size, 0, none⟩ = some (.pointer (some ⟨B, 0, none⟩))) := by show _ = _; simp
  have HX1 : Hid ((((w.alloc (.cells #[.pointer (some ⟨B, 0, none⟩)] 28)).alloc (.cells #[.string n] 9))).cell? ⟨w.heap.size + 1, 0, none⟩ = some (.string n)) := by show _ = _; simp
  have HK : Hid (∀ W, Below (((w.alloc (.cells #[.pointer (some ⟨B, 0, none⟩)] 28)).alloc (.cells #[.string n] 9))).heap.size (((w.alloc (.cells #[.pointer (some ⟨B, 0, none⟩)] 28)).alloc (.cells #[.string n] 9))) W → ∀ G l, l.map (·.2) = [err5 (name5 n.data.toList) 10, err5 (hasE L n.data.toList) 8] → AskRow7 W G l →
      Calls Tryz.prog 112 #[.func (.func 144) #[] #[.pointer (some ⟨w.heap.size, 0, none⟩), .pointer (some ⟨w.heap.size + 1, 0, none⟩)], .slice (some ⟨G, 0, none⟩) 2 2] W
        fun e w' => e = .returned (.int .i64 (deE L n.data.toList)) ∧ Goes7 W B p (deL L n.data.toList) w') := fun W hW G l hes hrow => by
    have hlen : 2 = l.length := by have := congrArg List.length hes; simpa using this.symm
    by_cases h0 : deE L n.data.toList = 0
    · rw [h0, show deL L n.data.toList = delE L n.data.toList from if_pos h0]
      refine (do7_ok G 2 2 l _ _ W (fun W0 w' => Goes7 W0 B p (delE L n.data.toList) w') hlen (by decide) hrow (by rw [hes]; exact h0) (enters_of Tryz.func144 (by kernel_rfl) rfl) fun W2 hW2 => ?_).mono fun e w' ⟨he, W2, hb, hg⟩ => ⟨he, hg.ahead hb⟩
      have hb2 := below_next hW hW2
      exact delete71_calls _ B p L n W2 ((hb2.cell (p := ⟨_, 0, none⟩) l0).trans HX0.out) ((hb2.cell (p := ⟨_, 0, none⟩) l1).trans HX1.out) ((HD1.out.later hW).later hW2) hn'
    · rw [show deL L n.data.toList = L from if_neg h0]
      have hb := do7_bad G 2 2 l (.func (.func 144) #[] #[.pointer (some ⟨w.heap.size, 0, none⟩), .pointer (some ⟨w.heap.size + 1, 0, none⟩)]) W hlen (by decide) hrow (by rw [hes]; exact h0)
      rw [hes] at hb
      exact hb.mono fun e w' ⟨he, hbl⟩ => ⟨he, Goes7.still (HD1.out.later hW) hbl⟩
  generalize deE L n.data.toList = r at *
  generalize deL L n.data.toList = L' at *
  generalize err5 (name5 n.data.toList) 10 = e0 at *
  generalize err5 (hasE L n.data.toList) 8 = e1 at *
  clear hd bl
  go_enter Tryz.func68, Tryz.ntmps68
  go_wp2_with fail
  generalize ((w.alloc (.cells #[.pointer (some ⟨B, 0, none⟩)] 28)).alloc (.cells #[.string n] 9)) = w1 at *
  refine wp_region_last (by kernel_rfl) 7 (fun W => Below w1.heap.size w1 W) (fun W => Goes7 w1 B p L' W) (YDe7 w.heap.size B n e0 e1) (fun v => v = .int .i64 r) ?F ?hF (by kernel_rfl) (by kernel_rfl) (by kernel_rfl) (by kernel_rfl) (by decide) (below_drew (Below.refl _ _)) ?step ?fin
  case hF =>
    intro x
    simp only [List.map_cons, List.map_nil, putL, Act.put, List.setIfInBounds_toArray, List.set_cons_zero, List.set_cons_succ, Nat.zero_add, Nat.reduceAdd]
    exact rfl
  case step =>
    refine ⟨?_, ?_, ?_, ?_, ?_, ?_, ?_, ?_, ?_, trivial⟩
    · intro x W
      refine ⟨fun _ hW hdep K hK => ?_, (fun h => absurd h (by decide)), (fun h => absurd h (by decide))⟩
      clear hdep
      go_simp
      exact hK _ _ rfl hW (fun _ _ h => h)
    · intro x W
      refine ⟨fun _ hW hdep K hK => ?_, (fun h => absurd h (by decide)), (fun h => absurd h (by decide))⟩
      have c1 := (hW.cell (p := ⟨w.heap.size + 1, 0, none⟩) l1).trans HX1.out
      clear hdep
      go_simp
      exact hK _ _ rfl hW (fun _ _ h => h)
    · intro x W
      refine ⟨fun _ hW hdep K hK => ?_, (fun h => absurd h (by decide)), (fun h => absurd h (by decide))⟩
      have h1 : x 1 = _ := hdep 1 rfl
      clear hdep
      simp only [h1] at hK
      go_simp
      refine (HN.out W).mono ?_
      rintro e W' ⟨g, lb, rfl, ha, hb⟩
      exact hK _ _ ha (below_next hW hb) (fun j u h => YDe7_keep hb j u h)
    · intro x W
      refine ⟨fun _ hW hdep K hK => ?_, (fun h => absurd h (by decide)), (fun h => absurd h (by decide))⟩
      have c0 := (hW.cell (p := ⟨w.heap.size, 0, none⟩) l0).trans HX0.out
      clear hdep
      go_simp
      exact hK _ _ rfl hW (fun _ _ h => h)
    · intro x W
      refine ⟨fun _ hW hdep K hK => ?_, (fun h => absurd h (by decide)), (fun h => absurd h (by decide))⟩
      have c1 := (hW.cell (p := ⟨w.heap.size + 1, 0, none⟩) l1).trans HX1.out
      clear hdep
      go_simp
      exact hK _ _ rfl hW (fun _ _ h => h)
    · intro x W
      refine ⟨fun _ hW hdep K hK => ?_, (fun h => absurd h (by decide)), (fun h => absurd h (by decide))⟩
      have h3 : x 3 = _ := hdep 3 rfl
      have h4 : x 4 = _ := hdep 4 rfl
      clear hdep
      simp only [h3, h4] at hK
      go_simp
      refine (HI.out W (HD1.out.later hW)).mono ?_
      rintro e W' ⟨g, lb, rfl, ha, hb⟩
      exact hK _ _ ha (below_next hW hb) (fun j u h => YDe7_keep hb j u h)
    · intro x W
      refine ⟨fun _ hW hdep K hK => ?_, (fun h => absurd h (by decide)), (fun h => absurd h (by decide))⟩
      have a2 : Ask7 (x 2) e0 W := hdep 2 rfl
      have a5 : Ask7 (x 5) e1 W := hdep 5 rfl
      have A2 := Lib.hid a2
      obtain ⟨g2, lb2, h2, _⟩ := a2
      rw [h2] at A2
      have A5 := Lib.hid a5
      obtain ⟨g5, lb5, h5, _⟩ := a5
      rw [h5] at A5
      simp only [h2, h5] at hK
      clear hdep
      go_simp
      have hn := asks7_new W [(.func (.func g2) #[] lb2, e0), (.func (.func g5) #[] lb5, e1)] 82 (by
        intro y hy
        simp only [List.mem_cons, List.not_mem_nil, or_false] at hy
        rcases hy with rfl | rfl
        · exact A2.out
        · exact A5.out)
      exact hK _ _ hn (below_alloc hW _) (fun j z h => YDe7_keep (below_alloc (Below.refl _ _) _) j z h)
    · intro x W
      refine ⟨(fun h => absurd h (by decide)), fun _ hW hdep K hK => ?_, (fun h => absurd h (by decide))⟩
      have h0 : x 0 = _ := hdep 0 rfl
      have hA : Asks7 W (x 6) [e0, e1] := hdep 6 rfl
      obtain ⟨G, l, h6, hes, hrow⟩ := hA
      simp only [h0, h6] at hK
      have HKW := Lib.hid (HK.out W hW G l hes hrow)
      clear hdep
      go_simp
      refine HKW.out.mono ?_
      rintro e W' ⟨rfl, hg⟩
      exact hK _ _ rfl (Goes7.ahead hW hg)
    · intro x W
      refine ⟨(fun h => absurd h (by decide)), (fun h => absurd h (by decide)), fun _ hW hdep K hK => ?_⟩
      have h7 : x 7 = _ := hdep 7 rfl (by decide)
      clear hdep
      simp only [h7] at hK
      go_simp
      exact hK _ rfl
  case fin =>
    intro x W hW hZ
    have h8 : x 8 = .int .i64 r := hZ 8 (by decide) (by decide)
    have HF := Lib.hid (Goes7.ahead HB0.out hW)
    clear hZ hW HX HB0 HD1 HK
    rw [h8]
    go_wp2
    go_ret
    exact ⟨rfl, HF.out⟩
end Go.Proofs.YtclnkboejbnfnaaGreatDoor
