/-
  A deed of the law, of both: the code's directory and the document's row go on alike.
  Conditions: texts of at most 50 bytes.
-/
import Derived.Test.YtclnkboejbnfnaaGreatElderSame
namespace Go.Proofs.YtclnkboejbnfnaaGreat
open Go.RowKit Go.Maps Go.Sort Go.Shelf

/-- An act's block. -/
def ActAt7 (W : World) (N kd : Nat) (nm hs : ByteArray) : Prop := W.heap[N]? = some (.cells #[.int .u8 (kd : Int), .string nm, .string hs] 29 (0, 0))
section
variable {W W' : World} {N kd : Nat} {nm hs : ByteArray}
theorem ActAt7.c0 (h : ActAt7 W N kd nm hs) : W.cell? ⟨N, 0, none⟩ = some (.int .u8 (kd : Int)) := by unfold ActAt7 at h; simp [World.cell?, h]
theorem ActAt7.c1 (h : ActAt7 W N kd nm hs) : W.cell? ⟨N, 1, none⟩ = some (.string nm) := by unfold ActAt7 at h; simp [World.cell?, h]
theorem ActAt7.c2 (h : ActAt7 W N kd nm hs) : W.cell? ⟨N, 2, none⟩ = some (.string hs) := by unfold ActAt7 at h; simp [World.cell?, h]
theorem ActAt7.keeps (h : ActAt7 W N kd nm hs) (hk : Keeps7 W W') : ActAt7 W' N kd nm hs := hk _ _ _ _ h (by decide)
theorem ActAt7.later (h : ActAt7 W N kd nm hs) (hb : Below W.heap.size W W') : ActAt7 W' N kd nm hs := h.keeps (Keeps7.of_below hb)
theorem actat_new (W : World) (kd : Nat) (nm hs : ByteArray) : ActAt7 (W.alloc (.cells #[.int .u8 (kd : Int), .string nm, .string hs] 29)) W.heap.size kd nm hs := (MapKept.heap_alloc W _).1
end

theorem Own7.copy {w0 W : World} {B : Nat} {L : Row7} (h : Own7 w0 W B L) : Calls Tryz.prog 7 #[.pointer (some ⟨B, 0, none⟩)] W fun e w' => ∃ B', e = .returned (.pointer (some ⟨B', 0, none⟩)) ∧ Own7 W w' B' L := by
  obtain ⟨p, hd, _⟩ := h
  exact (copy7_calls B p L W hd).mono fun e w' ⟨B', p', he, h1, h2, h3, h4⟩ => ⟨B', he, p', h1, h2, h3, h4⟩
/-- What is done on a directory behind it was copied leaves the copy as it was. -/
theorem Own7.create_apart {w1 W W2 : World} {B B' : Nat} {L L2 : Row7} (h : Own7 w1 W B L) (hc : Own7 W W2 B' L2) (n s : ByteArray) (hn : n.size ≤ 9223372036854775807) (hs : s.size ≤ 9223372036854775807) :
    Calls Tryz.prog 8 #[.pointer (some ⟨B, 0, none⟩), .string n, .string s] W2 fun e w' => (∃ x, e = .returned (.int .i64 x)) ∧ Own7 w1 w' B' L2 ∧ Keeps7 W2 w' := by
  obtain ⟨p, hd, h1, h2, h3⟩ := h
  obtain ⟨p', hd', g1, g2, g3⟩ := hc
  have hl := hd.lt
  have hm := hd.mlt
  have hd2 := hd.later g3
  refine (create7_calls B p L n s W2 hd2 hn hs).mono fun e w' ⟨he, hg⟩ => ⟨⟨_, he⟩, ?_, hg.keeps hd2⟩
  obtain ⟨_, _, _, ht⟩ := hg
  refine ⟨p', hd'.turns ht ?_ ?_, Nat.le_trans h3.size g1, fun b hb => Nat.le_trans h3.size (g2 b hb), (h3.trans (g3.mono h3.size)).trans (ht.below_at (Nat.le_trans h3.size g3.size) ?_)⟩
  · rintro (e | e)
    · omega
    · have := hm _ e; omega
  · rintro b hb (e | e)
    · have := g2 b hb; omega
    · have := hm _ e; have := g2 b hb; omega
  · rintro i (rfl | e)
    · exact h1
    · exact h2 i e

/-- What a deed makes of a row. -/
def actL (k : Nat) (L : Row7) (n h : List UInt8) : Row7 := if k = 0 then crL L n h else if k = 1 then deL L n else seL L n h

set_option maxRecDepth 100000 in
set_option maxHeartbeats 2000000 in
theorem do7_law (w1 : World) (B : Nat) (L : Row7) (v : Value) (kd : Nat) (nm hs : ByteArray) (W : World) (hO : Own7 w1 W B L) (hR : Row7At L W v) (hk : kd < 3) (hn : nm.size ≤ 50) (hh : hs.size ≤ 50) :
    Calls Tryz.prog 10 #[.pointer (some ⟨B, 0, none⟩), v, .agg #[.int .u8 (kd : Int), .string nm, .string hs]] W fun e w' => ∃ v', e = .returned (.tuple #[v', .bool true]) ∧ Own7 w1 w' B (actL kd L nm.data.toList hs.data.toList) ∧ Row7At (actL kd L nm.data.toList hs.data.toList) w' v' ∧ Keeps7 W w' := by
  have hA := actat_new W kd nm hs
  have hb := below_alloc (Below.refl W.heap.size W) (.cells #[.int .u8 (kd : Int), .string nm, .string hs] 29)
  have HO := Lib.hid (hO.later hb)
  have HR := Lib.hid (hR.later hb)
  have HA := Lib.hid hA
  have HK := Lib.hid (Keeps7.of_below hb)
  have hrem : (kd : Int).tmod 3 = (kd : Int) := by
    have : (kd : Int).tmod 3 = ((kd % 3 : Nat) : Int) := rfl
    rw [this, Nat.mod_eq_of_lt hk]
  clear hA hb hO hR
  have hkc : kd = 0 ∨ kd = 1 ∨ kd = 2 := by omega
  rcases hkc with rfl | rfl | rfl
  · have HC1 : Hid (∀ W' v, Row7At L W' v → Calls Tryz.prog 29 #[v, .string nm, .string hs] W' (Gives7 (crE L nm.data.toList hs.data.toList) (crL L nm.data.toList hs.data.toList) W')) := fun W' v h => rcreate7_calls v L nm hs W' h HO.out.rise HO.out.few (by omega) (by omega)
    have HC2 : Hid (∀ W', Own7 w1 W' B L → Calls Tryz.prog 8 #[.pointer (some ⟨B, 0, none⟩), .string nm, .string hs] W' (Deed7 w1 W' B (crE L nm.data.toList hs.data.toList) (crL L nm.data.toList hs.data.toList))) := fun W' h => h.create nm hs (by omega) (by omega)
    have HL : Hid (actL 0 L nm.data.toList hs.data.toList = crL L nm.data.toList hs.data.toList) := rfl
    generalize crE L nm.data.toList hs.data.toList = x at *
    generalize crL L nm.data.toList hs.data.toList = L' at *
    generalize actL 0 L nm.data.toList hs.data.toList = L'' at *
    obtain rfl : L'' = L' := HL.out
    have c0 := HA.out.c0
    have c1 := HA.out.c1
    have c2 := HA.out.c2
    go_enter Tryz.func10, Tryz.ntmps10
    go_wp2_with fail
    generalize W.alloc (.cells #[.int .u8 ((0 : Nat) : Int), .string nm, .string hs] 29) = W1 at *
    generalize W.heap.size = N at *
    with_reducible refine (HC1.out _ _ HR.out).mono ?_
    rintro e w2 ⟨v2, rfl, hr, hb⟩
    have HR2 := Lib.hid hr
    have HO2 := Lib.hid (HO.out.later hb)
    have HA2 := Lib.hid (HA.out.later hb)
    have HK2 := Lib.hid (HK.out.trans (Keeps7.of_below hb))
    clear hr hb c0 c1 c2 HC1
    have c1 := HA2.out.c1
    have c2 := HA2.out.c2
    go_wp2_with fail
    with_reducible refine (HC2.out _ HO2.out).mono ?_
    rintro e w3 ⟨rfl, ho, hkp⟩
    have HF : Hid (Own7 w1 w3 B L'' ∧ Row7At L'' w3 v2 ∧ Keeps7 W w3) := ⟨ho, HR2.out.keeps hkp, HK2.out.trans hkp⟩
    clear ho hkp c1 c2 HC2
    go_wp2
    go_ret2
    exact ⟨_, by simp, HF.out⟩
  · have HC1 : Hid (∀ W' v, Row7At L W' v → Calls Tryz.prog 30 #[v, .string nm] W' (Gives7 (deE L nm.data.toList) (deL L nm.data.toList) W')) := fun W' v h => rdelete7_calls v L nm W' h HO.out.few (by omega)
    have HC2 : Hid (∀ W', Own7 w1 W' B L → Calls Tryz.prog 9 #[.pointer (some ⟨B, 0, none⟩), .string nm] W' (Deed7 w1 W' B (deE L nm.data.toList) (deL L nm.data.toList))) := fun W' h => h.delete nm (by omega)
    have HL : Hid (actL 1 L nm.data.toList hs.data.toList = deL L nm.data.toList) := rfl
    generalize deE L nm.data.toList = x at *
    generalize deL L nm.data.toList = L' at *
    generalize actL 1 L nm.data.toList hs.data.toList = L'' at *
    obtain rfl : L'' = L' := HL.out
    have c0 := HA.out.c0
    have c1 := HA.out.c1
    have c2 := HA.out.c2
    go_enter Tryz.func10, Tryz.ntmps10
    go_wp2_with fail
    generalize W.alloc (.cells #[.int .u8 ((1 : Nat) : Int), .string nm, .string hs] 29) = W1 at *
    generalize W.heap.size = N at *
    with_reducible refine (HC1.out _ _ HR.out).mono ?_
    rintro e w2 ⟨v2, rfl, hr, hb⟩
    have HR2 := Lib.hid hr
    have HO2 := Lib.hid (HO.out.later hb)
    have HA2 := Lib.hid (HA.out.later hb)
    have HK2 := Lib.hid (HK.out.trans (Keeps7.of_below hb))
    clear hr hb c0 c1 c2 HC1
    have c1 := HA2.out.c1
    go_wp2_with fail
    with_reducible refine (HC2.out _ HO2.out).mono ?_
    rintro e w3 ⟨rfl, ho, hkp⟩
    have HF : Hid (Own7 w1 w3 B L'' ∧ Row7At L'' w3 v2 ∧ Keeps7 W w3) := ⟨ho, HR2.out.keeps hkp, HK2.out.trans hkp⟩
    clear ho hkp c1 HC2
    go_wp2
    go_ret2
    exact ⟨_, by simp, HF.out⟩
  · have HC1 : Hid (∀ W' v, Row7At L W' v → Calls Tryz.prog 31 #[v, .string nm, .string hs] W' (Gives7 (seE L nm.data.toList hs.data.toList) (seL L nm.data.toList hs.data.toList) W')) := fun W' v h => rsethash7_calls v L nm hs W' h HO.out.rise HO.out.few (by omega) (by omega)
    have HC2 : Hid (∀ W', Own7 w1 W' B L → Calls Tryz.prog 32 #[.pointer (some ⟨B, 0, none⟩), .string nm, .string hs] W' (Deed7 w1 W' B (seE L nm.data.toList hs.data.toList) (seL L nm.data.toList hs.data.toList))) := fun W' h => h.sethash nm hs (by omega) (by omega)
    have HL : Hid (actL 2 L nm.data.toList hs.data.toList = seL L nm.data.toList hs.data.toList) := rfl
    generalize seE L nm.data.toList hs.data.toList = x at *
    generalize seL L nm.data.toList hs.data.toList = L' at *
    generalize actL 2 L nm.data.toList hs.data.toList = L'' at *
    obtain rfl : L'' = L' := HL.out
    have c0 := HA.out.c0
    have c1 := HA.out.c1
    have c2 := HA.out.c2
    go_enter Tryz.func10, Tryz.ntmps10
    go_wp2_with fail
    generalize W.alloc (.cells #[.int .u8 ((2 : Nat) : Int), .string nm, .string hs] 29) = W1 at *
    generalize W.heap.size = N at *
    with_reducible refine (HC1.out _ _ HR.out).mono ?_
    rintro e w2 ⟨v2, rfl, hr, hb⟩
    have HR2 := Lib.hid hr
    have HO2 := Lib.hid (HO.out.later hb)
    have HA2 := Lib.hid (HA.out.later hb)
    have HK2 := Lib.hid (HK.out.trans (Keeps7.of_below hb))
    clear hr hb c0 c1 c2 HC1
    have c1 := HA2.out.c1
    have c2 := HA2.out.c2
    go_wp2_with fail
    with_reducible refine (HC2.out _ HO2.out).mono ?_
    rintro e w3 ⟨rfl, ho, hkp⟩
    have HF : Hid (Own7 w1 w3 B L'' ∧ Row7At L'' w3 v2 ∧ Keeps7 W w3) := ⟨ho, HR2.out.keeps hkp, HK2.out.trans hkp⟩
    clear ho hkp c1 c2 HC2
    go_wp2
    go_ret2
    exact ⟨_, by simp, HF.out⟩
end Go.Proofs.YtclnkboejbnfnaaGreat
