/-
  What this law alone needs, the law walked, and its statement.
  Conditions: each theorem's own.
-/
import Derived.Test.YtmcomnocpibiiaaGreatDoorRows
import Derived.Test.YtmcomnocpibiiaaGreatDoorCards
import Derived.Test.YtmcomnocpibiiaaGreatDoorTie
import Derived.Test.YtmcomnocpibiiaaGreatDoorFolMBA
import Derived.Test.YtmcomnocpibiiaaGreatDoorFolMBB
import Derived.Test.YtmcomnocpibiiaaGreatDoorFolMBC
import Derived.Test.YtmcomnocpibiiaaGreatDoorFolMBD
import Derived.Test.YtmcomnocpibiiaaGreatDoorFolMBE
import Derived.Test.YtmcomnocpibiiaaGreatDoorFolMBF
import Derived.Test.YtmcomnocpibiiaaGreatDoorFolMBG
import Derived.Test.YtmcomnocpibiiaaGreatDoorFolMBH
namespace Go.Proofs.YtmcomnocpibiiaaGreatDoor
open Go.RowKit Go.Maps Go.Sort Go.Shelf
set_option linter.unusedVariables false

theorem grown_users12 {w0 w w' : World} {n : Nat} {o : Obj} {v : Value} {xs : List Value} (h : Below w0.heap.size w0 w) (ho : w.ownsRow w0.heap.size 37 5 v n xs) (hg : (w.alloc o).grownBy w' v.ownBlock) : Below w0.heap.size w0 w' :=
 (below_next h (below_alloc (Below.refl _ _) o)).grown hg (by have := h.size; simp; omega) (fun k hk => (ho.lt k hk).1)
def YMo12 (C b6 b5 : Nat) (u8 : Value) (t0 t1 t2 t3 lt : ByteArray) (A2 : Option Addr) (c2 m : Nat) (xs : List Value) : Nat → Value → World → Prop
 | 0, v, _ => v = u8
 | 1, v, _ => v = .func (.func 40) #[] #[.pointer (some ⟨C, 0, none⟩)]
 | 2, v, _ => v = .string t0
 | 3, v, _ => v = .string t1
 | 4, v, _ => v = .func (.func 40) #[] #[.pointer (some ⟨C, 0, none⟩)]
 | 5, v, _ => v = .string t0
 | 6, v, _ => v = .string t1
 | 7, v, _ => v = .string t2
 | 8, v, _ => v = .string lt
 | 9, v, _ => v = .string t3
 | 10, v, _ => v = .slice A2 6 c2
 | 11, v, _ => v = .agg #[.string t1, .string ⟨#[48, 49, 50, 51, 52, 53, 54, 55, 56, 57, 97, 98]⟩, .string t3, .bool true, .slice A2 6 c2]
 | 12, v, _ => v = .slice (some ⟨b6, 0, none⟩) 1 1
 | 13, v, W => W.ownsRow b5 37 5 v m xs
 | 14, v, W => W.ownsRow b5 37 5 v m xs
 | _, _, _ => True
def Gf12 (w5 W0 W1 : World) (L : Nat → Bool) (W : World) : Prop := (L 13 = false → W = if L 12 = true then W1 else W0) ∧ (L 13 = true → L 12 = true ∧ Below w5.heap.size w5 W) ∧ (L 14 = true → L 13 = true)
section
variable {w5 W0 W1 W : World} {L : Nat → Bool}
theorem Gf12.quiet (h : Gf12 w5 W0 W1 L W) (i : Nat) (hi : i < 12) : Gf12 w5 W0 W1 (updL L i) W := by
 have e2 : updL L i 12 = L 12 := if_neg (by omega)
 have e3 : updL L i 13 = L 13 := if_neg (by omega)
 have e4 : updL L i 14 = L 14 := if_neg (by omega)
 unfold Gf12
 rw [e2, e3, e4]
 exact h
theorem Gf12.no (h : Gf12 w5 W0 W1 L W) (hL : L 12 = false) : L 13 = false := by
 cases h3 : L 13 with
 | false => rfl
 | true => rw [(h.2.1 h3).1] at hL; cases hL
theorem Gf12.ahead (h : Gf12 w5 W0 W1 L W) (hL : L 12 = false) : W = W0 := by
 have := h.1 (h.no hL)
 rw [hL] at this
 exact this
theorem Gf12.built (h : Gf12 w5 W0 W1 L W) (hL : L 12 = false) : Gf12 w5 W0 W1 (updL L 12) W1 := by
 have e2 : updL L 12 12 = true := if_pos rfl
 have e3 : updL L 12 13 = L 13 := if_neg (by omega)
 have e4 : updL L 12 14 = L 14 := if_neg (by omega)
 have h3 := h.no hL
 unfold Gf12
 rw [e2, e3, e4, h3]
 exact ⟨fun _ => rfl, fun h => (by cases h), fun h4 => by have := h.2.2 h4; rw [h3] at this; cases this⟩
theorem Gf12.mid (h : Gf12 w5 W0 W1 L W) (hL : L 13 = false) (h2 : L 12 = true) : W = W1 := by
 have := h.1 hL
 rw [h2] at this
 exact this
theorem Gf12.grown (h : Gf12 w5 W0 W1 L W) (hL : L 13 = false) (h2 : L 12 = true) {W' : World} (hb : Below w5.heap.size w5 W') : Gf12 w5 W0 W1 (updL L 13) W' := by
 have e2 : updL L 13 12 = L 12 := if_neg (by omega)
 have e3 : updL L 13 13 = true := if_pos rfl
 unfold Gf12
 rw [e2, e3, h2]
 exact ⟨fun h => (by cases h), fun _ => ⟨rfl, hb⟩, fun _ => rfl⟩
theorem Gf12.end_ (h : Gf12 w5 W0 W1 L W) (h3 : L 13 = true) : Gf12 w5 W0 W1 (updL L 14) W := by
 have e2 : updL L 14 12 = L 12 := if_neg (by omega)
 have e3 : updL L 14 13 = L 13 := if_neg (by omega)
 unfold Gf12
 rw [e2, e3]
 exact ⟨h.1, h.2.1, fun _ => h3⟩
theorem Gf12.below (h : Gf12 w5 W0 W1 L W) (h0 : Below w5.heap.size w5 W0) (h1 : Below w5.heap.size w5 W1) : Below w5.heap.size w5 W := by
 cases h3 : L 13 with
 | true => exact (h.2.1 h3).2
 | false =>
  have := h.1 h3
  cases h2 : L 12 with
  | true => rw [h2] at this; rw [this]; exact h1
  | false => rw [h2] at this; rw [this]; exact h0
end
theorem YMo12_keep {C b6 b5 : Nat} {u8 : Value} {t0 t1 t2 t3 lt : ByteArray} {A2 : Option Addr} {c2 m : Nat} {xs : List Value} {W W' : World} (hb : Below W.heap.size W W') (j : Nat) (z : Value) (h : YMo12 C b6 b5 u8 t0 t1 t2 t3 lt A2 c2 m xs j z W) : YMo12 C b6 b5 u8 t0 t1 t2 t3 lt A2 c2 m xs j z W' := by
 match j, h with
 | 0, h => exact h
 | 1, h => exact h
 | 2, h => exact h
 | 3, h => exact h
 | 4, h => exact h
 | 5, h => exact h
 | 6, h => exact h
 | 7, h => exact h
 | 8, h => exact h
 | 9, h => exact h
 | 10, h => exact h
 | 11, h => exact h
 | 12, h => exact h
 | 13, h => exact ownsRow_below11 h hb
 | 14, h => exact ownsRow_below11 h hb
 | _ + 15, _ => trivial
theorem YMo12_grow {C b6 b5 : Nat} {u8 : Value} {t0 t1 t2 t3 lt : ByteArray} {A2 : Option Addr} {c2 m : Nat} {xs : List Value} {W W' : World} (j : Nat) (z : Value) (h13 : j ≠ 13) (h14 : j ≠ 14) (h : YMo12 C b6 b5 u8 t0 t1 t2 t3 lt A2 c2 m xs j z W) : YMo12 C b6 b5 u8 t0 t1 t2 t3 lt A2 c2 m xs j z W' := by
 match j, h13, h14, h with
 | 0, _, _, h => exact h
 | 1, _, _, h => exact h
 | 2, _, _, h => exact h
 | 3, _, _, h => exact h
 | 4, _, _, h => exact h
 | 5, _, _, h => exact h
 | 6, _, _, h => exact h
 | 7, _, _, h => exact h
 | 8, _, _, h => exact h
 | 9, _, _, h => exact h
 | 10, _, _, h => exact h
 | 11, _, _, h => exact h
 | 12, _, _, h => exact h
 | 13, h, _, _ => exact absurd rfl h
 | 14, _, h, _ => exact absurd rfl h
 | _ + 15, _, _, _ => trivial
theorem texts_at12 (w : World) (ss : List ByteArray) (T : TypeId) (j : Nat) (hj : j < ss.length) : (w.alloc (.cells (ss.map Value.string).toArray T)).cell? ⟨w.heap.size, j, none⟩ = some (.string ss[j]) := by
 rw [World.cell?_alloc_at _ _ _ _ rfl]
 show (ss.map Value.string).toArray[j]? = _
 simp [hj]

theorem map_take12 {α β : Type} (f : α → β) (l : List α) (k : Nat) (h : k < l.length) : (l.map f).take (k + 1) = (l.map f).take k ++ [f l[k]] := by
 rw [List.take_succ_eq_append_getElem (by rw [List.length_map]; exact h), List.getElem_map]

set_option maxRecDepth 100000 in
set_option maxHeartbeats 16000000 in
theorem fmost12_walk (fill : Nat) (hf : fill < 256) (w : World) (hm : Len5 w) :
  Calls Tryz.prog 10 #[.int .u8 fill] w (Tells5 true w) := by
 have HV : Hid (∀ W, Below w.heap.size w W → Calls Tryz.prog 32 #[] W (Tells5 true W)) := fun W hb => lives12_calls W (hm.later hb)
 obtain ⟨x, hx⟩ : ∃ x : UInt8, x = UInt8.ofNat (97 + fill % 26) := ⟨_, rfl⟩
 have hxI : (97 + (fill : Int) % 26) = (x.toNat : Int) := by
  have : (97 + fill % 26) % 256 = 97 + fill % 26 := Nat.mod_eq_of_lt (by omega)
  rw [hx, UInt8.toNat_ofNat']
  omega
 have HLT : Hid (ofD11 (uM12 x none 0) (gM12 x) = 0 ∧ (folB (uM12 x none 0) (gM12 x)).length = 1733) := by
  rw [hx]
  exact letters12 ⟨fill % 26, Nat.mod_lt _ (by decide)⟩
 have H5 := Lib.hid hm
 obtain ⟨i0, hi, hz0, hz1, hz2⟩ := info_parts infoText
 obtain ⟨i1, hi1, hy0, hy1, hy2⟩ := info_parts infoUser11
 clear hx hm
 go_enter Tryz.func10, Tryz.ntmps10
 go_wp2_with fail
 with_reducible refine (HV.out w (Below.refl _ _)).mono ?_
 rintro e w1 ⟨rfl, hb⟩
 have HB1 := Lib.hid hb
 clear hb HV
 have hrd := (rd_one w1 x).string (P := Tryz.prog) (src := 66) (dst := 9) Tryz.underlying66 Tryz.underlying5 Tryz.underlying9
 have hrd2 : (convert 66 9 (.slice (some ⟨w1.heap.size, 0, none⟩) 1 1)).run Tryz.prog (w1.alloc (.cells #[.int .u8 (x.toNat : Int)] 5)) = .ok (.string ⟨#[x]⟩) (w1.alloc (.cells #[.int .u8 (x.toNat : Int)] 5)) := hrd
 clear hrd
 go_wp2
 clear hrd2 hxI
 have hc4 : (((w1.alloc (.cells #[.int .u8 (x.toNat : Int)] 5)).alloc (.cells #[.string ⟨#[x]⟩] 9)).alloc (.cells #[.string ⟨#[97, 49]⟩, .string ⟨#[98, 49]⟩, .string ⟨#[99, 49]⟩, .string ⟨#[100, 49]⟩, .string ⟨#[101, 49]⟩, .string ⟨#[102, 49]⟩] 9)).cell? ⟨w1.heap.size + 1, 0, none⟩ = some (.string ⟨#[x]⟩) := by
  have h1 : ((w1.alloc (.cells #[.int .u8 (x.toNat : Int)] 5)).alloc (.cells #[.string ⟨#[x]⟩] 9)).cell? ⟨w1.heap.size + 1, 0, none⟩ = some (.string ⟨#[x]⟩) := by rw [World.cell?_alloc_at _ _ _ _ (by simp)]; rfl
  exact ((below_alloc (Below.refl _ _) _).cell (p := ⟨w1.heap.size + 1, 0, none⟩) (by simp)).trans h1
 have hs4 : ∀ j (hj : j < gb12.length), (((w1.alloc (.cells #[.int .u8 (x.toNat : Int)] 5)).alloc (.cells #[.string ⟨#[x]⟩] 9)).alloc (.cells #[.string ⟨#[97, 49]⟩, .string ⟨#[98, 49]⟩, .string ⟨#[99, 49]⟩, .string ⟨#[100, 49]⟩, .string ⟨#[101, 49]⟩, .string ⟨#[102, 49]⟩] 9)).cell? ⟨w1.heap.size + 1 + 1, j, none⟩ = some (.string (tx12 gb12[j])) := fun j hj => by
  have h := texts_at12 ((w1.alloc (.cells #[.int .u8 (x.toNat : Int)] 5)).alloc (.cells #[.string ⟨#[x]⟩] 9)) (gb12.map tx12) 9 j (by rw [List.length_map]; exact hj)
  rw [List.getElem_map] at h
  simp only [World.size_alloc] at h
  exact h
 have HB4 : Hid (Below w.heap.size w (((w1.alloc (.cells #[.int .u8 (x.toNat : Int)] 5)).alloc (.cells #[.string ⟨#[x]⟩] 9)).alloc (.cells #[.string ⟨#[97, 49]⟩, .string ⟨#[98, 49]⟩, .string ⟨#[99, 49]⟩, .string ⟨#[100, 49]⟩, .string ⟨#[101, 49]⟩, .string ⟨#[102, 49]⟩] 9))) := below_next HB1.out (below_alloc (below_alloc (below_alloc (Below.refl _ _) _) _) _)
 have hlc : w1.heap.size + 1 < (((w1.alloc (.cells #[.int .u8 (x.toNat : Int)] 5)).alloc (.cells #[.string ⟨#[x]⟩] 9)).alloc (.cells #[.string ⟨#[97, 49]⟩, .string ⟨#[98, 49]⟩, .string ⟨#[99, 49]⟩, .string ⟨#[100, 49]⟩, .string ⟨#[101, 49]⟩, .string ⟨#[102, 49]⟩] 9)).heap.size := by simp
 have hls : w1.heap.size + 1 + 1 < (((w1.alloc (.cells #[.int .u8 (x.toNat : Int)] 5)).alloc (.cells #[.string ⟨#[x]⟩] 9)).alloc (.cells #[.string ⟨#[97, 49]⟩, .string ⟨#[98, 49]⟩, .string ⟨#[99, 49]⟩, .string ⟨#[100, 49]⟩, .string ⟨#[101, 49]⟩, .string ⟨#[102, 49]⟩] 9)).heap.size := by simp
 generalize ((w1.alloc (.cells #[.int .u8 (x.toNat : Int)] 5)).alloc (.cells #[.string ⟨#[x]⟩] 9)).alloc (.cells #[.string ⟨#[97, 49]⟩, .string ⟨#[98, 49]⟩, .string ⟨#[99, 49]⟩, .string ⟨#[100, 49]⟩, .string ⟨#[101, 49]⟩, .string ⟨#[102, 49]⟩] 9) = w4 at *
 generalize w1.heap.size + 1 + 1 = SB at *
 generalize w1.heap.size + 1 = C at *
 have HC4 := Lib.hid hc4
 have HS4 := Lib.hid hs4
 have HLC := Lib.hid hlc
 have HLS := Lib.hid hls
 clear hc4 hs4 hlc hls HB1
 go_loopg [5, 7, 23] 6 (fun gg s5 _ s23 wr => ∃ k : Nat, k ≤ 6 ∧ 6 - k ≤ gg ∧ s23 = .int .i64 k ∧ Hid (Below w4.heap.size w4 wr) ∧ Hid (wr.ownsRow w4.heap.size 9 1 s5 k (textCells ((gM12 x).take k))))
 case atStart => exact ⟨0, Nat.zero_le _, by omega, rfl, Below.refl _ _, World.ownsRow_nil _ _ _ _⟩
 case round =>
  obtain ⟨k, hk, hg, rfl, HB, HO⟩ := hrel
  by_cases hlt : k < 6
  ·
   have hltz : (k : Int) < 6 := by omega
   have hkl : k < gb12.length := hlt
   have c0 : wr.cell? ⟨SB, k, none⟩ = some (.string (tx12 gb12[k])) := (HB.out.cell (p := ⟨SB, k, none⟩) HLS.out).trans (HS4.out k hkl)
   have hcl : wr.cell? ⟨C, 0, none⟩ = some (.string ⟨#[x]⟩) := (HB.out.cell (p := ⟨C, 0, none⟩) HLC.out).trans HC4.out
   have hl12 : gb12[k].length ≤ 12 := by
    have : ∀ l ∈ gb12, l.length ≤ 12 := by decide
    exact this _ (List.getElem_mem hkl)
   have HLN : Hid (Calls Tryz.prog 40 #[.string (tx12 gb12[k]), .int .i64 12, .pointer (some ⟨C, 0, none⟩)] wr fun e w' => e = .returned (.string (tx12 (longT gb12[k] x))) ∧ wr = w') := (long12_calls C gb12[k] x wr hcl hl12).mono fun _ _ h => ⟨h.1, h.2.symm⟩
   have HTK : Hid ((gM12 x).take (k + 1) = (gM12 x).take k ++ [tx12 (longT gb12[k] x)]) := map_take12 (fun l => tx12 (longT l x)) gb12 k hkl
   have HSZ : Hid (w4.heap.size ≤ wr.heap.size) := HB.out.size
   clear hcl hl12
   generalize tx12 gb12[k] = s at *
   generalize tx12 (longT gb12[k] x) = so at *
   go_wp2_with (first
    | (go_at_call 40; (with_reducible refine HLN.out.mono ?_); rintro e w5 ⟨rfl, rfl⟩)
    | (at_builtin; refine wpList_append_own _ rfl _ _ 28 rfl w4.heap.size 9 i0 (.string ⟨#[]⟩) 1 16 Tryz.underlying28 hi hz0 hz1 hz2 rfl (by decide) _ _ _ rfl (HO.out.alloc _) ⟨wr.heap.size, 0, none⟩ 1 1 [.string so] rfl rfl (fun j u hu => by rw [Addr.add_lit, Nat.zero_add, World.cell?_alloc_at _ _ _ _ (by simp)]; simpa using hu) (by simp [Value.oneCell']) (by unfold maxLen; omega) (by omega) (by have := HSZ.out; simp; omega) ?_; intro v2 w6 hown' hgrow _; have HOw2 := Lib.hid hown'; have HGw2 := Lib.hid hgrow; clear hown' hgrow)
    | fail)
   have HB2 := Lib.hid (app10 HB.out HO.out HGw2.out)
   go_roundg (6 - (k + 1))
   case measure => omega
   case rel => exact ⟨k + 1, by omega, by omega, by go_num, HB2.out, (show Hid _ from by rw [HTK.out]; unfold textCells; rw [List.map_append]; exact HOw2.out)⟩
  ·
   have hltz : ¬ (k : Int) < 6 := by omega
   obtain rfl : k = 6 := by omega
   have ho := HO.out
   rw [List.take_of_length_le (by unfold gM12; rw [List.length_map]; decide)] at ho
   obtain ⟨A2, c2, rfl⟩ := owns_shape (ownsRow_low10 ho (Nat.zero_le _))
   have HG := Lib.hid ho
   clear ho HO
   go_wp2
   have hs5 : ∀ j (hj : j < ub12.length), (wr.alloc (.cells #[.string ⟨#[97]⟩, .string ⟨#[98]⟩, .string ⟨#[99]⟩, .string ⟨#[100]⟩, .string ⟨#[101]⟩, .string ⟨#[102]⟩, .string ⟨#[103]⟩, .string ⟨#[104]⟩, .string ⟨#[105]⟩, .string ⟨#[106]⟩, .string ⟨#[107]⟩, .string ⟨#[108]⟩] 9)).cell? ⟨wr.heap.size, j, none⟩ = some (.string (tx12 ub12[j])) := fun j hj => by
    have h := texts_at12 wr (ub12.map tx12) 9 j (by rw [List.length_map]; exact hj)
    rw [List.getElem_map] at h
    exact h
   have hb5 := below_alloc (Below.refl wr.heap.size wr) (.cells #[.string ⟨#[97]⟩, .string ⟨#[98]⟩, .string ⟨#[99]⟩, .string ⟨#[100]⟩, .string ⟨#[101]⟩, .string ⟨#[102]⟩, .string ⟨#[103]⟩, .string ⟨#[104]⟩, .string ⟨#[105]⟩, .string ⟨#[106]⟩, .string ⟨#[107]⟩, .string ⟨#[108]⟩] 9)
   have HB5 := Lib.hid (below_next (below_next HB4.out HB.out) hb5)
   have HC5 := Lib.hid (((below_next HB.out hb5).cell (p := ⟨C, 0, none⟩) HLC.out).trans HC4.out)
   have HG5 := Lib.hid (ownsRow_below11 HG.out hb5)
   have hlc5 := Nat.lt_of_lt_of_le HLC.out (below_next HB.out hb5).size
   have hls5 : wr.heap.size < (wr.alloc (.cells #[.string ⟨#[97]⟩, .string ⟨#[98]⟩, .string ⟨#[99]⟩, .string ⟨#[100]⟩, .string ⟨#[101]⟩, .string ⟨#[102]⟩, .string ⟨#[103]⟩, .string ⟨#[104]⟩, .string ⟨#[105]⟩, .string ⟨#[106]⟩, .string ⟨#[107]⟩, .string ⟨#[108]⟩] 9)).heap.size := by simp
   generalize wr.alloc (.cells #[.string ⟨#[97]⟩, .string ⟨#[98]⟩, .string ⟨#[99]⟩, .string ⟨#[100]⟩, .string ⟨#[101]⟩, .string ⟨#[102]⟩, .string ⟨#[103]⟩, .string ⟨#[104]⟩, .string ⟨#[105]⟩, .string ⟨#[106]⟩, .string ⟨#[107]⟩, .string ⟨#[108]⟩] 9) = w5 at *
   generalize wr.heap.size = UB at *
   have HS5 := Lib.hid hs5
   have HLC5 := Lib.hid hlc5
   have HLS5 := Lib.hid hls5
   clear hs5 hlc5 hls5 hb5 HB HG HB4 HC4 HS4 HLC HLS
   go_loopg [8, 10, 36] 12 (fun gg s8 _ s36 wr => ∃ k : Nat, k ≤ 12 ∧ 12 - k ≤ gg ∧ s36 = .int .i64 k ∧ Hid (Below w5.heap.size w5 wr) ∧ Hid (wr.ownsRow w5.heap.size 37 5 s8 k (ucells11 ((uM12 x A2 c2).take k))))
   case atStart => exact ⟨0, Nat.zero_le _, by omega, rfl, Below.refl _ _, World.ownsRow_nil _ _ _ _⟩
   case round =>
    obtain ⟨k, hk, hg, rfl, HB, HO⟩ := hrel
    by_cases hlt : k < 12
    ·
     have hltz : (k : Int) < 12 := by omega
     have hkl : k < ub12.length := hlt
     have c0 : wr.cell? ⟨UB, k, none⟩ = some (.string (tx12 ub12[k])) := (HB.out.cell (p := ⟨UB, k, none⟩) HLS5.out).trans (HS5.out k hkl)
     have hcl : wr.cell? ⟨C, 0, none⟩ = some (.string ⟨#[x]⟩) := (HB.out.cell (p := ⟨C, 0, none⟩) HLC5.out).trans HC5.out
     have hl12 : ub12[k].length ≤ 12 := by
      have : ∀ l ∈ ub12, l.length ≤ 12 := by decide
      exact this _ (List.getElem_mem hkl)
     have hlo : (longT ub12[k] x).length = 12 := by unfold longT; rw [List.length_append, List.length_replicate]; omega
     have HTK : Hid ((uM12 x A2 c2).take (k + 1) = (uM12 x A2 c2).take k ++ [u12 x A2 c2 ub12[k]]) := map_take12 (u12 x A2 c2) ub12 k hkl
     have HSZ : Hid (w5.heap.size ≤ wr.heap.size) := HB.out.size
     have HU : Hid ((u12 x A2 c2 ub12[k]).cells.toList = [.string (tx12 (longT ub12[k] x)), .string ⟨#[48, 49, 50, 51, 52, 53, 54, 55, 56, 57, 97, 98]⟩, .string (tx12 (longT ub12[k] x ++ at12 ++ [x])), .bool true, .slice A2 6 c2]) := rfl
     have HLN : Hid (∀ W, Below w5.heap.size w5 W → Calls Tryz.prog 40 #[.string (tx12 ub12[k]), .int .i64 12, .pointer (some ⟨C, 0, none⟩)] W fun e w' => e = .returned (.string (tx12 (longT ub12[k] x))) ∧ W = w') := fun W hb => (long12_calls C ub12[k] x W ((hb.cell (p := ⟨C, 0, none⟩) HLC5.out).trans HC5.out) hl12).mono fun _ _ h => ⟨h.1, h.2.symm⟩
     have HA1 : Hid (∀ W, (Op.stringOp .add (tx12 (longT ub12[k] x)) ⟨#[64, 98, 99, 100, 46, 101, 102]⟩).run Tryz.prog W = .ok (.string (tx12 (longT ub12[k] x ++ at12))) W) := fun W => add_str (P := Tryz.prog) W (longT ub12[k] x) at12 (by rw [hlo]; decide)
     have HA2 : Hid (∀ W, (Op.stringOp .add (tx12 (longT ub12[k] x ++ at12)) ⟨#[x]⟩).run Tryz.prog W = .ok (.string (tx12 (longT ub12[k] x ++ at12 ++ [x]))) W) := fun W => add_str (P := Tryz.prog) W (longT ub12[k] x ++ at12) [x] (by rw [List.length_append, hlo]; show 12 + 7 + 1 ≤ _; decide)
     clear hcl hl12 hlo
     generalize hq : u12 x A2 c2 ub12[k] = q at *
     clear hq
     generalize tx12 (longT ub12[k] x ++ at12 ++ [x]) = t3 at *
     generalize tx12 (longT ub12[k] x ++ at12) = t2 at *
     generalize tx12 (longT ub12[k] x) = t1 at *
     generalize tx12 ub12[k] = t0 at *
     have HBD : Hid (Below w5.heap.size w5 wr.drew) := below_drew HB.out
     have HOD := Lib.hid (ownsRow_below11 HO.out (below_drew (Below.refl wr.heap.size wr)))
     generalize hwd : wr.drew = w6 at *
     have HAL : Hid (Below w6.heap.size w6 (w6.alloc (.cells #[.string t1, .string ⟨#[48, 49, 50, 51, 52, 53, 54, 55, 56, 57, 97, 98]⟩, .string t3, .bool true, .slice A2 6 c2] 37))) := below_alloc (Below.refl _ _) _
     have HBA := Lib.hid (below_next HBD.out HAL.out)
     obtain ⟨xs, hxs⟩ : ∃ xs, xs = ucells11 ((uM12 x A2 c2).take k) ++ [.string t1, .string ⟨#[48, 49, 50, 51, 52, 53, 54, 55, 56, 57, 97, 98]⟩, .string t3, .bool true, .slice A2 6 c2] := ⟨_, rfl⟩
     have HXS : Hid (ucells11 ((uM12 x A2 c2).take k) ++ [.string t1, .string ⟨#[48, 49, 50, 51, 52, 53, 54, 55, 56, 57, 97, 98]⟩, .string t3, .bool true, .slice A2 6 c2] = xs) := hxs.symm
     have HRUN : Hid (∃ v' w', (Builtin.append_ #[27, 27] 27 #[u8, .slice (some ⟨w6.heap.size, 0, none⟩) 1 1]).run Tryz.prog (w6.alloc (.cells #[.string t1, .string ⟨#[48, 49, 50, 51, 52, 53, 54, 55, 56, 57, 97, 98]⟩, .string t3, .bool true, .slice A2 6 c2] 37)) = .ok v' w' ∧ w'.ownsRow w5.heap.size 37 5 v' (k + 1) xs ∧ (w6.alloc (.cells #[.string t1, .string ⟨#[48, 49, 50, 51, 52, 53, 54, 55, 56, 57, 97, 98]⟩, .string t3, .bool true, .slice A2 6 c2] 37)).grownBy w' u8.ownBlock) := by
      have hsz := HBD.out.size
      obtain ⟨v', w', hr, h2, h3, _⟩ := run_append_own (P := Tryz.prog) (w6.alloc (.cells #[.string t1, .string ⟨#[48, 49, 50, 51, 52, 53, 54, 55, 56, 57, 97, 98]⟩, .string t3, .bool true, .slice A2 6 c2] 37)) w5.heap.size 27 27 37 i1 (.agg #[.string ⟨#[]⟩, .string ⟨#[]⟩, .string ⟨#[]⟩, .bool false, .slice none 0 0]) 5 80 Tryz.underlying27 hi1 hy0 hy1 hy2 rfl (by decide) u8 k _ (HOD.out.alloc _) ⟨w6.heap.size, 0, none⟩ 1 1 [.string t1, .string ⟨#[48, 49, 50, 51, 52, 53, 54, 55, 56, 57, 97, 98]⟩, .string t3, .bool true, .slice A2 6 c2] rfl (fun j u hu => by rw [Addr.add_lit, Nat.zero_add, World.cell?_alloc_at _ _ _ _ (by simp)]; simpa using hu) (by simp [Value.oneCell']) (by unfold maxLen; omega) (by omega) (by simp; omega)
      exact ⟨v', w', hr, by rw [hxs]; exact h2, h3⟩
     clear hxs HB HO HSZ
     go_wp2_with fail
     refine wp_region_own12 (by kernel_rfl) (YMo12 C w6.heap.size w5.heap.size u8 t0 t1 t2 t3 ⟨#[x]⟩ A2 c2 (k + 1) xs) (Gf12 w5 w6 (w6.alloc (.cells #[.string t1, .string ⟨#[48, 49, 50, 51, 52, 53, 54, 55, 56, 57, 97, 98]⟩, .string t3, .bool true, .slice A2 6 c2] 37))) 14 u8 ?F ?hF (by kernel_rfl) (by kernel_rfl) ⟨fun _ => hwd, (fun h => by cases h), (fun h => by cases h)⟩ rfl (by kernel_rfl) ?step ?fin
     case hF =>
      intro x'
      simp only [List.map_cons, List.map_nil, putL, Act.put, List.setIfInBounds_toArray, List.set_cons_zero, List.set_cons_succ, Nat.zero_add, Nat.reduceAdd]
      exact rfl
     case step =>
      refine ⟨?_, ?_, ?_, ?_, ?_, ?_, ?_, ?_, ?_, ?_, ?_, ?_, ?_, ?_, ?_,  trivial⟩
      all_goals intro L x' W hL hd hG hown hdep K hK
      ·
       have e14 : x' 14 = u8 := hown (by omega)
       clear hdep hown
       simp only [e14] at hK
       go_simp
       exact hK _ _ rfl (hG.quiet 0 (by omega)) (fun _ _ h => h)
      ·
       clear hdep hown
       go_simp
       exact hK _ _ rfl (hG.quiet 1 (by omega)) (fun _ _ h => h)
      ·
       clear hdep hown
       go_simp
       exact hK _ _ rfl (hG.quiet 2 (by omega)) (fun _ _ h => h)
      ·
       have h1 : x' 1 = _ := hdep 1 rfl
       have h2 : x' 2 = _ := hdep 2 rfl
       clear hdep hown
       simp only [h1, h2] at hK
       go_simp
       refine (HLN.out W (hG.below HBD.out HBA.out)).mono ?_
       rintro e W' ⟨rfl, rfl⟩
       exact hK _ _ rfl (hG.quiet 3 (by omega)) (fun _ _ h => h)
      ·
       clear hdep hown
       go_simp
       exact hK _ _ rfl (hG.quiet 4 (by omega)) (fun _ _ h => h)
      ·
       clear hdep hown
       go_simp
       exact hK _ _ rfl (hG.quiet 5 (by omega)) (fun _ _ h => h)
      ·
       have h4 : x' 4 = _ := hdep 4 rfl
       have h5 : x' 5 = _ := hdep 5 rfl
       clear hdep hown
       simp only [h4, h5] at hK
       go_simp
       refine (HLN.out W (hG.below HBD.out HBA.out)).mono ?_
       rintro e W' ⟨rfl, rfl⟩
       exact hK _ _ rfl (hG.quiet 6 (by omega)) (fun _ _ h => h)
      ·
       have h6 : x' 6 = _ := hdep 6 rfl
       have ha := HA1.out W
       clear hdep hown
       simp only [h6] at hK
       go_simp
       exact hK _ _ rfl (hG.quiet 7 (by omega)) (fun _ _ h => h)
      ·
       have hcl : W.cell? ⟨C, 0, none⟩ = some (.string ⟨#[x]⟩) := ((hG.below HBD.out HBA.out).cell (p := ⟨C, 0, none⟩) HLC5.out).trans HC5.out
       clear hdep hown
       go_simp
       exact hK _ _ rfl (hG.quiet 8 (by omega)) (fun _ _ h => h)
      ·
       have h7 : x' 7 = _ := hdep 7 rfl
       have h8 : x' 8 = _ := hdep 8 rfl
       have ha := HA2.out W
       clear hdep hown
       simp only [h7, h8] at hK
       go_simp
       exact hK _ _ rfl (hG.quiet 9 (by omega)) (fun _ _ h => h)
      ·
       clear hdep hown
       go_simp
       exact hK _ _ rfl (hG.quiet 10 (by omega)) (fun _ _ h => h)
      ·
       have h3 : x' 3 = _ := hdep 3 rfl
       have h9 : x' 9 = _ := hdep 9 rfl
       have h10 : x' 10 = _ := hdep 10 rfl
       clear hdep hown
       simp only [h3, h9, h10] at hK
       go_simp
       exact hK _ _ rfl (hG.quiet 11 (by omega)) (fun _ _ h => h)
      ·
       have h11 : x' 11 = _ := hdep 11 rfl
       obtain rfl := hG.ahead hL
       clear hdep hown
       simp only [h11] at hK
       go_simp
       exact hK _ _ rfl (hG.built hL) (fun j hj h => YMo12_keep HAL.out j _ h)
      ·
       have h0 : x' 0 = _ := hdep 0 rfl
       have h12 : x' 12 = _ := hdep 12 rfl
       have hl12 : L 12 = true := hd 12 rfl
       obtain rfl := hG.mid hL hl12
       have hG2 := hG
       obtain ⟨v2, w7, hr, hw7, hgrow⟩ := HRUN.out
       have HB7 := grown_users12 HBD.out HOD.out hgrow
       refine step_append12 (by rfl) (.tmp 40) (.tmp 52) 27 rfl _ _ h0 h12 v2 w7 hr ?_
       exact hK _ _ hw7 (hG2.grown hL hl12 HB7) (fun j hj h => YMo12_grow j (x' j) (fun e => by subst e; rw [hL] at hj; cases hj) (fun e => by subst e; have := hG2.2.2 hj; rw [hL] at this; cases this) h)
      ·
       have h13 : W.ownsRow w5.heap.size 37 5 (x' 13) (k + 1) xs := hdep 13 rfl
       have hl13 : L 13 = true := hd 13 rfl
       clear hdep hown
       go_simp
       exact hK _ _ h13 (hG.end_ hl13) (fun _ _ h => h)
     case fin =>
      intro L x' W8 hall hG hY
      have h14 : W8.ownsRow w5.heap.size 37 5 (x' 14) (k + 1) xs := hY 14 (by decide)
      have HB8 : Hid (Below w5.heap.size w5 W8) := (hG.2.1 (hall 13 (by decide))).2
      have HO8 := Lib.hid h14
      clear hY hG hall h14 HRUN HLN HA1 HA2 HBD HOD HBA HAL
      go_wp2
      go_roundg (12 - (k + 1))
      case measure => omega
      case rel => exact ⟨k + 1, by omega, by omega, by go_num, HB8.out, (show Hid _ from by rw [HTK.out, ucells11_snoc, HU.out, HXS.out]; exact HO8.out)⟩
    ·
     have hltz : ¬ (k : Int) < 12 := by omega
     obtain rfl : k = 12 := by omega
     have ho := HO.out
     rw [List.take_of_length_le (by unfold uM12; rw [List.length_map]; decide)] at ho
     obtain ⟨A, c, rfl⟩ := owns_shape (ownsRow_low10 ho (Nat.zero_le _))
     have hg5 := ownsRow_below11 HG5.out HB.out
     obtain ⟨f1, f2, f3, f4⟩ := owns_facts6 hg5 rfl
     have hgz : ∀ g ∈ gM12 x, g.size ≤ 12 := fun g h => (may12 HLT.out.1).sizes g h
     have hok : ∀ u ∈ uM12 x A2 c2, u.Ok wr := fun u hu => by
      obtain ⟨l, hl, rfl⟩ := List.mem_map.1 hu
      have hl12 : l.length ≤ 12 := by
       have : ∀ l ∈ ub12, l.length ≤ 12 := by decide
       exact this _ hl
      have hlo : (longT l x).length = 12 := by unfold longT; rw [List.length_append, List.length_replicate]; omega
      have s1 : ∀ m : List UInt8, (tx12 m).size = m.length := fun m => by show m.toArray.size = _; rw [List.size_toArray]
      refine ⟨f1, ?_, ?_, ?_, f2, f3, f4, fun g hg => Nat.le_trans (hgz g hg) (by decide)⟩
      ·
       show (tx12 (longT l x)).size ≤ _; rw [s1, hlo]; decide
      ·
       show (tx12 hs12).size ≤ _; rw [s1]; decide
      ·
       show (tx12 (longT l x ++ at12 ++ [x])).size ≤ _; rw [s1, List.length_append, List.length_append, hlo]; show 12 + 7 + 1 ≤ _; decide
     have HOF : Hid (Calls Tryz.prog 27 #[.slice A 12 c, .slice A2 6 c2] wr (Of11 (uM12 x none 0) (gM12 x) wr)) := nof12_calls A A2 c c2 12 6 (uM12 x none 0) (uM12 x A2 c2) (gM12 x) wr (uM_nrm12 x A2 c2) rfl (by decide) (owns_users11 ho rfl) hok rfl (by decide) f1 (fun g h => Nat.le_trans (hgz g h) (by decide)) (H5.out.later (below_next HB5.out HB.out))
     have HBE := Lib.hid (below_next HB5.out HB.out)
     clear ho hg5 f1 f2 f3 f4 hgz hok HB HO HG5 HC5 HS5 HLC5 HLS5
     go_wp2_with fail
     with_reducible refine HOF.out.mono ?_
     rintro e w7 h7
     clear HOF
     rcases h7 with ⟨hne, _⟩ | ⟨_, D, P, M, Gr, Aa, L, S, kk, rfl, hown, hst, hkk⟩
     ·
      exact absurd HLT.out.1 hne
     have HBY : Hid (Calls Tryz.prog 34 #[.pointer (some ⟨D, 0, none⟩)] w7 (Told6 w7 (folB (uM12 x none 0) (gM12 x)))) := by
      have := fbytes12_calls hown hst.1.1 (H5.out.later (below_next HBE.out hown.below))
      rwa [hst.1.2.1, hst.1.2.2, folT_of12] at this
     have HB7 := Lib.hid (below_next HBE.out hown.below)
     have HLL : Hid ((folB (uM12 x none 0) (gM12 x)).length = 1733) := HLT.out.2
     clear hown hst hkk HBE HLT H5
     generalize folB (uM12 x none 0) (gM12 x) = bs at *
     go_wp2_with fail
     with_reducible refine HBY.out.mono ?_
     rintro e w8 ⟨v8, rfl, ho8, _, hb8⟩
     rw [HLL.out] at ho8
     obtain ⟨A8, c8, rfl⟩ := owns_shape ho8
     have HB8 := Lib.hid (below_next HB7.out hb8)
     clear ho8 hb8 HBY HB7
     go_wp2_with fail
     with_reducible refine (fmost_calls w8).mono ?_
     rintro e w9 ⟨rfl, rfl⟩
     go_wp2
     go_ret
     exact ⟨rfl, HB8.out⟩
end Go.Proofs.YtmcomnocpibiiaaGreatDoor
namespace Go.Proofs.YtmcomnocpibiiaaGreatDoor.folioMost
open Go.ChangeShapes Go.WideShapes Go.ChangeAt Go.RowKit
set_option linter.unusedVariables false

theorem own : ownKnob Tryz.prog.godebug = none := by kernel_rfl
theorem laidOut : laidOutB Tryz.prog = true := by kernel_rfl

theorem walk (w : World) (hm : Len5 w) (x0 : Int) (w0 : (Lit.int .u8 x0).wf = true) :
  Calls Tryz.prog 10 #[.int .u8 x0] w fun e w' => e = .returned (.bool true) ∧ Below w.heap.size w w' := by
 have b0 := bounds_u8 w0
 obtain ⟨k, rfl⟩ := Int.eq_ofNat_of_zero_le b0.1
 exact fmost12_walk k (by omega) w hm

set_option maxRecDepth 100000 in
theorem lifted (os : Os) (started : os.Started) (H : Type) (enc : TypeId × Value → H) :
  ReturnsInHanded {} Tryz.checked os 10 .any (fun w args => (Rows.folioMostSpec.pre enc Tryz.prog Tryz.f10 Rows.folioMostRow.domain false w args ∧ laidMetH Tryz.prog Rows.folioMostRow.laid w) ∧ sizedMet enc Tryz.prog Tryz.f10 (OpenSpec.ofChange Rows.folioMostSpec) false w args)
   (Rows.folioMostSpec.post enc Tryz.prog Tryz.f10 false true false false) := by
 refine returns_laid (C := Tryz.checked) (X := fun w _ => laidMetH Tryz.prog Rows.folioMostRow.laid w) own started (by kernel_rfl) Tryz.func10
  (ChangeSpec.witness_shaped (enc := enc) (C := Tryz.checked) (os := os) (X := fun w _ => laidMetH Tryz.prog Rows.folioMostRow.laid w) false (World.laidAll Tryz.prog os Rows.folioMostRow.laid) #[.int .u8 0] 8 (World.laidAll_os _ _ _)
   (World.shaped_of_ZipB (by kernel_rfl) (by kernel_rfl)) (by kernel_rfl) (by kernel_rfl) (by kernel_rfl)
   (by rw [MakeChecks.laidMetH_plain _ _ _ (by kernel_rfl)]; exact laidMet_laidAll _ (by kernel_rfl) (by kernel_rfl))) ?_
 intro W base args ds gs before hval0 hW hsh
 have hval : ∀ (j : Nat) t v, Tryz.f10.params[j]? = some t → args[j]? = some v → Value.okWide Tryz.prog W .any base t v := hval0
 have hW' := hW
 obtain ⟨p, q, hA0, hV, rfl, hfz, hnd⟩ := hW
 have hA : DataW.TrodAll enc Tryz.prog W 0 (fun _ => true) true Tryz.f10.params.toList args.toList ds p := hA0
 rw [Tryz.params10] at hA hval
 obtain ⟨v0, vs0, d0, ds0, p0, q0, hargs, rfl, rfl, h0, r0⟩ := trodAll_cons hA
 obtain ⟨rfl, rfl, rfl⟩ := trodAll_nil r0
 obtain rfl : args = #[v0] := by cases args; simp_all
 obtain ⟨rfl, rfl⟩ := trodVars_none hV
 obtain ⟨x0, rfl, rfl, rfl, w0⟩ := open_int Tryz.underlying5 (hval 0 5 v0 rfl rfl) h0
 clear hA0 hval0
 refine (walk W (len5_of hsh) x0 w0).mono fun e W' ⟨he, bel⟩ => ?_
 subst he
 exact ⟨_, rfl, _, _, _, [], _, [], hW', trodAll_mk1 (shut_bool Tryz.underlying4 _), (trodAll_cons_mk (shut_int Tryz.underlying5 w0) trodAll_mk0), rfl, bel.frame _, fun h => by cases h⟩

theorem row_holds : Rows.FolioMostSaid :=
 OpenClaim.holds_of_wide 10 Tryz.f10 rfl rfl rfl rfl rfl rfl rfl ⟨rfl, rfl, rfl, rfl, rfl⟩ rfl rfl rfl rfl rfl (by kernel_rfl) Tryz.func10 (by kernel_rfl)
  (of_decide_eq_true (by kernel_rfl)) (by unfold Func.isWrapper; first | (rw [if_pos (by decide +kernel)]; kernel_rfl) | (rw [if_neg (by decide +kernel)]; exact ⟨rfl, rfl⟩))
  (fun os started H enc _ => lifted os started H enc)

theorem proved : Rows.FolioMostCardSaid :=
 Claim7.holds_tied_plain_at .later [] Rows.folioMostCard.laidKinds true Rows.folioMostCard.stood.harness Rows.folioMostCard.stood.looks row_holds (fun _ h => by cases h) (by kernel_rfl) (fun _ h => by cases h) folioMost_row_tie rfl ⟨rfl, rfl⟩ (by kernel_rfl) rfl
  (fun f fn hf hfn => by
   obtain rfl : f = 10 := Option.some.inj ((show Tryz.prog.funcNamed Rows.folioMostRow.func = some 10 by kernel_rfl).symm.trans hf) |>.symm
   obtain rfl : fn = Tryz.f10 := (Option.some.inj (Tryz.func10.symm.trans hfn)).symm
   exact ⟨by kernel_rfl, fun j t ht => by
    rw [Tryz.params10] at ht
    have hm : t ∈ [5] := by simpa using Array.mem_of_getElem? ht
    have hall : ([5].all fun u => !Tryz.prog.wantsStandIn u) = true := by kernel_rfl
    exact (show Tryz.prog.wantsStandIn t = false by simpa using List.all_eq_true.1 hall t hm)⟩)
  (by kernel_rfl)
end Go.Proofs.YtmcomnocpibiiaaGreatDoor.folioMost
