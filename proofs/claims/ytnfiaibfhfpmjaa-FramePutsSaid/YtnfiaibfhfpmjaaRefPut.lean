/-
  What the document's Put tells: the frame of any kind and body.
  Conditions: the body is not too long.
-/
import Derived.Test.YtnfiaibfhfpmjaaRefFrame
import Derived.Test.YtnfiaibfhfpmjaaInv
namespace Go.Proofs.Ytnfiaibfhfpmjaa
open Go.RowKit

/-- What each operation makes. -/
def YPut (k : UInt8) (n : Nat) (b s4 h4 br fr : ByteArray) : Nat → Value → World → Prop
  | 0, v, _ => v = .int .u8 (k.toNat : Int)
  | 1, v, W => Rd W v [k]
  | 2, v, _ => v = .string ⟨#[k]⟩
  | 3, v, _ => v = .string ⟨#[1, k]⟩
  | 4, v, _ => v = .string b
  | 5, v, _ => v = .int .i64 (n : Int)
  | 6, v, _ => v = .int .u64 (n : Int)
  | 7, v, _ => v = .string s4
  | 8, v, _ => v = .string h4
  | 9, v, _ => v = .string b
  | 10, v, _ => v = .string br
  | 11, v, _ => v = .string fr
  | 12, v, _ => v = .string fr
  | _, v, _ => v = .int .i64 0
theorem YPut_keep {k : UInt8} {n : Nat} {b s4 h4 br fr : ByteArray} {W W' : World} (ht : Turns (fun _ => False) W W') (j : Nat) (u : Value) (h : YPut k n b s4 h4 br fr j u W) : YPut k n b s4 h4 br fr j u W' := by
  match j, h with
  | 0, h => exact h
  | 1, h => exact h.still ht
  | 2, h => exact h
  | 3, h => exact h
  | 4, h => exact h
  | 5, h => exact h
  | 6, h => exact h
  | 7, h => exact h
  | 8, h => exact h
  | 9, h => exact h
  | 10, h => exact h
  | 11, h => exact h
  | 12, h => exact h
  | _ + 13, h => exact h

set_option maxRecDepth 100000 in
set_option maxHeartbeats 1000000 in
theorem refput_calls (k : UInt8) (bd : List UInt8) (w : World) (hl : bd.length ≤ 65526) :
    Calls Try.prog 10 #[.int .u8 (k.toNat : Int), .string ⟨bd.toArray⟩] w fun e w' => e = .returned (.tuple #[.string ⟨(frameB k.toNat bd).toArray⟩, .int .i64 0]) ∧ Turns (fun _ => False) w w' := by
  have HRS : Hid (∀ (W : World) (v : Value) (l : List UInt8), Rd W v l → (convert 22 9 v).run Try.prog W = .ok (.string ⟨l.toArray⟩) W) :=
    fun W v l h => h.string Try.underlying22 Try.underlying5 Try.underlying9
  have hbr : [1, k] ++ le bd.length 4 ++ bd = bareB k.toNat bd := by
    have h1 : le 1 1 = [1] := by decide
    have h2 : le k.toNat 1 = [k] := by
      show [] ++ [UInt8.ofNat (k.toNat / 256 ^ 0)] = [k]
      simp
    unfold bareB
    rw [h1, h2]
    rfl
  have hbl := bareB_length k.toNat bd
  have hadd1 : ∀ W, (Op.stringOp .add ⟨#[1]⟩ ⟨#[k]⟩).run Try.prog W = .ok (.string ⟨#[1, k]⟩) W := fun W => add_str (P := Try.prog) W [1] [k] (by simp)
  have hadd2 : ∀ W, (Op.stringOp .add ⟨#[1, k]⟩ ⟨(le bd.length 4).toArray⟩).run Try.prog W = .ok (.string ⟨([1, k] ++ le bd.length 4).toArray⟩) W := fun W => add_str (P := Try.prog) W [1, k] (le bd.length 4) (by rw [le_length]; simp)
  have hadd3 : ∀ W, (Op.stringOp .add ⟨([1, k] ++ le bd.length 4).toArray⟩ ⟨bd.toArray⟩).run Try.prog W = .ok (.string ⟨([1, k] ++ le bd.length 4 ++ bd).toArray⟩) W := fun W => add_str (P := Try.prog) W ([1, k] ++ le bd.length 4) bd (by rw [List.length_append, le_length]; simp; omega)
  rw [hbr] at hadd3
  have hnum := fun W => num_calls bd.length 4 W (by omega) (by omega)
  have hseal := fun W => refseal_calls (bareB k.toNat bd) W (by omega)
  have hsz : (ByteArray.mk bd.toArray).size = bd.length := by simp [ByteArray.size]
  have hfr : sealB (bareB k.toNat bd) = frameB k.toNat bd := rfl
  rw [hfr] at hseal
  unfold Says at hnum hseal
  clear hbr hbl hfr
  generalize bd.length = n at *
  subst hsz
  generalize ByteArray.mk bd.toArray = b at *
  generalize ByteArray.mk (frameB k.toNat bd).toArray = fr at *
  generalize ByteArray.mk (bareB k.toNat bd).toArray = br at *
  generalize ByteArray.mk ([1, k] ++ le b.size 4).toArray = h4 at *
  generalize ByteArray.mk (le b.size 4).toArray = s4 at *
  have HNUM := Lib.hid hnum
  have HSEAL := Lib.hid hseal
  clear hnum hseal
  have hw : IntKind.u64.wrap (b.size : Int) = (b.size : Int) := by rw [IntKind.wrap_u64]; omega
  have hgt : ¬ (65536 : Int) < (b.size : Int) + 10 := by omega
  have hgd : decide ((65536 : Int) < (b.size : Int) + 10) = false := decide_eq_false hgt
  go_enter Try.func10, Try.ntmps10
  go_wp2_with fail
  refine wp_region_inv (by kernel_rfl) (fun W => Turns (fun _ => False) w W) (YPut k b.size b s4 h4 br fr) ?F ?hF (by kernel_rfl) (by kernel_rfl) ((Turns.refl _ _).drew) ?step ?fin
  case hF =>
    intro x
    simp only [List.map_cons, List.map_nil, putL, Act.put, List.setIfInBounds_toArray, List.set_cons_zero, List.set_cons_succ, Nat.zero_add, Nat.reduceAdd]
    exact rfl
  case step =>
    refine ⟨?_, ?_, ?_, ?_, ?_, ?_, ?_, ?_, ?_, ?_, ?_, ?_, ?_, ?_, trivial⟩
    all_goals intro x W hW hdep K hK
    · clear hdep
      go_simp
      exact hK _ _ rfl hW (fun _ _ h => h)
    · have h0 : x 0 = _ := hdep 0 rfl
      clear hdep
      simp only [h0] at hK
      go_simp
      exact hK _ _ (rd_one W k) (hW.alloc _) (fun j u h => YPut_keep ((Turns.refl _ _).alloc _) j u h)
    · have h1 : Rd W (x 1) [k] := hdep 1 rfl
      have hc := HRS.out W _ _ h1
      clear hdep
      go_simp
      exact hK _ _ rfl hW (fun _ _ h => h)
    · have h2 : x 2 = _ := hdep 2 rfl
      clear hdep
      simp only [h2] at hK
      go_simp
      exact hK _ _ rfl hW (fun _ _ h => h)
    · clear hdep
      go_simp
      exact hK _ _ rfl hW (fun _ _ h => h)
    · have h4 : x 4 = _ := hdep 4 rfl
      clear hdep
      simp only [h4] at hK
      go_simp
      exact hK _ _ rfl hW (fun _ _ h => h)
    · have h5 : x 5 = _ := hdep 5 rfl
      clear hdep
      simp only [h5] at hK
      go_simp
      exact hK _ _ rfl hW (fun _ _ h => h)
    · have h6 : x 6 = _ := hdep 6 rfl
      clear hdep
      simp only [h6] at hK
      go_simp
      refine (HNUM.out W).mono ?_
      rintro e W' ⟨rfl, ht⟩
      exact hK _ _ rfl (hW.next ht (fun _ _ f => f)) (fun j u h => YPut_keep ht j u h)
    · have h3 : x 3 = _ := hdep 3 rfl
      have h7 : x 7 = _ := hdep 7 rfl
      clear hdep
      simp only [h3, h7] at hK
      go_simp
      exact hK _ _ rfl hW (fun _ _ h => h)
    · clear hdep
      go_simp
      exact hK _ _ rfl hW (fun _ _ h => h)
    · have h8 : x 8 = _ := hdep 8 rfl
      have h9 : x 9 = _ := hdep 9 rfl
      clear hdep
      simp only [h8, h9] at hK
      go_simp
      exact hK _ _ rfl hW (fun _ _ h => h)
    · have h10 : x 10 = _ := hdep 10 rfl
      clear hdep
      simp only [h10] at hK
      go_simp
      refine (HSEAL.out W).mono ?_
      rintro e W' ⟨rfl, ht⟩
      exact hK _ _ rfl (hW.next ht (fun _ _ f => f)) (fun j u h => YPut_keep ht j u h)
    · have h11 : x 11 = _ := hdep 11 rfl
      clear hdep
      simp only [h11] at hK
      go_simp
      exact hK _ _ rfl hW (fun _ _ h => h)
    · clear hdep
      go_simp
      exact hK _ _ rfl hW (fun _ _ h => h)
  case fin =>
    intro x W hW hY
    have h12 : x 12 = .string fr := hY 12 (by decide)
    have h13 : x 13 = .int .i64 0 := hY 13 (by decide)
    clear hY
    have HF := Lib.hid hW
    clear hW HRS HNUM HSEAL
    rw [h12, h13]
    go_wp2
    go_ret2
    exact ⟨rfl, HF.out⟩
end Go.Proofs.Ytnfiaibfhfpmjaa
