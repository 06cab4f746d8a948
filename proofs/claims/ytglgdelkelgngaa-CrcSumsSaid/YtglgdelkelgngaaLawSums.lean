/-
  The law CrcSums tells true of any bytes, and turns nothing that was there.
  Conditions: none.
-/
import Derived.Test.YtglgdelkelgngaaLives2
import Derived.Test.YtglgdelkelgngaaRefSeal
import Derived.Test.YtglgdelkelgngaaInv
import Derived.Deep.DeepCutAuto
namespace Go.Proofs.Ytglgdelkelgngaa
open Go.RowKit

theorem sums_few (A : Option Addr) (c n : Nat) (w : World) (hm : n ≤ 9223372036854775807) (h : 300 < n) :
    Calls Try.prog 3 #[.slice A n c] w (Told2 true w) := by
  have hnot : ∀ (x : Bool) (w : World), (Op.unary .not (.bool x)).run Try.prog w = .ok (.bool (!x)) w := fun _ _ => rfl
  go_enter Try.func3, Try.ntmps3
  go_wp2_with fail
  with_reducible refine (lives2_calls w).mono ?_
  rintro e w1 ⟨rfl, ht1⟩
  have H1 := Lib.hid ht1
  clear ht1
  go_wp2_with fail
  with_reducible refine (lives2_calls w1).mono ?_
  rintro e w2 ⟨rfl, ht2⟩
  have H2 : Hid (Turns (fun _ => False) w w2) := H1.out.next ht2 (fun _ _ f => f)
  clear ht2
  go_wp2
  go_ret
  exact ⟨rfl, H2.out⟩

/-- What holds of the worlds of the last comparison. -/
structure SumsR (w : World) (B : Nat) (ov av : Value) (l : List UInt8) (W : World) : Prop where
  tbl : ∃ m, Tbl W B m
  own : Rd W ov l
  arg : Rd W av l
  apo : Apart B ov l
  apa : Apart B av l
  turns : Turns (fun _ => False) w W
  base : w.heap.size ≤ B
theorem SumsR.makes {w W W' : World} {B : Nat} {ov av : Value} {l : List UInt8} (h : SumsR w B ov av l W) (hm : Makes B W W') : SumsR w B ov av l W' :=
  ⟨⟨true, hm.1⟩, h.own.apart hm.2 h.apo (fun _ e => e), h.arg.apart hm.2 h.apa (fun _ e => e), h.apo, h.apa, h.turns.next hm.2 (fun i hi e => by have := h.base; omega), h.base⟩
theorem SumsR.still {w W W' : World} {B : Nat} {ov av : Value} {l : List UInt8} (h : SumsR w B ov av l W) (ht : Turns (fun _ => False) W W') : SumsR w B ov av l W' := by
  obtain ⟨m, hm⟩ := h.tbl
  exact ⟨⟨m, hm.turns ht (fun f => f)⟩, h.own.still ht, h.arg.still ht, h.apo, h.apa, h.turns.next ht (fun _ _ f => f), h.base⟩

/-- What each operation of the last comparison makes. -/
def YS (B : Nat) (ov av : Value) (l : List UInt8) : Nat → Value → World → Prop
  | 0, v, _ => v = ov
  | 1, v, _ => v = regV (crc l)
  | 2, v, _ => v = av
  | 3, v, _ => v = .string ⟨l.toArray⟩
  | 4, v, _ => v = regV (crc l)
  | 5, v, _ => v = .bool true
  | 6, v, _ => v = .bool true
  | 7, v, _ => v = ov
  | 8, v, W => Rd W v (sealB l) ∧ Apart B v (sealB l)
  | 9, v, _ => v = .string ⟨(sealB l).toArray⟩
  | 10, v, _ => v = av
  | 11, v, _ => v = .string ⟨l.toArray⟩
  | 12, v, _ => v = .string ⟨(sealB l).toArray⟩
  | 13, v, _ => v = .bool true
  | 14, v, _ => v = .bool true
  | 15, v, _ => v = .bool true
  | 16, v, _ => v = ov
  | 17, v, _ => v = .string ⟨l.toArray⟩
  | 18, v, _ => v = av
  | 19, v, _ => v = .string ⟨l.toArray⟩
  | _, v, _ => v = .bool true
theorem YS_keep {B : Nat} {ov av : Value} {l : List UInt8} {W W' : World} (ht : Turns (fun i => i = B) W W') (j : Nat) (u : Value) (h : YS B ov av l j u W) : YS B ov av l j u W' := by
  match j, h with
  | 0, h => exact h
  | 1, h => exact h
  | 2, h => exact h
  | 3, h => exact h
  | 4, h => exact h
  | 5, h => exact h
  | 6, h => exact h
  | 7, h => exact h
  | 8, h => exact ⟨h.1.apart ht h.2 (fun _ e => e), h.2⟩
  | 9, h => exact h
  | 10, h => exact h
  | 11, h => exact h
  | 12, h => exact h
  | 13, h => exact h
  | 14, h => exact h
  | 15, h => exact h
  | 16, h => exact h
  | 17, h => exact h
  | 18, h => exact h
  | 19, h => exact h
  | _ + 20, h => exact h

set_option maxRecDepth 100000 in
set_option maxHeartbeats 2000000 in
theorem sums_many (A : Option Addr) (c : Nat) (l : List UInt8) (w : World) (hr : Rd w (.slice A l.length c) l) (hn : l.length ≤ 300) :
    Calls Try.prog 3 #[.slice A l.length c] w (Told2 true w) := by
  have hnot : ∀ (x : Bool) (w : World), (Op.unary .not (.bool x)).run Try.prog w = .ok (.bool (!x)) w := fun _ _ => rfl
  obtain ⟨i0, hi, hz0, hz1, hz2⟩ := info_parts infoByte
  have HI := Lib.hid hi
  have HZ0 := Lib.hid hz0
  have HZ1 := Lib.hid hz1
  have HZ2 := Lib.hid hz2
  have HR := Lib.hid hr
  clear hr hi hz0 hz1 hz2
  go_enter Try.func3, Try.ntmps3
  go_wp2_with fail
  with_reducible refine (lives2_calls w).mono ?_
  rintro e w1 ⟨rfl, ht1⟩
  have H1 := Lib.hid ht1
  have HR1 := Lib.hid (HR.out.still ht1)
  clear ht1 HR
  have hmade : (w1.alloc (.cells #[] 5)).ownsRow 0 5 1 (.slice (some ⟨w1.heap.size, 0, none⟩) 0 0) 0 [] := World.ownsRow_made w1 #[] 0 (Nat.zero_le _) (Nat.zero_le _) rfl
  have HMD := Lib.hid hmade
  clear hmade
  have hzt := zeroTab_run
  go_wp2_with (at_builtin; refine wpList_append_src _ rfl (.tmp 13) (.tmp 14) 22 22 (by rfl) 5 i0 _ 1 1 Try.underlying22 HI.out HZ0.out HZ1.out HZ2.out rfl (.slice (some ⟨w1.heap.size, 0, none⟩) 0 0) 0 [] (by rfl) HMD.out (.slice A l.length c) l.length (cellsOf l) (by rfl) ((HR1.out.still ((Turns.refl _ _).alloc _)).src Try.underlying22) (by simp only [maxLen]; omega) (by omega) ?_; intro A2 c2 w2 ho2 hg2 ha2)
  have ta : Turns (fun _ => False) w (w2.alloc (.cells zeroTab 38)) := ((H1.out.alloc _).grown hg2 (fun k hk hlt => by
    have : w1.heap.size = k := by simpa [Value.ownBlock] using hk
    have := H1.out.size
    omega)).alloc _
  rw [Nat.zero_add, List.nil_append] at ho2
  have hst : SumsR w w2.heap.size (.slice A2 l.length c2) (.slice A l.length c) l (w2.alloc (.cells zeroTab 38)).drew := by
    have t2 : Turns (fun _ => False) w1 w2 := ((Turns.refl (fun _ => False) w1).alloc _).grown hg2 (fun k hk hlt => by
      have : w1.heap.size = k := by simpa [Value.ownBlock] using hk
      omega)
    have ta2 : Turns (fun _ => False) w2 (w2.alloc (.cells zeroTab 38)).drew := ((Turns.refl (fun _ => False) w2).alloc _).drew
    have hT : Tbl (w2.alloc (.cells zeroTab 38)).drew w2.heap.size false := (Tbl.new w2).turns (Turns.refl (fun _ => False) _).drew (fun f => f)
    have ho := Rd.of_own ho2
    exact ⟨⟨false, hT⟩, ho.still ta2, (HR1.out.still t2).still ta2, ho.old (Nat.le_refl _), (HR1.out.still t2).old (Nat.le_refl _), ta.drew, Nat.le_trans H1.out.size t2.size⟩
  clear ho2 hg2 ha2 H1 HR1 HMD hzt ta HI HZ0 HZ1 HZ2
  generalize w2.alloc (.cells zeroTab 38) = w3 at *
  generalize w2.heap.size = B at *
  have HST := Lib.hid hst
  clear hst
  have HRS : Hid (∀ (W : World) (v : Value) (l : List UInt8), Rd W v l → (convert 22 9 v).run Try.prog W = .ok (.string ⟨l.toArray⟩) W) :=
    fun W v l h => h.string Try.underlying22 Try.underlying5 Try.underlying9
  have HSUM : Hid (∀ W, SumsR w B (.slice A2 l.length c2) (.slice A l.length c) l W → Calls Try.prog 8 #[.pointer (some ⟨B, 0, none⟩), .slice A2 l.length c2] W (Tells (crc l) B W)) := fun W h => by
    obtain ⟨m, hT⟩ := h.tbl
    exact sum_calls B m _ l W hT h.own h.apo (by omega)
  have HSEAL : Hid (∀ W, SumsR w B (.slice A2 l.length c2) (.slice A l.length c) l W → Calls Try.prog 10 #[.pointer (some ⟨B, 0, none⟩), .slice A2 l.length c2] W (Seals B (sealB l) W)) := fun W h => by
    obtain ⟨m, hT⟩ := h.tbl
    exact seal_calls B m _ l W hT h.own h.apo (by omega)
  have hre : ∀ W : World, (binOp .eql 27 (regV (crc l)) (regV (crc l))).run Try.prog W = .ok (.bool true) W := by
    intro W
    unfold regV
    go_simp
  refine wp_region_inv (by kernel_rfl) (SumsR w B (.slice A2 l.length c2) (.slice A l.length c) l) (YS B (.slice A2 l.length c2) (.slice A l.length c) l) ?F ?hF (by kernel_rfl) (by kernel_rfl) HST.out ?step ?fin
  case hF =>
    intro x
    simp only [List.map_cons, List.map_nil, putL, Act.put, List.setIfInBounds_toArray, List.set_cons_zero, List.set_cons_succ, Nat.zero_add, Nat.reduceAdd]
    exact rfl
  case step =>
    refine ⟨?_, ?_, ?_, ?_, ?_, ?_, ?_, ?_, ?_, ?_, ?_, ?_, ?_, ?_, ?_, ?_, ?_, ?_, ?_, ?_, ?_, ?_, ?_, trivial⟩
    all_goals intro x W hW hdep K hK
    · clear hdep; go_simp; exact hK _ _ rfl hW (fun _ _ h => h)
    · have h0 : x 0 = _ := hdep 0 rfl
      clear hdep
      simp only [h0] at hK
      go_simp
      refine (HSUM.out W hW).mono ?_
      rintro e W' ⟨rfl, hm⟩
      exact hK _ _ rfl (hW.makes hm) (fun j u h => YS_keep hm.2 j u h)
    · clear hdep; go_simp; exact hK _ _ rfl hW (fun _ _ h => h)
    · have hd : x 2 = _ := hdep 2 rfl
      have hc := HRS.out W _ _ hW.arg
      clear hdep
      simp only [hd] at hK
      go_simp
      exact hK _ _ rfl hW (fun _ _ h => h)
    · have h3 : x 3 = _ := hdep 3 rfl
      clear hdep
      simp only [h3] at hK
      go_simp
      refine (refsum_at l W (by omega)).mono ?_
      rintro e W' ⟨rfl, ht⟩
      exact hK _ _ rfl (hW.still ht) (fun j u h => YS_keep (ht.mono (fun _ _ f => f.elim)) j u h)
    · have h1 : x 1 = _ := hdep 1 rfl
      have h4 : x 4 = _ := hdep 4 rfl
      clear hdep
      simp only [h1, h4] at hK
      go_simp
      exact hK _ _ rfl hW (fun _ _ h => h)
    · have h5 : x 5 = _ := hdep 5 rfl
      clear hdep
      simp only [h5] at hK
      go_simp
      exact hK _ _ rfl hW (fun _ _ h => h)
    · have h6 : x 6 = _ := hdep 6 rfl
      clear hdep
      simp only [h6] at hK
      go_simp
      exact hK _ _ rfl hW (fun _ _ h => h)
    · have h7 : x 7 = _ := hdep 7 rfl
      have h6 : x 6 = _ := hdep 6 rfl
      clear hdep
      simp only [h7, h6] at hK
      go_simp
      refine (HSEAL.out W hW).mono ?_
      rintro e W' ⟨v', rfl, ho, hb, hm⟩
      exact hK _ _ ⟨Rd.of_own ho, fun _ k hk e => by have := hb k hk; obtain ⟨m, hT⟩ := hW.tbl; have := hT.lt; omega⟩ (hW.makes hm) (fun j u h => YS_keep hm.2 j u h)
    · have h8 : Rd W (x 8) _ ∧ _ := hdep 8 rfl
      have hg : x 6 = _ := hdep 6 rfl
      have hc := HRS.out W _ _ h8.1
      clear hdep h8
      simp only [hg] at hK
      go_simp
      exact hK _ _ rfl hW (fun _ _ h => h)
    · have h6 : x 6 = _ := hdep 6 rfl
      clear hdep
      simp only [h6] at hK
      go_simp
      exact hK _ _ rfl hW (fun _ _ h => h)
    · have hd : x 10 = _ := hdep 10 rfl
      have hg : x 6 = _ := hdep 6 rfl
      have hc := HRS.out W _ _ hW.arg
      clear hdep
      simp only [hd, hg] at hK
      go_simp
      exact hK _ _ rfl hW (fun _ _ h => h)
    · have h11 : x 11 = _ := hdep 11 rfl
      have h6 : x 6 = _ := hdep 6 rfl
      clear hdep
      simp only [h11, h6] at hK
      go_simp
      refine (refseal_calls l W (by omega)).mono ?_
      rintro e W' ⟨rfl, ht⟩
      exact hK _ _ rfl (hW.still ht) (fun j u h => YS_keep (ht.mono (fun _ _ f => f.elim)) j u h)
    · have h9 : x 9 = _ := hdep 9 rfl
      have h12 : x 12 = _ := hdep 12 rfl
      have h6 : x 6 = _ := hdep 6 rfl
      clear hdep
      simp only [h9, h12, h6] at hK
      go_simp
      exact hK _ _ rfl hW (fun _ _ h => h)
    · have h6 : x 6 = _ := hdep 6 rfl
      have h13 : x 13 = _ := hdep 13 rfl
      clear hdep
      simp only [h6, h13] at hK
      go_simp
      exact hK _ _ rfl hW (fun _ _ h => h)
    · have h14 : x 14 = _ := hdep 14 rfl
      clear hdep
      simp only [h14] at hK
      go_simp
      exact hK _ _ rfl hW (fun _ _ h => h)
    · have h15 : x 15 = _ := hdep 15 rfl
      clear hdep
      simp only [h15] at hK
      go_simp
      exact hK _ _ rfl hW (fun _ _ h => h)
    · have hd : x 16 = _ := hdep 16 rfl
      have hg : x 15 = _ := hdep 15 rfl
      have hc := HRS.out W _ _ hW.own
      clear hdep
      simp only [hd, hg] at hK
      go_simp
      exact hK _ _ rfl hW (fun _ _ h => h)
    · have h15 : x 15 = _ := hdep 15 rfl
      clear hdep
      simp only [h15] at hK
      go_simp
      exact hK _ _ rfl hW (fun _ _ h => h)
    · have hd : x 18 = _ := hdep 18 rfl
      have hg : x 15 = _ := hdep 15 rfl
      have hc := HRS.out W _ _ hW.arg
      clear hdep
      simp only [hd, hg] at hK
      go_simp
      exact hK _ _ rfl hW (fun _ _ h => h)
    · have h17 : x 17 = _ := hdep 17 rfl
      have h19 : x 19 = _ := hdep 19 rfl
      have h15 : x 15 = _ := hdep 15 rfl
      clear hdep
      simp only [h17, h19, h15] at hK
      go_simp
      exact hK _ _ rfl hW (fun _ _ h => h)
    · have h15 : x 15 = _ := hdep 15 rfl
      have h20 : x 20 = _ := hdep 20 rfl
      clear hdep
      simp only [h15, h20] at hK
      go_simp
      exact hK _ _ rfl hW (fun _ _ h => h)
    · have h21 : x 21 = _ := hdep 21 rfl
      clear hdep
      simp only [h21] at hK
      go_simp
      exact hK _ _ rfl hW (fun _ _ h => h)
  case fin =>
    intro x W hW hY
    have h22 : x 22 = .bool true := hY 22 (by decide)
    clear hY
    have HF := Lib.hid hW.turns
    clear hW HST HRS HSUM HSEAL hre
    rw [h22]
    go_wp2
    go_ret
    exact ⟨rfl, HF.out⟩

theorem sums_walk (A : Option Addr) (c : Nat) (bl : List UInt8) (w : World) (hr : Rd w (.slice A bl.length c) bl) (hm : bl.length ≤ 9223372036854775807) :
    Calls Try.prog 3 #[.slice A bl.length c] w (Told2 true w) := by
  by_cases h : 300 < bl.length
  · exact sums_few A c _ w hm h
  · exact sums_many A c bl w hr (by omega)
end Go.Proofs.Ytglgdelkelgngaa
