/-
  One more and one less in the directory's map; askers of who is there.
  Conditions: each theorem's own.
-/
import Derived.Test.YtapagcljhjgcdaaGreatDoorElderDir
import Derived.Shelf.SlIter.Collect
namespace Go.Proofs.YtapagcljhjgcdaaGreatDoor
open Go.RowKit Go.Maps

set_option maxRecDepth 100000 in
theorem isFree71_calls (C E B : Nat) (p : Option Nat) (L : Row7) (s : ByteArray) (w : World) (h : Dir7 w B p L) (hs : s.size ≤ maxLen) (hC : w.cell? ⟨C, 0, none⟩ = some (.pointer (some ⟨B, 0, none⟩))) (hE : w.cell? ⟨E, 0, none⟩ = some (.string s)) :
    Calls Tryz.prog 46 #[.pointer (some ⟨C, 0, none⟩), .pointer (some ⟨E, 0, none⟩)] w (Tells5 (!hasE L s.data.toList) w) := by
  have hnot : ∀ (x : Bool) (w : World), (Op.unary .not (.bool x)).run Tryz.prog w = .ok (.bool (!x)) w := fun _ _ => rfl
  have HC := Lib.hid (has7_calls B p L s w h hs)
  generalize hasE L s.data.toList = r at *
  clear h
  go_enter Tryz.func46, Tryz.ntmps46
  go_wp2_with fail
  with_reducible refine HC.out.mono ?_
  rintro e w1 ⟨rfl, hb⟩
  have HB := Lib.hid hb
  clear hb HC hC hE
  cases r <;> go_wp2 <;> go_ret <;> exact ⟨rfl, HB.out⟩
set_option maxRecDepth 100000 in
theorem isFree7_calls (B : Nat) (p : Option Nat) (L : Row7) (s : ByteArray) (w : World) (h : Dir7 w B p L) (hs : s.size ≤ maxLen) :
    Calls Tryz.prog 26 #[.pointer (some ⟨B, 0, none⟩), .string s] w (Makes7 (err5 (!hasE L s.data.toList) 9) w) := by
  have hmf := mkf
  have bl := below_alloc (below_alloc (Below.refl w.heap.size w) (.cells #[.pointer (some ⟨B, 0, none⟩)] 28)) (.cells #[.string s] 9)
  have HU : Hid (Calls Tryz.prog 35 #[.func (.func 46) #[] #[.pointer (some ⟨w.heap.size, 0, none⟩), .pointer (some ⟨w.heap.size + 1, 0, none⟩)], .int .i64 9] _ (Makes7 (err5 (!hasE L s.data.toList) 9) ((w.alloc (.cells #[.pointer (some ⟨B, 0, none⟩)] 28)).alloc (.cells #[.string s] 9)))) :=
    unless7_calls _ _ _ _ _ ⟨_, _, rfl, enters_of Tryz.func46 (by kernel_rfl) rfl, fun W hb => isFree71_calls _ _ B p L s W (h.later (below_next bl hb)) hs ((hb.cell (p := ⟨_, 0, none⟩) (by simp; try omega)).trans (by simp)) ((hb.cell (p := ⟨_, 0, none⟩) (by simp; try omega)).trans (by simp))⟩
  generalize err5 (!hasE L s.data.toList) 9 = r at *
  have BL := Lib.hid bl
  clear h bl
  go_enter Tryz.func26, Tryz.ntmps26
  go_wp2_with fail
  with_reducible refine HU.out.mono ?_
  rintro e w1 ⟨g, lb, rfl, ha, hb⟩
  have HA := Lib.hid ha
  have HB := Lib.hid hb
  clear ha hb HU
  go_wp2
  go_ret
  exact ⟨g, lb, rfl, HA.out, below_next BL.out HB.out⟩
theorem dir7_stored {w : World} {B b n : Nat} {p : Option Nat} {L' : Row7} (hblk : w.heap[B]? = some (.cells #[.map p] 51 (0, 0))) (hp : p = some b) (hm : w.ownsMap Tryz.prog 9 (plainElem Tryz.prog 9) b n (datE L')) (hr : Rise7 L') (hf : L'.length ≤ 12) (ha : ∀ q ∈ L', q.1.length ≤ 12 ∧ q.2.length ≤ 12) : Dir7 w B p L' :=
  ⟨hblk, (fun h => by rw [hp] at h; cases h), fun b' hb' => by rw [hp] at hb'; cases hb'; exact Map7.of hm, hr, hf, ha⟩
theorem mem_put {L : Row7} {k v : List UInt8} {q : List UInt8 × List UInt8} (h : q ∈ putE L k v) : q = (k, v) ∨ q ∈ L := by
  unfold putE at h
  exact (mem_ins.1 h).imp id (fun h => (mem_del.1 h).1)
theorem turned_cells {w w' : World} {B b : Nat} (h : w.mapTurned w' b) (hne : b ≠ B) : w'.heap[B]? = w.heap[B]? := by
  obtain ⟨es, clock, es', clock', _, rfl⟩ := h
  exact ChangeMaps.heap_setBlock_other (by assumption) _ (fun e => hne e.symm)

set_option maxRecDepth 100000 in
theorem dput_calls (B : Nat) (p : Option Nat) (L : Row7) (s h : ByteArray) (w : World) (hd : Dir7 w B p L) (hs : s.size ≤ 12) (hh : h.size ≤ 12) (hf : (putE L s.data.toList h.data.toList).length ≤ 12) :
    Calls Tryz.prog 18 #[.pointer (some ⟨B, 0, none⟩), .string s, .string h] w fun e w' => e = .returned (.tuple #[]) ∧ Goes7 w B p (putE L s.data.toList h.data.toList) w' := by
  have hs' : s.size ≤ maxLen := Nat.le_trans hs (by decide)
  have hh' : h.size ≤ maxLen := Nat.le_trans hh (by decide)
  have hall : ∀ q ∈ putE L s.data.toList h.data.toList, q.1.length ≤ 12 ∧ q.2.length ≤ 12 := fun q hq => by
    rcases mem_put hq with rfl | hq
    · exact ⟨by rw [size_list]; exact hs, by rw [size_list]; exact hh⟩
    · exact hd.all q hq
  have hrise := rise_put hd.rise s.data.toList h.data.toList
  cases p with
  | some b =>
    obtain ⟨w1, hrun, hown, hturn⟩ := (hd.map b rfl).store keyed7 Tryz.underlying49 (Nat.lt_of_le_of_lt hd.few (by decide)) (key7 s hs') (plainElem_string (H := Unit) Tryz.underlying9 hh')
    rw [datE_put] at hown
    have hne := hd.apart b rfl
    have HG : Hid (Goes7 w B (some b) (putE L s.data.toList h.data.toList) w1) := by
      refine ⟨some b, dir7_stored ((turned_cells hturn hne).trans hd.blk) rfl hown hrise hf hall, (fun b' hb' => .inl hb'), ?_⟩
      exact (Turns.refl _ w).grown hturn.grown (fun k hk _ => .inr hk)
    have hq := nilmap7 w (some b)
    have hc := hd.cell
    clear hd hown hturn hall hrise hf
    go_enter Tryz.func18, Tryz.ntmps18
    go_wp2
    go_end0
    exact ⟨rfl, HG.out⟩
  | none =>
    have hL := hd.nil rfl
    subst hL
    have hBl := hd.lt
    have hsz : (w.setCell ⟨B, 0, none⟩ (.map (some w.heap.size))).heap.size = w.heap.size := by simp [World.setCell]
    have h1 := World.ownsMap_made (H := Unit) (w.setCell ⟨B, 0, none⟩ (.map (some w.heap.size))) Tryz.prog 9 (plainElem Tryz.prog 9)
    rw [hsz] at h1
    obtain ⟨w1, hrun, hown, hturn⟩ := h1.store keyed7 Tryz.underlying49 (by decide) (key7 s hs') (plainElem_string (H := Unit) Tryz.underlying9 hh')
    have e0 : (.map [] : DataW Unit) = datE [] := rfl
    rw [e0, datE_put] at hown
    have hblk1 := heap_setCell_box_a (.map (some w.heap.size)) hd.blk
    have hblk2 : ((w.setCell ⟨B, 0, none⟩ (.map (some w.heap.size))).alloc (.map #[] 0)).heap[B]? = some (.cells #[.map (some w.heap.size)] 51 (0, 0)) := (Below.heap_alloc _ _ B (by omega)).trans hblk1
    have HG : Hid (Goes7 w B none (putE [] s.data.toList h.data.toList) w1) := by
      refine ⟨some w.heap.size, dir7_stored ((turned_cells hturn (by omega)).trans hblk2) rfl hown hrise hf hall, (fun b' hb' => .inr (by cases hb'; exact Nat.le_refl _)), ?_⟩
      exact (((Turns.refl _ w).setCell (p := ⟨B, 0, none⟩) (fun _ => .inl rfl) _).alloc _).grown hturn.grown (fun k hk hlt => by cases hk; omega)
    have hq := nilmap7 w none
    have hc := hd.cell
    have hf0 := hd.frozen
    obtain ⟨hc2, hf2⟩ := cell_of_box_a hblk2
    have hmm := @run_makeMap Tryz.prog
    clear hd hown hturn hall hrise hf h1 hblk1 hblk2 e0 hsz
    go_enter Tryz.func18, Tryz.ntmps18
    go_wp2
    go_end0
    exact ⟨rfl, HG.out⟩
end Go.Proofs.YtapagcljhjgcdaaGreatDoor
