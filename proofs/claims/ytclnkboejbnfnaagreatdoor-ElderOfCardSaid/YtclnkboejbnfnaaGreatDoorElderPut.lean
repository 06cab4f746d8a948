/-
  One more and one less in the directory's map; askers of who is there.
  Conditions: each theorem's own.
-/
import Derived.Test.YtclnkboejbnfnaaGreatDoorElderDir
import Derived.Test.YtclnkboejbnfnaaGreatDoorGroupClone
import Derived.Test.YtclnkboejbnfnaaGreatDoorLast
import Derived.Shelf.SlIter.Collect
namespace Go.Proofs.YtclnkboejbnfnaaGreatDoor
open Go.RowKit Go.Maps

set_option maxRecDepth 100000 in
theorem isFree71_calls (C E B : Nat) (p : Option Nat) (L : Row7) (s : ByteArray) (w : World) (h : Dir7 w B p L) (hs : s.size ≤ maxLen) (hC : w.cell? ⟨C, 0, none⟩ = some (.pointer (some ⟨B, 0, none⟩))) (hE : w.cell? ⟨E, 0, none⟩ = some (.string s)) :
    Calls Tryz.prog 199 #[.pointer (some ⟨C, 0, none⟩), .pointer (some ⟨E, 0, none⟩)] w (Tells5 (!hasE L s.data.toList) w) := by
  have hnot : ∀ (x : Bool) (w : World), (Op.unary .not (.bool x)).run Tryz.prog w = .ok (.bool (!x)) w := fun _ _ => rfl
  have HC := Lib.hid (has7_calls B p L s w h hs)
  generalize hasE L s.data.toList = r at *
  clear h
  go_enter Tryz.func199, Tryz.ntmps199
  go_wp2_with fail
  with_reducible refine HC.out.mono ?_
  rintro e w1 ⟨rfl, hb⟩
  have HB := Lib.hid hb
  clear hb HC hC hE
  cases r <;> go_wp2 <;> go_ret <;> exact ⟨rfl, HB.out⟩
set_option maxRecDepth 100000 in
theorem isThere71_calls (C E B : Nat) (p : Option Nat) (L : Row7) (s : ByteArray) (w : World) (h : Dir7 w B p L) (hs : s.size ≤ maxLen) (hC : w.cell? ⟨C, 0, none⟩ = some (.pointer (some ⟨B, 0, none⟩))) (hE : w.cell? ⟨E, 0, none⟩ = some (.string s)) :
    Calls Tryz.prog 163 #[.pointer (some ⟨C, 0, none⟩), .pointer (some ⟨E, 0, none⟩)] w (Tells5 (hasE L s.data.toList) w) := by
  have HC := Lib.hid (has7_calls B p L s w h hs)
  generalize hasE L s.data.toList = r at *
  clear h
  go_enter Tryz.func163, Tryz.ntmps163
  go_wp2_with fail
  with_reducible refine HC.out.mono ?_
  rintro e w1 ⟨rfl, hb⟩
  have HB := Lib.hid hb
  clear hb HC hC hE
  go_wp2
  go_ret
  exact ⟨rfl, HB.out⟩

set_option maxRecDepth 100000 in
theorem isFree7_calls (B : Nat) (p : Option Nat) (L : Row7) (s : ByteArray) (w : World) (h : Dir7 w B p L) (hs : s.size ≤ maxLen) :
    Calls Tryz.prog 114 #[.pointer (some ⟨B, 0, none⟩), .string s] w (Makes7 (err5 (!hasE L s.data.toList) 9) w) := by
  have hmf := mkf
  have bl := below_alloc (below_alloc (Below.refl w.heap.size w) (.cells #[.pointer (some ⟨B, 0, none⟩)] 28)) (.cells #[.string s] 9)
  have HU : Hid (Calls Tryz.prog 119 #[.func (.func 199) #[] #[.pointer (some ⟨w.heap.size, 0, none⟩), .pointer (some ⟨w.heap.size + 1, 0, none⟩)], .int .i64 9] _ (Makes7 (err5 (!hasE L s.data.toList) 9) ((w.alloc (.cells #[.pointer (some ⟨B, 0, none⟩)] 28)).alloc (.cells #[.string s] 9)))) :=
    unless7_calls _ _ _ _ _ ⟨_, _, rfl, enters_of Tryz.func199 (by kernel_rfl) rfl, fun W hb => isFree71_calls _ _ B p L s W (h.later (below_next bl hb)) hs ((hb.cell (p := ⟨_, 0, none⟩) (by simp; try omega)).trans (by simp)) ((hb.cell (p := ⟨_, 0, none⟩) (by simp; try omega)).trans (by simp))⟩
  generalize err5 (!hasE L s.data.toList) 9 = r at *
  have BL := Lib.hid bl
  clear h bl
  go_enter Tryz.func114, Tryz.ntmps114
  go_wp2_with fail
  with_reducible refine HU.out.mono ?_
  rintro e w1 ⟨g, lb, rfl, ha, hb⟩
  have HA := Lib.hid ha
  have HB := Lib.hid hb
  clear ha hb HU
  go_wp2
  go_ret
  exact ⟨g, lb, rfl, HA.out, below_next BL.out HB.out⟩
set_option maxRecDepth 100000 in
theorem isThere7_calls (B : Nat) (p : Option Nat) (L : Row7) (s : ByteArray) (w : World) (h : Dir7 w B p L) (hs : s.size ≤ maxLen) :
    Calls Tryz.prog 79 #[.pointer (some ⟨B, 0, none⟩), .string s] w (Makes7 (err5 (hasE L s.data.toList) 8) w) := by
  have hmf := mkf
  have bl := below_alloc (below_alloc (Below.refl w.heap.size w) (.cells #[.pointer (some ⟨B, 0, none⟩)] 28)) (.cells #[.string s] 9)
  have HU : Hid (Calls Tryz.prog 119 #[.func (.func 163) #[] #[.pointer (some ⟨w.heap.size, 0, none⟩), .pointer (some ⟨w.heap.size + 1, 0, none⟩)], .int .i64 8] _ (Makes7 (err5 (hasE L s.data.toList) 8) ((w.alloc (.cells #[.pointer (some ⟨B, 0, none⟩)] 28)).alloc (.cells #[.string s] 9)))) :=
    unless7_calls _ _ _ _ _ ⟨_, _, rfl, enters_of Tryz.func163 (by kernel_rfl) rfl, fun W hb => isThere71_calls _ _ B p L s W (h.later (below_next bl hb)) hs ((hb.cell (p := ⟨_, 0, none⟩) (by simp; try omega)).trans (by simp)) ((hb.cell (p := ⟨_, 0, none⟩) (by simp; try omega)).trans (by simp))⟩
  generalize err5 (hasE L s.data.toList) 8 = r at *
  have BL := Lib.hid bl
  clear h bl
  go_enter Tryz.func79, Tryz.ntmps79
  go_wp2_with fail
  with_reducible refine HU.out.mono ?_
  rintro e w1 ⟨g, lb, rfl, ha, hb⟩
  have HA := Lib.hid ha
  have HB := Lib.hid hb
  clear ha hb HU
  go_wp2
  go_ret
  exact ⟨g, lb, rfl, HA.out, below_next BL.out HB.out⟩

theorem dir7_stored {w : World} {B b n : Nat} {p : Option Nat} {L' : Row7} (hblk : w.heap[B]? = some (.cells #[.map p] 90 (0, 0))) (hp : p = some b) (hm : w.ownsMap Tryz.prog 9 (plainElem Tryz.prog 9) b n (datE L')) (hr : Rise7 L') (hf : L'.length ≤ 12) (ha : ∀ q ∈ L', q.1.length ≤ 12 ∧ q.2.length ≤ 12) : Dir7 w B p L' :=
  ⟨hblk, (fun h => by rw [hp] at h; cases h), fun b' hb' => by rw [hp] at hb'; cases hb'; exact Map7.of hm, hr, hf, ha⟩
theorem mem_put {L : Row7} {k v : List UInt8} {q : List UInt8 × List UInt8} (h : q ∈ putE L k v) : q = (k, v) ∨ q ∈ L := by
  unfold putE at h
  exact (mem_ins.1 h).imp id (fun h => (mem_del.1 h).1)
theorem turned_cells {w w' : World} {B b : Nat} (h : w.mapTurned w' b) (hne : b ≠ B) : w'.heap[B]? = w.heap[B]? := by
  obtain ⟨es, clock, es', clock', _, rfl⟩ := h
  exact ChangeMaps.heap_setBlock_other (by assumption) _ (fun e => hne e.symm)

def YDp7 (B b : Nat) (n h : ByteArray) : Nat → Value → Prop
  | 3, v => v = .map (some b)
  | 4, v => v = .string n
  | 5, v => v = .string n
  | 6, v => v = .string h
  | 7, v => v = .string h
  | _, v => v = .pointer (some ⟨B, 0, none⟩)
def YDpW7 (B b : Nat) (n h : ByteArray) (j : Nat) (v : Value) (_ : World) : Prop := YDp7 B b n h j v
theorem put_all7 {L : Row7} {s h : ByteArray} (ha : ∀ q ∈ L, q.1.length ≤ 12 ∧ q.2.length ≤ 12) (hs : s.size ≤ 12) (hh : h.size ≤ 12) : ∀ q ∈ putE L s.data.toList h.data.toList, q.1.length ≤ 12 ∧ q.2.length ≤ 12 := fun q hq => by
  rcases mem_put hq with rfl | hq
  · exact ⟨by rw [size_list]; exact hs, by rw [size_list]; exact hh⟩
  · exact ha q hq
/-- A pair is stored into the map. -/
theorem dstore7 {B b : Nat} {L : Row7} {s h : ByteArray} {W : World} (hd : Dir7 W B (some b) L) (hs : s.size ≤ 12) (hh : h.size ≤ 12) (hf : (putE L s.data.toList h.data.toList).length ≤ 12) :
    ∃ w', (Instr.mapUpdate 88 (.map (some b)) (.string s) (.string h)).run Tryz.prog W = .ok () w' ∧ Goes7 W B (some b) (putE L s.data.toList h.data.toList) w' := by
  have hs' : s.size ≤ maxLen := Nat.le_trans hs (by decide)
  have hh' : h.size ≤ maxLen := Nat.le_trans hh (by decide)
  obtain ⟨w1, hrun, hown, hturn⟩ := (hd.map b rfl).store keyed7 Tryz.underlying88 (Nat.lt_of_le_of_lt hd.few (by decide)) (key7 s hs') (plainElem_string (H := Unit) Tryz.underlying9 hh')
  rw [datE_put] at hown
  refine ⟨w1, hrun, some b, dir7_stored ((turned_cells hturn (hd.apart b rfl)).trans hd.blk) rfl hown (rise_put hd.rise s.data.toList h.data.toList) hf (put_all7 hd.all hs hh), (fun b' hb' => .inl hb'), ?_⟩
  exact (Turns.refl _ W).grown hturn.grown (fun k hk _ => .inr hk)
set_option maxRecDepth 100000 in
set_option maxHeartbeats 1000000 in
theorem dput_calls (B : Nat) (p : Option Nat) (L : Row7) (s h : ByteArray) (w : World) (hd : Dir7 w B p L) (hs : s.size ≤ 12) (hh : h.size ≤ 12) (hf : (putE L s.data.toList h.data.toList).length ≤ 12) :
    Calls Tryz.prog 48 #[.pointer (some ⟨B, 0, none⟩), .string s, .string h] w fun e w' => e = .returned (.tuple #[]) ∧ Goes7 w B p (putE L s.data.toList h.data.toList) w' := by
  have HC : Hid (∀ W, Calls Tryz.prog 121 #[.string s] W fun e w' => e = .returned (.string s) ∧ Below W.heap.size W w') := fun W => sclone10_calls s W (by omega)
  have HC1 : Hid (∀ W, Calls Tryz.prog 121 #[.string h] W fun e w' => e = .returned (.string h) ∧ Below W.heap.size W w') := fun W => sclone10_calls h W (by omega)
  cases p with
  | some b =>
    have hq := nilmap7 w (some b)
    have hc := hd.cell
    have HST : Hid (∀ W, Below w.heap.size w W → ∃ w', (Instr.mapUpdate 88 (.map (some b)) (.string s) (.string h)).run Tryz.prog W = .ok () w' ∧ Goes7 w B (some b) (putE L s.data.toList h.data.toList) w') := fun W hb => by
      obtain ⟨w', h1, h2⟩ := dstore7 (hd.later hb) hs hh hf
      exact ⟨w', h1, h2.ahead hb⟩
    have HD2 := Lib.hid hd
    clear hd hs hh hf
    obtain ⟨w2, hw2⟩ : ∃ w2, w2 = w := ⟨_, rfl⟩
    rw [← hw2] at HD2
    have HST2 : Hid (∀ W, Below w2.heap.size w2 W → ∃ w', (Instr.mapUpdate 88 (.map (some b)) (.string s) (.string h)).run Tryz.prog W = .ok () w' ∧ Goes7 w B (some b) (putE L s.data.toList h.data.toList) w') := by rw [hw2]; exact HST.out
    clear HST
    have HST := HST2
    clear HST2
    go_enter Tryz.func48, Tryz.ntmps48
    go_wp2_with fail
    rw [← hw2]
    refine wp_region_last (by kernel_rfl) 8 (fun W => Below w2.heap.size w2 W) (fun W => Goes7 w B (some b) (putE L s.data.toList h.data.toList) W) (YDpW7 B b s h) (fun _ => True) ?F ?hF (by kernel_rfl) (by kernel_rfl) (by kernel_rfl) (by kernel_rfl) (by decide) (below_drew (Below.refl _ _)) ?step ?fin
    case hF =>
      intro x
      simp only [List.map_cons, List.map_nil, putL, Act.put, List.setIfInBounds_toArray, List.set_cons_zero, List.set_cons_succ, Nat.zero_add, Nat.reduceAdd]
      exact rfl
    case step =>
      refine ⟨?_, ?_, ?_, ?_, ?_, ?_, ?_, ?_, ?_, trivial⟩
      · intro x W
        refine ⟨fun _ hW hdep K hK => ?_, (fun h => absurd h (by decide)), (fun h => absurd h (by decide))⟩
        clear hdep
        go_simp
        exact hK _ _ rfl hW (fun _ _ h => h)
      · intro x W
        refine ⟨fun _ hW hdep K hK => ?_, (fun h => absurd h (by decide)), (fun h => absurd h (by decide))⟩
        have h0 : x 0 = _ := hdep 0 rfl
        clear hdep
        simp only [h0] at hK
        go_simp
        exact hK _ _ rfl hW (fun _ _ h => h)
      · intro x W
        refine ⟨fun _ hW hdep K hK => ?_, (fun h => absurd h (by decide)), (fun h => absurd h (by decide))⟩
        have h1 : x 1 = _ := hdep 1 rfl
        clear hdep
        simp only [h1] at hK
        go_simp
        exact hK _ _ rfl hW (fun _ _ h => h)
      · intro x W
        refine ⟨fun _ hW hdep K hK => ?_, (fun h => absurd h (by decide)), (fun h => absurd h (by decide))⟩
        have h2 : x 2 = _ := hdep 2 rfl
        have c := (HD2.out.later hW).cell
        clear hdep
        simp only [h2] at hK
        go_simp
        exact hK _ _ rfl hW (fun _ _ h => h)
      · intro x W
        refine ⟨fun _ hW hdep K hK => ?_, (fun h => absurd h (by decide)), (fun h => absurd h (by decide))⟩
        clear hdep
        go_simp
        exact hK _ _ rfl hW (fun _ _ h => h)
      · intro x W
        refine ⟨fun _ hW hdep K hK => ?_, (fun h => absurd h (by decide)), (fun h => absurd h (by decide))⟩
        have h4 : x 4 = _ := hdep 4 rfl
        have hc := HC.out W
        clear hdep
        simp only [h4] at hK
        go_simp
        refine hc.mono ?_
        rintro e W' ⟨rfl, hb⟩
        exact hK _ _ rfl (below_next hW hb) (fun _ _ h => h)
      · intro x W
        refine ⟨fun _ hW hdep K hK => ?_, (fun h => absurd h (by decide)), (fun h => absurd h (by decide))⟩
        clear hdep
        go_simp
        exact hK _ _ rfl hW (fun _ _ h => h)
      · intro x W
        refine ⟨fun _ hW hdep K hK => ?_, (fun h => absurd h (by decide)), (fun h => absurd h (by decide))⟩
        have h6 : x 6 = _ := hdep 6 rfl
        have hc := HC1.out W
        clear hdep
        simp only [h6] at hK
        go_simp
        refine hc.mono ?_
        rintro e W' ⟨rfl, hb⟩
        exact hK _ _ rfl (below_next hW hb) (fun _ _ h => h)
      · intro x W
        refine ⟨(fun h => absurd h (by decide)), fun _ hW hdep K hK => ?_, (fun h => absurd h (by decide))⟩
        have h3 : x 3 = _ := hdep 3 rfl
        have h5 : x 5 = _ := hdep 5 rfl
        have h7 : x 7 = _ := hdep 7 rfl
        obtain ⟨w', hrun, hg⟩ := HST.out W hW
        clear hdep
        simp only [h3, h5, h7] at hK
        go_simp
        exact hK undef _ trivial hg
    case fin =>
      intro x W hW _
      have HF := Lib.hid hW
      clear hW HST HC HC1 HD2
      go_end0
      exact ⟨rfl, HF.out⟩
  | none =>
    have hL := hd.nil rfl
    subst hL
    have hBl := hd.lt
    have hsz : (w.setCell ⟨B, 0, none⟩ (.map (some w.heap.size))).heap.size = w.heap.size := by simp [World.setCell]
    have h1 := World.ownsMap_made (H := Unit) (w.setCell ⟨B, 0, none⟩ (.map (some w.heap.size))) Tryz.prog 9 (plainElem Tryz.prog 9)
    rw [hsz] at h1
    have hblk1 := heap_setCell_box_a (.map (some w.heap.size)) hd.blk
    have hblk2 : ((w.setCell ⟨B, 0, none⟩ (.map (some w.heap.size))).alloc (.map #[] 0)).heap[B]? = some (.cells #[.map (some w.heap.size)] 90 (0, 0)) := (Below.heap_alloc _ _ B (by omega)).trans hblk1
    have hd2 : Dir7 ((w.setCell ⟨B, 0, none⟩ (.map (some w.heap.size))).alloc (.map #[] 0)) B (some w.heap.size) [] := dir7_stored hblk2 rfl h1 List.Pairwise.nil (Nat.zero_le _) (fun _ h => nomatch h)
    have ht2 : Turns (fun i => i = B) w ((w.setCell ⟨B, 0, none⟩ (.map (some w.heap.size))).alloc (.map #[] 0)) := ((Turns.refl (fun i => i = B) w).setCell (p := ⟨B, 0, none⟩) (fun _ => rfl) _).alloc _
    have hq := nilmap7 w none
    have hc := hd.cell
    have hf0 := hd.frozen
    have hmm := @run_makeMap Tryz.prog
    have HD2 := Lib.hid hd2
    have HT2 := Lib.hid ht2
    clear hd h1 hblk1 hblk2 hsz hd2 ht2
    go_enter Tryz.func48, Tryz.ntmps48
    go_wp2_with fail
    generalize (w.setCell ⟨B, 0, none⟩ (.map (some w.heap.size))).alloc (.map #[] 0) = w2 at *
    have HST : Hid (∀ W, Below w2.heap.size w2 W → ∃ w', (Instr.mapUpdate 88 (.map (some w.heap.size)) (.string s) (.string h)).run Tryz.prog W = .ok () w' ∧ Goes7 w B none (putE [] s.data.toList h.data.toList) w') := fun W hb => by
      obtain ⟨w', h1, h2⟩ := dstore7 (HD2.out.later hb) hs hh hf
      obtain ⟨p', hd', hp, ht⟩ := h2.ahead hb
      refine ⟨w', h1, p', hd', fun b' hb' => .inr ?_, HT2.out.next ht (fun i hi e => ?_) |>.mono (fun i _ e => .inl e)⟩
      · rcases hp b' hb' with e | e
        · cases e; exact Nat.le_refl _
        · exact Nat.le_trans HT2.out.size e
      · rcases e with e | e
        · exact e
        · cases e; omega
    clear hs hh hf hq hc hf0 hmm hBl HT2
    refine wp_region_last (by kernel_rfl) 8 (fun W => Below w2.heap.size w2 W) (fun W => Goes7 w B none (putE [] s.data.toList h.data.toList) W) (YDpW7 B w.heap.size s h) (fun _ => True) ?F2 ?hF2 (by kernel_rfl) (by kernel_rfl) (by kernel_rfl) (by kernel_rfl) (by decide) (below_drew (Below.refl _ _)) ?step2 ?fin2
    case hF2 =>
      intro x
      simp only [List.map_cons, List.map_nil, putL, Act.put, List.setIfInBounds_toArray, List.set_cons_zero, List.set_cons_succ, Nat.zero_add, Nat.reduceAdd]
      exact rfl
    case step2 =>
      refine ⟨?_, ?_, ?_, ?_, ?_, ?_, ?_, ?_, ?_, trivial⟩
      · intro x W
        refine ⟨fun _ hW hdep K hK => ?_, (fun h => absurd h (by decide)), (fun h => absurd h (by decide))⟩
        clear hdep
        go_simp
        exact hK _ _ rfl hW (fun _ _ h => h)
      · intro x W
        refine ⟨fun _ hW hdep K hK => ?_, (fun h => absurd h (by decide)), (fun h => absurd h (by decide))⟩
        have h0 : x 0 = _ := hdep 0 rfl
        clear hdep
        simp only [h0] at hK
        go_simp
        exact hK _ _ rfl hW (fun _ _ h => h)
      · intro x W
        refine ⟨fun _ hW hdep K hK => ?_, (fun h => absurd h (by decide)), (fun h => absurd h (by decide))⟩
        have h1 : x 1 = _ := hdep 1 rfl
        clear hdep
        simp only [h1] at hK
        go_simp
        exact hK _ _ rfl hW (fun _ _ h => h)
      · intro x W
        refine ⟨fun _ hW hdep K hK => ?_, (fun h => absurd h (by decide)), (fun h => absurd h (by decide))⟩
        have h2 : x 2 = _ := hdep 2 rfl
        have c := (HD2.out.later hW).cell
        clear hdep
        simp only [h2] at hK
        go_simp
        exact hK _ _ rfl hW (fun _ _ h => h)
      · intro x W
        refine ⟨fun _ hW hdep K hK => ?_, (fun h => absurd h (by decide)), (fun h => absurd h (by decide))⟩
        clear hdep
        go_simp
        exact hK _ _ rfl hW (fun _ _ h => h)
      · intro x W
        refine ⟨fun _ hW hdep K hK => ?_, (fun h => absurd h (by decide)), (fun h => absurd h (by decide))⟩
        have h4 : x 4 = _ := hdep 4 rfl
        have hc := HC.out W
        clear hdep
        simp only [h4] at hK
        go_simp
        refine hc.mono ?_
        rintro e W' ⟨rfl, hb⟩
        exact hK _ _ rfl (below_next hW hb) (fun _ _ h => h)
      · intro x W
        refine ⟨fun _ hW hdep K hK => ?_, (fun h => absurd h (by decide)), (fun h => absurd h (by decide))⟩
        clear hdep
        go_simp
        exact hK _ _ rfl hW (fun _ _ h => h)
      · intro x W
        refine ⟨fun _ hW hdep K hK => ?_, (fun h => absurd h (by decide)), (fun h => absurd h (by decide))⟩
        have h6 : x 6 = _ := hdep 6 rfl
        have hc := HC1.out W
        clear hdep
        simp only [h6] at hK
        go_simp
        refine hc.mono ?_
        rintro e W' ⟨rfl, hb⟩
        exact hK _ _ rfl (below_next hW hb) (fun _ _ h => h)
      · intro x W
        refine ⟨(fun h => absurd h (by decide)), fun _ hW hdep K hK => ?_, (fun h => absurd h (by decide))⟩
        have h3 : x 3 = _ := hdep 3 rfl
        have h5 : x 5 = _ := hdep 5 rfl
        have h7 : x 7 = _ := hdep 7 rfl
        obtain ⟨w', hrun, hg⟩ := HST.out W hW
        clear hdep
        simp only [h3, h5, h7] at hK
        go_simp
        exact hK undef _ trivial hg
    case fin2 =>
      intro x W hW _
      have HF := Lib.hid hW
      clear hW HST HC HC1 HD2
      go_end0
      exact ⟨rfl, HF.out⟩
end Go.Proofs.YtclnkboejbnfnaaGreatDoor
