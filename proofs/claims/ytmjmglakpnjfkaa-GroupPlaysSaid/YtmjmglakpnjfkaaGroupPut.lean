/-
  A name goes into a set; a group's set goes into the groups; a group's set is found.
  Conditions: texts are no longer than they may be.
-/
import Derived.Test.YtmjmglakpnjfkaaGroupAsk
import Derived.Test.YtmjmglakpnjfkaaGroupClone
import Derived.Test.YtmjmglakpnjfkaaLast
import Derived.Maps.OwnSet
import Derived.Shelf.SlIter.Collect
namespace Go.Proofs.Ytmjmglakpnjfkaa
open Go.RowKit Go.Maps

set_option maxRecDepth 100000 in
theorem setadd10_calls (b : Nat) (L : Set10) (s : ByteArray) (w : World) (h : Set10At w b L) (hf : L.length ≤ 1000) (hs : s.size ≤ 1000) :
    Calls Try.prog 39 #[.map (some b), .string s] w fun e w' => e = .returned (.tuple #[]) ∧ Set10At w' b (putV L s.data.toList ()) ∧ Turns (fun i => i = b) w w' := by
  have HC := Lib.hid (sclone10_calls s w hs)
  have HA : Hid (∀ W, Below w.heap.size w W → ∃ w', (Instr.mapUpdate 59 (.map (some b)) (.string s) (.bool true)).run Try.prog W = .ok () w' ∧ Set10At w' b (putV L s.data.toList ()) ∧ Turns (fun i => i = b) w w') := fun W hb => by
    obtain ⟨w', h1, h2, h3⟩ := add10 (h.kept (hb.block b (World.ownsMap.lt h))) hf s (Nat.le_trans hs (by decide))
    exact ⟨w', h1, h2, (Turns.of_below hb _).grown h3.grown (fun k hk _ => by cases hk; rfl)⟩
  clear h
  go_enter Try.func39, Try.ntmps39
  go_wp2_with fail
  with_reducible refine HC.out.mono ?_
  rintro e w1 ⟨rfl, hb⟩
  obtain ⟨w2, hrun, h2, h3⟩ := HA.out w1 hb
  have H2 := Lib.hid h2
  have H3 := Lib.hid h3
  clear hb h2 h3 HA HC
  go_wp2
  go_end0
  exact ⟨rfl, H2.out, H3.out⟩

set_option maxRecDepth 100000 in
theorem new10_calls (w : World) : Calls Try.prog 8 #[] w fun e w' => e = .returned (.pointer (some ⟨w.heap.size, 0, none⟩)) ∧ w' = w.alloc (.cells #[.map none] 53) := by
  go_enter Try.func8, Try.ntmps8
  go_wp2
  go_ret
  exact ⟨rfl, rfl⟩
theorem grp10_new (w : World) : Grp10 (w.alloc (.cells #[.map none] 53)) w.heap.size none [] :=
  ⟨(MapKept.heap_alloc w _).1, (fun _ => rfl), (fun _ h => nomatch h), (fun _ h => nomatch h), (fun _ h => nomatch h), (fun _ h => nomatch h), List.Pairwise.nil⟩

/-- A set has gone into the groups. -/
def PutTo10 (w : World) (B : Nat) (p : Option Nat) (T' : Rows10) (w' : World) : Prop :=
  ∃ p', Grp10 w' B p' T' ∧ (∀ c, p' = some c → p = some c ∨ w.heap.size ≤ c) ∧ Turns (fun i => i = B ∨ p = some i) w w'
theorem grp10_stored {w w' : World} {B m b : Nat} {T : Rows10} {l : Set10} {k : List UInt8} {n : Nat} (h : Grp10 w B (some m) T) (hs : Set10At w b l) (hn : ∀ x ∈ T, x.2.1 ≠ b) (hm : m ≠ b) (ht : w.mapTurned w' m)
    (hown : w'.ownsMap Try.prog 9 R10 m n (datV eb10 (putV T k (b, l)))) : Grp10 w' B (some m) (putV T k (b, l)) := by
  have htn : Turns (fun i => i = m) w w' := (Turns.refl _ w).grown ht.grown (fun k hk _ => by cases hk; rfl)
  refine ⟨(htn.block B h.lt (fun e => h.mne m rfl e.symm)).trans h.blk, (fun e => nomatch e), fun c hc => ?_, fun x hx => ?_, fun x hx y hy e => ?_, fun x hx => ?_, riseV_put h.rise _ _⟩
  · cases hc
    have := ownsMap_tight10 hown
    rwa [datV_size] at this
  · rcases mem_putV.1 hx with rfl | ⟨hx, _⟩
    · exact hs.kept (htn.block b (World.ownsMap.lt hs) (fun e => hm e.symm))
    · exact (h.sets x hx).kept (htn.block _ (h.slt x hx) (fun e => h.off x hx (by rw [e])))
  · rcases mem_putV.1 hx with rfl | ⟨hx, _⟩ <;> rcases mem_putV.1 hy with rfl | ⟨hy, _⟩
    · rfl
    · exact absurd e.symm (hn y hy)
    · exact absurd e (hn x hx)
    · exact h.one x hx y hy e
  · rcases mem_putV.1 hx with rfl | ⟨hx, _⟩
    · intro e; injection e with e; exact hm e
    · exact h.off x hx
theorem grp10_store {w : World} {B m b : Nat} {T : Rows10} {l : Set10} (h : Grp10 w B (some m) T) (hs : Set10At w b l) (hn : ∀ x ∈ T, x.2.1 ≠ b) (hm : m ≠ b) (hf : T.length ≤ 1000) (g : ByteArray) (hg : g.size ≤ maxLen) :
    ∃ w', (Instr.mapUpdate 51 (.map (some m)) (.string g) (.map (some b))).run Try.prog w = .ok () w' ∧ Grp10 w' B (some m) (putV T g.data.toList (b, l)) ∧ Turns (fun i => i = m) w w' := by
  obtain ⟨w', hrun, hown, ht⟩ := (h.map m rfl).store keyed10 Try.underlying51 (Nat.lt_of_le_of_lt hf (by decide)) (key10 g hg) (show R10 (.map (some b)) = some (.lit (.int .i64 b), []) from rfl)
  have e : datV eb10 (putV T g.data.toList (b, l)) = (datV eb10 T).put (.string g.data.toList) (.lit (.int .i64 b)) := (datV_put eb10 T _ (b, l)).symm
  exact ⟨w', hrun, grp10_stored h hs hn hm ht (by rw [e]; exact hown), (Turns.refl _ w).grown ht.grown (fun k hk _ => by cases hk; rfl)⟩

def YP10 (B m b : Nat) (g : ByteArray) : Nat → Value → Prop
  | 3, v => v = .map (some m)
  | 4, v => v = .string g
  | 5, v => v = .string g
  | 6, v => v = .map (some b)
  | _, v => v = .pointer (some ⟨B, 0, none⟩)
def YPut10 (B m b : Nat) (g : ByteArray) (j : Nat) (v : Value) (_ : World) : Prop := YP10 B m b g j v

set_option maxRecDepth 100000 in
set_option maxHeartbeats 1000000 in
theorem put10_some (B m b : Nat) (T : Rows10) (l : Set10) (g : ByteArray) (w : World) (h : Grp10 w B (some m) T) (hs : Set10At w b l) (hn : ∀ x ∈ T, x.2.1 ≠ b) (hm : m ≠ b) (hf : T.length ≤ 1000) (hg : g.size ≤ 1000) :
    Calls Try.prog 40 #[.pointer (some ⟨B, 0, none⟩), .string g, .map (some b)] w fun e w' => e = .returned (.tuple #[]) ∧ PutTo10 w B (some m) (putV T g.data.toList (b, l)) w' := by
  have HC : Hid (∀ W, Calls Try.prog 54 #[.string g] W fun e w' => e = .returned (.string g) ∧ Below W.heap.size W w') := fun W => sclone10_calls g W hg
  have hq := nilmap10 w (some m)
  have hc := h.cell
  have HG1 := Lib.hid h
  have HST : Hid (∀ W, Below w.heap.size w W → ∃ w', (Instr.mapUpdate 51 (.map (some m)) (.string g) (.map (some b))).run Try.prog W = .ok () w' ∧ PutTo10 w B (some m) (putV T g.data.toList (b, l)) w') := fun W hb => by
    obtain ⟨w', h1, h2, h3⟩ := grp10_store (h.later hb) (hs.kept (hb.block b (World.ownsMap.lt hs))) hn hm hf g (Nat.le_trans hg (by decide))
    exact ⟨w', h1, some m, h2, (fun _ e => .inl e), (Turns.of_below hb _).next h3 (fun i _ e => .inr (by rw [e]))⟩
  clear h hs hn hm hf
  go_enter Try.func40, Try.ntmps40
  go_wp2_with fail

  refine wp_region_last (by kernel_rfl) 7 (fun W => Below w.heap.size w W) (fun W => PutTo10 w B (some m) (putV T g.data.toList (b, l)) W) (YPut10 B m b g) (fun _ => True) ?F ?hF (by kernel_rfl) (by kernel_rfl) (by kernel_rfl) (by kernel_rfl) (by decide) (below_drew (Below.refl _ _)) ?step ?fin
  case hF =>
    intro x
    simp only [List.map_cons, List.map_nil, putL, Act.put, List.setIfInBounds_toArray, List.set_cons_zero, List.set_cons_succ, Nat.zero_add, Nat.reduceAdd]
    exact rfl
  case step =>
    refine ⟨?_, ?_, ?_, ?_, ?_, ?_, ?_, ?_, trivial⟩
    · intro x W
      refine ⟨fun _ hW hdep K hK => ?_, (fun h => absurd h (by decide)), (fun h => absurd h (by decide))⟩
      clear hdep
      go_simp
      exact hK _ _ rfl hW (fun _ _ h => h)
    · intro x W
      refine ⟨fun _ hW hdep K hK => ?_, (fun h => absurd h (by decide)), (fun h => absurd h (by decide))⟩
      have h0 : x 0 = _ := hdep 0 rfl
      clear hdep
      simp only [h0] at hK
      go_simp
      exact hK _ _ rfl hW (fun _ _ h => h)
    · intro x W
      refine ⟨fun _ hW hdep K hK => ?_, (fun h => absurd h (by decide)), (fun h => absurd h (by decide))⟩
      have h1 : x 1 = _ := hdep 1 rfl
      clear hdep
      simp only [h1] at hK
      go_simp
      exact hK _ _ rfl hW (fun _ _ h => h)
    · intro x W
      refine ⟨fun _ hW hdep K hK => ?_, (fun h => absurd h (by decide)), (fun h => absurd h (by decide))⟩
      have h2 : x 2 = _ := hdep 2 rfl
      have c := (HG1.out.later hW).cell
      clear hdep
      simp only [h2] at hK
      go_simp
      exact hK _ _ rfl hW (fun _ _ h => h)
    · intro x W
      refine ⟨fun _ hW hdep K hK => ?_, (fun h => absurd h (by decide)), (fun h => absurd h (by decide))⟩
      clear hdep
      go_simp
      exact hK _ _ rfl hW (fun _ _ h => h)
    · intro x W
      refine ⟨fun _ hW hdep K hK => ?_, (fun h => absurd h (by decide)), (fun h => absurd h (by decide))⟩
      have h4 : x 4 = _ := hdep 4 rfl
      have hc := HC.out W
      clear hdep
      simp only [h4] at hK
      go_simp
      refine hc.mono ?_
      rintro e W' ⟨rfl, hb⟩
      exact hK _ _ rfl (below_next hW hb) (fun _ _ h => h)
    · intro x W
      refine ⟨fun _ hW hdep K hK => ?_, (fun h => absurd h (by decide)), (fun h => absurd h (by decide))⟩
      clear hdep
      go_simp
      exact hK _ _ rfl hW (fun _ _ h => h)
    · intro x W
      refine ⟨(fun h => absurd h (by decide)), fun _ hW hdep K hK => ?_, (fun h => absurd h (by decide))⟩
      have h3 : x 3 = _ := hdep 3 rfl
      have h5 : x 5 = _ := hdep 5 rfl
      have h6 : x 6 = _ := hdep 6 rfl
      obtain ⟨w', hrun, hg⟩ := HST.out W hW
      clear hdep
      simp only [h3, h5, h6] at hK
      go_simp
      exact hK undef _ trivial hg
  case fin =>
    intro x W hW _
    have HF := Lib.hid hW
    clear hW HG1 HST HC
    go_end0
    exact ⟨rfl, HF.out⟩

set_option maxRecDepth 100000 in
set_option maxHeartbeats 1000000 in
theorem put10_none (B b : Nat) (l : Set10) (g : ByteArray) (w : World) (h : Grp10 w B none []) (hs : Set10At w b l) (hg : g.size ≤ 1000) :
    Calls Try.prog 40 #[.pointer (some ⟨B, 0, none⟩), .string g, .map (some b)] w fun e w' => e = .returned (.tuple #[]) ∧ PutTo10 w B none (putV [] g.data.toList (b, l)) w' := by
  have HC : Hid (∀ W, Calls Try.prog 54 #[.string g] W fun e w' => e = .returned (.string g) ∧ Below W.heap.size W w') := fun W => sclone10_calls g W hg
  have hq := nilmap10 w none
  have hc := h.cell
  have hf0 := h.frozen
  have hBl := h.lt
  have hmm := @run_makeMap Try.prog
  have hbl : b < w.heap.size := World.ownsMap.lt hs
  have hbB : b ≠ B := map_ne_cells10 hs h.blk
  have hsz : (w.setCell ⟨B, 0, none⟩ (.map (some w.heap.size))).heap.size = w.heap.size := by simp [World.setCell]
  have hblk1 := heap_setCell_box_a (.map (some w.heap.size)) h.blk
  have hblk2 : ((w.setCell ⟨B, 0, none⟩ (.map (some w.heap.size))).alloc (.map #[] 0)).heap[B]? = some (.cells #[.map (some w.heap.size)] 53 (0, 0)) := (Below.heap_alloc _ _ B (by omega)).trans hblk1
  have hown := World.ownsMap_made (H := Unit) (w.setCell ⟨B, 0, none⟩ (.map (some w.heap.size))) Try.prog 9 R10
  rw [hsz] at hown
  have ht1 : Turns (fun i => i = B ∨ (none : Option Nat) = some i) w ((w.setCell ⟨B, 0, none⟩ (.map (some w.heap.size))).alloc (.map #[] 0)) := ((Turns.refl _ w).setCell (p := ⟨B, 0, none⟩) (fun _ => .inl rfl) _).alloc _
  have hG : Grp10 ((w.setCell ⟨B, 0, none⟩ (.map (some w.heap.size))).alloc (.map #[] 0)) B (some w.heap.size) [] := by
    refine ⟨hblk2, (fun e => nomatch e), fun c hc => ?_, (fun _ h => nomatch h), (fun _ h => nomatch h), (fun _ h => nomatch h), List.Pairwise.nil⟩
    cases hc
    exact hown
  have hs1 : Set10At ((w.setCell ⟨B, 0, none⟩ (.map (some w.heap.size))).alloc (.map #[] 0)) b l := hs.kept (ht1.block b hbl (by rintro (e | e); exact hbB e; cases e))
  have HG1 := Lib.hid hG
  have HST : Hid (∀ W, Below ((w.setCell ⟨B, 0, none⟩ (.map (some w.heap.size))).alloc (.map #[] 0)).heap.size ((w.setCell ⟨B, 0, none⟩ (.map (some w.heap.size))).alloc (.map #[] 0)) W → ∃ w', (Instr.mapUpdate 51 (.map (some w.heap.size)) (.string g) (.map (some b))).run Try.prog W = .ok () w' ∧ PutTo10 w B none (putV [] g.data.toList (b, l)) w') := fun W hb => by
    obtain ⟨w', h1, h2, h3⟩ := grp10_store (hG.later hb) (hs1.kept (hb.block b (World.ownsMap.lt hs1))) (fun _ h => nomatch h) (by omega) (by simp) g (Nat.le_trans hg (by decide))
    refine ⟨w', h1, some w.heap.size, h2, (fun c e => .inr (by cases e; exact Nat.le_refl _)), (ht1.next (Turns.of_below hb (fun _ => False)) (fun _ _ f => f.elim)).next h3 (fun i hi e => ?_)⟩
    omega
  obtain ⟨hc2, hf2⟩ := cell_of_box_a hblk2
  clear h hs hs1 hG hown hblk1 hblk2 ht1 hbl hbB hsz
  go_enter Try.func40, Try.ntmps40
  go_wp2_with fail
  generalize (w.setCell ⟨B, 0, none⟩ (.map (some w.heap.size))).alloc (.map #[] 0) = w1 at *

  refine wp_region_last (by kernel_rfl) 7 (fun W => Below w1.heap.size w1 W) (fun W => PutTo10 w B none (putV [] g.data.toList (b, l)) W) (YPut10 B w.heap.size b g) (fun _ => True) ?F ?hF (by kernel_rfl) (by kernel_rfl) (by kernel_rfl) (by kernel_rfl) (by decide) (below_drew (Below.refl _ _)) ?step ?fin
  case hF =>
    intro x
    simp only [List.map_cons, List.map_nil, putL, Act.put, List.setIfInBounds_toArray, List.set_cons_zero, List.set_cons_succ, Nat.zero_add, Nat.reduceAdd]
    exact rfl
  case step =>
    refine ⟨?_, ?_, ?_, ?_, ?_, ?_, ?_, ?_, trivial⟩
    · intro x W
      refine ⟨fun _ hW hdep K hK => ?_, (fun h => absurd h (by decide)), (fun h => absurd h (by decide))⟩
      clear hdep
      go_simp
      exact hK _ _ rfl hW (fun _ _ h => h)
    · intro x W
      refine ⟨fun _ hW hdep K hK => ?_, (fun h => absurd h (by decide)), (fun h => absurd h (by decide))⟩
      have h0 : x 0 = _ := hdep 0 rfl
      clear hdep
      simp only [h0] at hK
      go_simp
      exact hK _ _ rfl hW (fun _ _ h => h)
    · intro x W
      refine ⟨fun _ hW hdep K hK => ?_, (fun h => absurd h (by decide)), (fun h => absurd h (by decide))⟩
      have h1 : x 1 = _ := hdep 1 rfl
      clear hdep
      simp only [h1] at hK
      go_simp
      exact hK _ _ rfl hW (fun _ _ h => h)
    · intro x W
      refine ⟨fun _ hW hdep K hK => ?_, (fun h => absurd h (by decide)), (fun h => absurd h (by decide))⟩
      have h2 : x 2 = _ := hdep 2 rfl
      have c := (HG1.out.later hW).cell
      clear hdep
      simp only [h2] at hK
      go_simp
      exact hK _ _ rfl hW (fun _ _ h => h)
    · intro x W
      refine ⟨fun _ hW hdep K hK => ?_, (fun h => absurd h (by decide)), (fun h => absurd h (by decide))⟩
      clear hdep
      go_simp
      exact hK _ _ rfl hW (fun _ _ h => h)
    · intro x W
      refine ⟨fun _ hW hdep K hK => ?_, (fun h => absurd h (by decide)), (fun h => absurd h (by decide))⟩
      have h4 : x 4 = _ := hdep 4 rfl
      have hc := HC.out W
      clear hdep
      simp only [h4] at hK
      go_simp
      refine hc.mono ?_
      rintro e W' ⟨rfl, hb⟩
      exact hK _ _ rfl (below_next hW hb) (fun _ _ h => h)
    · intro x W
      refine ⟨fun _ hW hdep K hK => ?_, (fun h => absurd h (by decide)), (fun h => absurd h (by decide))⟩
      clear hdep
      go_simp
      exact hK _ _ rfl hW (fun _ _ h => h)
    · intro x W
      refine ⟨(fun h => absurd h (by decide)), fun _ hW hdep K hK => ?_, (fun h => absurd h (by decide))⟩
      have h3 : x 3 = _ := hdep 3 rfl
      have h5 : x 5 = _ := hdep 5 rfl
      have h6 : x 6 = _ := hdep 6 rfl
      obtain ⟨w', hrun, hg⟩ := HST.out W hW
      clear hdep
      simp only [h3, h5, h6] at hK
      go_simp
      exact hK undef _ trivial hg
  case fin =>
    intro x W hW _
    have HF := Lib.hid hW
    clear hW HG1 HST HC
    go_end0
    exact ⟨rfl, HF.out⟩

theorem put10_calls (B b : Nat) (p : Option Nat) (T : Rows10) (l : Set10) (g : ByteArray) (w : World) (h : Grp10 w B p T) (hs : Set10At w b l) (hn : ∀ x ∈ T, x.2.1 ≠ b) (hm : p ≠ some b) (hf : T.length ≤ 1000) (hg : g.size ≤ 1000) :
    Calls Try.prog 40 #[.pointer (some ⟨B, 0, none⟩), .string g, .map (some b)] w fun e w' => e = .returned (.tuple #[]) ∧ PutTo10 w B p (putV T g.data.toList (b, l)) w' := by
  cases p with
  | none =>
    have := h.nil rfl
    subst this
    exact put10_none B b l g w h hs hg
  | some m => exact put10_some B m b T l g w h hs hn (fun e => hm (by rw [e])) hf hg

set_option maxRecDepth 100000 in
set_option maxHeartbeats 1000000 in
theorem find10_none (B : Nat) (p : Option Nat) (T : Rows10) (g : ByteArray) (w : World) (h : Grp10 w B p T) (hg : g.size ≤ 9223372036854775807) :
    Calls Try.prog 32 #[.pointer (some ⟨B, 0, none⟩), .string g, .slice none 0 0] w fun e w' => e = .returned (.tuple #[.map (if findE10 (plain10 T) g.data.toList [] = 0 then blk10 T g.data.toList else none), .int .i64 (findE10 (plain10 T) g.data.toList [])]) ∧ Below w.heap.size w w' := by
  have HI := Lib.hid h
  have hb0 : Below w.heap.size w (w.alloc (.cells #[.string g] 9)) := below_alloc (Below.refl _ _) _
  have HN := Lib.hid (areNames_one w.heap.size g _ hg (show (w.alloc (.cells #[.string g] 9)).cell? ⟨w.heap.size, 0, none⟩ = some (.string g) by rw [World.cell?_alloc_at _ _ _ _ rfl]; rfl))
  have HB0 := Lib.hid hb0
  have HLK : Hid (∀ W, Below w.heap.size w W → (Instr.lookup 51 (.map p) (.string g) true).run Try.prog W = .ok (.tuple #[.map (blk10 T g.data.toList), .bool (hasV T g.data.toList)]) W) := fun W hb => look10 (h.later hb) g (Nat.le_trans hg (by decide))
  unfold findE10
  rw [plain10_has]
  have hbn : hasV T g.data.toList = false → blk10 T g.data.toList = none := blk10_none
  clear hb0 h
  generalize blk10 T g.data.toList = o at *
  generalize hasV T g.data.toList = b at *
  generalize name5 g.data.toList = a at *
  cases a with
  | false =>
    show Calls _ _ _ _ fun e w' => e = .returned (.tuple #[.map none, .int .i64 10]) ∧ Below w.heap.size w w'
    go_enter Try.func32, Try.ntmps32
    go_wp2_with fail
    with_reducible refine HN.out.mono ?_
    rintro e w1 ⟨rfl, hb⟩
    have HB := Lib.hid (below_next HB0.out hb)
    clear hb HN
    go_wp2
    go_ret2
    exact ⟨rfl, HB.out⟩
  | true =>
    cases b with
    | false =>
      rw [hbn rfl]
      show Calls _ _ _ _ fun e w' => e = .returned (.tuple #[.map none, .int .i64 8]) ∧ Below w.heap.size w w'
      go_enter Try.func32, Try.ntmps32
      go_wp2_with fail
      with_reducible refine HN.out.mono ?_
      rintro e w1 ⟨rfl, hb⟩
      have hb1 := below_next HB0.out hb
      have HB1 := Lib.hid hb1
      have HM1 := Lib.hid (areNames_none w1)
      clear hb hb1
      go_wp2_with fail
      with_reducible refine HM1.out.mono ?_
      rintro e w2 ⟨rfl, rfl⟩
      have HB2 := HB1
      clear HM1
      have c2 := (HI.out.later HB2.out).cell
      have l2 := HLK.out _ HB2.out
      clear HN HLK HI
      go_wp2
      go_ret2
      exact ⟨rfl, HB2.out⟩
    | true =>
      show Calls _ _ _ _ fun e w' => e = .returned (.tuple #[.map o, .int .i64 0]) ∧ Below w.heap.size w w'
      go_enter Try.func32, Try.ntmps32
      go_wp2_with fail
      with_reducible refine HN.out.mono ?_
      rintro e w1 ⟨rfl, hb⟩
      have hb1 := below_next HB0.out hb
      have HB1 := Lib.hid hb1
      have HM1 := Lib.hid (areNames_none w1)
      clear hb hb1
      go_wp2_with fail
      with_reducible refine HM1.out.mono ?_
      rintro e w2 ⟨rfl, rfl⟩
      have HB2 := HB1
      clear HM1
      have c2 := (HI.out.later HB2.out).cell
      have l2 := HLK.out _ HB2.out
      clear HN HLK HI
      go_wp2
      go_ret2
      exact ⟨rfl, HB2.out⟩

set_option maxRecDepth 100000 in
set_option maxHeartbeats 1000000 in
theorem find10_one (B : Nat) (p : Option Nat) (T : Rows10) (g : ByteArray) (A : Nat) (n : ByteArray) (w : World) (h : Grp10 w B p T) (hg : g.size ≤ 9223372036854775807) (hn : n.size ≤ 9223372036854775807) (hA : w.cell? ⟨A, 0, none⟩ = some (.string n)) :
    Calls Try.prog 32 #[.pointer (some ⟨B, 0, none⟩), .string g, .slice (some ⟨A, 0, none⟩) 1 1] w fun e w' => e = .returned (.tuple #[.map (if findE10 (plain10 T) g.data.toList [n.data.toList] = 0 then blk10 T g.data.toList else none), .int .i64 (findE10 (plain10 T) g.data.toList [n.data.toList])]) ∧ Below w.heap.size w w' := by
  have HI := Lib.hid h
  have hb0 : Below w.heap.size w (w.alloc (.cells #[.string g] 9)) := below_alloc (Below.refl _ _) _
  have HN := Lib.hid (areNames_one w.heap.size g _ hg (show (w.alloc (.cells #[.string g] 9)).cell? ⟨w.heap.size, 0, none⟩ = some (.string g) by rw [World.cell?_alloc_at _ _ _ _ rfl]; rfl))
  have HB0 := Lib.hid hb0
  have HLK : Hid (∀ W, Below w.heap.size w W → (Instr.lookup 51 (.map p) (.string g) true).run Try.prog W = .ok (.tuple #[.map (blk10 T g.data.toList), .bool (hasV T g.data.toList)]) W) := fun W hb => look10 (h.later hb) g (Nat.le_trans hg (by decide))
  unfold findE10
  rw [plain10_has]
  have hbn : hasV T g.data.toList = false → blk10 T g.data.toList = none := blk10_none
  have lA : A < w.heap.size := World.block_lt_of_cell? w _ hA
  have HM : Hid (∀ W, Below w.heap.size w W → Calls Try.prog 38 #[.slice (some ⟨A, 0, none⟩) 1 1] W (Tells5 (name5 n.data.toList) W)) := fun W hb => areNames_one A n W hn ((hb.cell (p := ⟨A, 0, none⟩) lA).trans hA)
  clear hA lA
  simp only [List.all_cons, List.all_nil, Bool.and_true]
  generalize name5 n.data.toList = d at *
  clear hb0 h
  generalize blk10 T g.data.toList = o at *
  generalize hasV T g.data.toList = b at *
  generalize name5 g.data.toList = a at *
  cases a with
  | false =>
    show Calls _ _ _ _ fun e w' => e = .returned (.tuple #[.map none, .int .i64 10]) ∧ Below w.heap.size w w'
    go_enter Try.func32, Try.ntmps32
    go_wp2_with fail
    with_reducible refine HN.out.mono ?_
    rintro e w1 ⟨rfl, hb⟩
    have HB := Lib.hid (below_next HB0.out hb)
    clear hb HN
    go_wp2
    go_ret2
    exact ⟨rfl, HB.out⟩
  | true =>
    cases d with
    | false =>
      show Calls _ _ _ _ fun e w' => e = .returned (.tuple #[.map none, .int .i64 10]) ∧ Below w.heap.size w w'
      go_enter Try.func32, Try.ntmps32
      go_wp2_with fail
      with_reducible refine HN.out.mono ?_
      rintro e w1 ⟨rfl, hb⟩
      have hb1 := below_next HB0.out hb
      have HB1 := Lib.hid hb1
      have HM1 := Lib.hid (HM.out w1 hb1)
      clear hb hb1
      go_wp2_with fail
      with_reducible refine HM1.out.mono ?_
      rintro e w2 ⟨rfl, hb⟩
      have HB2 := Lib.hid (below_next HB1.out hb)
      clear hb HM1 HM
      go_wp2
      go_ret2
      exact ⟨rfl, HB2.out⟩
    | true =>
      cases b with
      | false =>
        rw [hbn rfl]
        show Calls _ _ _ _ fun e w' => e = .returned (.tuple #[.map none, .int .i64 8]) ∧ Below w.heap.size w w'
        go_enter Try.func32, Try.ntmps32
        go_wp2_with fail
        with_reducible refine HN.out.mono ?_
        rintro e w1 ⟨rfl, hb⟩
        have hb1 := below_next HB0.out hb
        have HB1 := Lib.hid hb1
        have HM1 := Lib.hid (HM.out w1 hb1)
        clear hb hb1
        go_wp2_with fail
        with_reducible refine HM1.out.mono ?_
        rintro e w2 ⟨rfl, hb⟩
        have HB2 := Lib.hid (below_next HB1.out hb)
        clear hb HM1 HM
        have c2 := (HI.out.later HB2.out).cell
        have l2 := HLK.out _ HB2.out
        clear HN HLK HI
        go_wp2
        go_ret2
        exact ⟨rfl, HB2.out⟩
      | true =>
        show Calls _ _ _ _ fun e w' => e = .returned (.tuple #[.map o, .int .i64 0]) ∧ Below w.heap.size w w'
        go_enter Try.func32, Try.ntmps32
        go_wp2_with fail
        with_reducible refine HN.out.mono ?_
        rintro e w1 ⟨rfl, hb⟩
        have hb1 := below_next HB0.out hb
        have HB1 := Lib.hid hb1
        have HM1 := Lib.hid (HM.out w1 hb1)
        clear hb hb1
        go_wp2_with fail
        with_reducible refine HM1.out.mono ?_
        rintro e w2 ⟨rfl, hb⟩
        have HB2 := Lib.hid (below_next HB1.out hb)
        clear hb HM1 HM
        have c2 := (HI.out.later HB2.out).cell
        have l2 := HLK.out _ HB2.out
        clear HN HLK HI
        go_wp2
        go_ret2
        exact ⟨rfl, HB2.out⟩
end Go.Proofs.Ytmjmglakpnjfkaa
