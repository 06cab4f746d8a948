/-
  Copy of the groups: set by set, in whatever order, each cloned. Groups of the law's own.
  Conditions: groups with names of at most 1000 bytes, at most 1000 of them.
-/
import Derived.Test.YtmjmglakpnjfkaaGroupRen
namespace Go.Proofs.Ytmjmglakpnjfkaa
open Go.RowKit Go.Maps

theorem riseV_ext {V : Type} : ∀ {a b : RowV V}, RiseV a → RiseV b → (∀ x, x ∈ a ↔ x ∈ b) → a = b
  | [], [], _, _, _ => rfl
  | [], y :: s, _, _, h => absurd ((h y).2 (by simp)) (by simp)
  | x :: r, [], _, _, h => absurd ((h x).1 (by simp)) (by simp)
  | x :: r, y :: s, ha, hb, h => by
    obtain ⟨a1, a2⟩ := List.pairwise_cons.1 ha
    obtain ⟨b1, b2⟩ := List.pairwise_cons.1 hb
    have e : x = y := by
      rcases List.mem_cons.1 ((h x).1 (by simp)) with e | hx
      · exact e
      · rcases List.mem_cons.1 ((h y).2 (by simp)) with e | hy
        · exact e.symm
        · exact absurd (b1 _ hx) (by rw [before_anti (a1 _ hy)]; exact Bool.noConfusion)
    subst e
    rw [riseV_ext a2 b2 fun z => ?_]
    constructor
    · intro hz
      rcases List.mem_cons.1 ((h z).1 (by simp [hz])) with e | h'
      · subst e; exact absurd (a1 _ hz) (by rw [before_irrefl]; exact Bool.noConfusion)
      · exact h'
    · intro hz
      rcases List.mem_cons.1 ((h z).2 (by simp [hz])) with e | h'
      · subst e; exact absurd (b1 _ hz) (by rw [before_irrefl]; exact Bool.noConfusion)
      · exact h'
/-- What has been copied: all that is no longer to come. -/
def Cop10 (S' S : Grs10) (left : Lit → Bool) : Prop := RiseV S' ∧ ∀ q, q ∈ S' ↔ q ∈ S ∧ left (.string q.1) = false
theorem Cop10.start (T : Rows10) : Cop10 [] (plain10 T) (Maps.has (datV eb10 T)) := ⟨List.Pairwise.nil, fun q => by
  constructor
  · intro h; cases h
  · rintro ⟨hq, h⟩
    rw [datV_has, ← plain10_has, hasV_iff.2 ⟨q, hq, rfl⟩] at h
    cases h⟩
theorem Cop10.step {S' S : Grs10} {left : Lit → Bool} (hr : RiseV S) (h : Cop10 S' S left) {k : List UInt8} {l : Set10} (hk : (k, l) ∈ S) : Cop10 (putV S' k l) S (fun z => left z && !z.sameKey (.string k)) := by
  refine ⟨riseV_put h.1 k l, fun q => ?_⟩
  rw [mem_putV, h.2]
  by_cases e : q.1 = k
  · constructor
    · rintro (rfl | ⟨_, h'⟩)
      · exact ⟨hk, by simp [Lit.sameKey]⟩
      · exact absurd e h'
    · rintro ⟨hq, _⟩
      exact .inl (riseV_one hr hq hk e)
  · constructor
    · rintro (rfl | ⟨⟨hq, hl⟩, _⟩)
      · exact absurd rfl e
      · exact ⟨hq, by simp [hl]⟩
    · rintro ⟨hq, hl⟩
      exact .inr ⟨⟨hq, by simpa [Lit.sameKey, e] using hl⟩, e⟩
theorem Cop10.end_ {S' S : Grs10} {left : Lit → Bool} (hr : RiseV S) (h : Cop10 S' S left) (hl : ∀ kl, left kl = false) : S' = S :=
  riseV_ext h.1 hr fun q => by rw [h.2, hl]; simp
theorem ranges_turns10 {w w' : World} {P : Program} {k : TypeId} {R : Value → Option (DataW Unit × List MemPlace)} {b r n : Nat} {D : DataW Unit} {left : Lit → Bool} {cnt : Nat} {S : Nat → Prop} (h : w.ranges P k R b r n D left cnt) (ht : Turns S w w') (hb : ¬ S b) (hr : ¬ S r) : w'.ranges P k R b r n D left cnt := by
  have h1 := h.owns.lt
  have h2 := h.lt
  obtain ⟨es, clock, since, seen, c0, hb', F, hs, hD, hr', rest⟩ := h
  exact ⟨es, clock, since, seen, c0, (ht.block b h1 hb).trans hb', F, hs, hD, (ht.block r h2 hr).trans hr', rest⟩
theorem iter_ne10 {w : World} {P : Program} {k : TypeId} {R : Value → Option (DataW Unit × List MemPlace)} {b r n : Nat} {D : DataW Unit} {left : Lit → Bool} {cnt : Nat} (h : w.ranges P k R b r n D left cnt) :
    (∀ c T fr, w.heap[r]? ≠ some (.cells c T fr)) ∧ ∀ es cl, w.heap[r]? ≠ some (.map es cl) := by
  obtain ⟨es, clock, since, seen, c0, _, _, _, _, hr', _⟩ := h
  refine ⟨fun c T fr e => ?_, fun es cl e => ?_⟩
  · rw [hr'] at e
    injection e with e
    cases e
  · rw [hr'] at e
    injection e with e
    cases e
theorem owns_obj10 {w : World} {R : Value → Option (DataW Unit × List MemPlace)} {b n : Nat} {D : DataW Unit} (h : w.ownsMap Try.prog 9 R b n D) : ∃ es cl, w.heap[b]? = some (.map es cl) := by
  obtain ⟨es, clock, h1, _⟩ := h
  exact ⟨es, clock, h1⟩
theorem clone10_calls (b : Nat) (L : Set10) (w : World) (h : Set10At w b L) : Calls Try.prog 43 #[.map (some b)] w fun e w' => e = .returned (.map (some w.heap.size)) ∧ Set10At w' w.heap.size L ∧ Below w.heap.size w w' :=
  (AnyW.maps_Clone_owns Try.clone10 9 _ b _ _ w h).mono fun _ _ ⟨he, h1, _, hb⟩ => ⟨he, h1, hb⟩

/-- Groups apart, new since w. -/
def New10 (w W : World) (B : Nat) (p : Option Nat) (T : Rows10) : Prop := Grp10 W B p T ∧ w.heap.size ≤ B ∧ (∀ b, p = some b → w.heap.size ≤ b) ∧ ∀ x ∈ T, w.heap.size ≤ x.2.1
def Apart10 (S : Grs10) (w : World) (e : Ending) (w' : World) : Prop := ∃ b p T, e = .returned (.pointer (some ⟨b, 0, none⟩)) ∧ New10 w w' b p T ∧ plain10 T = S ∧ Below w.heap.size w w'
theorem PutTo10.new {w W W' : World} {B b : Nat} {p : Option Nat} {T : Rows10} {k : List UInt8} {l : Set10} (h : PutTo10 W B p (putV T k (b, l)) W') (hn : New10 w W B p T) (hw : w.heap.size ≤ W.heap.size) (hb : w.heap.size ≤ b) : ∃ p', New10 w W' B p' (putV T k (b, l)) ∧ Turns (fun i => i = B ∨ p = some i) W W' := by
  obtain ⟨p', hd, hp, ht⟩ := h
  obtain ⟨_, h1, h2, h3⟩ := hn
  refine ⟨p', ⟨hd, h1, fun c e => ?_, fun x hx => ?_⟩, ht⟩
  · rcases hp c e with e | e
    · exact h2 c e
    · exact Nat.le_trans hw e
  · rcases mem_putV.1 hx with rfl | ⟨hx, _⟩
    · exact hb
    · exact h3 x hx

set_option maxRecDepth 100000 in
set_option maxHeartbeats 2000000 in
theorem copy10_some (B m : Nat) (T : Rows10) (w : World) (h : Grp10 w B (some m) T) (hf : T.length ≤ 1000) (hnm : ∀ x ∈ T, x.1.length ≤ 1000) :
    Calls Try.prog 30 #[.pointer (some ⟨B, 0, none⟩)] w (Apart10 (plain10 T) w) := by
  have HNEW := Lib.hid (new10_calls w)
  have hb0 : Below w.heap.size w (w.alloc (.cells #[.map none] 53)) := below_alloc (Below.refl _ _) _
  have h1 := h.later hb0
  have hc := h1.cell
  have hown := h1.map m rfl
  have hml := h.mlt m rfl
  have HI := Lib.hid h
  have HNM := Lib.hid hnm
  have HW0 : Hid (New10 w (w.alloc (.cells #[.map none] 53)) w.heap.size none []) := ⟨grp10_new w, Nat.le_refl _, (fun _ h => nomatch h), (fun _ h => nomatch h)⟩
  have HB0 := Lib.hid hb0
  have hsz : Maps.size (datV eb10 T) = T.length := datV_size eb10 T
  have hs1 : (w.alloc (.cells #[.map none] 53)).heap.size = w.heap.size + 1 := by simp
  have hrs : RiseV (plain10 T) := riseV_names h.rise (plain10_names T)
  have HRS := Lib.hid hrs
  obtain ⟨C, hC⟩ : ∃ C, C = w.heap.size := ⟨_, rfl⟩
  rw [← hC] at HNEW HW0 hs1
  obtain ⟨len, hlen⟩ : ∃ len, len = T.length := ⟨_, rfl⟩
  rw [← hlen] at hf hsz
  have HLN := Lib.hid hlen
  have HCC := Lib.hid hC
  clear h h1 hb0 hnm hrs hlen hC
  go_enter Try.func30, Try.ntmps30
  go_wp2_with fail
  with_reducible refine HNEW.out.mono ?_
  rintro e w1 ⟨rfl, rfl⟩
  generalize w.alloc (.cells #[.map none] 53) = w1 at *
  go_wp2_with (first
    | (at_range; refine wpList_range_own _ rfl _ 51 rfl 9 59 keyed10 Try.underlying51 _ m _ _ rfl hown ?_; intro w0 hrg0 hg0 hs0)
    | go_in)
  go_frame
  rw [hsz, ← HLN.out] at hrg0
  rw [hs1] at hrg0 hs0 ⊢
  have hb01 : Below w1.heap.size w1 w0 := (Below.refl _ _).grown hg0 (Nat.le_refl _) (fun j hj => by cases hj)
  have HN0 : Hid (New10 w w0 C none []) := ⟨HW0.out.1.later hb01, HW0.out.2⟩
  have HBB : Hid (Below w.heap.size w w0) := below_next HB0.out hb01
  clear hg0 hs0 hown hsz hc hb01 HW0 HB0
  go_loopw [4] (fun _ wr => ∃ (left : Lit → Bool) (cnt : Nat) (p' : Option Nat) (T' : Rows10), Hid (wr.ranges Try.prog 9 R10 m (C + 1) len (datV eb10 T) left cnt) ∧ T'.length + cnt ≤ len ∧
      Hid (New10 w wr C p' T') ∧ Hid (Cop10 (plain10 T') (plain10 T) left) ∧ Hid (Below w.heap.size w wr))
    (fun _ wr => wr.rangeLeft m (C + 1))
  case atStart => exact ⟨_, _, none, [], hrg0, by simp, HN0, Cop10.start T, HBB⟩
  case round =>
    obtain ⟨left, cnt, p', T', HRG, hcs, HNW, HC, HBW⟩ := hrel
    have hrg := HRG.out
    go_wp2_with (first
      | (at_next; refine wpList_next_ranges _ rfl _ rfl 9 keyed10 R10 encStr Value.map (fun key kl hk => by obtain ⟨x, hx, _⟩ := Maps.keyOf_str Try.underlying9 hk; exact ⟨x, hx⟩) (fun v y hv => by obtain ⟨c, rfl, _⟩ := r10_inv hv; exact ⟨c, rfl⟩) m (C + 1) len _ _ _ rfl hrg ?_ ?_)
      | go_in)
    · intro hc0 hl0
      have hend := HC.out.end_ HRS.out hl0
      have HF : Hid (Apart10 (plain10 T) w (.returned (.pointer (some ⟨C, 0, none⟩))) wr) := ⟨C, p', T', rfl, HNW.out, hend, HBW.out⟩
      clear hend hl0 hrg
      go_wp2
      go_ret
      exact HF.out
    · intro x c kl yd yp w2 cnt2 hkey hlk hv hat hrg2 hlt hg2 hs2 hen
      obtain ⟨x', ex, rfl, _⟩ := Maps.keyOf_str Try.underlying9 hkey
      obtain rfl : x = x' := encStr_inj ex
      obtain ⟨q, hqT, rfl, hpe⟩ := coll10_at HI.out.rise hat
      obtain rfl : (some q.2.1) = c := by
        obtain ⟨o, ho, hz⟩ := r10_inv hv
        have e1 : c = o := by injection ho
        have e2 : ob10 (some q.2.1) = ob10 o := hpe.trans hz
        rw [e1]; exact ob10_inj e2
      have hit := iter_ne10 hrg
      have hrr : w.heap.size ≤ C + 1 := by rw [← HCC.out]; omega
      have hnx2 : Below w.heap.size w w2 := HBW.out.grown hg2 HBW.out.size (fun j hj => by cases hj; exact hrr)
      have hgt : Turns (fun i => i = C + 1) wr w2 := (Turns.refl _ wr).grown hg2 (fun j hj _ => by cases hj; rfl)
      have hN2 : New10 w w2 C p' T' := by
        refine ⟨HNW.out.1.turns hgt (fun e => ?_) (fun b hb e => ?_) (fun x hx e => ?_), HNW.out.2⟩
        · have := HNW.out.1.blk
          rw [e] at this
          exact hit.1 _ _ _ this
        · obtain ⟨es, cl, ho⟩ := owns_obj10 (HNW.out.1.map b hb)
          rw [e] at ho
          exact hit.2 _ _ ho
        · obtain ⟨es, cl, ho⟩ := owns_obj10 (HNW.out.1.sets x hx)
          rw [e] at ho
          exact hit.2 _ _ ho
      have HLT : Hid (cnt2 < wr.rangeLeft m (C + 1)) := by rw [show wr.rangeLeft m (C + 1) = cnt from hrg.left_eq]; exact hlt
      have hset : Set10At w2 q.2.1 q.2.2 := (HI.out.later hnx2).sets q hqT
      have hcl := clone10_calls q.2.1 q.2.2 w2 hset
      have hkv : encStr q.1 = .string (tx10 q.1) := rfl
      have hkl2 : (tx10 q.1).size ≤ 1000 := by rw [tx10_size]; exact HNM.out q hqT
      have hln2 : T'.length ≤ 1000 := by omega
      have hcop := HC.out.step HRS.out (k := q.1) (l := q.2.2) (List.mem_map.2 ⟨q, hqT, rfl⟩)
      have HPUT : Hid (∀ W, Below w2.heap.size w2 W → w2.heap.size < W.heap.size → Set10At W w2.heap.size q.2.2 → Calls Try.prog 40 #[.pointer (some ⟨C, 0, none⟩), .string (tx10 q.1), .map (some w2.heap.size)] W fun e w' => e = .returned (.tuple #[]) ∧
          ∃ p3 T3, Hid (w'.ranges Try.prog 9 R10 m (C + 1) len (datV eb10 T) (fun z => left z && !z.sameKey (.string q.1)) cnt2) ∧ T3.length + cnt2 ≤ len ∧ Hid (New10 w w' C p3 T3) ∧ Hid (Cop10 (plain10 T3) (plain10 T) (fun z => left z && !z.sameKey (.string q.1))) ∧ Hid (Below w.heap.size w w')) := fun W hb hlt2 hsW => by
        have hNW : New10 w W C p' T' := ⟨hN2.1.later hb, hN2.2⟩
        refine (put10_calls C w2.heap.size p' T' q.2.2 (tx10 q.1) W hNW.1 hsW (fun x hx e => ?_) (fun e => ?_) hln2 hkl2).mono fun e w' ⟨he, hp⟩ => ?_
        · have := hN2.1.slt x hx; omega
        · have := hN2.1.mlt _ e; omega
        · obtain ⟨p3, hn3, ht3⟩ := hp.new hNW (Nat.le_trans hnx2.size hb.size) hnx2.size
          rw [tx10_list] at hn3
          have hrgW := ranges_below10 hrg2 hb
          have hitW := iter_ne10 hrgW
          refine ⟨he, p3, _, ranges_turns10 hrgW ht3 (fun e => ?_) (fun e => ?_), ?_, hn3, (by show Cop10 _ _ _; rw [plain10_put]; exact hcop), ?_⟩
          · rcases e with e | e
            · have := hNW.2.1; omega
            · have := hNW.2.2.1 _ e; omega
          · rcases e with e | e
            · have := hNW.1.blk
              rw [← e] at this
              exact hitW.1 _ _ _ this
            · obtain ⟨es, cl, ho⟩ := owns_obj10 (hNW.1.map _ e)
              exact hitW.2 _ _ ho
          · have := putV_le T' q.1 (w2.heap.size, q.2.2); omega
          · exact (below_next hnx2 hb).trans (Turns.below_at ht3 (Nat.le_trans hnx2.size hb.size) (by
              rintro i (e | e)
              · rw [e]; exact hNW.2.1
              · exact hNW.2.2.1 i e))
      have HCL := Lib.hid hcl
      rw [hkv] at hen ⊢
      clear hs2 hnx2 hN2 hset hcl hkl2 hln2 hcop hat hv hpe hkey hg2 HRG hrg HNW HC hit hgt hlk hqT hkv hlt hrg2
      generalize tx10 q.1 = kv at *
      generalize q.2.1 = qb at *
      go_wp2_with fail
      with_reducible refine HCL.out.mono ?_
      rintro e w3 ⟨rfl, hs3, hb3⟩
      have HP3 := Lib.hid (HPUT.out w3 hb3 (World.ownsMap.lt hs3) hs3)
      clear hs3 hb3 HCL HPUT
      go_wp2_with fail
      with_reducible refine HP3.out.mono ?_
      rintro e w4 ⟨rfl, p4, T4, HR4, hc4, HN4, HC4, HB4⟩
      clear HP3
      go_wp2
      go_roundw
      case rel => exact ⟨_, cnt2, p4, T4, HR4, hc4, HN4, HC4, HB4⟩
      case measure => rw [HR4.out.left_eq]; exact HLT.out
set_option maxRecDepth 100000 in
theorem copy10_none (B : Nat) (w : World) (h : Grp10 w B none []) : Calls Try.prog 30 #[.pointer (some ⟨B, 0, none⟩)] w (Apart10 [] w) := by
  have HNEW := Lib.hid (new10_calls w)
  have hb0 : Below w.heap.size w (w.alloc (.cells #[.map none] 53)) := below_alloc (Below.refl _ _) _
  have hc := (h.later hb0).cell
  have hrg := run_range_nilMap (P := Try.prog) (w.alloc (.cells #[.map none] 53)) 51 9 59 Try.underlying51
  have hnx : ∀ ty, (Instr.next (.pointer (some ⟨(w.alloc (.cells #[.map none] 53)).heap.size, 0, none⟩)) false ty).run Try.prog ((w.alloc (.cells #[.map none] 53)).alloc (.mapIter none 0 #[] 0)) = _ := fun ty => run_next_nilMap _ ty 0 0 #[]
  have e1 : (w.alloc (.cells #[.map none] 53)).heap.size = w.heap.size + 1 := by simp
  rw [e1] at hrg hnx
  have HF : Hid (Apart10 [] w (.returned (.pointer (some ⟨w.heap.size, 0, none⟩))) ((w.alloc (.cells #[.map none] 53)).alloc (.mapIter none 0 #[] 0))) := by
    have hb1 : Below (w.alloc (.cells #[.map none] 53)).heap.size (w.alloc (.cells #[.map none] 53)) ((w.alloc (.cells #[.map none] 53)).alloc (.mapIter none 0 #[] 0)) := below_alloc (Below.refl _ _) _
    exact ⟨_, none, [], rfl, ⟨(grp10_new w).later hb1, Nat.le_refl _, (fun _ h => nomatch h), (fun _ h => nomatch h)⟩, rfl, below_next hb0 hb1⟩
  clear h hb0 e1
  go_enter Try.func30, Try.ntmps30
  go_wp2_with fail
  with_reducible refine HNEW.out.mono ?_
  rintro e w1 ⟨rfl, rfl⟩
  go_wp2
  refine wp_loop_rounds 1 ?_
  rw [rounds_succ]
  go_wp2
  go_ret
  exact HF.out
theorem copy10_calls (B : Nat) (p : Option Nat) (T : Rows10) (w : World) (h : Grp10 w B p T) (hf : T.length ≤ 1000) (hnm : ∀ x ∈ T, x.1.length ≤ 1000) :
    Calls Try.prog 30 #[.pointer (some ⟨B, 0, none⟩)] w (Apart10 (plain10 T) w) := by
  cases p with
  | none =>
    have := h.nil rfl
    subst this
    exact copy10_none B w h
  | some m => exact copy10_some B m T w h hf hnm
end Go.Proofs.Ytmjmglakpnjfkaa
