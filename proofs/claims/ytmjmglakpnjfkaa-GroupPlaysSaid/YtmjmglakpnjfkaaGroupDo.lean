/-
  Make, Drop, Join, Leave, Members, Of and All of the groups: what they tell, and what there is then.
  Conditions: texts are no longer than they may be; sets of at most 999 names.
-/
import Derived.Test.YtmjmglakpnjfkaaGroupPut
import Derived.Test.YtmjmglakpnjfkaaGroupRise
import Derived.Test.YtmjmglakpnjfkaaGroupRel
namespace Go.Proofs.Ytmjmglakpnjfkaa
open Go.RowKit Go.Maps

theorem name10_len {n : List UInt8} (h : name5 n = true) : n.length ≤ 12 := by
  unfold name5 pref5 at h
  simp only [Bool.and_eq_true, decide_eq_true_eq] at h
  exact h.1.1.2.1
theorem name10_size {s : ByteArray} (h : name5 s.data.toList = true) : s.size ≤ 1000 := by
  have := name10_len h
  rw [size_list] at this
  omega

theorem PutTo10.goes {w w2 w' : World} {B b : Nat} {p : Option Nat} {T : Rows10} {k : List UInt8} {l : Set10} (h : PutTo10 w2 B p (putV T k (b, l)) w') (hb : Below w.heap.size w w2) (hbn : w.heap.size ≤ b) : Goes10 w B p T (putV (plain10 T) k l) w' := by
  obtain ⟨p', hd, hp, ht⟩ := h
  refine ⟨p', _, hd, plain10_put T k (b, l), fun c e => (hp c e).imp id (fun h => Nat.le_trans hb.size h), fun x hx => ?_, (Turns.of_below hb _).next ht (fun i _ h => h.elim .inl (fun h => .inr (.inl h)))⟩
  rcases mem_putV.1 hx with rfl | ⟨hx, _⟩
  · exact .inr hbn
  · exact .inl ⟨x, hx, rfl⟩
/-- A group less. -/
theorem gdrop10 {w : World} {B : Nat} {p : Option Nat} {T : Rows10} (h : Grp10 w B p T) (s : ByteArray) (hs : s.size ≤ maxLen) (ty : TypeId) :
    ∃ w', (Builtin.delete_ #[51, 9] ty #[.map p, .string s]).run Try.prog w = .ok (.tuple #[]) w' ∧ Goes10 w B p T (delV (plain10 T) s.data.toList) w' := by
  cases p with
  | none =>
    have hL := h.nil rfl
    subst hL
    exact ⟨w, Maps.drop_nil keyed10 Try.underlying51 (key10 s hs) ty, Goes10.still h (Below.refl _ _)⟩
  | some m =>
    obtain ⟨w', hrun, hown, ht⟩ := (h.map m rfl).drop keyed10 Try.underlying51 (key10 s hs) ty
    rw [datV_del] at hown
    have htn : Turns (fun i => i = m) w w' := (Turns.refl _ w).grown ht.grown (fun k hk _ => by cases hk; rfl)
    refine ⟨w', hrun, some m, delV T s.data.toList, ⟨(htn.block B h.lt (fun e => h.mne m rfl e.symm)).trans h.blk, (fun e => nomatch e), fun c hc => ?_, fun x hx => ?_, fun x hx y hy => h.one x (mem_delV.1 hx).1 y (mem_delV.1 hy).1, fun x hx => h.off x (mem_delV.1 hx).1, riseV_del h.rise _⟩, plain10_del T _, (fun _ e => .inl e), fun x hx => .inl ⟨x, (mem_delV.1 hx).1, rfl⟩, ((Turns.refl _ w).next htn fun i _ e => .inr (.inl (by rw [e])))⟩
    · cases hc
      have := ownsMap_tight10 hown
      rwa [datV_size] at this
    · have hx' := (mem_delV.1 hx).1
      exact (h.sets x hx').kept (htn.block _ (h.slt x hx') (fun e => h.off x hx' (by rw [e])))
/-- A set that has turned. -/
theorem Goes10.set {w w1 w' : World} {B : Nat} {p : Option Nat} {T : Rows10} (h : Grp10 w B p T) (hb : Below w.heap.size w w1) {x : List UInt8 × (Nat × Set10)} (hx : x ∈ T) (f : Set10 → Set10) (hs : Set10At w' x.2.1 (f x.2.2)) (ht : Turns (fun i => i = x.2.1) w1 w') : Goes10 w B p T (updV f (plain10 T) x.1) w' := by
  refine ⟨p, _, (h.later hb).turned hx f hs ht, plain10_upd f T x.1, (fun _ e => .inl e), fun y hy => .inl ?_, (Turns.of_below hb _).next ht (fun i _ e => .inr (.inr ⟨x, hx, e.symm⟩))⟩
  obtain ⟨q, hq, rfl⟩ := updV_mem hy
  refine ⟨q, hq, ?_⟩
  show q.2.1 = (if q.1 = x.1 then (q.2.1, f q.2.2) else q.2).1
  split <;> rfl
theorem at10 {T : Rows10} {k : List UInt8} (h : hasV T k = true) : ∃ x ∈ T, x.1 = k := hasV_iff.1 h

set_option maxRecDepth 100000 in
set_option maxHeartbeats 1000000 in
theorem make10_calls (B : Nat) (p : Option Nat) (T : Rows10) (g : ByteArray) (w : World) (h : Grp10 w B p T) (hf : T.length ≤ 6) (hg : g.size ≤ 9223372036854775807) :
    Calls Try.prog 20 #[.pointer (some ⟨B, 0, none⟩), .string g] w fun e w' => e = .returned (.int .i64 (maE10 (plain10 T) g.data.toList)) ∧ Goes10 w B p T (maS10 (plain10 T) g.data.toList) w' := by
  have HI := Lib.hid h
  have HB0 : Hid (Below w.heap.size w (w.alloc (.cells #[.string g] 9))) := below_alloc (Below.refl _ _) _
  have HN := Lib.hid (areNames_one w.heap.size g _ hg (show (w.alloc (.cells #[.string g] 9)).cell? ⟨w.heap.size, 0, none⟩ = some (.string g) by rw [World.cell?_alloc_at _ _ _ _ rfl]; rfl))
  have HLK : Hid (∀ W, Below w.heap.size w W → (Instr.lookup 51 (.map p) (.string g) true).run Try.prog W = .ok (.tuple #[.map (blk10 T g.data.toList), .bool (hasV T g.data.toList)]) W) := fun W hb => look10 (h.later hb) g (Nat.le_trans hg (by decide))
  have HLE : Hid (∀ W ty, Below w.heap.size w W → (Builtin.len_ #[51] ty #[.map p]).run Try.prog W = .ok (.int .i64 T.length) W) := fun W ty hb => len10 (h.later hb) ty
  have hmm := @run_makeMap Try.prog
  unfold maS10 maE10
  rw [plain10_has, plain10_len]
  have HPT : Hid (name5 g.data.toList = true → ∀ W, Below w.heap.size w W → Calls Try.prog 40 #[.pointer (some ⟨B, 0, none⟩), .string g, .map (some W.heap.size)] (W.alloc (.map #[] 0)) fun e w' => e = .returned (.tuple #[]) ∧ Goes10 w B p T (putV (plain10 T) g.data.toList []) w') := fun hn W hb => by
    have hb2 : Below w.heap.size w (W.alloc (.map #[] 0)) := below_next hb (below_alloc (Below.refl _ _) _)
    refine (put10_calls B W.heap.size p T [] g _ (h.later hb2) (set10_made W) (fun x hx e => ?_) (fun e => ?_) (by omega) (name10_size hn)).mono fun e w' ⟨he, hp⟩ => ⟨he, hp.goes hb2 hb.size⟩
    · have := h.slt x hx; have := hb.size; omega
    · have := h.mlt _ e; have := hb.size; omega
  clear h
  generalize blk10 T g.data.toList = o at *
  generalize hasV T g.data.toList = b at *
  generalize name5 g.data.toList = a at *
  generalize putV (plain10 T) g.data.toList [] = S2 at *
  cases a with
  | false =>
    show Calls _ _ _ _ fun e w' => e = .returned (.int .i64 10) ∧ Goes10 w B p T (plain10 T) w'
    go_enter Try.func20, Try.ntmps20
    go_wp2_with fail
    with_reducible refine HN.out.mono ?_
    rintro e w1 ⟨rfl, hb⟩
    have HB := Lib.hid (below_next HB0.out hb)
    clear hb HN
    go_wp2
    go_ret
    exact ⟨rfl, Goes10.still HI.out HB.out⟩
  | true =>
    cases b with
    | true =>
      show Calls _ _ _ _ fun e w' => e = .returned (.int .i64 9) ∧ Goes10 w B p T (plain10 T) w'
      go_enter Try.func20, Try.ntmps20
      go_wp2_with fail
      with_reducible refine HN.out.mono ?_
      rintro e w1 ⟨rfl, hb⟩
      have hb1 := below_next HB0.out hb
      have HB := Lib.hid hb1
      have c1 := (HI.out.later hb1).cell
      have l1 := HLK.out _ hb1
      clear hb HN HLK hb1
      go_wp2
      go_ret
      exact ⟨rfl, Goes10.still HI.out HB.out⟩
    | false =>
      by_cases h6 : 6 ≤ T.length
      · have e7 : (if true = true then if false = true then (9 : Int) else if 6 ≤ T.length then 7 else 0 else 10) = 7 := by simp [h6]
        rw [e7, if_neg (by decide)]
        have z6 : (T.length : Int) ≥ 6 := by omega
        have x6 : decide ((T.length : Int) ≥ 6) = true := decide_eq_true z6
        clear e7
        generalize hTL : T.length = tl at *
        have HTL := Lib.hid hTL
        clear hTL
        go_enter Try.func20, Try.ntmps20
        go_wp2_with fail
        with_reducible refine HN.out.mono ?_
        rintro e w1 ⟨rfl, hb⟩
        have hb1 := below_next HB0.out hb
        have HB := Lib.hid hb1
        have c1 := (HI.out.later hb1).cell
        have l1 := HLK.out _ hb1
        have l2 := fun ty => HLE.out _ ty hb1
        clear hb HN HLK hb1 HLE
        go_wp2
        go_ret
        exact ⟨rfl, Goes10.still HI.out HB.out⟩
      · have e0 : (if true = true then if false = true then (9 : Int) else if 6 ≤ T.length then 7 else 0 else 10) = 0 := by simp [h6]
        rw [e0, if_pos rfl]
        have z6 : ¬ (T.length : Int) ≥ 6 := by omega
        have x6 : decide ((T.length : Int) ≥ 6) = false := decide_eq_false z6
        have HP2 := Lib.hid (HPT.out rfl)
        clear e0 HPT
        generalize hTL : T.length = tl at *
        have HTL := Lib.hid hTL
        clear hTL
        go_enter Try.func20, Try.ntmps20
        go_wp2_with fail
        with_reducible refine HN.out.mono ?_
        rintro e w1 ⟨rfl, hb⟩
        have hb1 := below_next HB0.out hb
        have c1 := (HI.out.later hb1).cell
        have l1 := HLK.out _ hb1
        have l2 := fun ty => HLE.out _ ty hb1
        have HP3 := Lib.hid (HP2.out _ hb1)
        clear hb HN HLK hb1 HLE HP2
        go_wp2_with fail
        with_reducible refine HP3.out.mono ?_
        rintro e w2 ⟨rfl, hg⟩
        have HG := Lib.hid hg
        clear hg HP3 c1 l1 l2
        go_wp2
        go_ret
        exact ⟨rfl, HG.out⟩

set_option maxRecDepth 100000 in
set_option maxHeartbeats 1000000 in
theorem drop10_calls (B : Nat) (p : Option Nat) (T : Rows10) (g : ByteArray) (w : World) (h : Grp10 w B p T) (hg : g.size ≤ 9223372036854775807) :
    Calls Try.prog 19 #[.pointer (some ⟨B, 0, none⟩), .string g] w fun e w' => e = .returned (.int .i64 (drE10 (plain10 T) g.data.toList)) ∧ Goes10 w B p T (drS10 (plain10 T) g.data.toList) w' := by
  have HI := Lib.hid h
  have HFN := Lib.hid (find10_none B p T g w h hg)
  have HDR : Hid (∀ W ty, Below w.heap.size w W → ∃ w', (Builtin.delete_ #[51, 9] ty #[.map p, .string g]).run Try.prog W = .ok (.tuple #[]) w' ∧ Goes10 w B p T (delV (plain10 T) g.data.toList) w') := fun W ty hb => by
    obtain ⟨w', h1, h2⟩ := gdrop10 (h.later hb) g (Nat.le_trans hg (by decide)) ty
    exact ⟨w', h1, h2.ahead hb⟩
  unfold drS10 drE10
  clear h
  by_cases hE : findE10 (plain10 T) g.data.toList [] = 0
  · rw [hE] at HFN ⊢
    rw [if_pos rfl] at HFN ⊢
    clear hE
    generalize delV (plain10 T) g.data.toList = S2 at *
    generalize blk10 T g.data.toList = o at *
    go_enter Try.func19, Try.ntmps19
    go_wp2_with fail
    with_reducible refine HFN.out.mono ?_
    rintro e w1 ⟨rfl, hb⟩
    have c1 := (HI.out.later hb).cell
    obtain ⟨w2, hrun, hg2⟩ := HDR.out w1 0 hb
    have HG := Lib.hid hg2
    clear hb hg2 HFN HDR HI
    go_wp2
    go_ret
    exact ⟨rfl, HG.out⟩
  · rw [if_neg hE]
    rw [if_neg hE] at HFN
    generalize findE10 (plain10 T) g.data.toList [] = r at *
    go_enter Try.func19, Try.ntmps19
    go_wp2_with fail
    with_reducible refine HFN.out.mono ?_
    rintro e w1 ⟨rfl, hb⟩
    have HB := Lib.hid hb
    clear hb HFN HDR
    go_wp2
    go_ret
    exact ⟨rfl, Goes10.still HI.out HB.out⟩

set_option maxRecDepth 100000 in
set_option maxHeartbeats 1000000 in
theorem join10_calls (B : Nat) (p : Option Nat) (T : Rows10) (g n : ByteArray) (w : World) (h : Grp10 w B p T) (hl : ∀ x ∈ T, x.2.2.length ≤ 1000) (hg : g.size ≤ 9223372036854775807) (hn : n.size ≤ 9223372036854775807) :
    Calls Try.prog 22 #[.pointer (some ⟨B, 0, none⟩), .string g, .string n] w fun e w' => e = .returned (.int .i64 (joE10 (plain10 T) g.data.toList n.data.toList)) ∧ Goes10 w B p T (joS10 (plain10 T) g.data.toList n.data.toList) w' := by
  have HI := Lib.hid h
  have hb0 : Below w.heap.size w (w.alloc (.cells #[.string n] 9)) := below_alloc (Below.refl _ _) _
  have HFN := Lib.hid (find10_one B p T g w.heap.size n _ (h.later hb0) hg hn (show (w.alloc (.cells #[.string n] 9)).cell? ⟨w.heap.size, 0, none⟩ = some (.string n) by rw [World.cell?_alloc_at _ _ _ _ rfl]; rfl))
  have HB0 := Lib.hid hb0
  unfold joS10 joE10
  clear hb0
  by_cases hE : findE10 (plain10 T) g.data.toList [n.data.toList] = 0
  · obtain ⟨z1, z2, z3⟩ := findE10_zero hE
    rw [plain10_has] at z3
    obtain ⟨x, hx, hxg⟩ := at10 z3
    have hsz : n.size ≤ 1000 := name10_size (by simpa using z2)
    have hin : in10 (plain10 T) g.data.toList n.data.toList = hasV x.2.2 n.data.toList := by
      unfold in10
      rw [← hxg, plain10_mem h.rise hx]
    have hblk : blk10 T g.data.toList = some x.2.1 := by rw [← hxg]; exact blk10_some h.rise hx
    rw [hE, hblk] at HFN
    rw [if_pos rfl] at HFN
    rw [hE, if_pos rfl, hin]
    have HLK : Hid (∀ W, Below w.heap.size w W → (Instr.lookup 59 (.map (some x.2.1)) (.string n) false).run Try.prog W = .ok (.bool (hasV x.2.2 n.data.toList)) W) := fun W hb => has10 ((h.sets x hx).kept (hb.block _ (h.slt x hx))) n (Nat.le_trans hn (by decide))
    have HDO : Hid (∀ W, Below w.heap.size w W → Calls Try.prog 39 #[.map (some x.2.1), .string n] W fun e w' => e = .returned (.tuple #[]) ∧ Goes10 w B p T (updV (fun l => putV l n.data.toList ()) (plain10 T) x.1) w') := fun W hb =>
      (setadd10_calls x.2.1 x.2.2 n W ((h.sets x hx).kept (hb.block _ (h.slt x hx))) (hl x hx) hsz).mono fun e w' ⟨he, h2, h3⟩ => ⟨he, Goes10.set h hb hx (fun l => putV l n.data.toList ()) h2 h3⟩
    clear h hE z1 z2 z3 hin hblk hsz hl
    rw [hxg] at HDO
    clear hx hxg
    generalize updV (fun l => putV l n.data.toList ()) (plain10 T) g.data.toList = S2 at *
    generalize hasV x.2.2 n.data.toList = r at *
    generalize x.2.1 = b at *
    cases r with
    | true =>
      show Calls _ _ _ _ fun e w' => e = .returned (.int .i64 9) ∧ Goes10 w B p T (plain10 T) w'
      go_enter Try.func22, Try.ntmps22
      go_wp2_with fail
      with_reducible refine HFN.out.mono ?_
      rintro e w1 ⟨rfl, hb⟩
      have hb1 := below_next HB0.out hb
      have HB := Lib.hid hb1
      have l1 := HLK.out _ hb1
      clear hb hb1 HFN HLK HDO
      go_wp2
      go_ret
      exact ⟨rfl, Goes10.still HI.out HB.out⟩
    | false =>
      show Calls _ _ _ _ fun e w' => e = .returned (.int .i64 0) ∧ Goes10 w B p T S2 w'
      go_enter Try.func22, Try.ntmps22
      go_wp2_with fail
      with_reducible refine HFN.out.mono ?_
      rintro e w1 ⟨rfl, hb⟩
      have hb1 := below_next HB0.out hb
      have l1 := HLK.out _ hb1
      have HD1 := Lib.hid (HDO.out _ hb1)
      clear hb hb1 HFN HLK HDO
      go_wp2_with fail
      with_reducible refine HD1.out.mono ?_
      rintro e w2 ⟨rfl, hg⟩
      have HG := Lib.hid hg
      clear hg HD1 l1
      go_wp2
      go_ret
      exact ⟨rfl, HG.out⟩
  · rw [if_neg hE, if_neg hE]
    rw [if_neg hE] at HFN
    clear h
    generalize findE10 (plain10 T) g.data.toList [n.data.toList] = r at *
    go_enter Try.func22, Try.ntmps22
    go_wp2_with fail
    with_reducible refine HFN.out.mono ?_
    rintro e w1 ⟨rfl, hb⟩
    have HB := Lib.hid (below_next HB0.out hb)
    clear hb HFN
    go_wp2
    go_ret
    exact ⟨rfl, Goes10.still HI.out HB.out⟩

set_option maxRecDepth 100000 in
set_option maxHeartbeats 1000000 in
theorem leave10_calls (B : Nat) (p : Option Nat) (T : Rows10) (g n : ByteArray) (w : World) (h : Grp10 w B p T) (hg : g.size ≤ 9223372036854775807) (hn : n.size ≤ 9223372036854775807) :
    Calls Try.prog 27 #[.pointer (some ⟨B, 0, none⟩), .string g, .string n] w fun e w' => e = .returned (.int .i64 (leE10 (plain10 T) g.data.toList n.data.toList)) ∧ Goes10 w B p T (leS10 (plain10 T) g.data.toList n.data.toList) w' := by
  have HI := Lib.hid h
  have hb0 : Below w.heap.size w (w.alloc (.cells #[.string n] 9)) := below_alloc (Below.refl _ _) _
  have HFN := Lib.hid (find10_one B p T g w.heap.size n _ (h.later hb0) hg hn (show (w.alloc (.cells #[.string n] 9)).cell? ⟨w.heap.size, 0, none⟩ = some (.string n) by rw [World.cell?_alloc_at _ _ _ _ rfl]; rfl))
  have HB0 := Lib.hid hb0
  unfold leS10 leE10
  clear hb0
  by_cases hE : findE10 (plain10 T) g.data.toList [n.data.toList] = 0
  · obtain ⟨z1, z2, z3⟩ := findE10_zero hE
    rw [plain10_has] at z3
    obtain ⟨x, hx, hxg⟩ := at10 z3
    have hsz : n.size ≤ 1000 := name10_size (by simpa using z2)
    have hin : in10 (plain10 T) g.data.toList n.data.toList = hasV x.2.2 n.data.toList := by
      unfold in10
      rw [← hxg, plain10_mem h.rise hx]
    have hblk : blk10 T g.data.toList = some x.2.1 := by rw [← hxg]; exact blk10_some h.rise hx
    rw [hE, hblk] at HFN
    rw [if_pos rfl] at HFN
    rw [hE, if_pos rfl, hin]
    have HLK : Hid (∀ W, Below w.heap.size w W → (Instr.lookup 59 (.map (some x.2.1)) (.string n) false).run Try.prog W = .ok (.bool (hasV x.2.2 n.data.toList)) W) := fun W hb => has10 ((h.sets x hx).kept (hb.block _ (h.slt x hx))) n (Nat.le_trans hn (by decide))
    have HDO : Hid (∀ W ty, Below w.heap.size w W → ∃ w', (Builtin.delete_ #[59, 9] ty #[.map (some x.2.1), .string n]).run Try.prog W = .ok (.tuple #[]) w' ∧ Goes10 w B p T (updV (fun l => delV l n.data.toList) (plain10 T) x.1) w') := fun W ty hb => by
      obtain ⟨w', h1, h2, h3⟩ := drop10 ((h.sets x hx).kept (hb.block _ (h.slt x hx))) n (Nat.le_trans hn (by decide)) ty
      exact ⟨w', h1, Goes10.set h hb hx (fun l => delV l n.data.toList) h2 ((Turns.refl _ W).grown h3.grown (fun k hk _ => by cases hk; rfl))⟩
    clear h hE z1 z2 z3 hin hblk hsz
    rw [hxg] at HDO
    clear hx hxg
    generalize updV (fun l => delV l n.data.toList) (plain10 T) g.data.toList = S2 at *
    generalize hasV x.2.2 n.data.toList = r at *
    generalize x.2.1 = b at *
    cases r with
    | false =>
      show Calls _ _ _ _ fun e w' => e = .returned (.int .i64 12) ∧ Goes10 w B p T (plain10 T) w'
      go_enter Try.func27, Try.ntmps27
      go_wp2_with fail
      with_reducible refine HFN.out.mono ?_
      rintro e w1 ⟨rfl, hb⟩
      have hb1 := below_next HB0.out hb
      have HB := Lib.hid hb1
      have l1 := HLK.out _ hb1
      clear hb hb1 HFN HLK HDO
      go_wp2
      go_ret
      exact ⟨rfl, Goes10.still HI.out HB.out⟩
    | true =>
      show Calls _ _ _ _ fun e w' => e = .returned (.int .i64 0) ∧ Goes10 w B p T S2 w'
      go_enter Try.func27, Try.ntmps27
      go_wp2_with fail
      with_reducible refine HFN.out.mono ?_
      rintro e w1 ⟨rfl, hb⟩
      have hb1 := below_next HB0.out hb
      have l1 := HLK.out _ hb1
      obtain ⟨w2, hrun, hg2⟩ := HDO.out w1 0 hb1
      have HG := Lib.hid hg2
      clear hb hb1 HFN HLK HDO hg2
      go_wp2
      go_ret
      exact ⟨rfl, HG.out⟩
  · rw [if_neg hE, if_neg hE]
    rw [if_neg hE] at HFN
    clear h
    generalize findE10 (plain10 T) g.data.toList [n.data.toList] = r at *
    go_enter Try.func27, Try.ntmps27
    go_wp2_with fail
    with_reducible refine HFN.out.mono ?_
    rintro e w1 ⟨rfl, hb⟩
    have HB := Lib.hid (below_next HB0.out hb)
    clear hb HFN
    go_wp2
    go_ret
    exact ⟨rfl, Goes10.still HI.out HB.out⟩

set_option maxRecDepth 100000 in
set_option maxHeartbeats 1000000 in
theorem members10_calls (B : Nat) (p : Option Nat) (T : Rows10) (g : ByteArray) (w : World) (h : Grp10 w B p T) (hs : ∀ x ∈ T, RiseV x.2.2) (hl : ∀ x ∈ T, x.2.2.length ≤ 1000) (hg : g.size ≤ 9223372036854775807) :
    Calls Try.prog 12 #[.pointer (some ⟨B, 0, none⟩), .string g] w fun e w' => ∃ v, e = .returned (.tuple #[v, .int .i64 (drE10 (plain10 T) g.data.toList)]) ∧ w'.ownsRow w.heap.size 9 1 v (meL10 (plain10 T) g.data.toList).length ((meL10 (plain10 T) g.data.toList).map encStr) ∧ Below w.heap.size w w' := by
  have HFN := Lib.hid (find10_none B p T g w h hg)
  have HRS : Hid (∀ W, Below w.heap.size w W → Calls Try.prog 33 #[.map (if findE10 (plain10 T) g.data.toList [] = 0 then blk10 T g.data.toList else none), .slice none 0 0] W (Names10 (meL10 (plain10 T) g.data.toList) W)) := fun W hb => by
    unfold meL10 drE10
    by_cases hE : findE10 (plain10 T) g.data.toList [] = 0
    · obtain ⟨z1, z2, z3⟩ := findE10_zero hE
      rw [plain10_has] at z3
      obtain ⟨x, hx, hxg⟩ := at10 z3
      rw [if_pos hE, if_pos hE, ← hxg, blk10_some h.rise hx, plain10_mem h.rise hx]
      have := riseb10_calls x.2.1 x.2.2 (fun _ => true) (.slice none 0 0) W (hs x hx) (hl x hx) ((h.sets x hx).kept (hb.block _ (h.slt x hx))) (fun W' _ y _ => everyb_none true W')
      rwa [List.filter_eq_self.2 (fun _ _ => rfl)] at this
    · rw [if_neg hE, if_neg hE]
      exact riseb10_nil _ W
  unfold drE10 at *
  clear h hs hl
  generalize meL10 (plain10 T) g.data.toList = ls at *
  generalize (if findE10 (plain10 T) g.data.toList [] = 0 then blk10 T g.data.toList else none) = o at *
  generalize findE10 (plain10 T) g.data.toList [] = r at *
  go_enter Try.func12, Try.ntmps12
  go_wp2_with fail
  with_reducible refine HFN.out.mono ?_
  rintro e w1 ⟨rfl, hb⟩
  have HB := Lib.hid hb
  have HR1 := Lib.hid (HRS.out w1 hb)
  clear hb HFN HRS
  go_wp2_with fail
  with_reducible refine HR1.out.mono ?_
  rintro e w2 ⟨v, rfl, hr, hb⟩
  have HO := Lib.hid (ownsRow_low10 hr HB.out.size)
  have HB2 := Lib.hid (below_next HB.out hb)
  obtain ⟨A, c, rfl⟩ : ∃ A c, v = .slice A ls.length c := by
    rcases hr.2 with ⟨rfl, hz⟩ | ⟨g, cap, cur, rfl, _⟩
    · exact ⟨none, 0, by rw [hz]⟩
    · exact ⟨_, cap, rfl⟩
  clear hr hb HR1
  go_wp2
  go_ret2
  exact ⟨_, rfl, HO.out, HB2.out⟩

set_option maxRecDepth 100000 in
set_option maxHeartbeats 1000000 in
theorem all10_calls (B : Nat) (p : Option Nat) (T : Rows10) (w : World) (h : Grp10 w B p T) (hf : T.length ≤ 1000) :
    Calls Try.prog 11 #[.pointer (some ⟨B, 0, none⟩)] w (Names10 (names10 (plain10 T)) w) := by
  have HRS : Hid (Calls Try.prog 31 #[.map p, .slice none 0 0] w (Names10 (names10 (plain10 T)) w)) := by
    rw [plain10_names]
    cases p with
    | none =>
      have := h.nil rfl
      subst this
      exact rises10_nil _ w
    | some m =>
      have := rises10_calls m T (fun _ => true) (.slice none 0 0) w h.rise hf (h.map m rfl) (fun W' _ y _ => everys_none _ W')
      rwa [List.filter_eq_self.2 (fun _ _ => rfl)] at this
  have hc := h.cell
  clear h
  generalize names10 (plain10 T) = ls at *
  go_enter Try.func11, Try.ntmps11
  go_wp2_with fail
  with_reducible refine HRS.out.mono ?_
  rintro e w2 ⟨v, rfl, hr, hb⟩
  have HN : Hid (Names10 ls w (.returned v) w2) := ⟨v, rfl, hr, hb⟩
  obtain ⟨A, c, rfl⟩ : ∃ A c, v = .slice A ls.length c := by
    rcases hr.2 with ⟨rfl, hz⟩ | ⟨g, cap, cur, rfl, _⟩
    · exact ⟨none, 0, by rw [hz]⟩
    · exact ⟨_, cap, rfl⟩
  clear hr hb HRS hc
  generalize hn : ls.length = n at *
  clear hn
  go_wp2
  go_ret
  exact HN.out

theorem of10_rows (T : Rows10) (n : List UInt8) : names10 (T.filter fun x => hasV x.2.2 n) = of10 (plain10 T) n := by
  unfold of10 ofs10 plain10 names10
  rw [List.filter_map, List.map_map]
  rfl
/-- What each operation of Of makes. -/
def YOf10 (B : Nat) (p : Option Nat) (n : ByteArray) (ls : List (List UInt8)) (w : World) : Nat → Value → World → Prop
  | 3, v, _ => v = .map p
  | 4, v, _ => v = .string n
  | 5, v, W => ∃ C, v = .func (.func 50) #[] #[.pointer (some ⟨C, 0, none⟩)] ∧ W.cell? ⟨C, 0, none⟩ = some (.string n)
  | 6, v, W => ∃ A C, v = .slice (some ⟨A, 0, none⟩) 1 1 ∧ W.cell? ⟨A, 0, none⟩ = some (.func (.func 50) #[] #[.pointer (some ⟨C, 0, none⟩)]) ∧ W.cell? ⟨C, 0, none⟩ = some (.string n)
  | 7, v, W => Names10 ls w (.returned v) W
  | 8, v, W => Names10 ls w (.returned v) W
  | _, v, _ => v = .pointer (some ⟨B, 0, none⟩)
theorem Names10.later {ls : List (List UInt8)} {w W W' : World} {e : Ending} (h : Names10 ls w e W) (hb : Below W.heap.size W W') : Names10 ls w e W' := by
  obtain ⟨v, he, hr, hbw⟩ := h
  exact ⟨v, he, ownsRow_below10 hr hb, below_next hbw hb⟩
theorem YOf10_keep {B : Nat} {p : Option Nat} {n : ByteArray} {ls : List (List UInt8)} {w W W' : World} (hb : Below W.heap.size W W') (j : Nat) (u : Value) (h : YOf10 B p n ls w j u W) : YOf10 B p n ls w j u W' := by
  have key : ∀ (C : Nat) (v : Value), W.cell? ⟨C, 0, none⟩ = some v → W'.cell? ⟨C, 0, none⟩ = some v := fun C v hC => (hb.cell (p := ⟨C, 0, none⟩) (World.block_lt_of_cell? W _ hC)).trans hC
  match j, h with
  | 0, h => exact h
  | 1, h => exact h
  | 2, h => exact h
  | 3, h => exact h
  | 4, h => exact h
  | 5, h => obtain ⟨C, e, hC⟩ := h; exact ⟨C, e, key C _ hC⟩
  | 6, h => obtain ⟨A, C, e, hA, hC⟩ := h; exact ⟨A, C, e, key A _ hA, key C _ hC⟩
  | 7, h => exact Names10.later h hb
  | 8, h => exact Names10.later h hb
  | _ + 9, h => exact h

set_option maxRecDepth 100000 in
set_option maxHeartbeats 1000000 in
theorem of10_calls (B : Nat) (p : Option Nat) (T : Rows10) (n : ByteArray) (w : World) (h : Grp10 w B p T) (hf : T.length ≤ 1000) (hn : n.size ≤ 9223372036854775807) :
    Calls Try.prog 14 #[.pointer (some ⟨B, 0, none⟩), .string n] w (Names10 (of10 (plain10 T) n.data.toList) w) := by
  have HRS : Hid (∀ W A C, Below w.heap.size w W → W.cell? ⟨A, 0, none⟩ = some (.func (.func 50) #[] #[.pointer (some ⟨C, 0, none⟩)]) → W.cell? ⟨C, 0, none⟩ = some (.string n) →
      Calls Try.prog 31 #[.map p, .slice (some ⟨A, 0, none⟩) 1 1] W (Names10 (of10 (plain10 T) n.data.toList) W)) := fun W A C hb hA hC => by
    have lA : A < W.heap.size := World.block_lt_of_cell? W _ hA
    have lC : C < W.heap.size := World.block_lt_of_cell? W _ hC
    rw [← of10_rows]
    cases p with
    | none =>
      have := h.nil rfl
      subst this
      exact rises10_nil _ W
    | some m =>
      exact rises10_calls m T (fun x => hasV x.2.2 n.data.toList) _ W h.rise hf ((h.later hb).map m rfl) (fun W' hb' y hy => everys_one A C y.2.1 y.2.2 n W' (Nat.le_trans hn (by decide)) ((hb'.cell (p := ⟨A, 0, none⟩) lA).trans hA) ((hb'.cell (p := ⟨C, 0, none⟩) lC).trans hC) (((h.later hb).later hb').sets y hy))
  have HI := Lib.hid h
  have HFN : Hid (∀ W, Calls Try.prog 37 #[.string n] W fun e w' => e = .returned (.func (.func 50) #[] #[.pointer (some ⟨W.heap.size, 0, none⟩)]) ∧ w' = W.alloc (.cells #[.string n] 9)) := fun W => hasfn_calls n W
  clear h
  generalize of10 (plain10 T) n.data.toList = ls at *
  go_enter Try.func14, Try.ntmps14
  go_wp2_with fail
  refine wp_region_inv (by kernel_rfl) (fun W => Below w.heap.size w W) (YOf10 B p n ls w) ?F ?hF (by kernel_rfl) (by kernel_rfl) (below_drew (Below.refl _ _)) ?step ?fin
  case hF =>
    intro x
    simp only [List.map_cons, List.map_nil, putL, Act.put, List.setIfInBounds_toArray, List.set_cons_zero, List.set_cons_succ, Nat.zero_add, Nat.reduceAdd]
    exact rfl
  case step =>
    refine ⟨?_, ?_, ?_, ?_, ?_, ?_, ?_, ?_, ?_, trivial⟩
    all_goals intro x W hW hdep K hK
    · clear hdep
      go_simp
      exact hK _ _ rfl hW (fun _ _ h => h)
    · have h0 : x 0 = _ := hdep 0 rfl
      clear hdep
      simp only [h0] at hK
      go_simp
      exact hK _ _ rfl hW (fun _ _ h => h)
    · have h1 : x 1 = _ := hdep 1 rfl
      clear hdep
      simp only [h1] at hK
      go_simp
      exact hK _ _ rfl hW (fun _ _ h => h)
    · have h2 : x 2 = _ := hdep 2 rfl
      have c := (HI.out.later hW).cell
      clear hdep
      simp only [h2] at hK
      go_simp
      exact hK _ _ rfl hW (fun _ _ h => h)
    · clear hdep
      go_simp
      exact hK _ _ rfl hW (fun _ _ h => h)
    · have h4 : x 4 = _ := hdep 4 rfl
      have hc := HFN.out W
      clear hdep
      simp only [h4] at hK
      go_simp
      refine hc.mono ?_
      rintro e W' ⟨rfl, rfl⟩
      have hb : Below W.heap.size W (W.alloc (.cells #[.string n] 9)) := below_alloc (Below.refl _ _) _
      exact hK _ _ ⟨W.heap.size, rfl, by rw [World.cell?_alloc_at _ _ _ _ rfl]; rfl⟩ (below_next hW hb) (YOf10_keep hb)
    · obtain ⟨C, h5, hC⟩ := (show YOf10 B p n ls w 5 (x 5) W from hdep 5 rfl)
      simp only [h5] at hK
      have lC : C < W.heap.size := World.block_lt_of_cell? W _ hC
      clear hdep
      go_simp
      have hb : Below W.heap.size W (W.alloc (.cells #[.func (.func 50) #[] #[.pointer (some ⟨C, 0, none⟩)]] 67)) := below_alloc (Below.refl _ _) _
      exact hK _ _ ⟨W.heap.size, C, rfl, by rw [World.cell?_alloc_at _ _ _ _ rfl]; rfl, (hb.cell (p := ⟨C, 0, none⟩) lC).trans hC⟩ (below_next hW hb) (YOf10_keep hb)
    · have h3 : x 3 = _ := hdep 3 rfl
      obtain ⟨A, C, h6, hA, hC⟩ := (show YOf10 B p n ls w 6 (x 6) W from hdep 6 rfl)
      have hc := HRS.out W A C hW hA hC
      simp only [h6] at hK
      clear hdep
      simp only [h3] at hK
      go_simp
      refine hc.mono ?_
      rintro e W' ⟨v, rfl, hr, hb⟩
      exact hK _ _ ⟨v, rfl, ownsRow_low10 hr hW.size, below_next hW hb⟩ (below_next hW hb) (YOf10_keep hb)
    · have h7 : Names10 ls w (.returned (x 7)) W := hdep 7 rfl
      clear hdep
      go_simp
      exact hK _ _ h7 hW (fun _ _ h => h)
  case fin =>
    intro x W hW hY
    have h8 : Names10 ls w (.returned (x 8)) W := hY 8 (by decide)
    obtain ⟨v, he, hr, hb⟩ := h8
    injection he with he
    have HN : Hid (Names10 ls w (.returned v) W) := ⟨v, rfl, hr, hb⟩
    clear hY hW HI HFN HRS hr hb
    rw [he]
    go_wp2
    go_ret
    exact HN.out
end Go.Proofs.Ytmjmglakpnjfkaa
