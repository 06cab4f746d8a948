/-
  The texts that the laws of this seat share, part 7: what the code and the document's own answers tell, walked function by function.
  Conditions: each theorem's own.
-/
import Derived.Test.YtmcomnocpibiiaaGreatDoorFolMBA
import Derived.Test.YtmcomnocpibiiaaGreatDoorFolMBB
import Derived.Test.YtmcomnocpibiiaaGreatDoorFolMBC
import Derived.Test.YtmcomnocpibiiaaGreatDoorFolMBD
import Derived.Test.YtmcomnocpibiiaaGreatDoorFolMBE
import Derived.Test.YtmcomnocpibiiaaGreatDoorFolMBF
namespace Go.Proofs.YtmcomnocpibiiaaGreatDoor
open Go.RowKit Go.Maps

def plU11 (l : List Us) : Usr11 := l.map fun u => (u.nm.data.toList, ⟨u.hs.data.toList, u.ml.data.toList, u.dis, bl11 u.gs⟩)
def joinS11 (S : Grs10) (n : List UInt8) (T : List ByteArray) : Grs10 := T.foldl (fun S g => joS10 S g.data.toList n) S
def evE11 (r : Nat → Int) : Nat → Nat → Int
 | _, 0 => 0
 | i, m + 1 => if r i = 0 then evE11 r (i + 1) m else r i

theorem joinS_next (S : Grs10) (n : List UInt8) {T : List ByteArray} {i : Nat} (hi : i < T.length) : joinS11 S n (T.take (i + 1)) = joS10 (joinS11 S n (T.take i)) T[i].data.toList n := by
 unfold joinS11
 rw [List.take_succ_eq_append_getElem hi, List.foldl_append]
 rfl
theorem rise_pair11 : ∀ {ss : List ByteArray}, rise6 ss = true → ss.Pairwise fun a b => bytesBefore a.data.toList b.data.toList = true
 | [], _ => List.Pairwise.nil
 | [_], _ => by simp
 | a :: b :: r, h => by
  unfold rise6 at h
  rw [Bool.and_eq_true] at h
  have ih := rise_pair11 (ss := b :: r) h.2
  have hab : bytesBefore a.data.toList b.data.toList = true := by
   have := h.1
   unfold ahead6 at this
   rwa [before_cmp] at this
  refine List.pairwise_cons.2 ⟨fun x hx => ?_, ih⟩
  rcases List.mem_cons.1 hx with rfl | hx
  ·
   exact hab
  ·
   exact WideShapes.bytes_trans _ _ _ hab ((List.pairwise_cons.1 ih).1 x hx)
theorem bl_rise11 {G : List ByteArray} (h : rise6 G = true) : RiseT (bl11 G) := by
 have := rise_pair11 h
 unfold RiseT bl11
 rw [List.pairwise_map]
 exact this
theorem ins_snoc11 {V : Type} {x : List UInt8 × V} : ∀ {A : RowV V}, (∀ y ∈ A, bytesBefore y.1 x.1 = true) → insV x A = A ++ [x]
 | [], _ => rfl
 | y :: r, h => by
  unfold insV
  rw [before_anti (h y (by simp)), ins_snoc11 (fun z hz => h z (by simp [hz]))]
  simp
theorem put_snoc11 {V : Type} {A : RowV V} {n : List UInt8} (a : V) (h : ∀ y ∈ A, bytesBefore y.1 n = true) : putV A n a = A ++ [(n, a)] := by
 unfold putV
 rw [delV_of_not, ins_snoc11 h]
 refine hasV_false.2 fun hm => ?_
 obtain ⟨y, hy, e⟩ := List.mem_map.1 hm
 exact absurd e (before_ne (h y hy))

/-! ### groups are joined -/
structure J11 (S0 S : Grs10) (n : List UInt8) (T : List ByteArray) (k : Nat) : Prop where
 names : names10 S = names10 S0
 good : Good10 S k
 mem : ∀ x m, in10 S x m = true ↔ in10 S0 x m = true ∨ (m = n ∧ x ∈ bl11 T)
theorem joE_at11 {S0 S : Grs10} {n : List UInt8} {T : List ByteArray} {k i : Nat} (hi : i < T.length) (hJ : J11 S0 S n (T.take i) k) (hn : name5 n = true) (h5 : names6 T = true) (hr : rise6 T = true) (hf : ∀ x, in10 S0 x n = false) :
  joE10 S T[i].data.toList n = if hasT (names10 S0) T[i].data.toList then 0 else 8 := by
 have e1 : hasV S T[i].data.toList = hasT (names10 S0) T[i].data.toList := by rw [Bool.eq_iff_iff, hasV_names, hasT_iff, hJ.names]
 have e0 : name5 T[i].data.toList = true := by
  unfold names6 at h5
  rw [List.all_eq_true] at h5
  exact h5 _ (List.getElem_mem hi)
 have e2 : in10 S T[i].data.toList n = false := by
  rw [Bool.eq_false_iff]
  intro h
  rcases (hJ.mem _ _).1 h with h | ⟨_, h⟩
  ·
   rw [hf] at h; cases h
  ·
   obtain ⟨g, hg, e⟩ := List.mem_map.1 h
   obtain ⟨j, hj, rfl⟩ := List.getElem_of_mem hg
   have hj' : j < i := by rw [List.length_take] at hj; omega
   rw [List.getElem_take] at e
   have := List.pairwise_iff_getElem.1 (rise_pair11 hr) j i (by omega) hi hj'
   exact absurd e (before_ne this)
 unfold joE10 findE10
 rw [e1, e2, e0]
 have : ([n] : List (List UInt8)).all name5 = true := by simp [hn]
 rw [this]
 cases hasT (names10 S0) T[i].data.toList <;> rfl
theorem joined11 {S0 : Grs10} {n : List UInt8} {T : List ByteArray} {k : Nat} (hg : Good10 S0 k) (hn : name5 n = true) (h5 : names6 T = true) (hr : rise6 T = true) (hf : ∀ x, in10 S0 x n = false) :
  ∀ i, i ≤ T.length → (∀ g ∈ T.take i, hasT (names10 S0) g.data.toList = true) → J11 S0 (joinS11 S0 n (T.take i)) n (T.take i) (k + i)
 | 0, _, _ => ⟨rfl, hg, fun x m => ⟨.inl, fun h => h.elim id (fun h => absurd h.2 (by simp [bl11]))⟩⟩
 | i + 1, hi, hall => by
  have hlt : i < T.length := hi
  have e3 : T.take (i + 1) = T.take i ++ [T[i]] := List.take_succ_eq_append_getElem hlt
  have ih := joined11 hg hn h5 hr hf i (Nat.le_of_succ_le hi) (fun g h => hall g (by rw [e3]; exact List.mem_append_left _ h))
  have e := joE_at11 hlt ih hn h5 hr hf
  rw [hall T[i] (by rw [e3]; exact List.mem_append_right _ (List.mem_singleton.2 rfl)), if_pos rfl] at e
  rw [joinS_next S0 n hlt]
  refine ⟨by rw [joS10_names, ih.names], good_join ih.good _ n, fun x m => ?_⟩
  rw [in_join ih.good e, ih.mem]
  have : x ∈ bl11 (T.take (i + 1)) ↔ x ∈ bl11 (T.take i) ∨ x = T[i].data.toList := by
   rw [e3]
   unfold bl11
   rw [List.map_append, List.mem_append, List.map_cons, List.map_nil, List.mem_singleton]
  rw [this]
  constructor
  ·
   rintro ((h | ⟨h1, h2⟩) | ⟨h1, h2⟩)
   ·
    exact .inl h
   ·
    exact .inr ⟨h1, .inl h2⟩
   ·
    exact .inr ⟨h2, .inr h1⟩
  ·
   rintro (h | ⟨h1, h2 | h2⟩)
   ·
    exact .inl (.inl h)
   ·
    exact .inl (.inr ⟨h1, h2⟩)
   ·
    exact .inr ⟨h2, h1⟩

/-! ### users, one by one -/
def St11 (A : Acc11) (L : Row7) (S : Grs10) (pre : List Us) (G : List ByteArray) (k : Nat) : Prop := One11 A L S (plU11 pre) (bl11 G) k ∧ L.length ≤ pre.length
theorem plU_names (l : List Us) : names10 (plU11 l) = bl11 (l.map (·.nm)) := by unfold names10 plU11 bl11; rw [List.map_map, List.map_map]; rfl
theorem St11.below {A : Acc11} {L : Row7} {S : Grs10} {pre : List Us} {G : List ByteArray} {k : Nat} (h : St11 A L S pre G k) {n : List UInt8} (hup : ∀ v ∈ pre, bytesBefore v.nm.data.toList n = true) : ∀ y ∈ A, bytesBefore y.1 n = true := by
 intro y hy
 have h1 : y.1 ∈ names10 A := List.mem_map.2 ⟨y, hy, rfl⟩
 rw [← tell_names A L S, h.1.2.1, plU_names] at h1
 unfold bl11 at h1
 rw [List.map_map] at h1
 obtain ⟨v, hv, e⟩ := List.mem_map.1 h1
 rw [← e]
 exact hup v hv
theorem St11.len {A : Acc11} {L : Row7} {S : Grs10} {pre : List Us} {G : List ByteArray} {k : Nat} (h : St11 A L S pre G k) : A.length = pre.length := by
 rw [← tell_len A L S, h.1.2.1]; exact List.length_map _
theorem St11.free {A : Acc11} {L : Row7} {S : Grs10} {pre : List Us} {G : List ByteArray} {k : Nat} (h : St11 A L S pre G k) {n : List UInt8} (hup : ∀ v ∈ pre, bytesBefore v.nm.data.toList n = true) : hasV A n = false := by
 refine hasV_false.2 fun hm => ?_
 obtain ⟨y, hy, e⟩ := List.mem_map.1 hm
 exact absurd e (before_ne (h.below hup y hy))
theorem St11.fresh {A : Acc11} {L : Row7} {S : Grs10} {pre : List Us} {G : List ByteArray} {k : Nat} (h : St11 A L S pre G k) {n : List UInt8} (hup : ∀ v ∈ pre, bytesBefore v.nm.data.toList n = true) (x : List UInt8) : in10 S x n = false := by
 cases hh : in10 S x n with
 | false => rfl
 | true => have := h.1.1.mem x n hh; rw [h.free hup] at this; cases this
theorem mail_eq11 {m : ByteArray} (h : fold6 m = true) : foldM11 m.data.toList = m.data.toList ∧ isM11 m.data.toList = true := by
 unfold fold6 at h
 rw [Bool.or_eq_true, Bool.and_eq_true, decide_eq_true_eq, decide_eq_true_eq] at h
 rcases h with h | ⟨h1, h2⟩
 ·
  have : m.data.toList = [] := List.length_eq_zero_iff.1 (by rw [size_list]; exact h)
  rw [this]
  exact ⟨rfl, by decide⟩
 ·
  refine ⟨?_, by unfold isM11; rw [h1, Bool.or_true]⟩
  have h3 : (mailT m.data.toList).data.toList = fold5 m.data.toList := by unfold mailT; rw [if_pos h1]
  unfold foldM11
  rw [if_pos h1, ← h3, h2]
theorem tell_snoc11 {A : Acc11} {L L' : Row7} {S S' : Grs10} (h : ∀ p ∈ A, getE L' p.1 = getE L p.1 ∧ of10 S' p.1 = of10 S p.1) (x : List UInt8 × (List UInt8 × Bool)) : tell11 (A ++ [x]) L' S' = tell11 A L S ++ [(x.1, tell1 L' S' x.1 x.2)] := by
 unfold tell11
 rw [List.map_append]
 congr 1
 refine List.map_congr_left fun p hp => ?_
 obtain ⟨h1, h2⟩ := h p hp
 unfold tell1
 rw [h1, h2]

theorem step11 {A : Acc11} {L : Row7} {S : Grs10} {pre : List Us} {G : List ByteArray} {k : Nat} (h : St11 A L S pre G k) (u : Us) (hc : chk6 2 u = 0) (hup : ∀ v ∈ pre, bytesBefore v.nm.data.toList u.nm.data.toList = true) (h12 : pre.length < 12) (hall : u.gs.all (fun g => hasT (bl11 G) g.data.toList) = true) :
  seE9 L u.nm.data.toList u.ml.data.toList = (if pre.any (fun v => !(u.ml.data.toList == []) && (u.ml.data.toList == v.ml.data.toList)) then 9 else 0) ∧
  (seE9 L u.nm.data.toList u.ml.data.toList = 0 → St11 (putV A u.nm.data.toList (u.hs.data.toList, u.dis)) (seL9 L u.nm.data.toList u.ml.data.toList) (joinS11 S u.nm.data.toList u.gs) (pre ++ [u]) G (k + 8)) := by
 obtain ⟨_, hn, hh⟩ := chk6_head hc
 obtain ⟨hfo, h6, hns, hri⟩ := chk6_two hc
 obtain ⟨hfm, him⟩ := mail_eq11 hfo
 have hbel := h.below hup
 have hfree := h.free hup
 have hfr := h.fresh hup
 have hlen := h.len
 obtain ⟨⟨hg, ht, hN⟩, hL⟩ := h
 obtain ⟨f1, f2, f3⟩ := hg.free hfree
 have hJ := joined11 hg.grp hn hns hri hfr u.gs.length (Nat.le_refl _) (fun g hg' => by
  rw [List.take_length] at hg'
  rw [hN]
  exact List.all_eq_true.1 hall g hg')
 rw [List.take_length] at hJ
 generalize hS' : joinS11 S u.nm.data.toList u.gs = S' at *
 have hA1 := put_snoc11 (u.hs.data.toList, u.dis) hbel
 have hg1 := hg.put (a := (u.hs.data.toList, u.dis)) hn hh (by rw [hA1]; simp; omega)
 generalize hAA : putV A u.nm.data.toList (u.hs.data.toList, u.dis) = A1 at *
 have hin : hasV A1 u.nm.data.toList = true := by rw [← hAA]; exact hasV_put.2 (.inl rfl)
 have hg2 : Good11 A1 L S' (k + 7) := ⟨hg1.rise, hg1.few, hg1.nm, hg1.mir, hg1.all, hg1.has, Nat.le_trans hg.lfew (by omega), hJ.good.mono (by omega), fun x m hm => by
  rcases (hJ.mem x m).1 hm with hm | ⟨rfl, _⟩
  ·
   exact hg1.mem x m hm
  ·
   exact hin⟩
 have hof : of10 S' u.nm.data.toList = bl11 u.gs := riseT_ext (of10_rise hJ.good.rise _) (bl_rise11 hri) fun x => by
  rw [of10_mem hJ.good.rise, hJ.mem, hfr]
  simp
 have hof2 : ∀ m, m ≠ u.nm.data.toList → of10 S' m = of10 S m := fun m hm => ofT hg.grp.rise hJ.good.rise fun x => by
  rw [hJ.mem]
  exact ⟨fun h => h.elim id (fun h => absurd h.1 hm), .inl⟩
 have hne : ∀ p ∈ A, p.1 ≠ u.nm.data.toList := fun p hp => before_ne (hbel p hp)
 have hsm := (sm11_eq (A := A1) (L := L) u.nm.data.toList u.ml.data.toList).1 ⟨hn, him, hin⟩
 have hone := sm_one hg2 u.nm.data.toList u.ml.data.toList
 have htl : tell11 A1 L S' = plU11 pre ++ [(u.nm.data.toList, ⟨u.hs.data.toList, [], u.dis, bl11 u.gs⟩)] := by
  rw [hA1, tell_snoc11 (L := L) (S := S) (fun p hp => ⟨rfl, hof2 _ (hne p hp)⟩), ht]
  unfold tell1
  rw [hof, f2]
 have hE : smE11 A1 L u.nm.data.toList u.ml.data.toList = (if pre.any (fun v => !(u.ml.data.toList == []) && (u.ml.data.toList == v.ml.data.toList)) then 9 else 0) := by
  rw [← sm_same hg2]
  unfold dsmE
  rw [hn, him, tell_has, hin, hfm, htl]
  have : badU (plU11 pre ++ [(u.nm.data.toList, ⟨u.hs.data.toList, [], u.dis, bl11 u.gs⟩)]) u.nm.data.toList u.ml.data.toList = pre.any (fun v => !(u.ml.data.toList == []) && (u.ml.data.toList == v.ml.data.toList)) := by
   unfold badU plU11
   rw [Bool.eq_iff_iff]
   simp only [List.any_append, List.any_map, List.any_cons, List.any_nil, Bool.or_false, Bool.or_eq_true, List.any_eq_true, Bool.and_eq_true, Bool.not_eq_true', beq_eq_false_iff_ne, beq_iff_eq, Function.comp]
   constructor
   ·
    rintro (⟨v, hv, ⟨h1, h2⟩, h3⟩ | ⟨_, h3⟩)
    ·
     exact ⟨v, hv, h1, h2.symm⟩
    ·
     exact absurd rfl h3
   ·
    rintro ⟨v, hv, h1, h2⟩
    exact .inl ⟨v, hv, ⟨h1, h2.symm⟩, before_ne (hup v hv)⟩
  rw [this]
  cases pre.any (fun v => !(u.ml.data.toList == []) && (u.ml.data.toList == v.ml.data.toList)) <;> rfl
 rw [hsm.1] at hE
 refine ⟨hE, fun h0 => ?_⟩
 rw [hsm.2] at hone
 obtain ⟨o1, _, o3⟩ := hone
 refine ⟨⟨o1, ?_, ?_⟩, ?_⟩
 ·
  have hge : ∀ x, getE (seL9 L u.nm.data.toList u.ml.data.toList) x = if x = u.nm.data.toList then u.ml.data.toList else getE L x := by
   intro x
   unfold seL9
   rw [if_pos h0]
   by_cases hm : u.ml.data.toList = []
   ·
    rw [if_pos hm, getE_del, hm]
   ·
    rw [if_neg hm, getE_put hg.lrise]
    have : fold5 u.ml.data.toList = u.ml.data.toList := by
     have hm5 : mail5 u.ml.data.toList = true := by
      unfold isM11 at him
      rw [decide_eq_false hm, Bool.false_or] at him
      exact him
     unfold foldM11 at hfm
     rw [if_pos hm5] at hfm
     exact hfm
    rw [this]
  rw [hA1, tell_snoc11 (L := L) (S := S) (fun p hp => ⟨by rw [hge, if_neg (hne p hp)], hof2 _ (hne p hp)⟩), ht]
  unfold tell1
  rw [hof, hge, if_pos rfl]
  unfold plU11
  rw [List.map_append]
  rfl
 ·
  rw [hJ.names, hN]
 ·
  have : (seL9 L u.nm.data.toList u.ml.data.toList).length ≤ L.length + 1 := by
   unfold seL9
   rw [if_pos h0]
   split
   ·
    exact Nat.le_succ_of_le (List.length_filter_le _ _)
   ·
    rw [put_length hg.lrise]; split <;> omega
  rw [List.length_append]
  simp
  omega
theorem st_nil11 {S : Grs10} {G : List ByteArray} {k : Nat} (hg : Good11 [] [] S k) (hN : names10 S = bl11 G) : St11 [] [] S [] G k := ⟨⟨hg, rfl, hN⟩, Nat.le_refl _⟩
theorem make_step11 {S : Grs10} {G : List ByteArray} {i : Nat} (hi : i < G.length) (h6 : G.length ≤ 6) (h5 : names6 G = true) (hr : rise6 G = true) (hg : Good11 [] [] S i) (hN : names10 S = bl11 (G.take i)) :
  maE10 S G[i].data.toList = 0 ∧ Good11 [] [] (maS10 S G[i].data.toList) (i + 1) ∧ names10 (maS10 S G[i].data.toList) = bl11 (G.take (i + 1)) := by
 have e0 : name5 G[i].data.toList = true := by
  unfold names6 at h5
  rw [List.all_eq_true] at h5
  exact h5 _ (List.getElem_mem hi)
 have hbel : ∀ y ∈ S, bytesBefore y.1 G[i].data.toList = true := fun y hy => by
  have h1 : y.1 ∈ names10 S := List.mem_map.2 ⟨y, hy, rfl⟩
  rw [hN] at h1
  obtain ⟨g, hg, e⟩ := List.mem_map.1 h1
  obtain ⟨j, hj, rfl⟩ := List.getElem_of_mem hg
  have hj' : j < i := by rw [List.length_take] at hj; omega
  rw [List.getElem_take] at e
  rw [← e]
  exact List.pairwise_iff_getElem.1 (rise_pair11 hr) j i (by omega) hi hj'
 have hfree : hasV S G[i].data.toList = false := hasV_false.2 fun hm => by
  obtain ⟨y, hy, e⟩ := List.mem_map.1 hm
  exact absurd e (before_ne (hbel y hy))
 have hlen : S.length = i := by
  have : (names10 S).length = S.length := List.length_map _
  rw [← this, hN]
  unfold bl11
  rw [List.length_map, List.length_take]
  omega
 have e : maE10 S G[i].data.toList = 0 := by
  unfold maE10
  rw [e0, hfree, if_pos rfl, if_neg (by decide), if_neg (by omega)]
 refine ⟨e, (ma_one hg G[i].data.toList).1, ?_⟩
 unfold maS10
 rw [if_pos e, put_snoc11 _ hbel, List.take_succ_eq_append_getElem hi]
 unfold names10 bl11 at *
 rw [List.map_append, List.map_append, hN]
 rfl
theorem one_ev11 (G : List ByteArray) (l : List Us) : ∀ (m i : Nat), i + m = l.length → evE11 (fun j => if hj : j < l.length then oneD11 G (l.take j) l[j] else 0) i m = restD11 G (l.take i) (l.drop i)
 | 0, i, h => by
  rw [List.drop_eq_nil_of_le (by omega)]
  rfl
 | m + 1, i, h => by
  have hi : i < l.length := by omega
  rw [restD_step hi]
  unfold evE11
  rw [dif_pos hi, one_ev11 G l m (i + 1) (by omega)]
end Go.Proofs.YtmcomnocpibiiaaGreatDoor
namespace Go.Proofs.YtmcomnocpibiiaaGreatDoor
open Go.RowKit Go.Maps Go.Sort Go.Shelf

theorem ev_next11 (r : Nat → Int) {k n : Nat} (h : k < n) : evE11 r k (n - k) = if r k = 0 then evE11 r (k + 1) (n - (k + 1)) else r k := by
 obtain ⟨m, rfl⟩ : ∃ m, n = k + 1 + m := ⟨n - (k + 1), by omega⟩
 rw [show k + 1 + m - k = m + 1 by omega, show k + 1 + m - (k + 1) = m by omega]
 rfl
set_option maxRecDepth 100000 in
set_option maxHeartbeats 2000000 in
theorem everyS11_calls (g : Nat) (bd lb : Array Value) (A : Option Addr) (n c : Nat) (ss : List ByteArray) (w : World) (r : Nat → Int) (I : Nat → World → Prop) (J : World → Prop) (hl : n = ss.length) (hn : n ≤ 9223372036854775807)
  (eg : ∀ args w, (callFunc g args).run Tryz.prog w = .ok (.enter g args) w) (h0 : I 0 w) (hr : ∀ i W, I i W → RdS W A ss)
  (hs : ∀ i (h : i < ss.length) W, I i W → Calls Tryz.prog g (bd ++ #[.string ss[i]] ++ lb) W fun e w' => e = .returned (.int .i64 (r i)) ∧ (r i = 0 → I (i + 1) w') ∧ (r i ≠ 0 → J w')) :
  Calls Tryz.prog 86 #[.slice A n c, .func (.func g) bd lb] w fun e w' => e = .returned (.int .i64 (evE11 r 0 n)) ∧ (evE11 r 0 n = 0 → I n w') ∧ (evE11 r 0 n ≠ 0 → J w') := by
 have HR := Lib.hid hr
 have HL := Lib.hid hl
 have HS := Lib.hid hs
 have H0 := Lib.hid h0
 clear hr hl hs h0
 obtain ⟨x, hx⟩ : ∃ x, x = evE11 r 0 n := ⟨_, rfl⟩
 rw [← hx]
 have HX : Hid (x = evE11 r 0 (n - 0)) := hx
 clear hx
 go_enter Tryz.func86, Tryz.ntmps86
 go_wp2
 go_loopg [6, 7, 10] n (fun gg _ _ s10 wr => ∃ k : Nat, k ≤ n ∧ n - k ≤ gg ∧ s10 = .int .i64 k ∧ Hid (I k wr) ∧ Hid (x = evE11 r k (n - k)))
 case atStart => exact ⟨0, Nat.zero_le _, by omega, rfl, H0, HX⟩
 case round =>
  clear H0 HX
  obtain ⟨k, hk, hg, rfl, HW, HX⟩ := hrel
  by_cases hlt : k < n
  ·
   have hltz : (k : Int) < (n : Int) := by omega
   have hkl : k < ss.length := HL.out ▸ hlt
   obtain ⟨b, off, rfl, hb, hc⟩ := (HR.out k wr HW.out) (by intro e; rw [e] at hkl; exact absurd hkl (Nat.not_lt_zero _))
   have hcell := hc k hkl
   have HC := Lib.hid (HS.out k hkl wr HW.out)
   have hA := HX.out
   rw [ev_next11 r hlt] at hA
   clear hc hb HX
   generalize ss[k] = s at *
   generalize r k = y at *
   by_cases hy : y = 0
   ·
    rw [if_pos hy] at hA
    have HA := Lib.hid hA
    subst hy
    clear hA
    go_wp2_with (go_at_fn g; refine HC.out.mono ?_; rintro e w' ⟨rfl, h1, _⟩; have HW2 := Lib.hid (h1 rfl); clear h1)
    go_roundg (n - (k + 1))
    case measure => omega
    case rel => exact ⟨k + 1, by omega, by omega, by go_num, HW2, HA⟩
   ·
    rw [if_neg hy] at hA
    subst hA
    have hx1 : (x != 0) = true := by simpa using hy
    have HY := Lib.hid hy
    clear hy
    go_wp2_with (go_at_fn g; refine HC.out.mono ?_; rintro e w' ⟨rfl, _, h2⟩; have HW2 := Lib.hid (h2 HY.out); clear h2)
    go_ret
    exact ⟨rfl, fun h => absurd h HY.out, fun _ => HW2.out⟩
  ·
   have hltz : ¬ (k : Int) < (n : Int) := by omega
   obtain rfl : k = n := by omega
   have hA := HX.out
   rw [Nat.sub_self] at hA
   have hA0 : x = 0 := hA
   subst hA0
   clear hA HX
   go_wp2
   go_ret
   exact ⟨rfl, HW.out⟩
set_option maxRecDepth 100000 in
set_option maxHeartbeats 2000000 in
theorem everyU11_calls (g : Nat) (bd lb : Array Value) (A : Option Addr) (n c : Nat) (l : List Us) (w : World) (r : Nat → Int) (I : Nat → World → Prop) (J : World → Prop) (hl : n = l.length) (hn : n ≤ 9223372036854775807)
  (eg : ∀ args w, (callFunc g args).run Tryz.prog w = .ok (.enter g args) w) (h0 : I 0 w) (hr : ∀ i W, I i W → RdU7 W A l)
  (ha : ∀ i W, I i W → ∀ b, I i (W.alloc b)) (hs : ∀ i (h : i < l.length) W, I i W → Calls Tryz.prog g (bd ++ #[l[i].v] ++ lb) W fun e w' => e = .returned (.int .i64 (r i)) ∧ (r i = 0 → I (i + 1) w') ∧ (r i ≠ 0 → J w')) :
  Calls Tryz.prog 81 #[.slice A n c, .func (.func g) bd lb] w fun e w' => e = .returned (.int .i64 (evE11 r 0 n)) ∧ (evE11 r 0 n = 0 → I n w') ∧ (evE11 r 0 n ≠ 0 → J w') := by
 have HR := Lib.hid hr
 have HL := Lib.hid hl
 have HS := Lib.hid hs
 have H0 := Lib.hid h0
 have HAL := Lib.hid ha
 clear hr hl hs h0 ha
 obtain ⟨x, hx⟩ : ∃ x, x = evE11 r 0 n := ⟨_, rfl⟩
 rw [← hx]
 have HX : Hid (x = evE11 r 0 (n - 0)) := hx
 clear hx
 go_enter Tryz.func81, Tryz.ntmps81
 go_wp2
 go_loopg [6, 7, 10] n (fun gg _ _ s10 wr => ∃ k : Nat, k ≤ n ∧ n - k ≤ gg ∧ s10 = .int .i64 k ∧ Hid (I k wr) ∧ Hid (x = evE11 r k (n - k)))
 case atStart => exact ⟨0, Nat.zero_le _, by omega, rfl, H0, HX⟩
 case round =>
  clear H0 HX
  obtain ⟨k, hk, hg, rfl, HW, HX⟩ := hrel
  by_cases hlt : k < n
  ·
   have hltz : (k : Int) < (n : Int) := by omega
   have hkl : k < l.length := HL.out ▸ hlt
   obtain ⟨b, off, rfl, hb, hc⟩ := (HR.out k wr HW.out) (by intro e; rw [e] at hkl; exact absurd hkl (Nat.not_lt_zero _))
   have c0 : wr.cell? ⟨b, off + k * 5, none⟩ = some (.string l[k].nm) := hc k hkl 0 _ rfl
   have c1 : wr.cell? ⟨b, off + k * 5 + 1, none⟩ = some (.string l[k].hs) := hc k hkl 1 _ rfl
   have c2 : wr.cell? ⟨b, off + k * 5 + 2, none⟩ = some (.string l[k].ml) := hc k hkl 2 _ rfl
   have c3 : wr.cell? ⟨b, off + k * 5 + 3, none⟩ = some (.bool l[k].dis) := hc k hkl 3 _ rfl
   have c4 : wr.cell? ⟨b, off + k * 5 + 4, none⟩ = some (.slice l[k].ga l[k].gs.length l[k].gc) := hc k hkl 4 _ rfl
   have HC : Hid (Calls Tryz.prog g (bd ++ #[.agg #[.string l[k].nm, .string l[k].hs, .string l[k].ml, .bool l[k].dis, .slice l[k].ga l[k].gs.length l[k].gc]] ++ lb) (wr.alloc (.cells #[.string l[k].nm, .string l[k].hs, .string l[k].ml, .bool l[k].dis, .slice l[k].ga l[k].gs.length l[k].gc] 37)) fun e w' => e = .returned (.int .i64 (r k)) ∧ (r k = 0 → I (k + 1) w') ∧ (r k ≠ 0 → J w')) := HS.out k hkl _ (HAL.out k wr HW.out _)
   have hA := HX.out
   rw [ev_next11 r hlt] at hA
   clear hc hb HX
   generalize l[k].nm = nm at *
   generalize l[k].hs = hs at *
   generalize l[k].ml = ml at *
   generalize l[k].dis = dis at *
   generalize l[k].ga = ga at *
   generalize l[k].gs.length = gl at *
   generalize l[k].gc = gc at *
   generalize r k = y at *
   by_cases hy : y = 0
   ·
    rw [if_pos hy] at hA
    have HA := Lib.hid hA
    subst hy
    clear hA
    go_wp2_with (go_at_fn g; refine HC.out.mono ?_; rintro e w' ⟨rfl, h1, _⟩; have HW2 := Lib.hid (h1 rfl); clear h1)
    go_roundg (n - (k + 1))
    case measure => omega
    case rel => exact ⟨k + 1, by omega, by omega, by go_num, HW2, HA⟩
   ·
    rw [if_neg hy] at hA
    subst hA
    have hx1 : (x != 0) = true := by simpa using hy
    have HY := Lib.hid hy
    clear hy
    go_wp2_with (go_at_fn g; refine HC.out.mono ?_; rintro e w' ⟨rfl, _, h2⟩; have HW2 := Lib.hid (h2 HY.out); clear h2)
    go_ret
    exact ⟨rfl, fun h => absurd h HY.out, fun _ => HW2.out⟩
  ·
   have hltz : ¬ (k : Int) < (n : Int) := by omega
   obtain rfl : k = n := by omega
   have hA := HX.out
   rw [Nat.sub_self] at hA
   have hA0 : x = 0 := hA
   subst hA0
   clear hA HX
   go_wp2
   go_ret
   exact ⟨rfl, HW.out⟩
set_option maxRecDepth 100000 in
theorem mayBe11_calls (u : Us) (w : World) (h : u.Ok w) (hm : Len5 w) : Calls Tryz.prog 82 #[.agg #[.string u.nm, .string u.hs, .string u.ml, .bool u.dis, .slice u.ga u.gs.length u.gc]] w (Errs5 (chk6 2 u) w) := by
 have hb1 := below_alloc (Below.refl w.heap.size w) (.cells #[.string u.nm, .string u.hs, .string u.ml, .bool u.dis, .slice u.ga u.gs.length u.gc] 37)
 have HC : Hid (Calls Tryz.prog 155 #[.int .i64 2, .agg #[.string u.nm, .string u.hs, .string u.ml, .bool u.dis, .slice u.ga u.gs.length u.gc]] (w.alloc (.cells #[.string u.nm, .string u.hs, .string u.ml, .bool u.dis, .slice u.ga u.gs.length u.gc] 37)) (Errs5 (chk6 2 u) (w.alloc (.cells #[.string u.nm, .string u.hs, .string u.ml, .bool u.dis, .slice u.ga u.gs.length u.gc] 37)))) := check6_calls 2 u _ (h.below hb1) (hm.later hb1)
 have HB := Lib.hid hb1
 clear h hm hb1
 generalize chk6 2 u = x at *
 obtain ⟨nm, hs, ml, dis, ga, gs, gc⟩ := u
 dsimp only at *
 generalize gs.length = gl at *
 go_enter Tryz.func82, Tryz.ntmps82
 go_wp2_with (go_at_call 155; (with_reducible refine HC.out.mono ?_); rintro e w2 ⟨rfl, hb⟩; have HB2 := Lib.hid (below_next HB.out hb); clear hb)
 go_ret
 exact ⟨rfl, HB2.out⟩
end Go.Proofs.YtmcomnocpibiiaaGreatDoor
namespace Go.Proofs.YtmcomnocpibiiaaGreatDoor
open Go.RowKit Go.Maps Go.Sort Go.Shelf

theorem ev_row11 {α : Type} (P : α → Bool) (x : Int) (hx : x ≠ 0) (r : Nat → Int) : ∀ (T : List α) (i : Nat), (∀ j (hj : j < T.length), r (i + j) = if P T[j] then 0 else x) → evE11 r i T.length = if T.all P then 0 else x
 | [], _, _ => rfl
 | t :: T, i, h => by
  have h0 : r i = if P t then 0 else x := h 0 (by simp)
  have ih := ev_row11 P x hx r T (i + 1) (fun j hj => by
   have := h (j + 1) (by simp; omega)
   rw [show i + 1 + j = i + (j + 1) by omega]
   exact this)
  show (if r i = 0 then evE11 r (i + 1) T.length else r i) = _
  rw [ih, h0, List.all_cons]
  cases P t with
  | true => simp
  | false => simp [hx]
theorem ev_may11 (r : Nat → Int) : ∀ (l : List Us) (i : Nat), (∀ j (hj : j < l.length), r (i + j) = chk6 2 l[j]) → evE11 r i l.length = mayE11 l
 | [], _, _ => rfl
 | u :: l, i, h => by
  have h0 : r i = chk6 2 u := h 0 (by simp)
  have ih := ev_may11 r l (i + 1) (fun j hj => by
   have := h (j + 1) (by simp; omega)
   rw [show i + 1 + j = i + (j + 1) by omega]
   exact this)
  show (if r i = 0 then evE11 r (i + 1) l.length else r i) = _
  rw [ih, h0]
  rfl
theorem ev_zero11 (r : Nat → Int) : ∀ (m i : Nat), (∀ j, i ≤ j → j < i + m → r j = 0) → evE11 r i m = 0
 | 0, _, _ => rfl
 | m + 1, i, h => by
  unfold evE11
  rw [if_pos (h i (Nat.le_refl _) (by omega))]
  exact ev_zero11 r m (i + 1) fun j h1 h2 => h j (by omega) (by omega)
theorem mayE11_zero : ∀ {l : List Us}, mayE11 l = 0 → ∀ u ∈ l, chk6 2 u = 0
 | [], _, u, h => by cases h
 | x :: r, h, u, hu => by
  unfold mayE11 at h
  by_cases e : chk6 2 x = 0
  ·
   rw [if_pos e] at h
   rcases List.mem_cons.1 hu with rfl | hu
   ·
    exact e
   ·
    exact mayE11_zero h u hu
  ·
   rw [if_neg e] at h
   exact absurd h e
def cE11 (l : List Us) (G : List ByteArray) : Int := first6 [mayE11 l, err5 (rise6 (l.map (·.nm))) 9, err5 (decide ((l.length : Int) ≤ 12)) 7, err5 (names6 G) 10, err5 (rise6 G) 9, err5 (decide ((G.length : Int) ≤ 6)) 7]
theorem first67 : ∀ l : List Int, first7 l = first6 l
 | [] => rfl
 | e :: l => by unfold first7 first6; rw [first67 l]
theorem cE_of {l : List Us} {G : List ByteArray} : (cE11 l G ≠ 0 → ofD11 l G = cE11 l G) ∧ (cE11 l G = 0 → ofD11 l G = restD11 G [] l) := by
 have h1 : cE11 l G = if ofE11 l = 0 then (if names6 G then (if rise6 G then (if G.length ≤ 6 then 0 else 7) else 9) else 10) else ofE11 l := by
  unfold cE11 ofE11
  rw [first67]
  have h6 : decide ((G.length : Int) ≤ 6) = decide (G.length ≤ 6) := by
   by_cases h : G.length ≤ 6
   ·
    rw [decide_eq_true h, decide_eq_true (by omega)]
   ·
    rw [decide_eq_false h, decide_eq_false (by omega)]
  rw [h6]
  generalize mayE11 l = e0
  generalize err5 (rise6 (l.map (·.nm))) 9 = e1
  generalize err5 (decide ((l.length : Int) ≤ 12)) 7 = e2
  unfold first6 first6 first6 first6
  by_cases h0 : e0 = 0
  ·
   subst h0
   by_cases h1 : e1 = 0
   ·
    subst h1
    by_cases h2 : e2 = 0
    ·
     subst h2
     cases names6 G <;> cases rise6 G <;> by_cases hG : G.length ≤ 6 <;> simp [err5, first6, hG]
    ·
     simp [h2]
   ·
    simp [h1]
  ·
   simp [h0]
 rw [h1]
 unfold ofD11
 by_cases h : ofE11 l = 0
 ·
  rw [if_pos h, if_pos h]
  cases names6 G <;> cases rise6 G <;> by_cases hG : G.length ≤ 6 <;> simp [hG]
 ·
  rw [if_neg h, if_neg h]
  exact ⟨fun _ => rfl, fun h' => absurd h' h⟩
theorem cE_facts {l : List Us} {G : List ByteArray} (h : cE11 l G = 0) : (∀ u ∈ l, chk6 2 u = 0) ∧ rise6 (l.map (·.nm)) = true ∧ l.length ≤ 12 ∧ names6 G = true ∧ rise6 G = true ∧ G.length ≤ 6 := by
 unfold cE11 at h
 have hz := first6_zero h
 refine ⟨mayE11_zero (hz _ (by simp)), err5_zero (n := 9) (by decide) (hz _ (by simp)), ?_, err5_zero (n := 10) (by decide) (hz _ (by simp)), err5_zero (n := 9) (by decide) (hz (err5 (rise6 G) 9) (by simp)), ?_⟩
 ·
  have := err5_zero (n := 7) (by decide) (hz (err5 (decide ((l.length : Int) ≤ 12)) 7) (by simp))
  rw [decide_eq_true_eq] at this
  omega
 ·
  have := err5_zero (n := 7) (by decide) (hz (err5 (decide ((G.length : Int) ≤ 6)) 7) (by simp))
  rw [decide_eq_true_eq] at this
  omega
theorem names_map11 (l : List Us) : (l.map fun u => Value.string u.nm) = textCells (l.map (·.nm)) := by unfold textCells; rw [List.map_map]; rfl

set_option maxRecDepth 100000 in
set_option maxHeartbeats 2000000 in
theorem namesOf11_calls (A : Option Addr) (c n : Nat) (l : List Us) (w : World) (hl : n = l.length) (hn : n ≤ 1000) (hr : RdU7 w A l) :
  Calls Tryz.prog 84 #[.slice A n c] w fun e w' => ∃ A2 c2, e = .returned (.slice A2 n c2) ∧ RdS w' A2 (l.map (·.nm)) ∧ Below w.heap.size w w' := by
 obtain ⟨i0, hi, hz0, hz1, hz2⟩ := info_parts infoStr10
 have HR := Lib.hid hr
 have HL := Lib.hid hl
 have HN : Hid (w.ownsRow w.heap.size 9 1 (.slice none 0 0) 0 ((l.take 0).map fun u => Value.string u.nm)) := World.ownsRow_nil _ _ _ _
 clear hr hl
 go_enter Tryz.func84, Tryz.ntmps84
 go_wp2
 go_loopg [3, 5, 8] n (fun gg s3 _ s8 wr => ∃ k : Nat, k ≤ n ∧ n - k ≤ gg ∧ s8 = .int .i64 k ∧ Hid (Below w.heap.size w wr) ∧ Hid (wr.ownsRow w.heap.size 9 1 s3 k ((l.take k).map fun u => Value.string u.nm)))
 case atStart => exact ⟨0, Nat.zero_le _, by omega, rfl, Below.refl _ _, HN.out⟩
 case round =>
  clear HN
  obtain ⟨k, hk, hg, rfl, HW, HO⟩ := hrel
  by_cases hlt : k < n
  ·
   have hltz : (k : Int) < (n : Int) := by omega
   have hkl : k < l.length := HL.out ▸ hlt
   obtain ⟨b, off, rfl, hb, hc⟩ := (HR.out.later HW.out) (by intro e; rw [e] at hkl; exact absurd hkl (Nat.not_lt_zero _))
   have c0 : wr.cell? ⟨b, off + k * 5, none⟩ = some (.string l[k].nm) := hc k hkl 0 _ rfl
   have c1 : wr.cell? ⟨b, off + k * 5 + 1, none⟩ = some (.string l[k].hs) := hc k hkl 1 _ rfl
   have c2 : wr.cell? ⟨b, off + k * 5 + 2, none⟩ = some (.string l[k].ml) := hc k hkl 2 _ rfl
   have c3 : wr.cell? ⟨b, off + k * 5 + 3, none⟩ = some (.bool l[k].dis) := hc k hkl 3 _ rfl
   have c4 : wr.cell? ⟨b, off + k * 5 + 4, none⟩ = some (.slice l[k].ga l[k].gs.length l[k].gc) := hc k hkl 4 _ rfl
   have HU2 := Lib.hid (HO.out.alloc (.cells #[.string l[k].nm, .string l[k].hs, .string l[k].ml, .bool l[k].dis, .slice l[k].ga l[k].gs.length l[k].gc] 37))
   have HW2 := Lib.hid (below_next HW.out (below_alloc (Below.refl wr.heap.size wr) (.cells #[.string l[k].nm, .string l[k].hs, .string l[k].ml, .bool l[k].dis, .slice l[k].ga l[k].gs.length l[k].gc] 37)))
   have HT : Hid (((l.take (k + 1)).map fun u => Value.string u.nm) = ((l.take k).map fun u => Value.string u.nm) ++ [.string l[k].nm]) := by
    show _ = _
    rw [List.take_succ_eq_append_getElem hkl, List.map_append]
    rfl
   have hsz := HW.out.size
   clear hc hb HO HW
   generalize l[k].nm = nm at *
   generalize l[k].hs = hs at *
   generalize l[k].ml = ml at *
   generalize l[k].dis = dis at *
   generalize l[k].ga = ga at *
   generalize l[k].gs.length = gl at *
   generalize l[k].gc = gc at *
   go_wp2_with (first
    | (at_builtin; refine wpList_append_own _ rfl _ _ 28 rfl w.heap.size 9 i0 (.string ⟨#[]⟩) 1 16 Tryz.underlying28 hi hz0 hz1 hz2 rfl (by decide) _ _ _ rfl (HU2.out.alloc _) ⟨wr.heap.size + 1, 0, none⟩ 1 1 [.string nm] rfl rfl (fun j u hu => by rw [Addr.add_lit, Nat.zero_add, World.cell?_alloc_at _ _ _ _ (by simp)]; simpa using hu) (by simp [Value.oneCell']) (by unfold maxLen; omega) (by omega) (by simp; omega) ?_; intro v2 w2 hown' hgrow _; have HOw2 := Lib.hid hown'; have HGw2 := Lib.hid hgrow; clear hown' hgrow)
    | fail)
   have R1 := Lib.hid (app10 HW2.out HU2.out HGw2.out)
   have R2 : Hid (w2.ownsRow w.heap.size 9 1 v2 (k + 1) ((l.take (k + 1)).map fun u => Value.string u.nm)) := by
    show World.ownsRow _ _ _ _ _ _ _
    rw [HT.out]
    exact HOw2.out
   clear HT HOw2 HGw2 HU2 HW2
   go_roundg (n - (k + 1))
   case measure => omega
   case rel => exact ⟨k + 1, by omega, by omega, by go_num, R1, R2⟩
  ·
   have hltz : ¬ (k : Int) < (n : Int) := by omega
   obtain rfl : k = n := by omega
   have hown := HO.out
   rw [List.take_of_length_le (by have := HL.out; omega)] at hown
   have hsh : ∃ A2 c2, u3 = .slice A2 k c2 ∧ RdS wr A2 (l.map (·.nm)) := by
    have hk' : k = (l.map (·.nm)).length := by rw [List.length_map]; exact HL.out
    have hs : ∃ A2 c2, u3 = .slice A2 k c2 := by
     have e : (l.map fun u => Value.string u.nm) = (l.map fun u => u.nm.data.toList).map encStr := by
      rw [List.map_map]
      refine List.map_congr_left fun u _ => ?_
      exact (encStr_back10 u.nm).symm
     rw [e] at hown
     have hk2 : k = (l.map fun u => u.nm.data.toList).length := by rw [List.length_map]; exact HL.out
     rw [hk2] at hown ⊢
     exact row10_shape hown
    obtain ⟨A2, c2, rfl⟩ := hs
    refine ⟨A2, c2, rfl, ?_⟩
    have h2 := ownsRow_low10 hown (Nat.zero_le _)
    rw [names_map11] at h2
    rw [hk'] at h2
    exact rds_of_own h2
   obtain ⟨A2, c2, rfl, hrd⟩ := hsh
   have HF := Lib.hid hrd
   have HB := Lib.hid HW.out
   clear hrd hown HO HW
   go_wp2
   go_ret
   exact ⟨A2, ⟨c2, rfl⟩, HF.out, HB.out⟩
set_option maxRecDepth 100000 in
theorem rise11_calls (Aa : Option Addr) (n c : Nat) (ss : List ByteArray) (w : World) (hl : n = ss.length) (hr : RdS w Aa ss) (hm : n ≤ 9223372036854775807) :
  Calls Tryz.prog 83 #[.slice Aa n c] w fun e w' => e = .returned (.int .i64 (err5 (rise6 ss) 9)) ∧ ∃ q, w' = w.drewN q := by
 have HR := Lib.hid hr
 have HL := Lib.hid hl
 clear hr hl
 obtain ⟨r, hr⟩ : ∃ r, r = err5 (rise6 ss) 9 := ⟨_, rfl⟩
 rw [← hr]
 have HE := Lib.hid hr
 clear hr
 go_enter Tryz.func83, Tryz.ntmps83
 go_wp2
 go_loopg [3] n (fun gg s3 wr => ∃ k : Nat, (k ≤ n ∨ k = 1) ∧ 1 ≤ k ∧ n - k ≤ gg ∧ s3 = .int .i64 k ∧ (∃ q, wr = w.drewN q) ∧ Hid (∀ j (h : j + 1 < ss.length), j + 1 < k → ahead6 ss[j] ss[j + 1] = true))
 case atStart => exact ⟨1, .inr rfl, Nat.le_refl _, by omega, rfl, ⟨0, rfl⟩, fun j _ hj => absurd hj (by omega)⟩
 case round =>
  obtain ⟨k, hk, hk1, hg, rfl, ⟨q, hq⟩, A⟩ := hrel
  have HQ := Lib.hid hq
  have HW : Hid (RdS wr Aa ss) := by rw [hq]; exact HR.out.below (below_drewN (Below.refl w.heap.size w) q)
  clear hq
  by_cases hlt : k < n
  ·
   have hltz : (k : Int) < (n : Int) := by omega
   have hkl : k < ss.length := HL.out ▸ hlt
   have hkl' : k - 1 < ss.length := by omega
   obtain ⟨b, off, hA, hcell⟩ := HW.out.at6 k hkl
   obtain ⟨b', off', hA', hcell'⟩ := HW.out.at6 (k - 1) hkl'
   obtain ⟨rfl, rfl⟩ : b' = b ∧ off' = off := by
    rw [hA] at hA'
    simp at hA'
    exact ⟨hA'.1.symm, hA'.2.symm⟩
   subst hA
   have zk : (k : Int) - 1 = ((k - 1 : Nat) : Int) := by omega
   have z1 : ((k - 1 : Nat) : Int) < (n : Int) := by omega
   have hcw : ∀ i, (wr.drewN i).cell? ⟨b', off' + k, none⟩ = some (.string ss[k]) := fun i => hcell
   have hcw' : ∀ i, (wr.drewN i).cell? ⟨b', off' + (k - 1), none⟩ = some (.string ss[k - 1]) := fun i => hcell'
   have HX : Hid (ahead6 ss[k - 1] ss[k] = true → ∀ j (h : j + 1 < ss.length), j + 1 < k + 1 → ahead6 ss[j] ss[j + 1] = true) := fun hq j h hj => by
    by_cases e : j = k - 1
    ·
     subst e
     have e2 : k - 1 + 1 = k := by omega
     have : ss[k - 1 + 1] = ss[k] := by congr 1
     rw [this]; exact hq
    ·
     exact A.out j h (by omega)
   have HF : Hid (ahead6 ss[k - 1] ss[k] = false → r = 9) := fun hf => by
    rw [HE.out]
    have : rise6 ss = false := rise6_bad ss (k - 1) (by omega) (by
     have : ss[k - 1 + 1] = ss[k] := by congr 1; omega
     rw [this]; exact hf)
    rw [this]; rfl
   have HC : Hid (∀ W, Calls Tryz.prog 151 #[.string ss[k - 1], .string ss[k]] W fun e w' => e = .returned (.int .i64 (Lib.compareBytes ss[k - 1].data.toList ss[k].data.toList)) ∧ w' = W) := fun W => compare_calls _ _ W
   have HD : Hid (ahead6 ss[k - 1] ss[k] = decide (Lib.compareBytes ss[k - 1].data.toList ss[k].data.toList < 0)) := rfl
   generalize Lib.compareBytes ss[k - 1].data.toList ss[k].data.toList = cm at *
   generalize ahead6 ss[k - 1] ss[k] = q6 at *
   generalize ss[k] = x at *
   generalize ss[k - 1] = y at *
   clear A hcell hcell'
   have hwr : IntKind.i64.wrap ((k - 1 : Nat) : Int) = ((k - 1 : Nat) : Int) := IntWalk.i64_in _ (by omega)
   by_cases hc : cm < 0
   ·
    have hq : q6 = true := by rw [HD.out, decide_eq_true hc]
    have HY := Lib.hid (HX.out hq)
    have hcd : decide (cm ≥ 0) = false := decide_eq_false (by omega)
    have hc2 : ¬ cm ≥ 0 := by omega
    have hc3 : ¬ 0 ≤ cm := by omega
    clear HX HF HD hq
    go_wp2
    go_quiet (first | (go_at_call 151; exact Calls.quiet_of_same (HC.out _)))
    go_wp2
    go_roundg (n - (k + 1))
    case measure => omega
    case rel => exact ⟨k + 1, .inl (by omega), by omega, by omega, by go_num, ⟨q + nq, by rw [HQ.out, World.drewN_drewN]⟩, HY⟩
   ·
    have hq : q6 = false := by rw [HD.out, decide_eq_false hc]
    have hr9 : r = 9 := HF.out hq
    subst hr9
    have hc2 : cm ≥ 0 := by omega
    have hc3 : 0 ≤ cm := by omega
    clear HX HF HD hq
    go_wp2
    go_quiet (first | (go_at_call 151; exact Calls.quiet_of_same (HC.out _)))
    go_wp2
    go_ret
    exact ⟨rfl, q + nq, by rw [HQ.out, World.drewN_drewN]⟩
  ·
   have hltz : ¬ (k : Int) < (n : Int) := by omega
   have hr0 : r = 0 := by
    rw [HE.out]
    have : rise6 ss = true := rise6_all ss (fun j h => A.out j h (by have := HL.out; omega))
    rw [this]; rfl
   subst hr0
   clear A
   go_wp2
   go_ret
   exact ⟨rfl, q, HQ.out⟩


/-! ### a user is added -/
def YJn11 (D G C1 : Nat) (g n : ByteArray) : Nat → Value → Prop
 | 2, v => v = .pointer (some ⟨D, 2, none⟩)
 | 3, v => v = .pointer (some ⟨G, 0, none⟩)
 | 4, v => v = .string g
 | 5, v => v = .pointer (some ⟨C1, 0, none⟩)
 | 6, v => v = .string n
 | _, v => v = .pointer (some ⟨D, 0, none⟩)
def YJnW11 (D G C1 : Nat) (g n : ByteArray) (j : Nat) (v : Value) (_ : World) : Prop := YJn11 D G C1 g n j v
section
variable {w0 w : World} {D P M G : Nat} {A : Acc11} {L : Row7} {S : Grs10} {k : Nat}
set_option maxRecDepth 100000 in
set_option maxHeartbeats 2000000 in
theorem addOne11_calls (C0 C1 : Nat) (g n : ByteArray) (ho : Own11 w0 w D P M G A L S) (hk : Good10 S k) (h9 : k ≤ 900) (hc0 : w.cell? ⟨C0, 0, none⟩ = some (.pointer (some ⟨D, 0, none⟩))) (hc1 : w.cell? ⟨C1, 0, none⟩ = some (.string n)) (hg : g.size ≤ 9223372036854775807) (hn : n.size ≤ 9223372036854775807) :
  Calls Tryz.prog 158 #[.string g, .pointer (some ⟨C0, 0, none⟩), .pointer (some ⟨C1, 0, none⟩)] w fun e w' => e = .returned (.int .i64 (joE10 S g.data.toList n.data.toList)) ∧ Goes11 w0 w D P M G A L (joS10 S g.data.toList n.data.toList) w' := by
 have HO := Lib.hid ho
 have HST : Hid (∀ W, Below w.heap.size w W → Calls Tryz.prog 131 #[.pointer (some ⟨G, 0, none⟩), .string g, .string n] W fun e w' => e = .returned (.int .i64 (joE10 S g.data.toList n.data.toList)) ∧ Goes11 w0 w D P M G A L (joS10 S g.data.toList n.data.toList) w') := fun W hb =>
  ((ho.later hb).gjoin hk h9 g n hg hn).mono fun e w' ⟨he, hgo⟩ => ⟨he, hgo.ahead hb⟩
 have HC0 : Hid (∀ W, Below w.heap.size w W → W.cell? ⟨C0, 0, none⟩ = some (.pointer (some ⟨D, 0, none⟩))) := fun W hb => (hb.cell (p := ⟨C0, 0, none⟩) (World.block_lt_of_cell? w _ hc0)).trans hc0
 have HC1 : Hid (∀ W, Below w.heap.size w W → W.cell? ⟨C1, 0, none⟩ = some (.string n)) := fun W hb => (hb.cell (p := ⟨C1, 0, none⟩) (World.block_lt_of_cell? w _ hc1)).trans hc1
 clear ho hk h9 hc0 hc1 hg hn
 generalize joE10 S g.data.toList n.data.toList = r at *
 generalize joS10 S g.data.toList n.data.toList = S' at *
 go_enter Tryz.func158, Tryz.ntmps158
 go_wp2_with fail
 refine wp_region_last (by kernel_rfl) 7 (fun W => Below w.heap.size w W) (fun W => Goes11 w0 w D P M G A L S' W) (YJnW11 D G C1 g n) (fun v => v = .int .i64 r) ?F ?hF (by kernel_rfl) (by kernel_rfl) (by kernel_rfl) (by kernel_rfl) (by decide) (below_drew (Below.refl _ _)) ?step ?fin
 case hF =>
  intro x
  simp only [List.map_cons, List.map_nil, putL, Act.put, List.setIfInBounds_toArray, List.set_cons_zero, List.set_cons_succ, Nat.zero_add, Nat.reduceAdd]
  exact rfl
 case step =>
  refine ⟨?_, ?_, ?_, ?_, ?_, ?_, ?_, ?_, ?_, trivial⟩
  ·
   intro x W
   refine ⟨fun _ hW hdep K hK => ?_, (fun h => absurd h (by decide)), (fun h => absurd h (by decide))⟩
   have c := HC0.out W hW
   clear hdep
   go_simp
   exact hK _ _ rfl hW (fun _ _ h => h)
  ·
   intro x W
   refine ⟨fun _ hW hdep K hK => ?_, (fun h => absurd h (by decide)), (fun h => absurd h (by decide))⟩
   have h0 : x 0 = _ := hdep 0 rfl
   clear hdep
   simp only [h0] at hK
   go_simp
   exact hK _ _ rfl hW (fun _ _ h => h)
  ·
   intro x W
   refine ⟨fun _ hW hdep K hK => ?_, (fun h => absurd h (by decide)), (fun h => absurd h (by decide))⟩
   have h1 : x 1 = _ := hdep 1 rfl
   clear hdep
   simp only [h1] at hK
   go_simp
   exact hK _ _ rfl hW (fun _ _ h => h)
  ·
   intro x W
   refine ⟨fun _ hW hdep K hK => ?_, (fun h => absurd h (by decide)), (fun h => absurd h (by decide))⟩
   have h2 : x 2 = _ := hdep 2 rfl
   have c := (HO.out.later hW).c2
   clear hdep
   simp only [h2] at hK
   go_simp
   exact hK _ _ rfl hW (fun _ _ h => h)
  ·
   intro x W
   refine ⟨fun _ hW hdep K hK => ?_, (fun h => absurd h (by decide)), (fun h => absurd h (by decide))⟩
   clear hdep
   go_simp
   exact hK _ _ rfl hW (fun _ _ h => h)
  ·
   intro x W
   refine ⟨fun _ hW hdep K hK => ?_, (fun h => absurd h (by decide)), (fun h => absurd h (by decide))⟩
   clear hdep
   go_simp
   exact hK _ _ rfl hW (fun _ _ h => h)
  ·
   intro x W
   refine ⟨fun _ hW hdep K hK => ?_, (fun h => absurd h (by decide)), (fun h => absurd h (by decide))⟩
   have h5 : x 5 = _ := hdep 5 rfl
   have c := HC1.out W hW
   clear hdep
   simp only [h5] at hK
   go_simp
   exact hK _ _ rfl hW (fun _ _ h => h)
  ·
   intro x W
   refine ⟨(fun h => absurd h (by decide)), fun _ hW hdep K hK => ?_, (fun h => absurd h (by decide))⟩
   have h3 : x 3 = _ := hdep 3 rfl
   have h4 : x 4 = _ := hdep 4 rfl
   have h6 : x 6 = _ := hdep 6 rfl
   have hc := HST.out W hW
   clear hdep
   simp only [h3, h4, h6] at hK
   go_simp
   refine hc.mono ?_
   rintro e W' ⟨rfl, hg⟩
   exact hK _ _ rfl hg
  ·
   intro x W
   refine ⟨(fun h => absurd h (by decide)), (fun h => absurd h (by decide)), fun _ hW hdep K hK => ?_⟩
   have h7 : x 7 = _ := hdep 7 rfl (by decide)
   clear hdep
   simp only [h7] at hK
   go_simp
   exact hK _ rfl
 case fin =>
  intro x W hW hZ
  have h8 : x 8 = .int .i64 r := hZ 8 (by decide) (by decide)
  have HF := Lib.hid hW
  clear hW hZ HST HO HC0 HC1
  rw [h8]
  go_wp2
  go_ret
  exact ⟨rfl, HF.out⟩
def Jn11 (w0 w1 : World) (D P M G : Nat) (A : Acc11) (L : Row7) (S : Grs10) (u : Us) (N : List (List UInt8)) (i : Nat) (W : World) : Prop :=
 Own11 w0 W D P M G A L (joinS11 S u.nm.data.toList (u.gs.take i)) ∧ Keeps11 w1 W ∧ ∀ g ∈ u.gs.take i, hasT N g.data.toList = true
theorem keep_cell11 {w1 W : World} {b : Nat} {c : Array Value} {T : TypeId} {fr : Nat × Nat} (h : Keeps11 w1 W) (hb : w1.heap[b]? = some (.cells c T fr)) (h1 : T ≠ 84) (h2 : T ≠ 140) (h3 : T ≠ 143) (j : Nat) : W.cell? ⟨b, j, none⟩ = w1.cell? ⟨b, j, none⟩ := by
 have := h b c T fr hb h1 h2 h3
 unfold World.cell?
 rw [this, hb]
set_option maxRecDepth 100000 in
set_option maxHeartbeats 4000000 in
theorem add11_calls {pre : List Us} {Gs : List ByteArray} (u : Us) (ho : Own11 w0 w D P M G A L S) (hg : St11 A L S pre Gs k) (h9 : k ≤ 800) (hc : chk6 2 u = 0) (hup : ∀ v ∈ pre, bytesBefore v.nm.data.toList u.nm.data.toList = true) (h12 : pre.length < 12) (hu : u.Ok w0) (h5 : Len5 w0) :
  Calls Tryz.prog 88 #[.pointer (some ⟨D, 0, none⟩), .agg #[.string u.nm, .string u.hs, .string u.ml, .bool u.dis, .slice u.ga u.gs.length u.gc]] w fun e w' => e = .returned (.int .i64 (oneD11 Gs pre u)) ∧
   (oneD11 Gs pre u = 0 → Own11 w0 w' D P M G (putV A u.nm.data.toList (u.hs.data.toList, u.dis)) (seL9 L u.nm.data.toList u.ml.data.toList) (joinS11 S u.nm.data.toList u.gs)) ∧ (oneD11 Gs pre u ≠ 0 → Below w0.heap.size w0 w') := by
 obtain ⟨_, hn5, hh5⟩ := chk6_head hc
 obtain ⟨hfo, h6, hns, hri⟩ := chk6_two hc
 have hN : names10 S = bl11 Gs := hg.1.2.2
 have hst := step11 hg u hc hup h12
 have hL := hg.2
 have hAl := hg.len
 have hfr := hg.fresh hup
 have hG10 := hg.1.1.grp
 obtain ⟨w1, hw1⟩ : ∃ w1, w1 = (w.alloc (.cells #[.pointer (some ⟨D, 0, none⟩)] 25)).alloc (.cells #[.string u.nm, .string u.hs, .string u.ml, .bool u.dis, .slice u.ga u.gs.length u.gc] 37) := ⟨_, rfl⟩
 have hb1 : Below w.heap.size w w1 := by rw [hw1]; exact below_alloc (below_alloc (Below.refl _ _) _) _
 have ka : (w.alloc (.cells #[.pointer (some ⟨D, 0, none⟩)] 25)).heap[w.heap.size]? = some (.cells #[.pointer (some ⟨D, 0, none⟩)] 25 (0, 0)) := (MapKept.heap_alloc w _).1
 have ks : (w.alloc (.cells #[.pointer (some ⟨D, 0, none⟩)] 25)).heap.size = w.heap.size + 1 := by simp
 have k0 : w1.heap[w.heap.size]? = some (.cells #[.pointer (some ⟨D, 0, none⟩)] 25 (0, 0)) := by rw [hw1]; exact ((below_alloc (Below.refl _ _) _).block w.heap.size (by omega)).trans ka
 have k1 : w1.heap[w.heap.size + 1]? = some (.cells #[.string u.nm, .string u.hs, .string u.ml, .bool u.dis, .slice u.ga u.gs.length u.gc] 37 (0, 0)) := by rw [hw1, ← ks]; exact (MapKept.heap_alloc _ _).1
 have hcell0 : ∀ W, Keeps11 w1 W → W.cell? ⟨w.heap.size, 0, none⟩ = some (.pointer (some ⟨D, 0, none⟩)) := fun W hk => (keep_cell11 hk k0 (by decide) (by decide) (by decide) 0).trans (by simp [World.cell?, k0])
 have hcell1 : ∀ W j, Keeps11 w1 W → W.cell? ⟨w.heap.size + 1, j, none⟩ = (#[.string u.nm, .string u.hs, .string u.ml, .bool u.dis, .slice u.ga u.gs.length u.gc] : Array Value)[j]? := fun W j hk => (keep_cell11 hk k1 (by decide) (by decide) (by decide) j).trans (by simp [World.cell?, k1])
 have hI0 : Jn11 w0 w1 D P M G A L S u (bl11 Gs) 0 w1 := ⟨ho.later hb1, Keeps11.refl _, fun g hg => by simp at hg⟩
 have hE := everyS11_calls 158 #[] #[.pointer (some ⟨w.heap.size, 0, none⟩), .pointer (some ⟨w.heap.size + 1, 0, none⟩)] u.ga u.gs.length u.gc u.gs w1 (fun i => if h : i < u.gs.length then (if hasT (bl11 Gs) u.gs[i].data.toList then 0 else 8) else 0) (Jn11 w0 w1 D P M G A L S u (bl11 Gs)) (fun W => Below w0.heap.size w0 W) rfl (Nat.le_trans hu.len hu.cap)
  (enters_of Tryz.func158 (by kernel_rfl) rfl) hI0 (fun i W hI => hu.rd.below hI.1.below) (fun i hi W hI => by
   obtain ⟨h1, h2, h3⟩ := hI
   have hJ := joined11 hG10 hn5 hns hri hfr i (Nat.le_of_lt hi) (fun g hg => by rw [hN]; exact h3 g hg)
   have hj := joE_at11 hi hJ hn5 hns hri hfr
   rw [hN] at hj
   refine (addOne11_calls w.heap.size (w.heap.size + 1) u.gs[i] u.nm h1 hJ.good (by omega) (hcell0 W h2) (by rw [hcell1 W 0 h2]; rfl) (hu.all _ (List.getElem_mem hi)) (Nat.le_trans hu.nm (by decide))).mono ?_
   rintro e w' ⟨he, hgo⟩
   rw [dif_pos hi]
   rw [hj] at he
   refine ⟨he, fun h0 => ?_, fun _ => hgo.1.below⟩
   refine ⟨by rw [joinS_next S _ hi]; exact hgo.1, h2.trans hgo.2, fun g hg => ?_⟩
   rw [List.take_succ_eq_append_getElem hi, List.mem_append] at hg
   rcases hg with hg | hg
   ·
    exact h3 g hg
   ·
    rw [List.mem_singleton] at hg
    subst hg
    by_cases hh : hasT (bl11 Gs) u.gs[i].data.toList = true
    ·
     exact hh
    ·
     rw [if_neg hh] at h0; exact absurd h0 (by decide))
 have hev : evE11 (fun i => if h : i < u.gs.length then (if hasT (bl11 Gs) u.gs[i].data.toList then 0 else 8) else 0) 0 u.gs.length = if u.gs.all (fun g => hasT (bl11 Gs) g.data.toList) then 0 else 8 :=
  ev_row11 (fun g : ByteArray => hasT (bl11 Gs) g.data.toList) 8 (by decide) _ u.gs 0 (fun j hj => by
   simp only [Nat.zero_add]
   rw [dif_pos hj])
 rw [hev] at hE
 have hone : oneD11 Gs pre u = if u.gs.all (fun g => hasT (bl11 Gs) g.data.toList) then (if pre.any (fun v => !(u.ml.data.toList == []) && (u.ml.data.toList == v.ml.data.toList)) then 9 else 0) else 8 := rfl
 obtain ⟨r, hr⟩ : ∃ r, r = oneD11 Gs pre u := ⟨_, rfl⟩
 rw [← hr]
 rw [hone] at hr
 have HRR := Lib.hid hr
 clear hr
 have HE := Lib.hid hE
 have HNS : u.nm.size ≤ 1000 := name11_size hn5
 have HHS : u.hs.size ≤ 1000 := hash11_size hh5
 have HML : u.ml.size ≤ 9223372036854775807 := Nat.le_trans hu.ml (by decide)
 have HPUT : Hid (∀ W, Own11 w0 W D P M G A L (joinS11 S u.nm.data.toList u.gs) → Calls Tryz.prog 94 #[.pointer (some ⟨D, 0, none⟩), .string u.nm, .agg #[.string u.hs, .bool u.dis]] W fun e w' => e = .returned (.tuple #[]) ∧ Goes11 w0 W D P M G (putV A u.nm.data.toList (u.hs.data.toList, u.dis)) L (joinS11 S u.nm.data.toList u.gs) w') := fun W h => put11_calls u.nm u.hs u.dis h (by omega) HNS HHS
 have HPM : Hid (∀ W, Own11 w0 W D P M G (putV A u.nm.data.toList (u.hs.data.toList, u.dis)) L (joinS11 S u.nm.data.toList u.gs) → Calls Tryz.prog 113 #[.pointer (some ⟨D, 0, none⟩), .string u.nm, .string u.ml] W fun e w' => e = .returned (.int .i64 (seE9 L u.nm.data.toList u.ml.data.toList)) ∧ Goes11 w0 W D P M G (putV A u.nm.data.toList (u.hs.data.toList, u.dis)) (seL9 L u.nm.data.toList u.ml.data.toList) (joinS11 S u.nm.data.toList u.gs) w') := fun W h =>
  putMail11_calls u.nm u.ml h (by omega) (h5.later h.below) HNS HML
 have HCL0 := Lib.hid hcell0
 have HCL1 := Lib.hid hcell1
 have HST := Lib.hid hst
 have hmf := mkf
 clear hst hE hI0 hcell0 hcell1 hone hev hN hL hAl hfr hG10 hg hc hup h12 hu h5 hn5 hh5 hfo h6 hns hri HNS HHS HML h9 ho
 generalize (pre.any fun v => !(u.ml.data.toList == []) && (u.ml.data.toList == v.ml.data.toList)) = pm at *
 have hen1 : (Tryz.prog.funcs[88]?).isSome = true := by kernel_rfl
 clear hen1
 rw [hw1] at HE
 go_enter Tryz.func88, Tryz.ntmps88
 go_wp2_with fail
 with_reducible refine HE.out.mono ?_
 rw [← hw1]
 rintro e w2 ⟨rfl, hok, hbad⟩
 clear HE
 cases hall : u.gs.all (fun g => hasT (bl11 Gs) g.data.toList) with
 | false =>
  rw [hall] at hbad
  have HF := Lib.hid (hbad (by decide))
  obtain rfl : r = 8 := by have := HRR.out; rw [hall] at this; exact this
  clear hok hbad
  go_wp2
  go_ret
  exact ⟨rfl, fun h => absurd h (by decide), fun _ => HF.out⟩
 | true =>
  rw [hall] at hok
  obtain ⟨j1, j2, _⟩ := hok rfl
  rw [List.take_length] at j1
  have hst2 := HST.out hall
  obtain rfl : r = seE9 L u.nm.data.toList u.ml.data.toList := by
   have := HRR.out
   rw [hall, if_pos rfl] at this
   rw [this]
   exact hst2.1.symm
  have HO := Lib.hid j1
  have HK := Lib.hid j2
  have HP2 := Lib.hid (HPUT.out w2 j1)
  have d0 := HCL0.out w2 j2
  have d1 : w2.cell? ⟨w.heap.size + 1, 0, none⟩ = some (.string u.nm) := HCL1.out w2 0 j2
  have d2 : w2.cell? ⟨w.heap.size + 1, 1, none⟩ = some (.string u.hs) := HCL1.out w2 1 j2
  have d3 : w2.cell? ⟨w.heap.size + 1, 3, none⟩ = some (.bool u.dis) := HCL1.out w2 3 j2
  clear hok hbad j1 j2 hst2 HPUT HST HO HRR
  go_wp2_with fail
  with_reducible refine HP2.out.mono ?_
  rintro e w3 ⟨rfl, hgo⟩
  have hk3 := HK.out.trans hgo.2
  have HP3 := Lib.hid (HPM.out w3 hgo.1)
  have e0 := HCL0.out w3 hk3
  have e1 : w3.cell? ⟨w.heap.size + 1, 0, none⟩ = some (.string u.nm) := HCL1.out w3 0 hk3
  have e2 : w3.cell? ⟨w.heap.size + 1, 2, none⟩ = some (.string u.ml) := HCL1.out w3 2 hk3
  clear hgo hk3 HP2 HK HPM d0 d1 d2 d3
  go_wp2_with fail
  with_reducible refine HP3.out.mono ?_
  rintro e w4 ⟨rfl, hgo⟩
  have HF := Lib.hid hgo.1
  clear hgo HP3 e0 e1 e2
  go_wp2
  go_ret
  exact ⟨rfl, fun _ => HF.out, fun _ => HF.out.below⟩
end

/-! ### Of -/
def Of11 (l : List Us) (G : List ByteArray) (w : World) (e : Ending) (w' : World) : Prop :=
 (ofD11 l G ≠ 0 ∧ e = .returned (.tuple #[.pointer none, .int .i64 (ofD11 l G)]) ∧ Below w.heap.size w w') ∨
 (ofD11 l G = 0 ∧ ∃ D P M Gr A L S k, e = .returned (.tuple #[.pointer (some ⟨D, 0, none⟩), .int .i64 0]) ∧ Own11 w w' D P M Gr A L S ∧ St11 A L S l G k ∧ k ≤ 200)
section
variable {w : World} {A A2 : Option Addr} {c c2 n m : Nat} {l : List Us} {G : List ByteArray}
theorem ofmay11_calls (W : World) (hb : Below w.heap.size w W) (hl : n = l.length) (hn : n ≤ 1000) (hr : RdU7 w A l) (ho : ∀ u ∈ l, u.Ok w) (h5 : Len5 w) :
  Calls Tryz.prog 81 #[.slice A n c, .func (.func 82) #[] #[]] W (Errs5 (mayE11 l) W) := by
 have h := everyU11_calls 82 #[] #[] A n c l W (fun i => if h : i < l.length then chk6 2 l[i] else 0) (fun _ W' => Below W.heap.size W W') (fun W' => Below W.heap.size W W') hl (by omega)
  (enters_of Tryz.func82 (by kernel_rfl) rfl) (Below.refl _ _) (fun i W' hb' => hr.later (below_next hb hb')) (fun i W' hb' o => below_next hb' (below_alloc (Below.refl _ _) _))
  (fun i hi W' hb' => (mayBe11_calls l[i] W' ((ho _ (List.getElem_mem hi)).below (below_next hb hb')) (h5.later (below_next hb hb'))).mono fun e w' ⟨he, hb2⟩ => ⟨by rw [he, dif_pos hi], fun _ => below_next hb' hb2, fun _ => below_next hb' hb2⟩)
 rw [show evE11 (fun i => if h : i < l.length then chk6 2 l[i] else 0) 0 n = mayE11 l by
  rw [hl]; exact ev_may11 _ l 0 (fun j hj => by simp only [Nat.zero_add]; rw [dif_pos hj])] at h
 refine h.mono ?_
 rintro e w' ⟨he, h1, h2⟩
 refine ⟨he, ?_⟩
 by_cases h0 : mayE11 l = 0
 ·
  exact h1 h0
 ·
  exact h2 h0
theorem ofname11_calls (W : World) (hb : Below w.heap.size w W) (hm : m = G.length) (hm1 : m ≤ 1000) (hg : RdS w A2 G) (hgs : ∀ g ∈ G, g.size ≤ 9223372036854775807) :
  Calls Tryz.prog 86 #[.slice A2 m c2, .func (.func 65) #[] #[]] W (Errs5 (err5 (names6 G) 10) W) := by
 have h := everyS11_calls 65 #[] #[] A2 m c2 G W (fun i => if h : i < G.length then err5 (name5 G[i].data.toList) 10 else 0) (fun _ W' => Below W.heap.size W W') (fun W' => Below W.heap.size W W') hm (by omega)
  (enters_of Tryz.func65 (by kernel_rfl) rfl) (Below.refl _ _) (fun i W' hb' => hg.below (below_next hb hb'))
  (fun i hi W' hb' => (Name_calls G[i] W' (hgs _ (List.getElem_mem hi))).mono fun e w' ⟨he, hb2⟩ => ⟨by rw [he, dif_pos hi], fun _ => below_next hb' hb2, fun _ => below_next hb' hb2⟩)
 rw [show evE11 (fun i => if h : i < G.length then err5 (name5 G[i].data.toList) 10 else 0) 0 m = err5 (names6 G) 10 by
  rw [hm]; exact ev_row11 (fun g : ByteArray => name5 g.data.toList) 10 (by decide) _ G 0 (fun j hj => by simp only [Nat.zero_add]; rw [dif_pos hj]; rfl)] at h
 refine h.mono ?_
 rintro e w' ⟨he, h1, h2⟩
 refine ⟨he, ?_⟩
 by_cases h0 : err5 (names6 G) 10 = 0
 ·
  exact h1 h0
 ·
  exact h2 h0
theorem ofmake11_calls (D P M Gr : Nat) (W : World) (hown : Own11 w W D P M Gr [] [] []) (hm : m = G.length) (h6 : G.length ≤ 6) (hn6 : names6 G = true) (hr6 : rise6 G = true) (hg : RdS w A2 G) (hgs : ∀ g ∈ G, g.size ≤ 9223372036854775807) :
  Calls Tryz.prog 86 #[.slice A2 m c2, .func (.func 87) #[.pointer (some ⟨Gr, 0, none⟩)] #[]] W fun e w' => e = .returned (.int .i64 0) ∧ ∃ S, Own11 w w' D P M Gr [] [] S ∧ Good11 [] [] S m ∧ names10 S = bl11 G := by
 have h := everyS11_calls 87 #[.pointer (some ⟨Gr, 0, none⟩)] #[] A2 m c2 G W (fun _ => 0) (fun i W' => ∃ S, Own11 w W' D P M Gr [] [] S ∧ Good11 [] [] S i ∧ names10 S = bl11 (G.take i)) (fun _ => True) hm (by omega)
  (enters_of Tryz.func87 (by kernel_rfl) rfl) ⟨[], hown, Good11.nil, rfl⟩ (fun i W' ⟨_, h1, _⟩ => hg.below h1.below)
  (fun i hi W' ⟨S, h1, h2, h3⟩ => by
   obtain ⟨m1, m2, m3⟩ := make_step11 hi h6 hn6 hr6 h2 h3
   refine (h1.gmake h2.grp G[i] (hgs _ (List.getElem_mem hi))).mono ?_
   rintro e w' ⟨he, hgo⟩
   rw [m1] at he
   exact ⟨he, fun _ => ⟨_, hgo.1, m2, m3⟩, fun h => absurd rfl h⟩)
 rw [ev_zero11 (fun _ => 0) m 0 (fun _ _ _ => rfl)] at h
 refine h.mono ?_
 rintro e w' ⟨he, h1, _⟩
 refine ⟨he, ?_⟩
 obtain ⟨S, s1, s2, s3⟩ := h1 rfl
 rw [hm, List.take_length] at s3
 exact ⟨S, s1, s2, s3⟩
theorem ofadd11_calls (D P M Gr : Nat) (S : Grs10) (W : World) (hown : Own11 w W D P M Gr [] [] S) (hG : Good11 [] [] S m) (hN : names10 S = bl11 G) (hm6 : m ≤ 6) (hl : n = l.length) (h12 : l.length ≤ 12) (hc : ∀ u ∈ l, chk6 2 u = 0) (hri : rise6 (l.map (·.nm)) = true) (hr : RdU7 w A l) (ho : ∀ u ∈ l, u.Ok w) (h5 : Len5 w) :
  Calls Tryz.prog 81 #[.slice A n c, .func (.func 88) #[.pointer (some ⟨D, 0, none⟩)] #[]] W fun e w' => e = .returned (.int .i64 (restD11 G [] l)) ∧
   (restD11 G [] l = 0 → ∃ A L S k, Own11 w w' D P M Gr A L S ∧ St11 A L S l G k ∧ k ≤ 200) ∧ (restD11 G [] l ≠ 0 → Below w.heap.size w w') := by
 have h := everyU11_calls 88 #[.pointer (some ⟨D, 0, none⟩)] #[] A n c l W (fun j => if hj : j < l.length then oneD11 G (l.take j) l[j] else 0) (fun i W' => ∃ A L S k, Own11 w W' D P M Gr A L S ∧ St11 A L S (l.take i) G k ∧ k ≤ 6 + 8 * i) (fun W' => Below w.heap.size w W') hl (by omega)
  (enters_of Tryz.func88 (by kernel_rfl) rfl) ⟨[], [], S, m, hown, st_nil11 hG hN, by omega⟩ (fun i W' ⟨_, _, _, _, h1, _⟩ => hr.later h1.below) (fun i W' ⟨A, L, S, k, h1, h2⟩ o => ⟨A, L, S, k, h1.later (below_alloc (Below.refl _ _) _), h2⟩)
  (fun i hi W' ⟨A, L, S, k, h1, h2, h3⟩ => by
   have hup : ∀ v ∈ l.take i, bytesBefore v.nm.data.toList l[i].nm.data.toList = true := fun v hv => by
    obtain ⟨j, hj, rfl⟩ := List.getElem_of_mem hv
    have hj' : j < i := by rw [List.length_take] at hj; omega
    rw [List.getElem_take]
    have := List.pairwise_iff_getElem.1 (rise_pair11 hri) j i (by simp; omega) (by simpa using hi) hj'
    simpa using this
   have hcu := hc _ (List.getElem_mem hi)
   have hlt : (l.take i).length < 12 := by rw [List.length_take]; omega
   refine (add11_calls l[i] h1 h2 (by omega) hcu hup hlt (ho _ (List.getElem_mem hi)) h5).mono ?_
   rintro e w' ⟨he, q1, q2⟩
   rw [dif_pos hi]
   refine ⟨he, fun h0 => ?_, q2⟩
   have hone : oneD11 G (l.take i) l[i] = if l[i].gs.all (fun g => hasT (bl11 G) g.data.toList) then (if (l.take i).any (fun v => !(l[i].ml.data.toList == []) && (l[i].ml.data.toList == v.ml.data.toList)) then 9 else 0) else 8 := rfl
   have hall : l[i].gs.all (fun g => hasT (bl11 G) g.data.toList) = true := by
    cases hh : l[i].gs.all (fun g => hasT (bl11 G) g.data.toList) with
    | true => rfl
    | false => rw [hone, hh] at h0; simp at h0
   obtain ⟨s1, s2⟩ := step11 h2 l[i] hcu hup hlt hall
   rw [hone, hall, if_pos rfl, ← s1] at h0
   refine ⟨_, _, _, k + 8, q1 (by rw [hone, hall, if_pos rfl, ← s1]; exact h0), ?_, ?_⟩
   ·
    rw [List.take_succ_eq_append_getElem hi]
    exact s2 h0
   ·
    omega)
 rw [show evE11 (fun j => if hj : j < l.length then oneD11 G (l.take j) l[j] else 0) 0 n = restD11 G [] l by
  rw [hl]; exact one_ev11 G l l.length 0 (by omega)] at h
 refine h.mono ?_
 rintro e w' ⟨he, h1, h2⟩
 refine ⟨he, fun h0 => ?_, h2⟩
 obtain ⟨A, L, S, k, s1, s2, s3⟩ := h1 h0
 rw [hl, List.take_length] at s2
 exact ⟨A, L, S, k, s1, s2, by omega⟩
end
set_option maxRecDepth 100000 in
set_option maxHeartbeats 8000000 in
theorem nof11_calls (A A2 : Option Addr) (c c2 n m : Nat) (l : List Us) (G : List ByteArray) (w : World) (hl : n = l.length) (hn : n ≤ 1000) (hr : RdU7 w A l) (ho : ∀ u ∈ l, u.Ok w) (hm : m = G.length) (hm1 : m ≤ 1000) (hg : RdS w A2 G) (hgs : ∀ g ∈ G, g.size ≤ 9223372036854775807) (h5 : Len5 w) :
  Calls Tryz.prog 27 #[.slice A n c, .slice A2 m c2] w (Of11 l G w) := by
 have HNW : Hid (∀ W, Calls Tryz.prog 13 #[] W fun e w' => ∃ D P M G, e = .returned (.pointer (some ⟨D, 0, none⟩)) ∧ Own11 W w' D P M G [] [] []) := fun W => nnew11_calls W
 have HMB : Hid (∀ W, Below w.heap.size w W → Calls Tryz.prog 81 #[.slice A n c, .func (.func 82) #[] #[]] W (Errs5 (mayE11 l) W)) := fun W hb => ofmay11_calls W hb hl hn hr ho h5
 have HNO : Hid (∀ W, Below w.heap.size w W → Calls Tryz.prog 84 #[.slice A n c] W fun e w' => ∃ A2 c2, e = .returned (.slice A2 n c2) ∧ RdS w' A2 (l.map (·.nm)) ∧ Below W.heap.size W w') := fun W hb => namesOf11_calls A c n l W hl hn (hr.later hb)
 have HRI : Hid (∀ A3 c3 W, RdS W A3 (l.map (·.nm)) → Calls Tryz.prog 83 #[.slice A3 n c3] W fun e w' => e = .returned (.int .i64 (err5 (rise6 (l.map (·.nm))) 9)) ∧ ∃ q, w' = W.drewN q) := fun A3 c3 W h => rise11_calls A3 n c3 _ W (by rw [List.length_map]; exact hl) h (by omega)
 have HFI : Hid (∀ W, Calls Tryz.prog 85 #[.int .i64 (n : Int), .int .i64 12] W fun e w' => e = .returned (.int .i64 (err5 (decide ((l.length : Int) ≤ 12)) 7)) ∧ w' = W) := fun W => by rw [← hl]; exact fit11_calls _ _ W
 have HNM : Hid (∀ W, Below w.heap.size w W → Calls Tryz.prog 86 #[.slice A2 m c2, .func (.func 65) #[] #[]] W (Errs5 (err5 (names6 G) 10) W)) := fun W hb => ofname11_calls W hb hm hm1 hg hgs
 have HRG : Hid (∀ W, Below w.heap.size w W → Calls Tryz.prog 83 #[.slice A2 m c2] W fun e w' => e = .returned (.int .i64 (err5 (rise6 G) 9)) ∧ ∃ q, w' = W.drewN q) := fun W hb => rise11_calls A2 m c2 G W hm (hg.below hb) (by omega)
 have HFG : Hid (∀ W, Calls Tryz.prog 85 #[.int .i64 (m : Int), .int .i64 6] W fun e w' => e = .returned (.int .i64 (err5 (decide ((G.length : Int) ≤ 6)) 7)) ∧ w' = W) := fun W => by rw [← hm]; exact fit11_calls _ _ W
 have HFS : Hid (∀ W : World, Calls Tryz.prog 64 #[.slice (some ⟨W.heap.size, 0, none⟩) 6 6] (W.alloc (.cells #[.int .i64 (mayE11 l), .int .i64 (err5 (rise6 (l.map (·.nm))) 9), .int .i64 (err5 (decide ((l.length : Int) ≤ 12)) 7), .int .i64 (err5 (names6 G) 10), .int .i64 (err5 (rise6 G) 9), .int .i64 (err5 (decide ((G.length : Int) ≤ 6)) 7)] 38)) fun e w' => e = .returned (.int .i64 (cE11 l G)) ∧ w' = W.alloc (.cells #[.int .i64 (mayE11 l), .int .i64 (err5 (rise6 (l.map (·.nm))) 9), .int .i64 (err5 (decide ((l.length : Int) ≤ 12)) 7), .int .i64 (err5 (names6 G) 10), .int .i64 (err5 (rise6 G) 9), .int .i64 (err5 (decide ((G.length : Int) ≤ 6)) 7)] 38)) := fun W =>
  firsts11 W [mayE11 l, err5 (rise6 (l.map fun u : Us => u.nm)) 9, err5 (decide ((l.length : Int) ≤ 12)) 7, err5 (names6 G) 10, err5 (rise6 G) 9, err5 (decide ((G.length : Int) ≤ 6)) 7] 38 (by simp)
 have HF2 : Hid (∀ (W : World) (x : Int), Calls Tryz.prog 64 #[.slice (some ⟨W.heap.size, 0, none⟩) 2 2] (W.alloc (.cells #[.int .i64 0, .int .i64 x] 38)) fun e w' => e = .returned (.int .i64 x) ∧ w' = W.alloc (.cells #[.int .i64 0, .int .i64 x] 38)) := fun W x => by
  have := firsts11 W [0, x] 38 (by simp)
  rw [show first6 [0, x] = x by unfold first6 first6 first6; by_cases h : x = 0 <;> simp [h]] at this
  exact this
 have HMK : Hid (cE11 l G = 0 → ∀ D P M Gr W, Own11 w W D P M Gr [] [] [] → Calls Tryz.prog 86 #[.slice A2 m c2, .func (.func 87) #[.pointer (some ⟨Gr, 0, none⟩)] #[]] W fun e w' => e = .returned (.int .i64 0) ∧ ∃ S, Own11 w w' D P M Gr [] [] S ∧ Good11 [] [] S m ∧ names10 S = bl11 G) := fun h0 D P M Gr W hown => by
  obtain ⟨_, _, _, f4, f5, f6⟩ := cE_facts h0
  exact ofmake11_calls D P M Gr W hown hm f6 f4 f5 hg hgs
 have HAD : Hid (cE11 l G = 0 → ∀ D P M Gr S W, Own11 w W D P M Gr [] [] S → Good11 [] [] S m → names10 S = bl11 G → Calls Tryz.prog 81 #[.slice A n c, .func (.func 88) #[.pointer (some ⟨D, 0, none⟩)] #[]] W fun e w' => e = .returned (.int .i64 (restD11 G [] l)) ∧
   (restD11 G [] l = 0 → ∃ A L S k, Own11 w w' D P M Gr A L S ∧ St11 A L S l G k ∧ k ≤ 200) ∧ (restD11 G [] l ≠ 0 → Below w.heap.size w w')) := fun h0 D P M Gr S W hown hG hN => by
  obtain ⟨f1, f2, f3, _, _, f6⟩ := cE_facts h0
  exact ofadd11_calls D P M Gr S W hown hG hN (by omega) hl f3 f1 f2 hr ho h5
 have HCE := Lib.hid (cE_of (l := l) (G := G))
 unfold Of11
 clear hl hn hr ho hm hm1 hg hgs h5
 generalize mayE11 l = e0 at *
 generalize err5 (rise6 (l.map (·.nm))) 9 = e1 at *
 generalize err5 (decide ((l.length : Int) ≤ 12)) 7 = e2 at *
 generalize err5 (names6 G) 10 = e3 at *
 generalize err5 (rise6 G) 9 = e4 at *
 generalize err5 (decide ((G.length : Int) ≤ 6)) 7 = e5 at *
 generalize cE11 l G = r at *
 generalize restD11 G [] l = rr at *
 generalize ofD11 l G = ro at *
 go_enter Tryz.func27, Tryz.ntmps27
 go_wp2_with fail
 with_reducible refine (HNW.out w).mono ?_
 rintro e w1 ⟨D, P, M, Gr, rfl, hown⟩
 have HO1 := Lib.hid hown
 have HB1 := Lib.hid hown.below
 clear hown HNW
 go_wp2_with fail
 with_reducible refine (HMB.out w1 HB1.out).mono ?_
 rintro e w2 ⟨rfl, hb⟩
 have HO2 := Lib.hid (HO1.out.later hb)
 have HB2 := Lib.hid (below_next HB1.out hb)
 clear hb HMB HO1 HB1
 go_wp2_with fail
 with_reducible refine (HNO.out w2 HB2.out).mono ?_
 rintro e w3 ⟨A3, c3, rfl, hrd, hb⟩
 have HRD := Lib.hid hrd
 have HO3 := Lib.hid (HO2.out.later hb)
 have HB3 := Lib.hid (below_next HB2.out hb)
 clear hb hrd HNO HO2 HB2
 go_wp2_with fail
 with_reducible refine (HRI.out A3 c3 w3 HRD.out).mono ?_
 rintro e w4 ⟨rfl, q, hq⟩
 have hb : Below w3.heap.size w3 w4 := by rw [hq]; exact below_drewN (Below.refl _ _) q
 have HO4 := Lib.hid (HO3.out.later hb)
 have HB4 := Lib.hid (below_next HB3.out hb)
 clear hb hq HRD HRI HO3 HB3
 go_wp2_with fail
 with_reducible refine (HFI.out w4).mono ?_
 rintro e w5 ⟨rfl, rfl⟩
 go_wp2_with fail
 with_reducible refine (HNM.out w5 HB4.out).mono ?_
 rintro e w6 ⟨rfl, hb⟩
 have HO6 := Lib.hid (HO4.out.later hb)
 have HB6 := Lib.hid (below_next HB4.out hb)
 clear hb HNM HO4 HB4 HFI
 go_wp2_with fail
 with_reducible refine (HRG.out w6 HB6.out).mono ?_
 rintro e w7 ⟨rfl, q2, hq⟩
 have hb : Below w6.heap.size w6 w7 := by rw [hq]; exact below_drewN (Below.refl _ _) q2
 have HO7 := Lib.hid (HO6.out.later hb)
 have HB7 := Lib.hid (below_next HB6.out hb)
 clear hb hq HRG HO6 HB6
 go_wp2_with fail
 with_reducible refine (HFG.out w7).mono ?_
 rintro e w8 ⟨rfl, rfl⟩
 clear HFG
 go_wp2_with fail
 with_reducible refine (HFS.out _).mono ?_
 rintro e w9 ⟨rfl, hw9⟩
 have hb : Below w8.heap.size w8 w9 := by rw [hw9]; exact below_alloc (Below.refl _ _) _
 have HO9 := Lib.hid (HO7.out.later hb)
 have HB9 := Lib.hid (below_next HB7.out hb)
 clear hb hw9 HFS HO7 HB7
 by_cases h0 : r = 0
 case neg =>
  have h1 : (r != 0) = true := by simpa using h0
  have h2 : (r == 0) = false := by simpa using h0
  obtain rfl : ro = r := HCE.out.1 h0
  have H0 := Lib.hid h0
  clear h0 HMK HAD HF2 HCE HO9
  go_wp2
  go_ret2
  exact .inl ⟨H0.out, rfl, HB9.out⟩
 subst h0
 obtain rfl : ro = rr := HCE.out.2 rfl
 have HMK2 := Lib.hid (HMK.out rfl D P M Gr w9 HO9.out)
 have HAD2 := Lib.hid (HAD.out rfl D P M Gr)
 have hc2 := HO9.out.c2
 have hmf := mkf
 clear HMK HAD HCE
 go_wp2_with fail
 with_reducible refine HMK2.out.mono ?_
 rintro e w10 ⟨rfl, S, s1, s2, s3⟩
 have HA2 := Lib.hid (HAD2.out S w10 s1 s2 s3)
 clear s1 s2 s3 HMK2 HAD2 hc2 HO9 HB9
 go_wp2_with fail
 with_reducible refine HA2.out.mono ?_
 rintro e w11 ⟨rfl, t1, t2⟩
 have HT1 := Lib.hid t1
 have HT2 := Lib.hid t2
 clear t1 t2 HA2
 go_wp2_with fail
 with_reducible refine (HF2.out _ _).mono ?_
 rintro e w12 ⟨rfl, hw⟩
 have hb : Below w11.heap.size w11 w12 := by rw [hw]; exact below_alloc (Below.refl _ _) _
 have HB := Lib.hid hb
 clear hb hw HF2
 by_cases h0 : ro = 0
 case neg =>
  have h1 : (ro != 0) = true := by simpa using h0
  have HF := Lib.hid (below_next (HT2.out h0) HB.out)
  have H0 := Lib.hid h0
  clear h0 HT1 HT2 HB
  go_wp2
  go_ret2
  exact .inl ⟨H0.out, rfl, HF.out⟩
 subst h0
 obtain ⟨A4, L4, S4, k4, u1, u2, u3⟩ := HT1.out rfl
 have HF : Hid (Own11 w w12 D P M Gr A4 L4 S4 ∧ St11 A4 L4 S4 l G k4 ∧ k4 ≤ 200) := ⟨u1.later HB.out, u2, u3⟩
 clear u1 u2 u3 HT1 HT2 HB
 go_wp2
 go_ret2
 exact ⟨D, rfl, P, M, Gr, A4, L4, S4, HF.out.1, k4, HF.out.2⟩
end Go.Proofs.YtmcomnocpibiiaaGreatDoor
namespace Go.Proofs.YtmcomnocpibiiaaGreatDoor
open Go.RowKit Go.Maps


section
variable {w0 w : World} {D P M G : Nat} {A : Acc11} {L : Row7} {S : Grs10} {k : Nat}
end

/-! ### stores beside a directory -/
def Wt11 (W : World) (b : Nat) (A : Option Addr) (n : Nat) : Prop :=
 0 < n → ∃ g cur, A = some ⟨g, 0, none⟩ ∧ b ≤ g ∧ W.heap[g]? = some (.cells cur 9 (0, 0)) ∧ n ≤ cur.size ∧ n ≤ 9223372036854775807
theorem Wt11.of {W : World} {b n c : Nat} {A : Option Addr} {xs : List Value} (h : W.ownsRow b 9 1 (.slice A n c) n xs) : Wt11 W b A n := fun hn => by
 rcases h.2 with ⟨_, e⟩ | ⟨g, cap, cur, e, hb, hg, hc, hmx, hs, _⟩
 ·
  omega
 ·
  injection e with e1
  unfold maxLen at hmx
  exact ⟨g, cur, e1, hb, hg, by omega, by omega⟩
theorem Wt11.few {W : World} {b n : Nat} {A : Option Addr} (h : Wt11 W b A n) : n ≤ 9223372036854775807 := by
 by_cases hn : 0 < n
 ·
  obtain ⟨_, _, _, _, _, _, h⟩ := h hn
  exact h
 ·
  omega
theorem Wt11.low {W : World} {b a n : Nat} {A : Option Addr} (h : Wt11 W b A n) (ha : a ≤ b) : Wt11 W a A n := fun hn => by
 obtain ⟨g, cur, e, hb, hg, hc⟩ := h hn
 exact ⟨g, cur, e, Nat.le_trans ha hb, hg, hc⟩
theorem Wt11.below {W W' : World} {b n : Nat} {A : Option Addr} (h : Wt11 W b A n) (hb : Below W.heap.size W W') : Wt11 W' b A n := fun hn => by
 obtain ⟨g, cur, e, h1, hg, hc⟩ := h hn
 exact ⟨g, cur, e, h1, (hb.block g (Array.getElem?_eq_some_iff.1 hg).1).trans hg, hc⟩
theorem Wt11.keeps {W W' : World} {b n : Nat} {A : Option Addr} (h : Wt11 W b A n) (hk : Keeps11 W W') : Wt11 W' b A n := fun hn => by
 obtain ⟨g, cur, e, h1, hg, hc⟩ := h hn
 exact ⟨g, cur, e, h1, hk g cur _ _ hg (by decide) (by decide) (by decide), hc⟩
theorem Wt11.store {W : World} {b n g k : Nat} {A : Option Addr} {cur : Array Value} (h : Wt11 W b A n) (hg : W.heap[g]? = some (.cells cur 9 (0, 0))) (s : Value) : Wt11 (W.setCell ⟨g, k, none⟩ s) b A n := fun hn => by
 obtain ⟨g', cur', e, h1, hg', hc⟩ := h hn
 by_cases eg : g' = g
 ·
  subst eg
  rw [hg] at hg'
  injection hg' with hg'
  injection hg' with hg'
  subst hg'
  exact ⟨g', _, e, h1, heap_setCell_same W g' k cur _ s hg, by simpa using hc.1, hc.2⟩
 ·
  exact ⟨g', cur', e, h1, (heap_setCell_other W ⟨g, k, none⟩ g' s eg).trans hg', hc⟩
theorem Own11.setStr {w0 W : World} {D P M G g k : Nat} {A : Acc11} {L : Row7} {S : Grs10} {cur : Array Value} (h : Own11 w0 W D P M G A L S) (hg : W.heap[g]? = some (.cells cur 9 (0, 0))) (hw : w0.heap.size ≤ g) (s : Value) : Own11 w0 (W.setCell ⟨g, k, none⟩ s) D P M G A L S := by
 obtain ⟨p, q, LM, pg, T, hd, hS, h2, h3⟩ := h
 have ht : Turns (fun i => i = g) W (W.setCell ⟨g, k, none⟩ s) := (Turns.refl (fun i => i = g) W).setCell (p := ⟨g, k, none⟩) (fun _ => rfl) _
 have hD : D ≠ g := cells_ne11 hd.blk hg (by decide)
 have hP : P ≠ g := acc_ne11 hd.acc hg
 refine ⟨p, q, LM, pg, T, ⟨?_, ?_, ?_, ?_, hd.sep1, hd.sep2, hd.sep3⟩, hS, h2, h3.setCell (p := ⟨g, k, none⟩) hw _⟩
 ·
  exact (heap_setCell_other W ⟨g, k, none⟩ D s hD).trans hd.blk
 ·
  exact hd.acc.kept (heap_setCell_other W ⟨g, k, none⟩ P s hP)
 ·
  exact hd.idx.turnsF ht (fun i hi e => by subst e; exact fpM_cells hd.idx hg (by decide) hi)
 ·
  exact hd.grp.turnsF ht (fun i hi e => by subst e; exact fpG_cells hd.grp hg (by decide) hi)
theorem Own11.base {w00 w0 W : World} {D P M G : Nat} {A : Acc11} {L : Row7} {S : Grs10} (h : Own11 w0 W D P M G A L S) (hb : Below w00.heap.size w00 w0) : Own11 w00 W D P M G A L S := by
 obtain ⟨p, q, LM, pg, T, hd, hS, h2, h3⟩ := h
 exact ⟨p, q, LM, pg, T, hd, hS, fun i hi => Nat.le_trans hb.size (h2 i hi), below_next hb h3⟩

/-! ### users in a row of one's own -/
def ucells11 (l : List Us) : List Value := l.flatMap fun u => u.cells.toList
theorem ucells11_at (l : List Us) (i j : Nat) (hi : i < l.length) (hj : j < 5) : (ucells11 l)[i * 5 + j]? = l[i].cells[j]? := by
 induction l generalizing i with
 | nil => exact absurd hi (Nat.not_lt_zero _)
 | cons u l ih =>
  have e : ucells11 (u :: l) = u.cells.toList ++ ucells11 l := rfl
  have h5 : u.cells.toList.length = 5 := rfl
  rw [e]
  cases i with
  | zero =>
   rw [List.getElem?_append_left (by omega), Nat.zero_mul, Nat.zero_add]
   simp
  | succ i =>
   rw [List.getElem?_append_right (by omega), h5, show (i + 1) * 5 + j - 5 = i * 5 + j by omega]
   exact ih i (by simpa using hi)
theorem ucells11_snoc (l : List Us) (u : Us) : ucells11 (l ++ [u]) = ucells11 l ++ u.cells.toList := by
 unfold ucells11
 rw [List.flatMap_append]
 simp
theorem owns_users11 {w : World} {b0 n c : Nat} {A : Option Addr} {l : List Us} (ho : w.ownsRow b0 37 5 (.slice A n c) n (ucells11 l)) (hn : n = l.length) : RdU7 w A l := by
 intro hl
 have hp : 0 < l.length := List.length_pos_iff.2 hl
 obtain ⟨g, cap, hv, _, hg⟩ := ho.form (by omega)
 injection hv with hA _ hc
 subst hA hc
 refine ⟨g, 0, rfl, hg, fun i hi j u hu => ?_⟩
 have h5 : j < 5 := by
  have := (Array.getElem?_eq_some_iff.1 hu).1
  exact this
 have := ho.cellAt (i * 5 + j) (by omega)
 rw [ucells11_at l i j hi h5, hu] at this
 rwa [Nat.zero_add]
structure Zz11 (w W : World) (D P M G : Nat) (A : Acc11) (L : Row7) (S : Grs10) (v : Value) (n : Nat) (l : List Us) : Prop where
 own : Own11 w W D P M G A L S
 len : l.length = n
 row : W.ownsRow 0 37 5 v n (ucells11 l)
 txt : ∀ u ∈ l, Wt11 W w.heap.size u.ga u.gs.length
section
variable {w W : World} {D P M G : Nat} {A : Acc11} {L : Row7} {S : Grs10} {l : List Us}
theorem Zz11.later {W' : World} {v : Value} {n : Nat} (h : Zz11 w W D P M G A L S v n l) (hb : Below W.heap.size W W') : Zz11 w W' D P M G A L S v n l :=
 ⟨h.own.later hb, h.len, ownsRow_below11 h.row hb, fun u hu => (h.txt u hu).below hb⟩
theorem Zz11.at_ {B : Option Addr} {n c i : Nat} (h : Zz11 w W D P M G A L S (.slice B n c) n l) (hi : i < l.length) : ∃ g, B = some ⟨g, 0, none⟩ ∧ W.cell? ⟨g, i * 5 + 4, none⟩ = some (.slice l[i].ga l[i].gs.length l[i].gc) := by
 have hn := h.len
 obtain ⟨g, cap, e, _, _⟩ := h.row.form (by omega)
 injection e with e1 e2 e3
 subst e1 e3
 refine ⟨g, rfl, ?_⟩
 rw [h.row.cellAt (i * 5 + 4) (by omega), ucells11_at l i 4 hi (by decide)]
 rfl
theorem Zz11.store {v : Value} {n i k : Nat} (h : Zz11 w W D P M G A L S v n l) (hi : i < l.length) (hk : k < l[i].gs.length) (s : ByteArray) :
  ∃ g, l[i].ga = some ⟨g, 0, none⟩ ∧ (∃ x, W.cell? ⟨g, k, none⟩ = some x) ∧ W.frozen? ⟨g, k, none⟩ = false ∧ Zz11 w (W.setCell ⟨g, k, none⟩ (.string s)) D P M G A L S v n l := by
 obtain ⟨g, cur, e, h1, hg, hc, _⟩ := h.txt _ (List.getElem_mem hi) (by omega)
 refine ⟨g, e, ?_, ?_, h.own.setStr hg h1 _, h.len, ?_, fun u hu => (h.txt u hu).store hg _⟩
 ·
  rw [cell_of_row W g k cur _ (0, 0) hg]
  exact ⟨_, Array.getElem?_eq_getElem (by omega)⟩
 ·
  exact frozen_of_row W g k cur _ hg
 ·
  have ht : Turns (fun i => i = g) W (W.setCell ⟨g, k, none⟩ (.string s)) := (Turns.refl (fun i => i = g) W).setCell (p := ⟨g, k, none⟩) (fun _ => rfl) _
  rcases h.row.2 with hz | ⟨g2, cap, cur2, e2, hb2, hg2, rest⟩
  ·
   exact ⟨h.row.1, .inl hz⟩
  ·
   exact ⟨h.row.1, .inr ⟨g2, cap, cur2, e2, hb2, (heap_setCell_other W ⟨g, k, none⟩ g2 _ (fun e => by
    subst e
    rw [hg] at hg2
    injection hg2 with hg2
    injection hg2 with _ hg2
    exact absurd hg2 (by decide))).trans hg2, rest⟩⟩
end
end Go.Proofs.YtmcomnocpibiiaaGreatDoor
namespace Go.Proofs.YtmcomnocpibiiaaGreatDoor
open Go.RowKit Go.Maps

def nrm11 (u : Us) : Us := { u with ga := none, gc := 0 }
theorem may_nrm11 : ∀ l : List Us, mayE11 (l.map nrm11) = mayE11 l
 | [] => rfl
 | u :: l => by
  show (if chk6 2 (nrm11 u) = 0 then mayE11 (l.map nrm11) else chk6 2 (nrm11 u)) = _
  rw [may_nrm11 l]
  rfl
theorem rest_nrm11 (G : List ByteArray) : ∀ (l pre : List Us), restD11 G (pre.map nrm11) (l.map nrm11) = restD11 G pre l
 | [], _ => rfl
 | u :: l, pre => by
  have h1 : oneD11 G (pre.map nrm11) (nrm11 u) = oneD11 G pre u := by
   unfold oneD11
   rw [List.any_map]
   rfl
  show (if oneD11 G (pre.map nrm11) (nrm11 u) = 0 then restD11 G (pre.map nrm11 ++ [nrm11 u]) (l.map nrm11) else oneD11 G (pre.map nrm11) (nrm11 u)) = _
  rw [h1, show pre.map nrm11 ++ [nrm11 u] = (pre ++ [u]).map nrm11 by rw [List.map_append]; rfl, rest_nrm11 G l]
  rfl
theorem of_nrm11 (l : List Us) (G : List ByteArray) : ofD11 (l.map nrm11) G = ofD11 l G := by
 have h1 : ofE11 (l.map nrm11) = ofE11 l := by
  unfold ofE11
  rw [may_nrm11, List.map_map, List.length_map]
  rfl
 unfold ofD11
 rw [h1]
 have h2 := rest_nrm11 G l []
 rw [List.map_nil] at h2
 rw [h2]
theorem pl_nrm11 (l : List Us) : plU11 (l.map nrm11) = plU11 l := by unfold plU11; rw [List.map_map]; rfl

structure Cp11 (w W : World) (l : List Us) (k : Nat) (v : Value) (l2 : List Us) : Prop where
 bel : Below w.heap.size w W
 same : l2.map nrm11 = (l.take k).map nrm11
 row : W.ownsRow w.heap.size 37 5 v k (ucells11 l2)
 txt : ∀ u ∈ l2, W.ownsRow w.heap.size 9 1 (.slice u.ga u.gs.length u.gc) u.gs.length (textCells u.gs)
section
variable {w W W' wr w3 w5 : World} {l l2 : List Us} {k : Nat} {v v' : Value}
theorem Cp11.later (h : Cp11 w W l k v l2) (hb : Below W.heap.size W W') : Cp11 w W' l k v l2 :=
 ⟨below_next h.bel hb, h.same, ownsRow_below11 h.row hb, fun u hu => ownsRow_below11 (h.txt u hu) hb⟩
theorem keepS11 {b0 n : Nat} {e : TypeId} {xs ys : List Value} {u : Value} {a b c d x : Value} {B : Nat} {o : Obj} (hB : Blk5 w3 B a b c d x) (hv : w3.ownsRow b0 37 5 v n xs) (y : Value) (hg : ((w3.setCell ⟨B, 4, none⟩ y).alloc o).grownBy w5 v.ownBlock) {m : Nat} (h : w3.ownsRow m 9 1 u e ys) : w5.ownsRow m 9 1 u e ys := by
 refine ⟨h.1, ?_⟩
 rcases h.2 with hz | ⟨g, cap, cur, e1, h1, hgg, rest⟩
 ·
  exact .inl hz
 ·
  have hlt : g < w3.heap.size := (Array.getElem?_eq_some_iff.1 hgg).1
  have n1 : g ≠ B := fun e => by
   subst e
   have hB' : w3.heap[g]? = _ := hB
   rw [hgg] at hB'
   injection hB' with hB'
   injection hB' with _ hB'
   exact absurd hB' (by decide)
  have n2 : some g ≠ v.ownBlock := fun e => by
   rcases hv.2 with ⟨rfl, _⟩ | ⟨g2, cap2, cur2, rfl, _, hg2, _⟩
   ·
    simp [Value.ownBlock] at e
   ·
    simp [Value.ownBlock] at e
    subst e
    rw [hgg] at hg2
    injection hg2 with hg2
    injection hg2 with _ hg2
    exact absurd hg2 (by decide)
  refine .inr ⟨g, cap, cur, e1, h1, ?_, rest⟩
  rw [hg.block g (by simp; omega) n2]
  have hs : ((w3.setCell ⟨B, 4, none⟩ y).alloc o).heap[g]? = (w3.setCell ⟨B, 4, none⟩ y).heap[g]? := (below_alloc (Below.refl (w3.setCell ⟨B, 4, none⟩ y).heap.size _) o).block g (by simpa using hlt)
  rw [hs, heap_setCell_other w3 ⟨B, 4, none⟩ g y n1]
  exact hgg
theorem Cp11.next {a b c d e x : Value} {o : Obj} (h : Cp11 w wr l k v l2) (hb : Below wr.heap.size wr w3) (hB : Blk5 w3 wr.heap.size a b c d e) (hg : ((w3.setCell ⟨wr.heap.size, 4, none⟩ x).alloc o).grownBy w5 v.ownBlock) (u : Us)
  (ho : w5.ownsRow w.heap.size 37 5 v' (k + 1) (ucells11 l2 ++ u.cells.toList)) (ht : w3.ownsRow wr.heap.size 9 1 (.slice u.ga u.gs.length u.gc) u.gs.length (textCells u.gs)) (hk : k < l.length) (hu : nrm11 u = nrm11 l[k]) : Cp11 w w5 l (k + 1) v' (l2 ++ [u]) := by
 have hrow3 := ownsRow_below11 h.row hb
 have hb3 := below_next h.bel hb
 have hsz := h.bel.size
 refine ⟨?_, ?_, by rw [ucells11_snoc]; exact ho, fun z hz => ?_⟩
 ·
  have h4 : Below w.heap.size w (w3.setCell ⟨wr.heap.size, 4, none⟩ x) := hb3.setCell (p := ⟨wr.heap.size, 4, none⟩) hsz _
  exact (below_next h4 (below_alloc (Below.refl _ _) o)).grown hg (by have := h4.size; simp at this ⊢; omega) (fun j hj => (hrow3.lt j hj).1)
 ·
  rw [List.map_append, List.take_succ_eq_append_getElem hk, List.map_append, h.same]
  show _ ++ [nrm11 u] = _ ++ [nrm11 l[k]]
  rw [hu]
 ·
  rcases List.mem_append.1 hz with hz | hz
  ·
   exact keepS11 hB hrow3 x hg (ownsRow_below11 (h.txt z hz) hb)
  ·
   rw [List.mem_singleton] at hz
   subst hz
   exact keepS11 hB hrow3 x hg (ownsRow_low10 ht hsz)
theorem Cp11.all (h : Cp11 w W l l.length v l2) (ho : ∀ u ∈ l, u.Ok w) : l2.length = l.length ∧ (∀ u ∈ l2, u.Ok W) ∧ (∀ G, ofD11 l2 G = ofD11 l G) ∧ plU11 l2 = plU11 l := by
 have hs := h.same
 rw [List.take_length] at hs
 have hlen : l2.length = l.length := by have := congrArg List.length hs; simpa using this
 refine ⟨hlen, fun u hu => ?_, fun G => by rw [← of_nrm11 l2, hs, of_nrm11], by rw [← pl_nrm11 l2, hs, pl_nrm11]⟩
 have hm : nrm11 u ∈ l.map nrm11 := by rw [← hs]; exact List.mem_map.2 ⟨u, hu, rfl⟩
 obtain ⟨z, hz, e⟩ := List.mem_map.1 hm
 have hz' := ho z hz
 have e1 : z.nm = u.nm := (congrArg Us.nm e : (nrm11 z).nm = (nrm11 u).nm)
 have e2 : z.hs = u.hs := (congrArg Us.hs e : (nrm11 z).hs = (nrm11 u).hs)
 have e3 : z.ml = u.ml := (congrArg Us.ml e : (nrm11 z).ml = (nrm11 u).ml)
 have e4 : z.gs = u.gs := (congrArg Us.gs e : (nrm11 z).gs = (nrm11 u).gs)
 have ht := h.txt u hu
 have hform : (u.ga = none → u.gc = 0) ∧ u.gs.length ≤ u.gc ∧ u.gc ≤ 9223372036854775807 := by
  rcases ht.2 with ⟨q, q2⟩ | ⟨g, cap, cur, q, _, _, q3, q4, _⟩
  ·
   injection q with q0 _ q1
   exact ⟨fun _ => q1, by omega, by omega⟩
  ·
   injection q with q0 _ q1
   unfold maxLen at q4
   exact ⟨fun hn => absurd (hn.symm.trans q0) (by simp), by omega, by omega⟩
 exact { rd := rds_of_own (ownsRow_low10 ht (Nat.zero_le _)), nm := e1 ▸ hz'.nm, hs := e2 ▸ hz'.hs, ml := e3 ▸ hz'.ml, nil := hform.1, len := hform.2.1, cap := hform.2.2, all := e4 ▸ hz'.all }
end

end Go.Proofs.YtmcomnocpibiiaaGreatDoor
