/-
  The texts that the laws of this seat share, part 7: what the code and the document's own answers tell, walked function by function.
  Conditions: each theorem's own.
-/
import Derived.Laws.Concat
import Derived.Test.YthlgmkfofebbfaaGreatDoorNwrApBA
import Derived.Test.YthlgmkfofebbfaaGreatDoorNwrApBB
import Derived.Test.YthlgmkfofebbfaaGreatDoorNwrApBC
import Derived.Test.YthlgmkfofebbfaaGreatDoorNwrApBD
import Derived.Test.YthlgmkfofebbfaaGreatDoorNwrApBE
import Derived.Test.YthlgmkfofebbfaaGreatDoorNwrApBF
namespace Go.Proofs.YthlgmkfofebbfaaGreatDoor
open Go.RowKit Go.Maps

def mbE11 (R : RowV W11) (N : List (List UInt8)) (g n : List UInt8) : Int := mbF11 (name5 n) (name5 g) (hasV R n) (hasT N g) false 0
theorem nmr_set11 {w : World} {v : Value} {N : List (List UInt8)} {B : Nat} {a b c d e : Value} (h : NmR w v N) (hu : Blk5 w B a b c d e) (j : Nat) (x : Value) : NmR (w.setCell ⟨B, j, none⟩ x) v N := by
 refine ⟨h.1, ?_⟩
 rcases h.2 with hn | ⟨g, cap, cur, e1, h0, hg, hr⟩
 ·
  exact .inl hn
 ·
  have hne : g ≠ B := fun e => by
   subst e
   rw [show w.heap[g]? = _ from hu] at hg
   injection hg with hg
   injection hg with _ h
   exact absurd h (by decide)
  exact .inr ⟨g, cap, cur, e1, h0, (Below.heap_setCell _ _ _ _ hne).trans hg, hr⟩
def Memb11 (R : RowV W11) (N : List (List UInt8)) (g n : ByteArray) (w : World) (e : Ending) (w' : World) : Prop :=
 ∃ t x, e = .returned (.tuple #[uval11 t x, .int .i64 (mbE11 R N g.data.toList n.data.toList)]) ∧ (mbE11 R N g.data.toList n.data.toList = 0 → t = n ∧ getV R n.data.toList = some x) ∧ Below w.heap.size w w'
set_option maxRecDepth 100000 in
set_option maxHeartbeats 4000000 in
theorem rmember11_calls (v vg : Value) (R : RowV W11) (N : List (List UInt8)) (g s : ByteArray) (w : World) (hR : Rc11 0 R w v) (hN : NmR w vg N) (h12 : R.length ≤ 12) (hr : RiseV R) (hN9 : N.length ≤ 900) (hg : g.size ≤ 1000) (hn : s.size ≤ 1000) :
  Calls Tryz.prog 99 #[.agg #[v, vg], .string g, .string s] w (Memb11 R N g s w) := by
 have hnot : ∀ (x : Bool) (w : World), (Op.unary .not (.bool x)).run Tryz.prog w = .ok (.bool (!x)) w := fun _ _ => rfl
 have hzu := zerou11
 obtain ⟨A, c, rfl⟩ := hR.rw.us.shape
 obtain ⟨A1, c1, rfl⟩ := hN.shape
 have HU0 : Hid (∀ W, Below w.heap.size w W → Calls Tryz.prog 55 #[.agg #[.slice A R.length c, .slice A1 N.length c1], .string s] W (User11 R s W)) := fun W hb => ruser11_calls _ _ R N s W (hR.later hb) (hN.later hb) h12 hr hn
 have HN0 := Lib.hid (fun W => rname_calls g W hg)
 have HH0 : Hid (∀ W, Below w.heap.size w W → Calls Tryz.prog 67 #[.slice A1 N.length c1, .string g] W (Tells5 (hasT N g.data.toList) W)) := fun W hb => rhas11_calls _ N g W (by omega) (hN.later hb)
 have HRC := Lib.hid hR
 have HNN := Lib.hid hN
 have HRI := Lib.hid hr
 clear hR hN
 obtain ⟨n, hlen⟩ : ∃ n, n = R.length := ⟨_, rfl⟩
 obtain ⟨n1, hlen1⟩ : ∃ n, n = N.length := ⟨_, rfl⟩
 have HLR := Lib.hid hlen
 have HLN := Lib.hid hlen1
 unfold User11 at HU0
 rw [← hlen] at HU0 HRC ⊢
 rw [← hlen1] at HU0 HNN HH0 ⊢
 clear hlen hlen1
 have HE : Hid (mbE11 R N g.data.toList s.data.toList = mbF11 (name5 s.data.toList) (name5 g.data.toList) (hasV R s.data.toList) (hasT N g.data.toList) false 0) := rfl
 unfold Memb11
 generalize mbE11 R N g.data.toList s.data.toList = E at *
 cases hname : name5 s.data.toList with
 | false =>
  rw [hname] at HU0
  have Hd1a : Hid (Bx11 (w.alloc (.cells #[.slice A n c, .slice A1 n1 c1] TD11)) (w.heap.size) (.slice A n c) (.slice A1 n1 c1)) := bx11_new w _ _
  have HLO2a : Hid (w.heap.size ≤ w.heap.size) := Nat.le_refl _
  have HB3a : Hid (Below w.heap.size w (w.alloc (.cells #[.slice A n c, .slice A1 n1 c1] TD11))) := below_alloc (Below.refl _ _) _
  have Hd4a := Lib.hid (Hd1a.out.later (below_alloc (Below.refl _ _) (.cells #[.string ⟨#[]⟩, .string ⟨#[]⟩, .string ⟨#[]⟩, .bool false, .slice none 0 0] 37)))
  have Hr5a : Hid (Blk5 ((w.alloc (.cells #[.slice A n c, .slice A1 n1 c1] TD11)).alloc (.cells #[.string ⟨#[]⟩, .string ⟨#[]⟩, .string ⟨#[]⟩, .bool false, .slice none 0 0] 37)) (w.heap.size + 1) (.string ⟨#[]⟩) (.string ⟨#[]⟩) (.string ⟨#[]⟩) (.bool false) (.slice none 0 0)) := by
   have hq : Blk5 ((w.alloc (.cells #[.slice A n c, .slice A1 n1 c1] TD11)).alloc (.cells #[.string ⟨#[]⟩, .string ⟨#[]⟩, .string ⟨#[]⟩, .bool false, .slice none 0 0] 37)) (w.alloc (.cells #[.slice A n c, .slice A1 n1 c1] TD11)).heap.size (.string ⟨#[]⟩) (.string ⟨#[]⟩) (.string ⟨#[]⟩) (.bool false) (.slice none 0 0) := heap_alloc_new (w.alloc (.cells #[.slice A n c, .slice A1 n1 c1] TD11)) _
   simp only [World.size_alloc] at hq
   exact hq
  have HLO6a : Hid (w.heap.size ≤ w.heap.size + 1) := by have := HB3a.out.size; show _ ≤ _; simp at this; omega
  have HB7a := Lib.hid (below_next HB3a.out (below_alloc (Below.refl _ _) (.cells #[.string ⟨#[]⟩, .string ⟨#[]⟩, .string ⟨#[]⟩, .bool false, .slice none 0 0] 37)))
  have e1 : E = 10 := by
   have := HE.out
   rw [hname] at this
   exact this
  subst e1
  clear HE
  go_enter Tryz.func99, Tryz.ntmps99
  have hd8a := Hd4a.out
  have kx9a := hd8a.c0
  have ky10a := hd8a.c1
  have kp11a := hd8a.f0
  have kq12a := hd8a.f1
  clear hd8a
  have hr13a := Hr5a.out
  have kf14a := hr13a.free
  have kc15a : _ = some (.string ⟨#[]⟩ : Value) := hr13a.at_ 0
  have kc16a : _ = some (.string ⟨#[]⟩ : Value) := hr13a.at_ 1
  have kc17a : _ = some (.string ⟨#[]⟩ : Value) := hr13a.at_ 2
  have kc18a : _ = some (.bool false : Value) := hr13a.at_ 3
  have kc19a : _ = some (.slice none 0 0 : Value) := hr13a.at_ 4
  clear hr13a
  go_wp2_with fail
  generalize (w.alloc (.cells #[.slice A n c, .slice A1 n1 c1] TD11)).alloc (.cells #[.string ⟨#[]⟩, .string ⟨#[]⟩, .string ⟨#[]⟩, .bool false, .slice none 0 0] 37) = wg20a at *
  with_reducible refine (HU0.out wg20a HB7a.out).mono ?_
  rintro e w3 ⟨t, x, he, hyes, hno, hb⟩
  clear kx9a ky10a kp11a kq12a kf14a kc15a kc16a kc17a kc18a kc19a
  have Hd21a := Lib.hid (Hd4a.out.later hb)
  have Hr22a := Lib.hid (blk_later11 Hr5a.out hb)
  have HB23a := Lib.hid (below_next HB7a.out hb)
  clear hb
  have he' : e = .returned (.tuple #[.agg #[.string ⟨#[]⟩, .string ⟨#[]⟩, .string ⟨#[]⟩, .bool false, .slice none 0 0], .int .i64 10]) := by
   obtain ⟨h1, h2⟩ := hno (by show (10 : Int) ≠ 0; decide)
   rw [he, h1, h2]; rfl
  subst he'
  clear he hyes hno
  have HLT24a := Lib.hid (Hd21a.out.lt)
  have HLT25a := Lib.hid (Hr22a.out.lt)
  have Hd26a := Lib.hid (Hd21a.out.later (below_alloc (Below.refl _ _) (.cells #[.string ⟨#[]⟩, .string ⟨#[]⟩, .string ⟨#[]⟩, .bool false, .slice none 0 0] 37)))
  have Hr27a := Lib.hid (blk_later11 Hr22a.out (below_alloc (Below.refl _ _) (.cells #[.string ⟨#[]⟩, .string ⟨#[]⟩, .string ⟨#[]⟩, .bool false, .slice none 0 0] 37)))
  have Hu28a : Hid (Blk5 (w3.alloc (.cells #[.string ⟨#[]⟩, .string ⟨#[]⟩, .string ⟨#[]⟩, .bool false, .slice none 0 0] 37)) (w3.heap.size) (.string ⟨#[]⟩) (.string ⟨#[]⟩) (.string ⟨#[]⟩) (.bool false) (.slice none 0 0)) := heap_alloc_new w3 _
  have HLO29a : Hid (w.heap.size ≤ w3.heap.size) := by have := HB23a.out.size; show _ ≤ _; exact this
  have HB30a := Lib.hid (below_next HB23a.out (below_alloc (Below.refl _ _) (.cells #[.string ⟨#[]⟩, .string ⟨#[]⟩, .string ⟨#[]⟩, .bool false, .slice none 0 0] 37)))
  have hd31a := Hd26a.out
  have kx32a := hd31a.c0
  have ky33a := hd31a.c1
  have kp34a := hd31a.f0
  have kq35a := hd31a.f1
  clear hd31a
  have hr36a := Hr27a.out
  have kf37a := hr36a.free
  have kc38a : _ = some (.string ⟨#[]⟩ : Value) := hr36a.at_ 0
  have kc39a : _ = some (.string ⟨#[]⟩ : Value) := hr36a.at_ 1
  have kc40a : _ = some (.string ⟨#[]⟩ : Value) := hr36a.at_ 2
  have kc41a : _ = some (.bool false : Value) := hr36a.at_ 3
  have kc42a : _ = some (.slice none 0 0 : Value) := hr36a.at_ 4
  clear hr36a
  have hu43a := Hu28a.out
  have kf44a := hu43a.free
  have kc45a : _ = some (.string ⟨#[]⟩ : Value) := hu43a.at_ 0
  have kc46a : _ = some (.string ⟨#[]⟩ : Value) := hu43a.at_ 1
  have kc47a : _ = some (.string ⟨#[]⟩ : Value) := hu43a.at_ 2
  have kc48a : _ = some (.bool false : Value) := hu43a.at_ 3
  have kc49a : _ = some (.slice none 0 0 : Value) := hu43a.at_ 4
  clear hu43a
  have HS := set5_11 HB30a.out HLO6a.out Hr27a.out (.string ⟨#[]⟩) (.string ⟨#[]⟩) (.string ⟨#[]⟩) (.bool false) (.slice none 0 0)
  have z0 : _ = some (.string ⟨#[]⟩ : Value) := HS.1.at_ 0
  have z1 : _ = some (.string ⟨#[]⟩ : Value) := HS.1.at_ 1
  have z2 : _ = some (.string ⟨#[]⟩ : Value) := HS.1.at_ 2
  have z3 : _ = some (.bool false : Value) := HS.1.at_ 3
  have z4 : _ = some (.slice none 0 0 : Value) := HS.1.at_ 4
  have HPOST := Lib.hid (show ∃ t x, Ending.returned (.tuple #[.agg #[.string ⟨#[]⟩, .string ⟨#[]⟩, .string ⟨#[]⟩, .bool false, .slice none 0 0], .int .i64 10]) = .returned (.tuple #[uval11 t x, .int .i64 10]) ∧ ((10 : Int) = 0 → t = s ∧ getV R s.data.toList = some x) ∧ Below w.heap.size w _ from ⟨⟨#[]⟩, noW11, rfl, fun h => absurd h (by decide), HS.2.1⟩)
  unfold set5 at z0 z1 z2 z3 z4 HPOST
  clear HS
  go_wp2
  refine bodyPost_ret (v := .tuple #[.agg #[.string ⟨#[]⟩, .string ⟨#[]⟩, .string ⟨#[]⟩, .bool false, .slice none 0 0], .int .i64 10]) ?_ rfl HPOST.out
  simp [results, Tryz.results99, go_sem, z0, z1, z2, z3, z4]
 | true =>
  rw [hname] at HU0
  cases hgn : name5 g.data.toList with
  | false =>
   rw [hgn] at HN0
   cases hh : hasV R s.data.toList with
   | false =>
    rw [hh] at HU0
    have Hd1b : Hid (Bx11 (w.alloc (.cells #[.slice A n c, .slice A1 n1 c1] TD11)) (w.heap.size) (.slice A n c) (.slice A1 n1 c1)) := bx11_new w _ _
    have HLO2b : Hid (w.heap.size ≤ w.heap.size) := Nat.le_refl _
    have HB3b : Hid (Below w.heap.size w (w.alloc (.cells #[.slice A n c, .slice A1 n1 c1] TD11))) := below_alloc (Below.refl _ _) _
    have Hd4b := Lib.hid (Hd1b.out.later (below_alloc (Below.refl _ _) (.cells #[.string ⟨#[]⟩, .string ⟨#[]⟩, .string ⟨#[]⟩, .bool false, .slice none 0 0] 37)))
    have Hr5b : Hid (Blk5 ((w.alloc (.cells #[.slice A n c, .slice A1 n1 c1] TD11)).alloc (.cells #[.string ⟨#[]⟩, .string ⟨#[]⟩, .string ⟨#[]⟩, .bool false, .slice none 0 0] 37)) (w.heap.size + 1) (.string ⟨#[]⟩) (.string ⟨#[]⟩) (.string ⟨#[]⟩) (.bool false) (.slice none 0 0)) := by
     have hq : Blk5 ((w.alloc (.cells #[.slice A n c, .slice A1 n1 c1] TD11)).alloc (.cells #[.string ⟨#[]⟩, .string ⟨#[]⟩, .string ⟨#[]⟩, .bool false, .slice none 0 0] 37)) (w.alloc (.cells #[.slice A n c, .slice A1 n1 c1] TD11)).heap.size (.string ⟨#[]⟩) (.string ⟨#[]⟩) (.string ⟨#[]⟩) (.bool false) (.slice none 0 0) := heap_alloc_new (w.alloc (.cells #[.slice A n c, .slice A1 n1 c1] TD11)) _
     simp only [World.size_alloc] at hq
     exact hq
    have HLO6b : Hid (w.heap.size ≤ w.heap.size + 1) := by have := HB3b.out.size; show _ ≤ _; simp at this; omega
    have HB7b := Lib.hid (below_next HB3b.out (below_alloc (Below.refl _ _) (.cells #[.string ⟨#[]⟩, .string ⟨#[]⟩, .string ⟨#[]⟩, .bool false, .slice none 0 0] 37)))
    have e1 : E = 10 := by
     have := HE.out
     rw [hname] at this
     rw [hgn] at this
     exact this
    subst e1
    clear HE
    go_enter Tryz.func99, Tryz.ntmps99
    have hd8b := Hd4b.out
    have kx9b := hd8b.c0
    have ky10b := hd8b.c1
    have kp11b := hd8b.f0
    have kq12b := hd8b.f1
    clear hd8b
    have hr13b := Hr5b.out
    have kf14b := hr13b.free
    have kc15b : _ = some (.string ⟨#[]⟩ : Value) := hr13b.at_ 0
    have kc16b : _ = some (.string ⟨#[]⟩ : Value) := hr13b.at_ 1
    have kc17b : _ = some (.string ⟨#[]⟩ : Value) := hr13b.at_ 2
    have kc18b : _ = some (.bool false : Value) := hr13b.at_ 3
    have kc19b : _ = some (.slice none 0 0 : Value) := hr13b.at_ 4
    clear hr13b
    go_wp2_with fail
    generalize (w.alloc (.cells #[.slice A n c, .slice A1 n1 c1] TD11)).alloc (.cells #[.string ⟨#[]⟩, .string ⟨#[]⟩, .string ⟨#[]⟩, .bool false, .slice none 0 0] 37) = wg20b at *
    with_reducible refine (HU0.out wg20b HB7b.out).mono ?_
    rintro e w3 ⟨t, x, he, hyes, hno, hb⟩
    clear kx9b ky10b kp11b kq12b kf14b kc15b kc16b kc17b kc18b kc19b
    have Hd21b := Lib.hid (Hd4b.out.later hb)
    have Hr22b := Lib.hid (blk_later11 Hr5b.out hb)
    have HB23b := Lib.hid (below_next HB7b.out hb)
    clear hb
    have he' : e = .returned (.tuple #[.agg #[.string ⟨#[]⟩, .string ⟨#[]⟩, .string ⟨#[]⟩, .bool false, .slice none 0 0], .int .i64 8]) := by
     obtain ⟨h1, h2⟩ := hno (by show (8 : Int) ≠ 0; decide)
     rw [he, h1, h2]; rfl
    subst he'
    clear he hyes hno
    have HLT24b := Lib.hid (Hd21b.out.lt)
    have HLT25b := Lib.hid (Hr22b.out.lt)
    have Hd26b := Lib.hid (Hd21b.out.later (below_alloc (Below.refl _ _) (.cells #[.string ⟨#[]⟩, .string ⟨#[]⟩, .string ⟨#[]⟩, .bool false, .slice none 0 0] 37)))
    have Hr27b := Lib.hid (blk_later11 Hr22b.out (below_alloc (Below.refl _ _) (.cells #[.string ⟨#[]⟩, .string ⟨#[]⟩, .string ⟨#[]⟩, .bool false, .slice none 0 0] 37)))
    have Hu28b : Hid (Blk5 (w3.alloc (.cells #[.string ⟨#[]⟩, .string ⟨#[]⟩, .string ⟨#[]⟩, .bool false, .slice none 0 0] 37)) (w3.heap.size) (.string ⟨#[]⟩) (.string ⟨#[]⟩) (.string ⟨#[]⟩) (.bool false) (.slice none 0 0)) := heap_alloc_new w3 _
    have HLO29b : Hid (w.heap.size ≤ w3.heap.size) := by have := HB23b.out.size; show _ ≤ _; exact this
    have HB30b := Lib.hid (below_next HB23b.out (below_alloc (Below.refl _ _) (.cells #[.string ⟨#[]⟩, .string ⟨#[]⟩, .string ⟨#[]⟩, .bool false, .slice none 0 0] 37)))
    have hd31b := Hd26b.out
    have kx32b := hd31b.c0
    have ky33b := hd31b.c1
    have kp34b := hd31b.f0
    have kq35b := hd31b.f1
    clear hd31b
    have hr36b := Hr27b.out
    have kf37b := hr36b.free
    have kc38b : _ = some (.string ⟨#[]⟩ : Value) := hr36b.at_ 0
    have kc39b : _ = some (.string ⟨#[]⟩ : Value) := hr36b.at_ 1
    have kc40b : _ = some (.string ⟨#[]⟩ : Value) := hr36b.at_ 2
    have kc41b : _ = some (.bool false : Value) := hr36b.at_ 3
    have kc42b : _ = some (.slice none 0 0 : Value) := hr36b.at_ 4
    clear hr36b
    have hu43b := Hu28b.out
    have kf44b := hu43b.free
    have kc45b : _ = some (.string ⟨#[]⟩ : Value) := hu43b.at_ 0
    have kc46b : _ = some (.string ⟨#[]⟩ : Value) := hu43b.at_ 1
    have kc47b : _ = some (.string ⟨#[]⟩ : Value) := hu43b.at_ 2
    have kc48b : _ = some (.bool false : Value) := hu43b.at_ 3
    have kc49b : _ = some (.slice none 0 0 : Value) := hu43b.at_ 4
    clear hu43b
    go_wp2_with fail
    generalize w3.alloc (.cells #[.string ⟨#[]⟩, .string ⟨#[]⟩, .string ⟨#[]⟩, .bool false, .slice none 0 0] 37) = wg50b at *
    with_reducible refine (HN0.out _).mono ?_
    rintro e wn ⟨rfl, hw⟩
    replace hw := hw.symm
    subst hw
    clear kx32b ky33b kp34b kq35b kf37b kc38b kc39b kc40b kc41b kc42b kf44b kc45b kc46b kc47b kc48b kc49b
    have hd51b := Hd26b.out
    have kx52b := hd51b.c0
    have ky53b := hd51b.c1
    have kp54b := hd51b.f0
    have kq55b := hd51b.f1
    clear hd51b
    have hr56b := Hr27b.out
    have kf57b := hr56b.free
    have kc58b : _ = some (.string ⟨#[]⟩ : Value) := hr56b.at_ 0
    have kc59b : _ = some (.string ⟨#[]⟩ : Value) := hr56b.at_ 1
    have kc60b : _ = some (.string ⟨#[]⟩ : Value) := hr56b.at_ 2
    have kc61b : _ = some (.bool false : Value) := hr56b.at_ 3
    have kc62b : _ = some (.slice none 0 0 : Value) := hr56b.at_ 4
    clear hr56b
    have hu63b := Hu28b.out
    have kf64b := hu63b.free
    have kc65b : _ = some (.string ⟨#[]⟩ : Value) := hu63b.at_ 0
    have kc66b : _ = some (.string ⟨#[]⟩ : Value) := hu63b.at_ 1
    have kc67b : _ = some (.string ⟨#[]⟩ : Value) := hu63b.at_ 2
    have kc68b : _ = some (.bool false : Value) := hu63b.at_ 3
    have kc69b : _ = some (.slice none 0 0 : Value) := hu63b.at_ 4
    clear hu63b
    have HS := set5_11 HB30b.out HLO6b.out Hr27b.out (.string ⟨#[]⟩) (.string ⟨#[]⟩) (.string ⟨#[]⟩) (.bool false) (.slice none 0 0)
    have z0 : _ = some (.string ⟨#[]⟩ : Value) := HS.1.at_ 0
    have z1 : _ = some (.string ⟨#[]⟩ : Value) := HS.1.at_ 1
    have z2 : _ = some (.string ⟨#[]⟩ : Value) := HS.1.at_ 2
    have z3 : _ = some (.bool false : Value) := HS.1.at_ 3
    have z4 : _ = some (.slice none 0 0 : Value) := HS.1.at_ 4
    have HPOST := Lib.hid (show ∃ t x, Ending.returned (.tuple #[.agg #[.string ⟨#[]⟩, .string ⟨#[]⟩, .string ⟨#[]⟩, .bool false, .slice none 0 0], .int .i64 10]) = .returned (.tuple #[uval11 t x, .int .i64 10]) ∧ ((10 : Int) = 0 → t = s ∧ getV R s.data.toList = some x) ∧ Below w.heap.size w _ from ⟨⟨#[]⟩, noW11, rfl, fun h => absurd h (by decide), HS.2.1⟩)
    unfold set5 at z0 z1 z2 z3 z4 HPOST
    clear HS
    go_wp2
    refine bodyPost_ret (v := .tuple #[.agg #[.string ⟨#[]⟩, .string ⟨#[]⟩, .string ⟨#[]⟩, .bool false, .slice none 0 0], .int .i64 10]) ?_ rfl HPOST.out
    simp [results, Tryz.results99, go_sem, z0, z1, z2, z3, z4]
   | true =>
    rw [hh] at HU0
    have Hd1c : Hid (Bx11 (w.alloc (.cells #[.slice A n c, .slice A1 n1 c1] TD11)) (w.heap.size) (.slice A n c) (.slice A1 n1 c1)) := bx11_new w _ _
    have HLO2c : Hid (w.heap.size ≤ w.heap.size) := Nat.le_refl _
    have HB3c : Hid (Below w.heap.size w (w.alloc (.cells #[.slice A n c, .slice A1 n1 c1] TD11))) := below_alloc (Below.refl _ _) _
    have Hd4c := Lib.hid (Hd1c.out.later (below_alloc (Below.refl _ _) (.cells #[.string ⟨#[]⟩, .string ⟨#[]⟩, .string ⟨#[]⟩, .bool false, .slice none 0 0] 37)))
    have Hr5c : Hid (Blk5 ((w.alloc (.cells #[.slice A n c, .slice A1 n1 c1] TD11)).alloc (.cells #[.string ⟨#[]⟩, .string ⟨#[]⟩, .string ⟨#[]⟩, .bool false, .slice none 0 0] 37)) (w.heap.size + 1) (.string ⟨#[]⟩) (.string ⟨#[]⟩) (.string ⟨#[]⟩) (.bool false) (.slice none 0 0)) := by
     have hq : Blk5 ((w.alloc (.cells #[.slice A n c, .slice A1 n1 c1] TD11)).alloc (.cells #[.string ⟨#[]⟩, .string ⟨#[]⟩, .string ⟨#[]⟩, .bool false, .slice none 0 0] 37)) (w.alloc (.cells #[.slice A n c, .slice A1 n1 c1] TD11)).heap.size (.string ⟨#[]⟩) (.string ⟨#[]⟩) (.string ⟨#[]⟩) (.bool false) (.slice none 0 0) := heap_alloc_new (w.alloc (.cells #[.slice A n c, .slice A1 n1 c1] TD11)) _
     simp only [World.size_alloc] at hq
     exact hq
    have HLO6c : Hid (w.heap.size ≤ w.heap.size + 1) := by have := HB3c.out.size; show _ ≤ _; simp at this; omega
    have HB7c := Lib.hid (below_next HB3c.out (below_alloc (Below.refl _ _) (.cells #[.string ⟨#[]⟩, .string ⟨#[]⟩, .string ⟨#[]⟩, .bool false, .slice none 0 0] 37)))
    have e1 : E = 10 := by
     have := HE.out
     rw [hname] at this
     rw [hgn] at this
     exact this
    subst e1
    clear HE
    go_enter Tryz.func99, Tryz.ntmps99
    have hd8c := Hd4c.out
    have kx9c := hd8c.c0
    have ky10c := hd8c.c1
    have kp11c := hd8c.f0
    have kq12c := hd8c.f1
    clear hd8c
    have hr13c := Hr5c.out
    have kf14c := hr13c.free
    have kc15c : _ = some (.string ⟨#[]⟩ : Value) := hr13c.at_ 0
    have kc16c : _ = some (.string ⟨#[]⟩ : Value) := hr13c.at_ 1
    have kc17c : _ = some (.string ⟨#[]⟩ : Value) := hr13c.at_ 2
    have kc18c : _ = some (.bool false : Value) := hr13c.at_ 3
    have kc19c : _ = some (.slice none 0 0 : Value) := hr13c.at_ 4
    clear hr13c
    go_wp2_with fail
    generalize (w.alloc (.cells #[.slice A n c, .slice A1 n1 c1] TD11)).alloc (.cells #[.string ⟨#[]⟩, .string ⟨#[]⟩, .string ⟨#[]⟩, .bool false, .slice none 0 0] 37) = wg20c at *
    with_reducible refine (HU0.out wg20c HB7c.out).mono ?_
    rintro e w3 ⟨t, x, he, hyes, hno, hb⟩
    clear kx9c ky10c kp11c kq12c kf14c kc15c kc16c kc17c kc18c kc19c
    have Hd21c := Lib.hid (Hd4c.out.later hb)
    have Hr22c := Lib.hid (blk_later11 Hr5c.out hb)
    have HB23c := Lib.hid (below_next HB7c.out hb)
    clear hb
    obtain ⟨ht, hx⟩ := hyes rfl
    obtain ⟨xh, xm, xd, xa, xg, xc⟩ := x
    obtain ⟨xl, hxl⟩ : ∃ l, l = xg.length := ⟨_, rfl⟩
    have he' : e = .returned (.tuple #[.agg #[.string s, .string xh, .string xm, .bool xd, .slice xa xl xc], .int .i64 0]) := by
     rw [he, ht, hxl]; rfl
    subst he'
    have HXx := Lib.hid hx
    have HLx := Lib.hid hxl
    clear he hyes hno ht hx hxl
    have HLT24c := Lib.hid (Hd21c.out.lt)
    have HLT25c := Lib.hid (Hr22c.out.lt)
    have Hd26c := Lib.hid (Hd21c.out.later (below_alloc (Below.refl _ _) (.cells #[.string s, .string xh, .string xm, .bool xd, .slice xa xl xc] 37)))
    have Hr27c := Lib.hid (blk_later11 Hr22c.out (below_alloc (Below.refl _ _) (.cells #[.string s, .string xh, .string xm, .bool xd, .slice xa xl xc] 37)))
    have Hu28c : Hid (Blk5 (w3.alloc (.cells #[.string s, .string xh, .string xm, .bool xd, .slice xa xl xc] 37)) (w3.heap.size) (.string s) (.string xh) (.string xm) (.bool xd) (.slice xa xl xc)) := heap_alloc_new w3 _
    have HLO29c : Hid (w.heap.size ≤ w3.heap.size) := by have := HB23c.out.size; show _ ≤ _; exact this
    have HB30c := Lib.hid (below_next HB23c.out (below_alloc (Below.refl _ _) (.cells #[.string s, .string xh, .string xm, .bool xd, .slice xa xl xc] 37)))
    have hd31c := Hd26c.out
    have kx32c := hd31c.c0
    have ky33c := hd31c.c1
    have kp34c := hd31c.f0
    have kq35c := hd31c.f1
    clear hd31c
    have hr36c := Hr27c.out
    have kf37c := hr36c.free
    have kc38c : _ = some (.string ⟨#[]⟩ : Value) := hr36c.at_ 0
    have kc39c : _ = some (.string ⟨#[]⟩ : Value) := hr36c.at_ 1
    have kc40c : _ = some (.string ⟨#[]⟩ : Value) := hr36c.at_ 2
    have kc41c : _ = some (.bool false : Value) := hr36c.at_ 3
    have kc42c : _ = some (.slice none 0 0 : Value) := hr36c.at_ 4
    clear hr36c
    have hu43c := Hu28c.out
    have kf44c := hu43c.free
    have kc45c : _ = some (.string s : Value) := hu43c.at_ 0
    have kc46c : _ = some (.string xh : Value) := hu43c.at_ 1
    have kc47c : _ = some (.string xm : Value) := hu43c.at_ 2
    have kc48c : _ = some (.bool xd : Value) := hu43c.at_ 3
    have kc49c : _ = some (.slice xa xl xc : Value) := hu43c.at_ 4
    clear hu43c
    go_wp2_with fail
    generalize w3.alloc (.cells #[.string s, .string xh, .string xm, .bool xd, .slice xa xl xc] 37) = wg50c at *
    with_reducible refine (HN0.out _).mono ?_
    rintro e wn ⟨rfl, hw⟩
    replace hw := hw.symm
    subst hw
    clear kx32c ky33c kp34c kq35c kf37c kc38c kc39c kc40c kc41c kc42c kf44c kc45c kc46c kc47c kc48c kc49c
    have hd51c := Hd26c.out
    have kx52c := hd51c.c0
    have ky53c := hd51c.c1
    have kp54c := hd51c.f0
    have kq55c := hd51c.f1
    clear hd51c
    have hr56c := Hr27c.out
    have kf57c := hr56c.free
    have kc58c : _ = some (.string ⟨#[]⟩ : Value) := hr56c.at_ 0
    have kc59c : _ = some (.string ⟨#[]⟩ : Value) := hr56c.at_ 1
    have kc60c : _ = some (.string ⟨#[]⟩ : Value) := hr56c.at_ 2
    have kc61c : _ = some (.bool false : Value) := hr56c.at_ 3
    have kc62c : _ = some (.slice none 0 0 : Value) := hr56c.at_ 4
    clear hr56c
    have hu63c := Hu28c.out
    have kf64c := hu63c.free
    have kc65c : _ = some (.string s : Value) := hu63c.at_ 0
    have kc66c : _ = some (.string xh : Value) := hu63c.at_ 1
    have kc67c : _ = some (.string xm : Value) := hu63c.at_ 2
    have kc68c : _ = some (.bool xd : Value) := hu63c.at_ 3
    have kc69c : _ = some (.slice xa xl xc : Value) := hu63c.at_ 4
    clear hu63c
    have HS := set5_11 HB30c.out HLO6c.out Hr27c.out (.string s) (.string xh) (.string xm) (.bool xd) (.slice xa xl xc)
    have z0 : _ = some (.string s : Value) := HS.1.at_ 0
    have z1 : _ = some (.string xh : Value) := HS.1.at_ 1
    have z2 : _ = some (.string xm : Value) := HS.1.at_ 2
    have z3 : _ = some (.bool xd : Value) := HS.1.at_ 3
    have z4 : _ = some (.slice xa xl xc : Value) := HS.1.at_ 4
    have HPOST := Lib.hid (show ∃ t x, Ending.returned (.tuple #[.agg #[.string s, .string xh, .string xm, .bool xd, .slice xa xl xc], .int .i64 10]) = .returned (.tuple #[uval11 t x, .int .i64 10]) ∧ ((10 : Int) = 0 → t = s ∧ getV R s.data.toList = some x) ∧ Below w.heap.size w _ from ⟨s, ⟨xh, xm, xd, xa, xg, xc⟩, by unfold uval11; rw [HLx.out], fun _ => ⟨rfl, HXx.out⟩, HS.2.1⟩)
    unfold set5 at z0 z1 z2 z3 z4 HPOST
    clear HS
    go_wp2
    refine bodyPost_ret (v := .tuple #[.agg #[.string s, .string xh, .string xm, .bool xd, .slice xa xl xc], .int .i64 10]) ?_ rfl HPOST.out
    simp [results, Tryz.results99, go_sem, z0, z1, z2, z3, z4]
  | true =>
   rw [hgn] at HN0
   cases hh : hasV R s.data.toList with
   | false =>
    rw [hh] at HU0
    have Hd1d : Hid (Bx11 (w.alloc (.cells #[.slice A n c, .slice A1 n1 c1] TD11)) (w.heap.size) (.slice A n c) (.slice A1 n1 c1)) := bx11_new w _ _
    have HLO2d : Hid (w.heap.size ≤ w.heap.size) := Nat.le_refl _
    have HB3d : Hid (Below w.heap.size w (w.alloc (.cells #[.slice A n c, .slice A1 n1 c1] TD11))) := below_alloc (Below.refl _ _) _
    have Hd4d := Lib.hid (Hd1d.out.later (below_alloc (Below.refl _ _) (.cells #[.string ⟨#[]⟩, .string ⟨#[]⟩, .string ⟨#[]⟩, .bool false, .slice none 0 0] 37)))
    have Hr5d : Hid (Blk5 ((w.alloc (.cells #[.slice A n c, .slice A1 n1 c1] TD11)).alloc (.cells #[.string ⟨#[]⟩, .string ⟨#[]⟩, .string ⟨#[]⟩, .bool false, .slice none 0 0] 37)) (w.heap.size + 1) (.string ⟨#[]⟩) (.string ⟨#[]⟩) (.string ⟨#[]⟩) (.bool false) (.slice none 0 0)) := by
     have hq : Blk5 ((w.alloc (.cells #[.slice A n c, .slice A1 n1 c1] TD11)).alloc (.cells #[.string ⟨#[]⟩, .string ⟨#[]⟩, .string ⟨#[]⟩, .bool false, .slice none 0 0] 37)) (w.alloc (.cells #[.slice A n c, .slice A1 n1 c1] TD11)).heap.size (.string ⟨#[]⟩) (.string ⟨#[]⟩) (.string ⟨#[]⟩) (.bool false) (.slice none 0 0) := heap_alloc_new (w.alloc (.cells #[.slice A n c, .slice A1 n1 c1] TD11)) _
     simp only [World.size_alloc] at hq
     exact hq
    have HLO6d : Hid (w.heap.size ≤ w.heap.size + 1) := by have := HB3d.out.size; show _ ≤ _; simp at this; omega
    have HB7d := Lib.hid (below_next HB3d.out (below_alloc (Below.refl _ _) (.cells #[.string ⟨#[]⟩, .string ⟨#[]⟩, .string ⟨#[]⟩, .bool false, .slice none 0 0] 37)))
    have e1 : E = 8 := by
     have := HE.out
     rw [hname] at this
     rw [hgn] at this
     rw [hh] at this
     exact this
    subst e1
    clear HE
    go_enter Tryz.func99, Tryz.ntmps99
    have hd8d := Hd4d.out
    have kx9d := hd8d.c0
    have ky10d := hd8d.c1
    have kp11d := hd8d.f0
    have kq12d := hd8d.f1
    clear hd8d
    have hr13d := Hr5d.out
    have kf14d := hr13d.free
    have kc15d : _ = some (.string ⟨#[]⟩ : Value) := hr13d.at_ 0
    have kc16d : _ = some (.string ⟨#[]⟩ : Value) := hr13d.at_ 1
    have kc17d : _ = some (.string ⟨#[]⟩ : Value) := hr13d.at_ 2
    have kc18d : _ = some (.bool false : Value) := hr13d.at_ 3
    have kc19d : _ = some (.slice none 0 0 : Value) := hr13d.at_ 4
    clear hr13d
    go_wp2_with fail
    generalize (w.alloc (.cells #[.slice A n c, .slice A1 n1 c1] TD11)).alloc (.cells #[.string ⟨#[]⟩, .string ⟨#[]⟩, .string ⟨#[]⟩, .bool false, .slice none 0 0] 37) = wg20d at *
    with_reducible refine (HU0.out wg20d HB7d.out).mono ?_
    rintro e w3 ⟨t, x, he, hyes, hno, hb⟩
    clear kx9d ky10d kp11d kq12d kf14d kc15d kc16d kc17d kc18d kc19d
    have Hd21d := Lib.hid (Hd4d.out.later hb)
    have Hr22d := Lib.hid (blk_later11 Hr5d.out hb)
    have HB23d := Lib.hid (below_next HB7d.out hb)
    clear hb
    have he' : e = .returned (.tuple #[.agg #[.string ⟨#[]⟩, .string ⟨#[]⟩, .string ⟨#[]⟩, .bool false, .slice none 0 0], .int .i64 8]) := by
     obtain ⟨h1, h2⟩ := hno (by show (8 : Int) ≠ 0; decide)
     rw [he, h1, h2]; rfl
    subst he'
    clear he hyes hno
    have HLT24d := Lib.hid (Hd21d.out.lt)
    have HLT25d := Lib.hid (Hr22d.out.lt)
    have Hd26d := Lib.hid (Hd21d.out.later (below_alloc (Below.refl _ _) (.cells #[.string ⟨#[]⟩, .string ⟨#[]⟩, .string ⟨#[]⟩, .bool false, .slice none 0 0] 37)))
    have Hr27d := Lib.hid (blk_later11 Hr22d.out (below_alloc (Below.refl _ _) (.cells #[.string ⟨#[]⟩, .string ⟨#[]⟩, .string ⟨#[]⟩, .bool false, .slice none 0 0] 37)))
    have Hu28d : Hid (Blk5 (w3.alloc (.cells #[.string ⟨#[]⟩, .string ⟨#[]⟩, .string ⟨#[]⟩, .bool false, .slice none 0 0] 37)) (w3.heap.size) (.string ⟨#[]⟩) (.string ⟨#[]⟩) (.string ⟨#[]⟩) (.bool false) (.slice none 0 0)) := heap_alloc_new w3 _
    have HLO29d : Hid (w.heap.size ≤ w3.heap.size) := by have := HB23d.out.size; show _ ≤ _; exact this
    have HB30d := Lib.hid (below_next HB23d.out (below_alloc (Below.refl _ _) (.cells #[.string ⟨#[]⟩, .string ⟨#[]⟩, .string ⟨#[]⟩, .bool false, .slice none 0 0] 37)))
    have hd31d := Hd26d.out
    have kx32d := hd31d.c0
    have ky33d := hd31d.c1
    have kp34d := hd31d.f0
    have kq35d := hd31d.f1
    clear hd31d
    have hr36d := Hr27d.out
    have kf37d := hr36d.free
    have kc38d : _ = some (.string ⟨#[]⟩ : Value) := hr36d.at_ 0
    have kc39d : _ = some (.string ⟨#[]⟩ : Value) := hr36d.at_ 1
    have kc40d : _ = some (.string ⟨#[]⟩ : Value) := hr36d.at_ 2
    have kc41d : _ = some (.bool false : Value) := hr36d.at_ 3
    have kc42d : _ = some (.slice none 0 0 : Value) := hr36d.at_ 4
    clear hr36d
    have hu43d := Hu28d.out
    have kf44d := hu43d.free
    have kc45d : _ = some (.string ⟨#[]⟩ : Value) := hu43d.at_ 0
    have kc46d : _ = some (.string ⟨#[]⟩ : Value) := hu43d.at_ 1
    have kc47d : _ = some (.string ⟨#[]⟩ : Value) := hu43d.at_ 2
    have kc48d : _ = some (.bool false : Value) := hu43d.at_ 3
    have kc49d : _ = some (.slice none 0 0 : Value) := hu43d.at_ 4
    clear hu43d
    go_wp2_with fail
    generalize w3.alloc (.cells #[.string ⟨#[]⟩, .string ⟨#[]⟩, .string ⟨#[]⟩, .bool false, .slice none 0 0] 37) = wg50d at *
    with_reducible refine (HN0.out _).mono ?_
    rintro e wn ⟨rfl, hw⟩
    replace hw := hw.symm
    subst hw
    clear kx32d ky33d kp34d kq35d kf37d kc38d kc39d kc40d kc41d kc42d kf44d kc45d kc46d kc47d kc48d kc49d
    have hd51d := Hd26d.out
    have kx52d := hd51d.c0
    have ky53d := hd51d.c1
    have kp54d := hd51d.f0
    have kq55d := hd51d.f1
    clear hd51d
    have hr56d := Hr27d.out
    have kf57d := hr56d.free
    have kc58d : _ = some (.string ⟨#[]⟩ : Value) := hr56d.at_ 0
    have kc59d : _ = some (.string ⟨#[]⟩ : Value) := hr56d.at_ 1
    have kc60d : _ = some (.string ⟨#[]⟩ : Value) := hr56d.at_ 2
    have kc61d : _ = some (.bool false : Value) := hr56d.at_ 3
    have kc62d : _ = some (.slice none 0 0 : Value) := hr56d.at_ 4
    clear hr56d
    have hu63d := Hu28d.out
    have kf64d := hu63d.free
    have kc65d : _ = some (.string ⟨#[]⟩ : Value) := hu63d.at_ 0
    have kc66d : _ = some (.string ⟨#[]⟩ : Value) := hu63d.at_ 1
    have kc67d : _ = some (.string ⟨#[]⟩ : Value) := hu63d.at_ 2
    have kc68d : _ = some (.bool false : Value) := hu63d.at_ 3
    have kc69d : _ = some (.slice none 0 0 : Value) := hu63d.at_ 4
    clear hu63d
    have HS := set5_11 HB30d.out HLO6d.out Hr27d.out (.string ⟨#[]⟩) (.string ⟨#[]⟩) (.string ⟨#[]⟩) (.bool false) (.slice none 0 0)
    have z0 : _ = some (.string ⟨#[]⟩ : Value) := HS.1.at_ 0
    have z1 : _ = some (.string ⟨#[]⟩ : Value) := HS.1.at_ 1
    have z2 : _ = some (.string ⟨#[]⟩ : Value) := HS.1.at_ 2
    have z3 : _ = some (.bool false : Value) := HS.1.at_ 3
    have z4 : _ = some (.slice none 0 0 : Value) := HS.1.at_ 4
    have HPOST := Lib.hid (show ∃ t x, Ending.returned (.tuple #[.agg #[.string ⟨#[]⟩, .string ⟨#[]⟩, .string ⟨#[]⟩, .bool false, .slice none 0 0], .int .i64 8]) = .returned (.tuple #[uval11 t x, .int .i64 8]) ∧ ((8 : Int) = 0 → t = s ∧ getV R s.data.toList = some x) ∧ Below w.heap.size w _ from ⟨⟨#[]⟩, noW11, rfl, fun h => absurd h (by decide), HS.2.1⟩)
    unfold set5 at z0 z1 z2 z3 z4 HPOST
    clear HS
    go_wp2
    refine bodyPost_ret (v := .tuple #[.agg #[.string ⟨#[]⟩, .string ⟨#[]⟩, .string ⟨#[]⟩, .bool false, .slice none 0 0], .int .i64 8]) ?_ rfl HPOST.out
    simp [results, Tryz.results99, go_sem, z0, z1, z2, z3, z4]
   | true =>
    rw [hh] at HU0
    cases hd : hasT N g.data.toList with
    | false =>
     rw [hd] at HH0
     have Hd1e : Hid (Bx11 (w.alloc (.cells #[.slice A n c, .slice A1 n1 c1] TD11)) (w.heap.size) (.slice A n c) (.slice A1 n1 c1)) := bx11_new w _ _
     have HLO2e : Hid (w.heap.size ≤ w.heap.size) := Nat.le_refl _
     have HB3e : Hid (Below w.heap.size w (w.alloc (.cells #[.slice A n c, .slice A1 n1 c1] TD11))) := below_alloc (Below.refl _ _) _
     have Hd4e := Lib.hid (Hd1e.out.later (below_alloc (Below.refl _ _) (.cells #[.string ⟨#[]⟩, .string ⟨#[]⟩, .string ⟨#[]⟩, .bool false, .slice none 0 0] 37)))
     have Hr5e : Hid (Blk5 ((w.alloc (.cells #[.slice A n c, .slice A1 n1 c1] TD11)).alloc (.cells #[.string ⟨#[]⟩, .string ⟨#[]⟩, .string ⟨#[]⟩, .bool false, .slice none 0 0] 37)) (w.heap.size + 1) (.string ⟨#[]⟩) (.string ⟨#[]⟩) (.string ⟨#[]⟩) (.bool false) (.slice none 0 0)) := by
      have hq : Blk5 ((w.alloc (.cells #[.slice A n c, .slice A1 n1 c1] TD11)).alloc (.cells #[.string ⟨#[]⟩, .string ⟨#[]⟩, .string ⟨#[]⟩, .bool false, .slice none 0 0] 37)) (w.alloc (.cells #[.slice A n c, .slice A1 n1 c1] TD11)).heap.size (.string ⟨#[]⟩) (.string ⟨#[]⟩) (.string ⟨#[]⟩) (.bool false) (.slice none 0 0) := heap_alloc_new (w.alloc (.cells #[.slice A n c, .slice A1 n1 c1] TD11)) _
      simp only [World.size_alloc] at hq
      exact hq
     have HLO6e : Hid (w.heap.size ≤ w.heap.size + 1) := by have := HB3e.out.size; show _ ≤ _; simp at this; omega
     have HB7e := Lib.hid (below_next HB3e.out (below_alloc (Below.refl _ _) (.cells #[.string ⟨#[]⟩, .string ⟨#[]⟩, .string ⟨#[]⟩, .bool false, .slice none 0 0] 37)))
     have e1 : E = 8 := by
      have := HE.out
      rw [hname] at this
      rw [hgn] at this
      rw [hh] at this
      rw [hd] at this
      exact this
     subst e1
     clear HE
     go_enter Tryz.func99, Tryz.ntmps99
     have hd8e := Hd4e.out
     have kx9e := hd8e.c0
     have ky10e := hd8e.c1
     have kp11e := hd8e.f0
     have kq12e := hd8e.f1
     clear hd8e
     have hr13e := Hr5e.out
     have kf14e := hr13e.free
     have kc15e : _ = some (.string ⟨#[]⟩ : Value) := hr13e.at_ 0
     have kc16e : _ = some (.string ⟨#[]⟩ : Value) := hr13e.at_ 1
     have kc17e : _ = some (.string ⟨#[]⟩ : Value) := hr13e.at_ 2
     have kc18e : _ = some (.bool false : Value) := hr13e.at_ 3
     have kc19e : _ = some (.slice none 0 0 : Value) := hr13e.at_ 4
     clear hr13e
     go_wp2_with fail
     generalize (w.alloc (.cells #[.slice A n c, .slice A1 n1 c1] TD11)).alloc (.cells #[.string ⟨#[]⟩, .string ⟨#[]⟩, .string ⟨#[]⟩, .bool false, .slice none 0 0] 37) = wg20e at *
     with_reducible refine (HU0.out wg20e HB7e.out).mono ?_
     rintro e w3 ⟨t, x, he, hyes, hno, hb⟩
     clear kx9e ky10e kp11e kq12e kf14e kc15e kc16e kc17e kc18e kc19e
     have Hd21e := Lib.hid (Hd4e.out.later hb)
     have Hr22e := Lib.hid (blk_later11 Hr5e.out hb)
     have HB23e := Lib.hid (below_next HB7e.out hb)
     clear hb
     obtain ⟨ht, hx⟩ := hyes rfl
     obtain ⟨xh, xm, xd, xa, xg, xc⟩ := x
     obtain ⟨xl, hxl⟩ : ∃ l, l = xg.length := ⟨_, rfl⟩
     have he' : e = .returned (.tuple #[.agg #[.string s, .string xh, .string xm, .bool xd, .slice xa xl xc], .int .i64 0]) := by
      rw [he, ht, hxl]; rfl
     subst he'
     have HXx := Lib.hid hx
     have HLx := Lib.hid hxl
     clear he hyes hno ht hx hxl
     have HLT24e := Lib.hid (Hd21e.out.lt)
     have HLT25e := Lib.hid (Hr22e.out.lt)
     have Hd26e := Lib.hid (Hd21e.out.later (below_alloc (Below.refl _ _) (.cells #[.string s, .string xh, .string xm, .bool xd, .slice xa xl xc] 37)))
     have Hr27e := Lib.hid (blk_later11 Hr22e.out (below_alloc (Below.refl _ _) (.cells #[.string s, .string xh, .string xm, .bool xd, .slice xa xl xc] 37)))
     have Hu28e : Hid (Blk5 (w3.alloc (.cells #[.string s, .string xh, .string xm, .bool xd, .slice xa xl xc] 37)) (w3.heap.size) (.string s) (.string xh) (.string xm) (.bool xd) (.slice xa xl xc)) := heap_alloc_new w3 _
     have HLO29e : Hid (w.heap.size ≤ w3.heap.size) := by have := HB23e.out.size; show _ ≤ _; exact this
     have HB30e := Lib.hid (below_next HB23e.out (below_alloc (Below.refl _ _) (.cells #[.string s, .string xh, .string xm, .bool xd, .slice xa xl xc] 37)))
     have hd31e := Hd26e.out
     have kx32e := hd31e.c0
     have ky33e := hd31e.c1
     have kp34e := hd31e.f0
     have kq35e := hd31e.f1
     clear hd31e
     have hr36e := Hr27e.out
     have kf37e := hr36e.free
     have kc38e : _ = some (.string ⟨#[]⟩ : Value) := hr36e.at_ 0
     have kc39e : _ = some (.string ⟨#[]⟩ : Value) := hr36e.at_ 1
     have kc40e : _ = some (.string ⟨#[]⟩ : Value) := hr36e.at_ 2
     have kc41e : _ = some (.bool false : Value) := hr36e.at_ 3
     have kc42e : _ = some (.slice none 0 0 : Value) := hr36e.at_ 4
     clear hr36e
     have hu43e := Hu28e.out
     have kf44e := hu43e.free
     have kc45e : _ = some (.string s : Value) := hu43e.at_ 0
     have kc46e : _ = some (.string xh : Value) := hu43e.at_ 1
     have kc47e : _ = some (.string xm : Value) := hu43e.at_ 2
     have kc48e : _ = some (.bool xd : Value) := hu43e.at_ 3
     have kc49e : _ = some (.slice xa xl xc : Value) := hu43e.at_ 4
     clear hu43e
     go_wp2_with fail
     generalize w3.alloc (.cells #[.string s, .string xh, .string xm, .bool xd, .slice xa xl xc] 37) = wg50e at *
     with_reducible refine (HN0.out _).mono ?_
     rintro e wn ⟨rfl, hw⟩
     replace hw := hw.symm
     subst hw
     clear kx32e ky33e kp34e kq35e kf37e kc38e kc39e kc40e kc41e kc42e kf44e kc45e kc46e kc47e kc48e kc49e
     have hd51e := Hd26e.out
     have kx52e := hd51e.c0
     have ky53e := hd51e.c1
     have kp54e := hd51e.f0
     have kq55e := hd51e.f1
     clear hd51e
     have hr56e := Hr27e.out
     have kf57e := hr56e.free
     have kc58e : _ = some (.string ⟨#[]⟩ : Value) := hr56e.at_ 0
     have kc59e : _ = some (.string ⟨#[]⟩ : Value) := hr56e.at_ 1
     have kc60e : _ = some (.string ⟨#[]⟩ : Value) := hr56e.at_ 2
     have kc61e : _ = some (.bool false : Value) := hr56e.at_ 3
     have kc62e : _ = some (.slice none 0 0 : Value) := hr56e.at_ 4
     clear hr56e
     have hu63e := Hu28e.out
     have kf64e := hu63e.free
     have kc65e : _ = some (.string s : Value) := hu63e.at_ 0
     have kc66e : _ = some (.string xh : Value) := hu63e.at_ 1
     have kc67e : _ = some (.string xm : Value) := hu63e.at_ 2
     have kc68e : _ = some (.bool xd : Value) := hu63e.at_ 3
     have kc69e : _ = some (.slice xa xl xc : Value) := hu63e.at_ 4
     clear hu63e
     go_wp2_with fail
     with_reducible refine (HH0.out wg50e HB30e.out).mono ?_
     rintro e w5 ⟨rfl, hb⟩
     clear kx52e ky53e kp54e kq55e kf57e kc58e kc59e kc60e kc61e kc62e kf64e kc65e kc66e kc67e kc68e kc69e
     have Hd70e := Lib.hid (Hd26e.out.later hb)
     have Hr71e := Lib.hid (blk_later11 Hr27e.out hb)
     have Hu72e := Lib.hid (blk_later11 Hu28e.out hb)
     have HB73e := Lib.hid (below_next HB30e.out hb)
     clear hb
     have hd74e := Hd70e.out
     have kx75e := hd74e.c0
     have ky76e := hd74e.c1
     have kp77e := hd74e.f0
     have kq78e := hd74e.f1
     clear hd74e
     have hr79e := Hr71e.out
     have kf80e := hr79e.free
     have kc81e : _ = some (.string ⟨#[]⟩ : Value) := hr79e.at_ 0
     have kc82e : _ = some (.string ⟨#[]⟩ : Value) := hr79e.at_ 1
     have kc83e : _ = some (.string ⟨#[]⟩ : Value) := hr79e.at_ 2
     have kc84e : _ = some (.bool false : Value) := hr79e.at_ 3
     have kc85e : _ = some (.slice none 0 0 : Value) := hr79e.at_ 4
     clear hr79e
     have hu86e := Hu72e.out
     have kf87e := hu86e.free
     have kc88e : _ = some (.string s : Value) := hu86e.at_ 0
     have kc89e : _ = some (.string xh : Value) := hu86e.at_ 1
     have kc90e : _ = some (.string xm : Value) := hu86e.at_ 2
     have kc91e : _ = some (.bool xd : Value) := hu86e.at_ 3
     have kc92e : _ = some (.slice xa xl xc : Value) := hu86e.at_ 4
     clear hu86e
     have HS := set5_11 HB73e.out HLO6e.out Hr71e.out (.string s) (.string xh) (.string xm) (.bool xd) (.slice xa xl xc)
     have z0 : _ = some (.string s : Value) := HS.1.at_ 0
     have z1 : _ = some (.string xh : Value) := HS.1.at_ 1
     have z2 : _ = some (.string xm : Value) := HS.1.at_ 2
     have z3 : _ = some (.bool xd : Value) := HS.1.at_ 3
     have z4 : _ = some (.slice xa xl xc : Value) := HS.1.at_ 4
     have HPOST := Lib.hid (show ∃ t x, Ending.returned (.tuple #[.agg #[.string s, .string xh, .string xm, .bool xd, .slice xa xl xc], .int .i64 8]) = .returned (.tuple #[uval11 t x, .int .i64 8]) ∧ ((8 : Int) = 0 → t = s ∧ getV R s.data.toList = some x) ∧ Below w.heap.size w _ from ⟨s, ⟨xh, xm, xd, xa, xg, xc⟩, by unfold uval11; rw [HLx.out], fun _ => ⟨rfl, HXx.out⟩, HS.2.1⟩)
     unfold set5 at z0 z1 z2 z3 z4 HPOST
     clear HS
     go_wp2
     refine bodyPost_ret (v := .tuple #[.agg #[.string s, .string xh, .string xm, .bool xd, .slice xa xl xc], .int .i64 8]) ?_ rfl HPOST.out
     simp [results, Tryz.results99, go_sem, z0, z1, z2, z3, z4]
    | true =>
     rw [hd] at HH0
     have Hd1f : Hid (Bx11 (w.alloc (.cells #[.slice A n c, .slice A1 n1 c1] TD11)) (w.heap.size) (.slice A n c) (.slice A1 n1 c1)) := bx11_new w _ _
     have HLO2f : Hid (w.heap.size ≤ w.heap.size) := Nat.le_refl _
     have HB3f : Hid (Below w.heap.size w (w.alloc (.cells #[.slice A n c, .slice A1 n1 c1] TD11))) := below_alloc (Below.refl _ _) _
     have Hd4f := Lib.hid (Hd1f.out.later (below_alloc (Below.refl _ _) (.cells #[.string ⟨#[]⟩, .string ⟨#[]⟩, .string ⟨#[]⟩, .bool false, .slice none 0 0] 37)))
     have Hr5f : Hid (Blk5 ((w.alloc (.cells #[.slice A n c, .slice A1 n1 c1] TD11)).alloc (.cells #[.string ⟨#[]⟩, .string ⟨#[]⟩, .string ⟨#[]⟩, .bool false, .slice none 0 0] 37)) (w.heap.size + 1) (.string ⟨#[]⟩) (.string ⟨#[]⟩) (.string ⟨#[]⟩) (.bool false) (.slice none 0 0)) := by
      have hq : Blk5 ((w.alloc (.cells #[.slice A n c, .slice A1 n1 c1] TD11)).alloc (.cells #[.string ⟨#[]⟩, .string ⟨#[]⟩, .string ⟨#[]⟩, .bool false, .slice none 0 0] 37)) (w.alloc (.cells #[.slice A n c, .slice A1 n1 c1] TD11)).heap.size (.string ⟨#[]⟩) (.string ⟨#[]⟩) (.string ⟨#[]⟩) (.bool false) (.slice none 0 0) := heap_alloc_new (w.alloc (.cells #[.slice A n c, .slice A1 n1 c1] TD11)) _
      simp only [World.size_alloc] at hq
      exact hq
     have HLO6f : Hid (w.heap.size ≤ w.heap.size + 1) := by have := HB3f.out.size; show _ ≤ _; simp at this; omega
     have HB7f := Lib.hid (below_next HB3f.out (below_alloc (Below.refl _ _) (.cells #[.string ⟨#[]⟩, .string ⟨#[]⟩, .string ⟨#[]⟩, .bool false, .slice none 0 0] 37)))
     have e1 : E = 0 := by
      have := HE.out
      rw [hname] at this
      rw [hgn] at this
      rw [hh] at this
      rw [hd] at this
      exact this
     subst e1
     clear HE
     go_enter Tryz.func99, Tryz.ntmps99
     have hd8f := Hd4f.out
     have kx9f := hd8f.c0
     have ky10f := hd8f.c1
     have kp11f := hd8f.f0
     have kq12f := hd8f.f1
     clear hd8f
     have hr13f := Hr5f.out
     have kf14f := hr13f.free
     have kc15f : _ = some (.string ⟨#[]⟩ : Value) := hr13f.at_ 0
     have kc16f : _ = some (.string ⟨#[]⟩ : Value) := hr13f.at_ 1
     have kc17f : _ = some (.string ⟨#[]⟩ : Value) := hr13f.at_ 2
     have kc18f : _ = some (.bool false : Value) := hr13f.at_ 3
     have kc19f : _ = some (.slice none 0 0 : Value) := hr13f.at_ 4
     clear hr13f
     go_wp2_with fail
     generalize (w.alloc (.cells #[.slice A n c, .slice A1 n1 c1] TD11)).alloc (.cells #[.string ⟨#[]⟩, .string ⟨#[]⟩, .string ⟨#[]⟩, .bool false, .slice none 0 0] 37) = wg20f at *
     with_reducible refine (HU0.out wg20f HB7f.out).mono ?_
     rintro e w3 ⟨t, x, he, hyes, hno, hb⟩
     clear kx9f ky10f kp11f kq12f kf14f kc15f kc16f kc17f kc18f kc19f
     have Hd21f := Lib.hid (Hd4f.out.later hb)
     have Hr22f := Lib.hid (blk_later11 Hr5f.out hb)
     have HB23f := Lib.hid (below_next HB7f.out hb)
     clear hb
     obtain ⟨ht, hx⟩ := hyes rfl
     obtain ⟨xh, xm, xd, xa, xg, xc⟩ := x
     obtain ⟨xl, hxl⟩ : ∃ l, l = xg.length := ⟨_, rfl⟩
     have he' : e = .returned (.tuple #[.agg #[.string s, .string xh, .string xm, .bool xd, .slice xa xl xc], .int .i64 0]) := by
      rw [he, ht, hxl]; rfl
     subst he'
     have HXx := Lib.hid hx
     have HLx := Lib.hid hxl
     clear he hyes hno ht hx hxl
     have HLT24f := Lib.hid (Hd21f.out.lt)
     have HLT25f := Lib.hid (Hr22f.out.lt)
     have Hd26f := Lib.hid (Hd21f.out.later (below_alloc (Below.refl _ _) (.cells #[.string s, .string xh, .string xm, .bool xd, .slice xa xl xc] 37)))
     have Hr27f := Lib.hid (blk_later11 Hr22f.out (below_alloc (Below.refl _ _) (.cells #[.string s, .string xh, .string xm, .bool xd, .slice xa xl xc] 37)))
     have Hu28f : Hid (Blk5 (w3.alloc (.cells #[.string s, .string xh, .string xm, .bool xd, .slice xa xl xc] 37)) (w3.heap.size) (.string s) (.string xh) (.string xm) (.bool xd) (.slice xa xl xc)) := heap_alloc_new w3 _
     have HLO29f : Hid (w.heap.size ≤ w3.heap.size) := by have := HB23f.out.size; show _ ≤ _; exact this
     have HB30f := Lib.hid (below_next HB23f.out (below_alloc (Below.refl _ _) (.cells #[.string s, .string xh, .string xm, .bool xd, .slice xa xl xc] 37)))
     have hd31f := Hd26f.out
     have kx32f := hd31f.c0
     have ky33f := hd31f.c1
     have kp34f := hd31f.f0
     have kq35f := hd31f.f1
     clear hd31f
     have hr36f := Hr27f.out
     have kf37f := hr36f.free
     have kc38f : _ = some (.string ⟨#[]⟩ : Value) := hr36f.at_ 0
     have kc39f : _ = some (.string ⟨#[]⟩ : Value) := hr36f.at_ 1
     have kc40f : _ = some (.string ⟨#[]⟩ : Value) := hr36f.at_ 2
     have kc41f : _ = some (.bool false : Value) := hr36f.at_ 3
     have kc42f : _ = some (.slice none 0 0 : Value) := hr36f.at_ 4
     clear hr36f
     have hu43f := Hu28f.out
     have kf44f := hu43f.free
     have kc45f : _ = some (.string s : Value) := hu43f.at_ 0
     have kc46f : _ = some (.string xh : Value) := hu43f.at_ 1
     have kc47f : _ = some (.string xm : Value) := hu43f.at_ 2
     have kc48f : _ = some (.bool xd : Value) := hu43f.at_ 3
     have kc49f : _ = some (.slice xa xl xc : Value) := hu43f.at_ 4
     clear hu43f
     go_wp2_with fail
     generalize w3.alloc (.cells #[.string s, .string xh, .string xm, .bool xd, .slice xa xl xc] 37) = wg50f at *
     with_reducible refine (HN0.out _).mono ?_
     rintro e wn ⟨rfl, hw⟩
     replace hw := hw.symm
     subst hw
     clear kx32f ky33f kp34f kq35f kf37f kc38f kc39f kc40f kc41f kc42f kf44f kc45f kc46f kc47f kc48f kc49f
     have hd51f := Hd26f.out
     have kx52f := hd51f.c0
     have ky53f := hd51f.c1
     have kp54f := hd51f.f0
     have kq55f := hd51f.f1
     clear hd51f
     have hr56f := Hr27f.out
     have kf57f := hr56f.free
     have kc58f : _ = some (.string ⟨#[]⟩ : Value) := hr56f.at_ 0
     have kc59f : _ = some (.string ⟨#[]⟩ : Value) := hr56f.at_ 1
     have kc60f : _ = some (.string ⟨#[]⟩ : Value) := hr56f.at_ 2
     have kc61f : _ = some (.bool false : Value) := hr56f.at_ 3
     have kc62f : _ = some (.slice none 0 0 : Value) := hr56f.at_ 4
     clear hr56f
     have hu63f := Hu28f.out
     have kf64f := hu63f.free
     have kc65f : _ = some (.string s : Value) := hu63f.at_ 0
     have kc66f : _ = some (.string xh : Value) := hu63f.at_ 1
     have kc67f : _ = some (.string xm : Value) := hu63f.at_ 2
     have kc68f : _ = some (.bool xd : Value) := hu63f.at_ 3
     have kc69f : _ = some (.slice xa xl xc : Value) := hu63f.at_ 4
     clear hu63f
     go_wp2_with fail
     with_reducible refine (HH0.out wg50f HB30f.out).mono ?_
     rintro e w5 ⟨rfl, hb⟩
     clear kx52f ky53f kp54f kq55f kf57f kc58f kc59f kc60f kc61f kc62f kf64f kc65f kc66f kc67f kc68f kc69f
     have Hd70f := Lib.hid (Hd26f.out.later hb)
     have Hr71f := Lib.hid (blk_later11 Hr27f.out hb)
     have Hu72f := Lib.hid (blk_later11 Hu28f.out hb)
     have HB73f := Lib.hid (below_next HB30f.out hb)
     clear hb
     have hd74f := Hd70f.out
     have kx75f := hd74f.c0
     have ky76f := hd74f.c1
     have kp77f := hd74f.f0
     have kq78f := hd74f.f1
     clear hd74f
     have hr79f := Hr71f.out
     have kf80f := hr79f.free
     have kc81f : _ = some (.string ⟨#[]⟩ : Value) := hr79f.at_ 0
     have kc82f : _ = some (.string ⟨#[]⟩ : Value) := hr79f.at_ 1
     have kc83f : _ = some (.string ⟨#[]⟩ : Value) := hr79f.at_ 2
     have kc84f : _ = some (.bool false : Value) := hr79f.at_ 3
     have kc85f : _ = some (.slice none 0 0 : Value) := hr79f.at_ 4
     clear hr79f
     have hu86f := Hu72f.out
     have kf87f := hu86f.free
     have kc88f : _ = some (.string s : Value) := hu86f.at_ 0
     have kc89f : _ = some (.string xh : Value) := hu86f.at_ 1
     have kc90f : _ = some (.string xm : Value) := hu86f.at_ 2
     have kc91f : _ = some (.bool xd : Value) := hu86f.at_ 3
     have kc92f : _ = some (.slice xa xl xc : Value) := hu86f.at_ 4
     clear hu86f
     have HS := set5_11 HB73f.out HLO6f.out Hr71f.out (.string s) (.string xh) (.string xm) (.bool xd) (.slice xa xl xc)
     have z0 : _ = some (.string s : Value) := HS.1.at_ 0
     have z1 : _ = some (.string xh : Value) := HS.1.at_ 1
     have z2 : _ = some (.string xm : Value) := HS.1.at_ 2
     have z3 : _ = some (.bool xd : Value) := HS.1.at_ 3
     have z4 : _ = some (.slice xa xl xc : Value) := HS.1.at_ 4
     have HPOST := Lib.hid (show ∃ t x, Ending.returned (.tuple #[.agg #[.string s, .string xh, .string xm, .bool xd, .slice xa xl xc], .int .i64 0]) = .returned (.tuple #[uval11 t x, .int .i64 0]) ∧ ((0 : Int) = 0 → t = s ∧ getV R s.data.toList = some x) ∧ Below w.heap.size w _ from ⟨s, ⟨xh, xm, xd, xa, xg, xc⟩, by unfold uval11; rw [HLx.out], fun _ => ⟨rfl, HXx.out⟩, HS.2.1⟩)
     unfold set5 at z0 z1 z2 z3 z4 HPOST
     clear HS
     go_wp2
     refine bodyPost_ret (v := .tuple #[.agg #[.string s, .string xh, .string xm, .bool xd, .slice xa xl xc], .int .i64 0]) ?_ rfl HPOST.out
     simp [results, Tryz.results99, go_sem, z0, z1, z2, z3, z4]

set_option maxRecDepth 100000 in
set_option maxHeartbeats 8000000 in
theorem rjoin11_calls (v vg : Value) (R : RowV W11) (N : List (List UInt8)) (g s : ByteArray) (w : World) (hR : Rc11 0 R w v) (hN : NmR w vg N) (h12 : R.length ≤ 12) (hr : RiseV R) (hN9 : N.length ≤ 900) (hgl : ∀ p ∈ R, p.2.gs.length ≤ 12) (hg : g.size ≤ 1000) (hn : s.size ≤ 1000) :
  Calls Tryz.prog 44 #[.agg #[v, vg], .string g, .string s] w (Doc11 (djoE11 (plainR R) N g.data.toList s.data.toList) (djoL11 (plainR R) N g.data.toList s.data.toList) N w) := by
 obtain ⟨i0, hi, hz0, hz1, hz2⟩ := info_parts infoStr11
 have hzu := zerou11
 have hnot : ∀ (x : Bool) (w : World), (Op.unary .not (.bool x)).run Tryz.prog w = .ok (.bool (!x)) w := fun _ _ => rfl
 obtain ⟨A, c, rfl⟩ := hR.rw.us.shape
 obtain ⟨A1, c1, rfl⟩ := hN.shape
 have HU0 : Hid (∀ W, Below w.heap.size w W → Calls Tryz.prog 99 #[.agg #[.slice A R.length c, .slice A1 N.length c1], .string g, .string s] W (Memb11 R N g s W)) := fun W hb => rmember11_calls _ _ R N g s W (hR.later hb) (hN.later hb) h12 hr hN9 hg hn
 have HPT0 : Hid (∀ (x : W11) W, Below w.heap.size w W → Calls Tryz.prog 90 #[.agg #[.slice A R.length c, .slice A1 N.length c1], uval11 s x] W fun e w' => ∃ v', e = .returned (.agg #[v', .slice A1 N.length c1]) ∧ Rw11 (putV R s.data.toList x) w' v' ∧ Below W.heap.size W w') := fun x W hb => rputd11_calls _ _ R N s x W (hR.rw.later hb) (hN.later hb) h12 hr
 have HRC := Lib.hid hR
 have HNN := Lib.hid hN
 have HRI := Lib.hid hr
 have HGL := Lib.hid hgl
 clear hR hN hgl
 obtain ⟨n, hlen⟩ : ∃ n, n = R.length := ⟨_, rfl⟩
 obtain ⟨n1, hlen1⟩ : ∃ n, n = N.length := ⟨_, rfl⟩
 unfold Memb11 at HU0
 rw [← hlen] at HU0 HPT0 HRC ⊢
 rw [← hlen1] at HU0 HPT0 HNN ⊢
 clear hlen hlen1
 have HEQ : Hid (mbE11 R N g.data.toList s.data.toList ≠ 0 → djoE11 (plainR R) N g.data.toList s.data.toList = mbE11 R N g.data.toList s.data.toList) := fun h => by
  revert h
  unfold djoE11 mbE11
  rw [plainR_has]
  unfold mbF11
  cases name5 s.data.toList <;> cases name5 g.data.toList <;> cases hasV R s.data.toList <;> cases hasT N g.data.toList <;> simp
 have HEZ : Hid (mbE11 R N g.data.toList s.data.toList = 0 → djoE11 (plainR R) N g.data.toList s.data.toList = if hasT (gsU (plainR R) s.data.toList) g.data.toList then 9 else 0) := fun h => by
  revert h
  unfold djoE11 mbE11
  rw [plainR_has]
  unfold mbF11
  cases name5 s.data.toList <;> cases name5 g.data.toList <;> cases hasV R s.data.toList <;> cases hasT N g.data.toList <;> simp
 have HLQ : Hid (djoL11 (plainR R) N g.data.toList s.data.toList = if djoE11 (plainR R) N g.data.toList s.data.toList = 0 then setU (plainR R) s.data.toList (fun u => { u with gs := sortT (u.gs ++ [g.data.toList]) }) else plainR R) := rfl
 generalize mbE11 R N g.data.toList s.data.toList = M at *
 generalize djoE11 (plainR R) N g.data.toList s.data.toList = E at *
 generalize djoL11 (plainR R) N g.data.toList s.data.toList = L' at *
 by_cases hm : M = 0
 case neg =>
  have e1 := HEQ.out hm
  have e2 : L' = plainR R := by
   have := HLQ.out
   rw [e1, if_neg hm] at this
   exact this
  subst e1
  have q1 : (E != 0) = true := by simpa using hm
  have q2 : (E == 0) = false := by simpa using hm
  clear HEQ HEZ HLQ HPT0
  have Hd1a : Hid (Bx11 (w.alloc (.cells #[.slice A n c, .slice A1 n1 c1] TD11)) (w.heap.size) (.slice A n c) (.slice A1 n1 c1)) := bx11_new w _ _
  have HLO2a : Hid (w.heap.size ≤ w.heap.size) := Nat.le_refl _
  have HB3a : Hid (Below w.heap.size w (w.alloc (.cells #[.slice A n c, .slice A1 n1 c1] TD11))) := below_alloc (Below.refl _ _) _
  have Hd4a := Lib.hid (Hd1a.out.later (below_alloc (Below.refl _ _) (.cells #[.slice none 0 0, .slice none 0 0] TD11)))
  have Hr5a : Hid (Bx11 ((w.alloc (.cells #[.slice A n c, .slice A1 n1 c1] TD11)).alloc (.cells #[.slice none 0 0, .slice none 0 0] TD11)) (w.heap.size + 1) (.slice none 0 0) (.slice none 0 0)) := by
   have hq : Bx11 ((w.alloc (.cells #[.slice A n c, .slice A1 n1 c1] TD11)).alloc (.cells #[.slice none 0 0, .slice none 0 0] TD11)) (w.alloc (.cells #[.slice A n c, .slice A1 n1 c1] TD11)).heap.size (.slice none 0 0) (.slice none 0 0) := bx11_new (w.alloc (.cells #[.slice A n c, .slice A1 n1 c1] TD11)) _ _
   simp only [World.size_alloc] at hq
   exact hq
  have HLO6a : Hid (w.heap.size ≤ w.heap.size + 1) := by have := HB3a.out.size; show _ ≤ _; simp at this; omega
  have HB7a := Lib.hid (below_next HB3a.out (below_alloc (Below.refl _ _) (.cells #[.slice none 0 0, .slice none 0 0] TD11)))
  go_enter Tryz.func44, Tryz.ntmps44
  have hd8a := Hd4a.out
  have kx9a := hd8a.c0
  have ky10a := hd8a.c1
  have kp11a := hd8a.f0
  have kq12a := hd8a.f1
  clear hd8a
  have hr13a := Hr5a.out
  have kx14a := hr13a.c0
  have ky15a := hr13a.c1
  have kp16a := hr13a.f0
  have kq17a := hr13a.f1
  clear hr13a
  go_wp2_with fail
  generalize (w.alloc (.cells #[.slice A n c, .slice A1 n1 c1] TD11)).alloc (.cells #[.slice none 0 0, .slice none 0 0] TD11) = wg18a at *
  with_reducible refine (HU0.out wg18a HB7a.out).mono ?_
  rintro e w3 ⟨t, x, rfl, hyes, hb⟩
  clear kx9a ky10a kp11a kq12a kx14a ky15a kp16a kq17a
  have Hd19a := Lib.hid (Hd4a.out.later hb)
  have Hr20a := Lib.hid (Hr5a.out.later hb)
  have HB21a := Lib.hid (below_next HB7a.out hb)
  clear hb
  clear hyes
  obtain ⟨xh, xm, xd, xa, xg, xc⟩ := x
  unfold uval11
  dsimp only
  generalize xg.length = xl
  have HLT22a := Lib.hid (Hd19a.out.lt)
  have HLT23a := Lib.hid (Hr20a.out.lt)
  have Hd24a := Lib.hid (Hd19a.out.later (below_alloc (Below.refl _ _) (.cells #[.string t, .string xh, .string xm, .bool xd, .slice xa xl xc] 37)))
  have Hr25a := Lib.hid (Hr20a.out.later (below_alloc (Below.refl _ _) (.cells #[.string t, .string xh, .string xm, .bool xd, .slice xa xl xc] 37)))
  have Hu26a : Hid (Blk5 (w3.alloc (.cells #[.string t, .string xh, .string xm, .bool xd, .slice xa xl xc] 37)) (w3.heap.size) (.string t) (.string xh) (.string xm) (.bool xd) (.slice xa xl xc)) := heap_alloc_new w3 _
  have HLO27a : Hid (w.heap.size ≤ w3.heap.size) := by have := HB21a.out.size; show _ ≤ _; exact this
  have HB28a := Lib.hid (below_next HB21a.out (below_alloc (Below.refl _ _) (.cells #[.string t, .string xh, .string xm, .bool xd, .slice xa xl xc] 37)))
  have hd29a := Hd24a.out
  have kx30a := hd29a.c0
  have ky31a := hd29a.c1
  have kp32a := hd29a.f0
  have kq33a := hd29a.f1
  clear hd29a
  have hr34a := Hr25a.out
  have kx35a := hr34a.c0
  have ky36a := hr34a.c1
  have kp37a := hr34a.f0
  have kq38a := hr34a.f1
  clear hr34a
  have hu39a := Hu26a.out
  have kf40a := hu39a.free
  have kc41a : _ = some (.string t : Value) := hu39a.at_ 0
  have kc42a : _ = some (.string xh : Value) := hu39a.at_ 1
  have kc43a : _ = some (.string xm : Value) := hu39a.at_ 2
  have kc44a : _ = some (.bool xd : Value) := hu39a.at_ 3
  have kc45a : _ = some (.slice xa xl xc : Value) := hu39a.at_ 4
  clear hu39a
  have HS := fin211 HB28a.out Hr25a.out HLO6a.out (.slice A n c) (.slice A1 n1 c1)
  have z0 := HS.1.c0
  have z1 := HS.1.c1
  have HPOST := Lib.hid (show Doc11 E L' N w (.returned (.tuple #[.agg #[.slice A n c, .slice A1 n1 c1], .int .i64 E])) _ from ⟨R, _, _, rfl, HRC.out.later HS.2.1, e2.symm, HNN.out.later HS.2.1, HS.2.1⟩)
  clear HS
  go_wp2
  refine bodyPost_ret (v := .tuple #[.agg #[.slice A n c, .slice A1 n1 c1], .int .i64 E]) ?_ rfl HPOST.out
  simp [results, Tryz.results44, go_sem, z0, z1]
 subst hm
 have HE0 := Lib.hid (HEZ.out rfl)
 have HXG : Hid (∀ x, getV R s.data.toList = some x → gsU (plainR R) s.data.toList = x.gs ∧ x.gs.length ≤ 12 ∧ setU (plainR R) s.data.toList (fun u => { u with gs := sortT (u.gs ++ [g.data.toList]) }) = putV (plainR R) s.data.toList ((fun u => { u with gs := sortT (u.gs ++ [g.data.toList]) }) x.u)) := fun x h => by
  refine ⟨?_, HGL.out (s.data.toList, x) ((getV_some HRI.out).1 h), ?_⟩
  ·
   unfold gsU; rw [plainR_get, h]; rfl
  ·
   unfold setU; rw [plainR_get, h]; rfl
 clear HEQ HEZ HGL
 have Hd1b : Hid (Bx11 (w.alloc (.cells #[.slice A n c, .slice A1 n1 c1] TD11)) (w.heap.size) (.slice A n c) (.slice A1 n1 c1)) := bx11_new w _ _
 have HLO2b : Hid (w.heap.size ≤ w.heap.size) := Nat.le_refl _
 have HB3b : Hid (Below w.heap.size w (w.alloc (.cells #[.slice A n c, .slice A1 n1 c1] TD11))) := below_alloc (Below.refl _ _) _
 have Hd4b := Lib.hid (Hd1b.out.later (below_alloc (Below.refl _ _) (.cells #[.slice none 0 0, .slice none 0 0] TD11)))
 have Hr5b : Hid (Bx11 ((w.alloc (.cells #[.slice A n c, .slice A1 n1 c1] TD11)).alloc (.cells #[.slice none 0 0, .slice none 0 0] TD11)) (w.heap.size + 1) (.slice none 0 0) (.slice none 0 0)) := by
  have hq : Bx11 ((w.alloc (.cells #[.slice A n c, .slice A1 n1 c1] TD11)).alloc (.cells #[.slice none 0 0, .slice none 0 0] TD11)) (w.alloc (.cells #[.slice A n c, .slice A1 n1 c1] TD11)).heap.size (.slice none 0 0) (.slice none 0 0) := bx11_new (w.alloc (.cells #[.slice A n c, .slice A1 n1 c1] TD11)) _ _
  simp only [World.size_alloc] at hq
  exact hq
 have HLO6b : Hid (w.heap.size ≤ w.heap.size + 1) := by have := HB3b.out.size; show _ ≤ _; simp at this; omega
 have HB7b := Lib.hid (below_next HB3b.out (below_alloc (Below.refl _ _) (.cells #[.slice none 0 0, .slice none 0 0] TD11)))
 go_enter Tryz.func44, Tryz.ntmps44
 have hd8b := Hd4b.out
 have kx9b := hd8b.c0
 have ky10b := hd8b.c1
 have kp11b := hd8b.f0
 have kq12b := hd8b.f1
 clear hd8b
 have hr13b := Hr5b.out
 have kx14b := hr13b.c0
 have ky15b := hr13b.c1
 have kp16b := hr13b.f0
 have kq17b := hr13b.f1
 clear hr13b
 go_wp2_with fail
 generalize (w.alloc (.cells #[.slice A n c, .slice A1 n1 c1] TD11)).alloc (.cells #[.slice none 0 0, .slice none 0 0] TD11) = wg18b at *
 with_reducible refine (HU0.out wg18b HB7b.out).mono ?_
 rintro e w2 ⟨t, x, he, hyes, hb⟩
 clear kx9b ky10b kp11b kq12b kx14b ky15b kp16b kq17b
 have Hd19b := Lib.hid (Hd4b.out.later hb)
 have Hr20b := Lib.hid (Hr5b.out.later hb)
 have HB21b := Lib.hid (below_next HB7b.out hb)
 clear hb
 obtain ⟨ht, hx⟩ := hyes (by first | rfl | trivial)
 obtain ⟨h1, h2, h3⟩ := HXG.out x hx
 have hgs := h1
 obtain ⟨xh, xm, xd, xa, xg, xc⟩ := x
 dsimp only at h1 h2 h3 hgs
 obtain ⟨xl, hxl⟩ : ∃ l, l = xg.length := ⟨_, rfl⟩
 have he' : e = .returned (.tuple #[.agg #[.string s, .string xh, .string xm, .bool xd, .slice xa xl xc], .int .i64 0]) := by
  rw [he, ht, hxl]; rfl
 subst he'
 have HX := Lib.hid hx
 have HLx := Lib.hid hxl
 have HGS := Lib.hid hgs
 have HST := Lib.hid h3
 have hl12 : xl ≤ 12 := by rw [hxl]; exact h2
 have HRX : Hid (∀ W, Below w.heap.size w W → NmR W (.slice xa xl xc) xg) := fun W hb => by
  have := (HRC.out.later hb).2 (s.data.toList, ⟨xh, xm, xd, xa, xg, xc⟩) ((getV_some HRI.out).1 HX.out)
  rw [HLx.out]
  exact this
 clear he hyes ht hx hxl h1 h2 h3 hgs HXG HU0
 have HH0 : Hid (∀ W, Below w.heap.size w W → Calls Tryz.prog 67 #[.slice xa xl xc, .string g] W (Tells5 (hasT xg g.data.toList) W)) := fun W hb => by
  have := rhas11_calls _ xg g W (by have := HLx.out; omega) (HRX.out W hb)
  exact this
 have HLT22b := Lib.hid (Hd19b.out.lt)
 have HLT23b := Lib.hid (Hr20b.out.lt)
 have Hd24b := Lib.hid (Hd19b.out.later (below_alloc (Below.refl _ _) (.cells #[.string s, .string xh, .string xm, .bool xd, .slice xa xl xc] 37)))
 have Hr25b := Lib.hid (Hr20b.out.later (below_alloc (Below.refl _ _) (.cells #[.string s, .string xh, .string xm, .bool xd, .slice xa xl xc] 37)))
 have Hu26b : Hid (Blk5 (w2.alloc (.cells #[.string s, .string xh, .string xm, .bool xd, .slice xa xl xc] 37)) (w2.heap.size) (.string s) (.string xh) (.string xm) (.bool xd) (.slice xa xl xc)) := heap_alloc_new w2 _
 have HLO27b : Hid (w.heap.size ≤ w2.heap.size) := by have := HB21b.out.size; show _ ≤ _; exact this
 have HB28b := Lib.hid (below_next HB21b.out (below_alloc (Below.refl _ _) (.cells #[.string s, .string xh, .string xm, .bool xd, .slice xa xl xc] 37)))
 have hd29b := Hd24b.out
 have kx30b := hd29b.c0
 have ky31b := hd29b.c1
 have kp32b := hd29b.f0
 have kq33b := hd29b.f1
 clear hd29b
 have hr34b := Hr25b.out
 have kx35b := hr34b.c0
 have ky36b := hr34b.c1
 have kp37b := hr34b.f0
 have kq38b := hr34b.f1
 clear hr34b
 have hu39b := Hu26b.out
 have kf40b := hu39b.free
 have kc41b : _ = some (.string s : Value) := hu39b.at_ 0
 have kc42b : _ = some (.string xh : Value) := hu39b.at_ 1
 have kc43b : _ = some (.string xm : Value) := hu39b.at_ 2
 have kc44b : _ = some (.bool xd : Value) := hu39b.at_ 3
 have kc45b : _ = some (.slice xa xl xc : Value) := hu39b.at_ 4
 clear hu39b
 go_wp2_with fail
 generalize w2.alloc (.cells #[.string s, .string xh, .string xm, .bool xd, .slice xa xl xc] 37) = wg46b at *
 with_reducible refine (HH0.out wg46b HB28b.out).mono ?_
 rintro e w3 ⟨rfl, hb⟩
 clear kx30b ky31b kp32b kq33b kx35b ky36b kp37b kq38b kf40b kc41b kc42b kc43b kc44b kc45b
 have Hd47b := Lib.hid (Hd24b.out.later hb)
 have Hr48b := Lib.hid (Hr25b.out.later hb)
 have Hu49b := Lib.hid (blk_later11 Hu26b.out hb)
 have HB50b := Lib.hid (below_next HB28b.out hb)
 clear hb
 have hEx : E = if hasT xg g.data.toList then 9 else 0 := by
  have := HE0.out
  rw [HGS.out] at this
  exact this
 clear HE0 HH0
 cases hq : hasT xg g.data.toList with
 | true =>
  rw [hq] at hEx
  have e1 : E = 9 := hEx
  have e2 : L' = plainR R := by
   have := HLQ.out
   rw [e1, if_neg (by decide)] at this
   exact this
  clear HLQ HPT0 hEx
  subst e1
  have hd51bt := Hd47b.out
  have kx52bt := hd51bt.c0
  have ky53bt := hd51bt.c1
  have kp54bt := hd51bt.f0
  have kq55bt := hd51bt.f1
  clear hd51bt
  have hr56bt := Hr48b.out
  have kx57bt := hr56bt.c0
  have ky58bt := hr56bt.c1
  have kp59bt := hr56bt.f0
  have kq60bt := hr56bt.f1
  clear hr56bt
  have hu61bt := Hu49b.out
  have kf62bt := hu61bt.free
  have kc63bt : _ = some (.string s : Value) := hu61bt.at_ 0
  have kc64bt : _ = some (.string xh : Value) := hu61bt.at_ 1
  have kc65bt : _ = some (.string xm : Value) := hu61bt.at_ 2
  have kc66bt : _ = some (.bool xd : Value) := hu61bt.at_ 3
  have kc67bt : _ = some (.slice xa xl xc : Value) := hu61bt.at_ 4
  clear hu61bt
  have HS := fin211 HB50b.out Hr48b.out HLO6b.out (.slice A n c) (.slice A1 n1 c1)
  have z0 := HS.1.c0
  have z1 := HS.1.c1
  have HPOST := Lib.hid (show Doc11 9 L' N w (.returned (.tuple #[.agg #[.slice A n c, .slice A1 n1 c1], .int .i64 9])) _ from ⟨R, _, _, rfl, HRC.out.later HS.2.1, e2.symm, HNN.out.later HS.2.1, HS.2.1⟩)
  clear HS
  go_wp2
  refine bodyPost_ret (v := .tuple #[.agg #[.slice A n c, .slice A1 n1 c1], .int .i64 9]) ?_ rfl HPOST.out
  simp [results, Tryz.results44, go_sem, z0, z1]
 | false =>
  rw [hq] at hEx
  have e1 : E = 0 := hEx
  have e2 : L' = putV (plainR R) s.data.toList ((fun u => { u with gs := sortT (u.gs ++ [g.data.toList]) }) (W11.u ⟨xh, xm, xd, xa, xg, xc⟩)) := by
   have := HLQ.out
   rw [e1, if_pos rfl] at this
   rw [this]
   exact HST.out
  clear hEx HLQ HST
  subst e1
  have HE2 := Lib.hid e2
  clear e2
  have HEM : Hid ((w3.alloc (.cells #[] 9)).ownsRow 0 9 1 (.slice (some ⟨w3.heap.size, 0, none⟩) 0 0) 0 []) := ownsRow_low10 (own_empty10 w3 9 1) (Nat.zero_le _)
  have HUP : Hid (∀ A4 c4 (w4 : World), w4.ownsRow 0 9 1 (.slice A4 (0 + xl) c4) (0 + xl) ([] ++ xg.map encStr) → (w3.alloc (.cells #[] 9)).grownBy w4 (Value.ownBlock (.slice (some ⟨w3.heap.size, 0, none⟩) 0 0)) → (Value.ownBlock (.slice A4 (0 + xl) c4) = Value.ownBlock (.slice (some ⟨w3.heap.size, 0, none⟩) 0 0) ∨ Value.ownBlock (.slice A4 (0 + xl) c4) = some (w3.alloc (.cells #[] 9)).heap.size) →
    w4.ownsRow w3.heap.size 9 1 (.slice A4 xl c4) xl (xg.map encStr) ∧ Below w3.heap.size w3 w4) := fun A4 c4 w4 h1 h2 h3 => by
   rw [Nat.zero_add, List.nil_append] at h1
   rw [Nat.zero_add] at h3
   refine ⟨own_up10 h1 (fun j hj => ?_), (below_alloc (Below.refl _ _) _).grown h2 (by simp) (fun j hj => by cases hj; exact Nat.le_refl _)⟩
   rcases h3 with h3 | h3
   ·
    rw [h3] at hj; cases hj; exact Nat.le_refl _
   ·
    rw [h3] at hj; injection hj with hj; rw [← hj]; simp
  have HSRC : Hid (Src Tryz.prog 1 28 (.slice xa xl xc) xl (xg.map encStr) (w3.alloc (.cells #[] 9))) := by
   have := (HRX.out _ (below_next HB50b.out (below_alloc (Below.refl w3.heap.size w3) (.cells #[] 9)))).src
   rwa [← HLx.out] at this
  have hd51bf := Hd47b.out
  have kx52bf := hd51bf.c0
  have ky53bf := hd51bf.c1
  have kp54bf := hd51bf.f0
  have kq55bf := hd51bf.f1
  clear hd51bf
  have hr56bf := Hr48b.out
  have kx57bf := hr56bf.c0
  have ky58bf := hr56bf.c1
  have kp59bf := hr56bf.f0
  have kq60bf := hr56bf.f1
  clear hr56bf
  have hu61bf := Hu49b.out
  have kf62bf := hu61bf.free
  have kc63bf : _ = some (.string s : Value) := hu61bf.at_ 0
  have kc64bf : _ = some (.string xh : Value) := hu61bf.at_ 1
  have kc65bf : _ = some (.string xm : Value) := hu61bf.at_ 2
  have kc66bf : _ = some (.bool xd : Value) := hu61bf.at_ 3
  have kc67bf : _ = some (.slice xa xl xc : Value) := hu61bf.at_ 4
  clear hu61bf
  have Hd68bf := Lib.hid (Hd47b.out.later (below_alloc (Below.refl _ _) (.cells #[] 9)))
  have Hr69bf := Lib.hid (Hr48b.out.later (below_alloc (Below.refl _ _) (.cells #[] 9)))
  have Hu70bf := Lib.hid (blk_later11 Hu49b.out (below_alloc (Below.refl _ _) (.cells #[] 9)))
  have HB71bf := Lib.hid (below_next HB50b.out (below_alloc (Below.refl _ _) (.cells #[] 9)))
  have hd72bf := Hd68bf.out
  have kx73bf := hd72bf.c0
  have ky74bf := hd72bf.c1
  have kp75bf := hd72bf.f0
  have kq76bf := hd72bf.f1
  clear hd72bf
  have hr77bf := Hr69bf.out
  have kx78bf := hr77bf.c0
  have ky79bf := hr77bf.c1
  have kp80bf := hr77bf.f0
  have kq81bf := hr77bf.f1
  clear hr77bf
  have hu82bf := Hu70bf.out
  have kf83bf := hu82bf.free
  have kc84bf : _ = some (.string s : Value) := hu82bf.at_ 0
  have kc85bf : _ = some (.string xh : Value) := hu82bf.at_ 1
  have kc86bf : _ = some (.string xm : Value) := hu82bf.at_ 2
  have kc87bf : _ = some (.bool xd : Value) := hu82bf.at_ 3
  have kc88bf : _ = some (.slice xa xl xc : Value) := hu82bf.at_ 4
  clear hu82bf
  go_wp2_with (first
  | (at_builtin; refine wpList_append_src _ rfl (.tmp 26) (.tmp 28) 28 28 (by rfl) 9 i0 _ 1 16 Tryz.underlying28 hi hz0 hz1 hz2 rfl (.slice (some ⟨w3.heap.size, 0, none⟩) 0 0) 0 [] (by rfl) HEM.out (.slice xa xl xc) xl (xg.map encStr) (by rfl) HSRC.out (by simp only [maxLen]; omega) (by omega) ?_; intro A4 c4 w4 ho4 hg4 ha4; have HO4 := Lib.hid (HUP.out A4 c4 w4 ho4 hg4 ha4).1; have HB4 := Lib.hid (HUP.out A4 c4 w4 ho4 hg4 ha4).2; clear ho4 hg4 ha4)
  | (at_builtin; refine wpList_append_own _ rfl (.tmp 29) (.tmp 31) 28 rfl w3.heap.size 9 i0 (.string ⟨#[]⟩) 1 16 Tryz.underlying28 hi hz0 hz1 hz2 rfl (by decide) _ _ _ rfl (HO4.out.alloc _) ⟨w4.heap.size, 0, none⟩ 1 1 [.string g] rfl rfl (fun j u hu => by rw [Addr.add_lit, Nat.zero_add, World.cell?_alloc_at _ _ _ _ (by simp)]; simpa using hu) (by simp [Value.oneCell']) (by unfold maxLen; omega) (by omega) (by have := HB4.out.size; simp; omega) ?_; intro v5 w5 ho5 hg5 _; have HO5 := Lib.hid ho5; have HB5 := Lib.hid (app10 HB4.out HO4.out hg5); clear ho5 hg5)
  | fail)
  have hrow : NmR w5 v5 (xg ++ [g.data.toList]) := by
   have := ownsRow_low10 HO5.out (Nat.zero_le _)
   rw [← encStr_back10 g] at this
   show World.ownsRow _ _ _ _ _ _ _
   rw [List.length_append, ← HLx.out]
   simpa using this
  have HSR := Lib.hid (rsorted10_calls v5 (xg ++ [g.data.toList]) w5 (by rw [List.length_append, ← HLx.out]; simp; omega) hrow)
  obtain ⟨A5, c5, rfl⟩ := hrow.shape
  clear hrow
  clear kx52bf ky53bf kp54bf kq55bf kx57bf ky58bf kp59bf kq60bf kf62bf kc63bf kc64bf kc65bf kc66bf kc67bf kx73bf ky74bf kp75bf kq76bf kx78bf ky79bf kp80bf kq81bf kf83bf kc84bf kc85bf kc86bf kc87bf kc88bf
  have Hd89bf : Hid (Bx11 (w5) (w.heap.size) (.slice A n c) (.slice A1 n1 c1)) := Hd47b.out.later HB5.out
  have Hr90bf : Hid (Bx11 (w5) (w.heap.size + 1) (.slice none 0 0) (.slice none 0 0)) := Hr48b.out.later HB5.out
  have Hu91bf : Hid (Blk5 (w5) (w2.heap.size) (.string s) (.string xh) (.string xm) (.bool xd) (.slice xa xl xc)) := blk_later11 Hu49b.out HB5.out
  have HB92bf : Hid (Below w.heap.size w w5) := below_next HB50b.out HB5.out
  have hd93bf := Hd89bf.out
  have kx94bf := hd93bf.c0
  have ky95bf := hd93bf.c1
  have kp96bf := hd93bf.f0
  have kq97bf := hd93bf.f1
  clear hd93bf
  have hr98bf := Hr90bf.out
  have kx99bf := hr98bf.c0
  have ky100bf := hr98bf.c1
  have kp101bf := hr98bf.f0
  have kq102bf := hr98bf.f1
  clear hr98bf
  have hu103bf := Hu91bf.out
  have kf104bf := hu103bf.free
  have kc105bf : _ = some (.string s : Value) := hu103bf.at_ 0
  have kc106bf : _ = some (.string xh : Value) := hu103bf.at_ 1
  have kc107bf : _ = some (.string xm : Value) := hu103bf.at_ 2
  have kc108bf : _ = some (.bool xd : Value) := hu103bf.at_ 3
  have kc109bf : _ = some (.slice xa xl xc : Value) := hu103bf.at_ 4
  clear hu103bf
  go_wp2_with fail
  with_reducible refine (HSR.out).mono ?_
  rintro e w6 ⟨v6, rfl, hr6, hb⟩
  clear kx94bf ky95bf kp96bf kq97bf kx99bf ky100bf kp101bf kq102bf kf104bf kc105bf kc106bf kc107bf kc108bf kc109bf
  have Hd110bf := Lib.hid (Hd89bf.out.later hb)
  have Hr111bf := Lib.hid (Hr90bf.out.later hb)
  have Hu112bf := Lib.hid (blk_later11 Hu91bf.out hb)
  have HB113bf := Lib.hid (below_next HB92bf.out hb)
  have HNM : Hid (NmR w6 v6 (sortT (xg ++ [g.data.toList]))) := NmR.of hr6
  obtain ⟨A6, c6, rfl⟩ := HNM.out.shape
  clear hr6 HSR
  clear hb
  obtain ⟨yg, hyg⟩ : ∃ y, y = sortT (xg ++ [g.data.toList]) := ⟨_, rfl⟩
  rw [← hyg] at HNM
  have HYG := Lib.hid hyg
  obtain ⟨yl, hyl⟩ : ∃ l, l = yg.length := ⟨_, rfl⟩
  rw [← hyg, ← hyl]
  rw [← hyl] at HNM
  have HYL := Lib.hid hyl
  clear hyg hyl
  have hd114bf := Hd110bf.out
  have kx115bf := hd114bf.c0
  have ky116bf := hd114bf.c1
  have kp117bf := hd114bf.f0
  have kq118bf := hd114bf.f1
  clear hd114bf
  have hr119bf := Hr111bf.out
  have kx120bf := hr119bf.c0
  have ky121bf := hr119bf.c1
  have kp122bf := hr119bf.f0
  have kq123bf := hr119bf.f1
  clear hr119bf
  have hu124bf := Hu112bf.out
  have kf125bf := hu124bf.free
  have kc126bf : _ = some (.string s : Value) := hu124bf.at_ 0
  have kc127bf : _ = some (.string xh : Value) := hu124bf.at_ 1
  have kc128bf : _ = some (.string xm : Value) := hu124bf.at_ 2
  have kc129bf : _ = some (.bool xd : Value) := hu124bf.at_ 3
  have kc130bf : _ = some (.slice xa xl xc : Value) := hu124bf.at_ 4
  clear hu124bf
  have Hd131bf : Hid (Bx11 (w6.setCell ⟨w2.heap.size, 4, none⟩ (.slice A6 yl c6)) (w.heap.size) (.slice A n c) (.slice A1 n1 c1)) := Hd110bf.out.other (by have := HLT22b.out; omega) _
  have Hr132bf : Hid (Bx11 (w6.setCell ⟨w2.heap.size, 4, none⟩ (.slice A6 yl c6)) (w.heap.size + 1) (.slice none 0 0) (.slice none 0 0)) := Hr111bf.out.other (by have := HLT23b.out; omega) _
  have Hu133bf : Hid (Blk5 (w6.setCell ⟨w2.heap.size, 4, none⟩ (.slice A6 yl c6)) (w2.heap.size) (.string s) (.string xh) (.string xm) (.bool xd) (.slice A6 yl c6)) := Hu112bf.out.put411 _
  have HB134bf : Hid (Below w.heap.size w (w6.setCell ⟨w2.heap.size, 4, none⟩ (.slice A6 yl c6))) := HB113bf.out.setCell (p := ⟨w2.heap.size, 4, none⟩) HLO27b.out _
  have HPT : Hid (∀ W, Below w.heap.size w W → Calls Tryz.prog 90 #[.agg #[.slice A n c, .slice A1 n1 c1], .agg #[.string s, .string xh, .string xm, .bool xd, .slice A6 yl c6]] W fun e w' => ∃ v', e = .returned (.agg #[v', .slice A1 n1 c1]) ∧ Rw11 (putV R s.data.toList ⟨xh, xm, xd, A6, yg, c6⟩) w' v' ∧ Below W.heap.size W w') := fun W hb => by
   have := HPT0.out ⟨xh, xm, xd, A6, yg, c6⟩ W hb
   unfold uval11 at this
   dsimp only at this
   rw [← HYL.out] at this
   exact this
  clear HPT0
  have HNK : Hid (NmR (w6.setCell ⟨w2.heap.size, 4, none⟩ (.slice A6 yl c6)) (.slice A6 yl c6) yg) := nmr_set11 HNM.out Hu112bf.out _ _
  have hd135bf := Hd131bf.out
  have kx136bf := hd135bf.c0
  have ky137bf := hd135bf.c1
  have kp138bf := hd135bf.f0
  have kq139bf := hd135bf.f1
  clear hd135bf
  have hr140bf := Hr132bf.out
  have kx141bf := hr140bf.c0
  have ky142bf := hr140bf.c1
  have kp143bf := hr140bf.f0
  have kq144bf := hr140bf.f1
  clear hr140bf
  have hu145bf := Hu133bf.out
  have kf146bf := hu145bf.free
  have kc147bf : _ = some (.string s : Value) := hu145bf.at_ 0
  have kc148bf : _ = some (.string xh : Value) := hu145bf.at_ 1
  have kc149bf : _ = some (.string xm : Value) := hu145bf.at_ 2
  have kc150bf : _ = some (.bool xd : Value) := hu145bf.at_ 3
  have kc151bf : _ = some (.slice A6 yl c6 : Value) := hu145bf.at_ 4
  clear hu145bf
  go_wp2_with fail
  generalize w6.setCell ⟨w2.heap.size, 4, none⟩ (.slice A6 yl c6) = wg152bf at *
  with_reducible refine (HPT.out wg152bf HB134bf.out).mono ?_
  rintro e w8 ⟨v7, rfl, hp, hb⟩
  clear kx115bf ky116bf kp117bf kq118bf kx120bf ky121bf kp122bf kq123bf kf125bf kc126bf kc127bf kc128bf kc129bf kc130bf kx136bf ky137bf kp138bf kq139bf kx141bf ky142bf kp143bf kq144bf kf146bf kc147bf kc148bf kc149bf kc150bf kc151bf
  have Hd153bf := Lib.hid (Hd131bf.out.later hb)
  have Hr154bf := Lib.hid (Hr132bf.out.later hb)
  have Hu155bf := Lib.hid (blk_later11 Hu133bf.out hb)
  have HB156bf := Lib.hid (below_next HB134bf.out hb)
  have HNK2 := Lib.hid (HNK.out.later hb)
  obtain ⟨A7, c7, rfl⟩ := hp.us.shape
  have HP := Lib.hid hp
  clear hp
  obtain ⟨n7, hn7⟩ : ∃ m, m = (putV R s.data.toList (⟨xh, xm, xd, A6, yg, c6⟩ : W11)).length := ⟨_, rfl⟩
  rw [← hn7] at HP ⊢
  clear hn7
  clear hb
  have HG5 : Hid (Gs11 0 w8 (putV R s.data.toList ⟨xh, xm, xd, A6, yg, c6⟩)) := ((HRC.out.later HB156bf.out).2).put _ _ (by have := HNK2.out; rw [HYL.out] at this; exact this)
  have HPL : Hid (plainR (putV R s.data.toList ⟨xh, xm, xd, A6, yg, c6⟩) = L') := by
   show _ = _
   rw [HE2.out, plainR_put, HYG.out]
   rfl
  have hd157bf := Hd153bf.out
  have kx158bf := hd157bf.c0
  have ky159bf := hd157bf.c1
  have kp160bf := hd157bf.f0
  have kq161bf := hd157bf.f1
  clear hd157bf
  have hr162bf := Hr154bf.out
  have kx163bf := hr162bf.c0
  have ky164bf := hr162bf.c1
  have kp165bf := hr162bf.f0
  have kq166bf := hr162bf.f1
  clear hr162bf
  have hu167bf := Hu155bf.out
  have kf168bf := hu167bf.free
  have kc169bf : _ = some (.string s : Value) := hu167bf.at_ 0
  have kc170bf : _ = some (.string xh : Value) := hu167bf.at_ 1
  have kc171bf : _ = some (.string xm : Value) := hu167bf.at_ 2
  have kc172bf : _ = some (.bool xd : Value) := hu167bf.at_ 3
  have kc173bf : _ = some (.slice A6 yl c6 : Value) := hu167bf.at_ 4
  clear hu167bf
  have HS := fin211 HB156bf.out Hr154bf.out HLO6b.out (.slice A7 n7 c7) (.slice A1 n1 c1)
  have z0 := HS.1.c0
  have z1 := HS.1.c1
  have HPOST := Lib.hid (show Doc11 0 L' N w (.returned (.tuple #[.agg #[.slice A7 n7 c7, .slice A1 n1 c1], .int .i64 0])) _ from ⟨_, _, _, rfl, ⟨HP.out.keepD11 HS.2.2, HG5.out.keepD11 HS.2.2⟩, HPL.out, HNN.out.later HS.2.1, HS.2.1⟩)
  clear HS
  go_wp2
  refine bodyPost_ret (v := .tuple #[.agg #[.slice A7 n7 c7, .slice A1 n1 c1], .int .i64 0]) ?_ rfl HPOST.out
  simp [results, Tryz.results44, go_sem, z0, z1]

set_option maxRecDepth 100000 in
set_option maxHeartbeats 8000000 in
theorem rleave11_calls (v vg : Value) (R : RowV W11) (N : List (List UInt8)) (g s : ByteArray) (w : World) (hR : Rc11 0 R w v) (hN : NmR w vg N) (h12 : R.length ≤ 12) (hr : RiseV R) (hN9 : N.length ≤ 900) (hgl : ∀ p ∈ R, p.2.gs.length ≤ 12) (hg : g.size ≤ 1000) (hn : s.size ≤ 1000) :
  Calls Tryz.prog 46 #[.agg #[v, vg], .string g, .string s] w (Doc11 (dleE11 (plainR R) N g.data.toList s.data.toList) (dleL11 (plainR R) N g.data.toList s.data.toList) N w) := by
 obtain ⟨i0, hi, hz0, hz1, hz2⟩ := info_parts infoStr11
 have hzu := zerou11
 have hnot : ∀ (x : Bool) (w : World), (Op.unary .not (.bool x)).run Tryz.prog w = .ok (.bool (!x)) w := fun _ _ => rfl
 obtain ⟨A, c, rfl⟩ := hR.rw.us.shape
 obtain ⟨A1, c1, rfl⟩ := hN.shape
 have HU0 : Hid (∀ W, Below w.heap.size w W → Calls Tryz.prog 99 #[.agg #[.slice A R.length c, .slice A1 N.length c1], .string g, .string s] W (Memb11 R N g s W)) := fun W hb => rmember11_calls _ _ R N g s W (hR.later hb) (hN.later hb) h12 hr hN9 hg hn
 have HPT0 : Hid (∀ (x : W11) W, Below w.heap.size w W → Calls Tryz.prog 90 #[.agg #[.slice A R.length c, .slice A1 N.length c1], uval11 s x] W fun e w' => ∃ v', e = .returned (.agg #[v', .slice A1 N.length c1]) ∧ Rw11 (putV R s.data.toList x) w' v' ∧ Below W.heap.size W w') := fun x W hb => rputd11_calls _ _ R N s x W (hR.rw.later hb) (hN.later hb) h12 hr
 have HRC := Lib.hid hR
 have HNN := Lib.hid hN
 have HRI := Lib.hid hr
 have HGL := Lib.hid hgl
 clear hR hN hgl
 obtain ⟨n, hlen⟩ : ∃ n, n = R.length := ⟨_, rfl⟩
 obtain ⟨n1, hlen1⟩ : ∃ n, n = N.length := ⟨_, rfl⟩
 unfold Memb11 at HU0
 rw [← hlen] at HU0 HPT0 HRC ⊢
 rw [← hlen1] at HU0 HPT0 HNN ⊢
 clear hlen hlen1
 have HEQ : Hid (mbE11 R N g.data.toList s.data.toList ≠ 0 → dleE11 (plainR R) N g.data.toList s.data.toList = mbE11 R N g.data.toList s.data.toList) := fun h => by
  revert h
  unfold dleE11 mbE11
  rw [plainR_has]
  unfold mbF11
  cases name5 s.data.toList <;> cases name5 g.data.toList <;> cases hasV R s.data.toList <;> cases hasT N g.data.toList <;> simp
 have HEZ : Hid (mbE11 R N g.data.toList s.data.toList = 0 → dleE11 (plainR R) N g.data.toList s.data.toList = if !hasT (gsU (plainR R) s.data.toList) g.data.toList then 12 else 0) := fun h => by
  revert h
  unfold dleE11 mbE11
  rw [plainR_has]
  unfold mbF11
  cases name5 s.data.toList <;> cases name5 g.data.toList <;> cases hasV R s.data.toList <;> cases hasT N g.data.toList <;> simp
 have HLQ : Hid (dleL11 (plainR R) N g.data.toList s.data.toList = if dleE11 (plainR R) N g.data.toList s.data.toList = 0 then setU (plainR R) s.data.toList (fun u => { u with gs := dropN u.gs g.data.toList }) else plainR R) := rfl
 generalize mbE11 R N g.data.toList s.data.toList = M at *
 generalize dleE11 (plainR R) N g.data.toList s.data.toList = E at *
 generalize dleL11 (plainR R) N g.data.toList s.data.toList = L' at *
 by_cases hm : M = 0
 case neg =>
  have e1 := HEQ.out hm
  have e2 : L' = plainR R := by
   have := HLQ.out
   rw [e1, if_neg hm] at this
   exact this
  subst e1
  have q1 : (E != 0) = true := by simpa using hm
  have q2 : (E == 0) = false := by simpa using hm
  clear HEQ HEZ HLQ HPT0
  have Hd1a : Hid (Bx11 (w.alloc (.cells #[.slice A n c, .slice A1 n1 c1] TD11)) (w.heap.size) (.slice A n c) (.slice A1 n1 c1)) := bx11_new w _ _
  have HLO2a : Hid (w.heap.size ≤ w.heap.size) := Nat.le_refl _
  have HB3a : Hid (Below w.heap.size w (w.alloc (.cells #[.slice A n c, .slice A1 n1 c1] TD11))) := below_alloc (Below.refl _ _) _
  have Hd4a := Lib.hid (Hd1a.out.later (below_alloc (Below.refl _ _) (.cells #[.slice none 0 0, .slice none 0 0] TD11)))
  have Hr5a : Hid (Bx11 ((w.alloc (.cells #[.slice A n c, .slice A1 n1 c1] TD11)).alloc (.cells #[.slice none 0 0, .slice none 0 0] TD11)) (w.heap.size + 1) (.slice none 0 0) (.slice none 0 0)) := by
   have hq : Bx11 ((w.alloc (.cells #[.slice A n c, .slice A1 n1 c1] TD11)).alloc (.cells #[.slice none 0 0, .slice none 0 0] TD11)) (w.alloc (.cells #[.slice A n c, .slice A1 n1 c1] TD11)).heap.size (.slice none 0 0) (.slice none 0 0) := bx11_new (w.alloc (.cells #[.slice A n c, .slice A1 n1 c1] TD11)) _ _
   simp only [World.size_alloc] at hq
   exact hq
  have HLO6a : Hid (w.heap.size ≤ w.heap.size + 1) := by have := HB3a.out.size; show _ ≤ _; simp at this; omega
  have HB7a := Lib.hid (below_next HB3a.out (below_alloc (Below.refl _ _) (.cells #[.slice none 0 0, .slice none 0 0] TD11)))
  go_enter Tryz.func46, Tryz.ntmps46
  have hd8a := Hd4a.out
  have kx9a := hd8a.c0
  have ky10a := hd8a.c1
  have kp11a := hd8a.f0
  have kq12a := hd8a.f1
  clear hd8a
  have hr13a := Hr5a.out
  have kx14a := hr13a.c0
  have ky15a := hr13a.c1
  have kp16a := hr13a.f0
  have kq17a := hr13a.f1
  clear hr13a
  go_wp2_with fail
  generalize (w.alloc (.cells #[.slice A n c, .slice A1 n1 c1] TD11)).alloc (.cells #[.slice none 0 0, .slice none 0 0] TD11) = wg18a at *
  with_reducible refine (HU0.out wg18a HB7a.out).mono ?_
  rintro e w3 ⟨t, x, rfl, hyes, hb⟩
  clear kx9a ky10a kp11a kq12a kx14a ky15a kp16a kq17a
  have Hd19a := Lib.hid (Hd4a.out.later hb)
  have Hr20a := Lib.hid (Hr5a.out.later hb)
  have HB21a := Lib.hid (below_next HB7a.out hb)
  clear hb
  clear hyes
  obtain ⟨xh, xm, xd, xa, xg, xc⟩ := x
  unfold uval11
  dsimp only
  generalize xg.length = xl
  have HLT22a := Lib.hid (Hd19a.out.lt)
  have HLT23a := Lib.hid (Hr20a.out.lt)
  have Hd24a := Lib.hid (Hd19a.out.later (below_alloc (Below.refl _ _) (.cells #[.string t, .string xh, .string xm, .bool xd, .slice xa xl xc] 37)))
  have Hr25a := Lib.hid (Hr20a.out.later (below_alloc (Below.refl _ _) (.cells #[.string t, .string xh, .string xm, .bool xd, .slice xa xl xc] 37)))
  have Hu26a : Hid (Blk5 (w3.alloc (.cells #[.string t, .string xh, .string xm, .bool xd, .slice xa xl xc] 37)) (w3.heap.size) (.string t) (.string xh) (.string xm) (.bool xd) (.slice xa xl xc)) := heap_alloc_new w3 _
  have HLO27a : Hid (w.heap.size ≤ w3.heap.size) := by have := HB21a.out.size; show _ ≤ _; exact this
  have HB28a := Lib.hid (below_next HB21a.out (below_alloc (Below.refl _ _) (.cells #[.string t, .string xh, .string xm, .bool xd, .slice xa xl xc] 37)))
  have hd29a := Hd24a.out
  have kx30a := hd29a.c0
  have ky31a := hd29a.c1
  have kp32a := hd29a.f0
  have kq33a := hd29a.f1
  clear hd29a
  have hr34a := Hr25a.out
  have kx35a := hr34a.c0
  have ky36a := hr34a.c1
  have kp37a := hr34a.f0
  have kq38a := hr34a.f1
  clear hr34a
  have hu39a := Hu26a.out
  have kf40a := hu39a.free
  have kc41a : _ = some (.string t : Value) := hu39a.at_ 0
  have kc42a : _ = some (.string xh : Value) := hu39a.at_ 1
  have kc43a : _ = some (.string xm : Value) := hu39a.at_ 2
  have kc44a : _ = some (.bool xd : Value) := hu39a.at_ 3
  have kc45a : _ = some (.slice xa xl xc : Value) := hu39a.at_ 4
  clear hu39a
  have HS := fin211 HB28a.out Hr25a.out HLO6a.out (.slice A n c) (.slice A1 n1 c1)
  have z0 := HS.1.c0
  have z1 := HS.1.c1
  have HPOST := Lib.hid (show Doc11 E L' N w (.returned (.tuple #[.agg #[.slice A n c, .slice A1 n1 c1], .int .i64 E])) _ from ⟨R, _, _, rfl, HRC.out.later HS.2.1, e2.symm, HNN.out.later HS.2.1, HS.2.1⟩)
  clear HS
  go_wp2
  refine bodyPost_ret (v := .tuple #[.agg #[.slice A n c, .slice A1 n1 c1], .int .i64 E]) ?_ rfl HPOST.out
  simp [results, Tryz.results46, go_sem, z0, z1]
 subst hm
 have HE0 := Lib.hid (HEZ.out rfl)
 have HXG : Hid (∀ x, getV R s.data.toList = some x → gsU (plainR R) s.data.toList = x.gs ∧ x.gs.length ≤ 12 ∧ setU (plainR R) s.data.toList (fun u => { u with gs := dropN u.gs g.data.toList }) = putV (plainR R) s.data.toList ((fun u => { u with gs := dropN u.gs g.data.toList }) x.u)) := fun x h => by
  refine ⟨?_, HGL.out (s.data.toList, x) ((getV_some HRI.out).1 h), ?_⟩
  ·
   unfold gsU; rw [plainR_get, h]; rfl
  ·
   unfold setU; rw [plainR_get, h]; rfl
 clear HEQ HEZ HGL
 have Hd1b : Hid (Bx11 (w.alloc (.cells #[.slice A n c, .slice A1 n1 c1] TD11)) (w.heap.size) (.slice A n c) (.slice A1 n1 c1)) := bx11_new w _ _
 have HLO2b : Hid (w.heap.size ≤ w.heap.size) := Nat.le_refl _
 have HB3b : Hid (Below w.heap.size w (w.alloc (.cells #[.slice A n c, .slice A1 n1 c1] TD11))) := below_alloc (Below.refl _ _) _
 have Hd4b := Lib.hid (Hd1b.out.later (below_alloc (Below.refl _ _) (.cells #[.slice none 0 0, .slice none 0 0] TD11)))
 have Hr5b : Hid (Bx11 ((w.alloc (.cells #[.slice A n c, .slice A1 n1 c1] TD11)).alloc (.cells #[.slice none 0 0, .slice none 0 0] TD11)) (w.heap.size + 1) (.slice none 0 0) (.slice none 0 0)) := by
  have hq : Bx11 ((w.alloc (.cells #[.slice A n c, .slice A1 n1 c1] TD11)).alloc (.cells #[.slice none 0 0, .slice none 0 0] TD11)) (w.alloc (.cells #[.slice A n c, .slice A1 n1 c1] TD11)).heap.size (.slice none 0 0) (.slice none 0 0) := bx11_new (w.alloc (.cells #[.slice A n c, .slice A1 n1 c1] TD11)) _ _
  simp only [World.size_alloc] at hq
  exact hq
 have HLO6b : Hid (w.heap.size ≤ w.heap.size + 1) := by have := HB3b.out.size; show _ ≤ _; simp at this; omega
 have HB7b := Lib.hid (below_next HB3b.out (below_alloc (Below.refl _ _) (.cells #[.slice none 0 0, .slice none 0 0] TD11)))
 go_enter Tryz.func46, Tryz.ntmps46
 have hd8b := Hd4b.out
 have kx9b := hd8b.c0
 have ky10b := hd8b.c1
 have kp11b := hd8b.f0
 have kq12b := hd8b.f1
 clear hd8b
 have hr13b := Hr5b.out
 have kx14b := hr13b.c0
 have ky15b := hr13b.c1
 have kp16b := hr13b.f0
 have kq17b := hr13b.f1
 clear hr13b
 go_wp2_with fail
 generalize (w.alloc (.cells #[.slice A n c, .slice A1 n1 c1] TD11)).alloc (.cells #[.slice none 0 0, .slice none 0 0] TD11) = wg18b at *
 with_reducible refine (HU0.out wg18b HB7b.out).mono ?_
 rintro e w2 ⟨t, x, he, hyes, hb⟩
 clear kx9b ky10b kp11b kq12b kx14b ky15b kp16b kq17b
 have Hd19b := Lib.hid (Hd4b.out.later hb)
 have Hr20b := Lib.hid (Hr5b.out.later hb)
 have HB21b := Lib.hid (below_next HB7b.out hb)
 clear hb
 obtain ⟨ht, hx⟩ := hyes (by first | rfl | trivial)
 obtain ⟨h1, h2, h3⟩ := HXG.out x hx
 have hgs := h1
 obtain ⟨xh, xm, xd, xa, xg, xc⟩ := x
 dsimp only at h1 h2 h3 hgs
 obtain ⟨xl, hxl⟩ : ∃ l, l = xg.length := ⟨_, rfl⟩
 have he' : e = .returned (.tuple #[.agg #[.string s, .string xh, .string xm, .bool xd, .slice xa xl xc], .int .i64 0]) := by
  rw [he, ht, hxl]; rfl
 subst he'
 have HX := Lib.hid hx
 have HLx := Lib.hid hxl
 have HGS := Lib.hid hgs
 have HST := Lib.hid h3
 have hl12 : xl ≤ 12 := by rw [hxl]; exact h2
 have HRX : Hid (∀ W, Below w.heap.size w W → NmR W (.slice xa xl xc) xg) := fun W hb => by
  have := (HRC.out.later hb).2 (s.data.toList, ⟨xh, xm, xd, xa, xg, xc⟩) ((getV_some HRI.out).1 HX.out)
  rw [HLx.out]
  exact this
 clear he hyes ht hx hxl h1 h2 h3 hgs HXG HU0
 have HH0 : Hid (∀ W, Below w.heap.size w W → Calls Tryz.prog 67 #[.slice xa xl xc, .string g] W (Tells5 (hasT xg g.data.toList) W)) := fun W hb => by
  have := rhas11_calls _ xg g W (by have := HLx.out; omega) (HRX.out W hb)
  exact this
 have HLT22b := Lib.hid (Hd19b.out.lt)
 have HLT23b := Lib.hid (Hr20b.out.lt)
 have Hd24b := Lib.hid (Hd19b.out.later (below_alloc (Below.refl _ _) (.cells #[.string s, .string xh, .string xm, .bool xd, .slice xa xl xc] 37)))
 have Hr25b := Lib.hid (Hr20b.out.later (below_alloc (Below.refl _ _) (.cells #[.string s, .string xh, .string xm, .bool xd, .slice xa xl xc] 37)))
 have Hu26b : Hid (Blk5 (w2.alloc (.cells #[.string s, .string xh, .string xm, .bool xd, .slice xa xl xc] 37)) (w2.heap.size) (.string s) (.string xh) (.string xm) (.bool xd) (.slice xa xl xc)) := heap_alloc_new w2 _
 have HLO27b : Hid (w.heap.size ≤ w2.heap.size) := by have := HB21b.out.size; show _ ≤ _; exact this
 have HB28b := Lib.hid (below_next HB21b.out (below_alloc (Below.refl _ _) (.cells #[.string s, .string xh, .string xm, .bool xd, .slice xa xl xc] 37)))
 have hd29b := Hd24b.out
 have kx30b := hd29b.c0
 have ky31b := hd29b.c1
 have kp32b := hd29b.f0
 have kq33b := hd29b.f1
 clear hd29b
 have hr34b := Hr25b.out
 have kx35b := hr34b.c0
 have ky36b := hr34b.c1
 have kp37b := hr34b.f0
 have kq38b := hr34b.f1
 clear hr34b
 have hu39b := Hu26b.out
 have kf40b := hu39b.free
 have kc41b : _ = some (.string s : Value) := hu39b.at_ 0
 have kc42b : _ = some (.string xh : Value) := hu39b.at_ 1
 have kc43b : _ = some (.string xm : Value) := hu39b.at_ 2
 have kc44b : _ = some (.bool xd : Value) := hu39b.at_ 3
 have kc45b : _ = some (.slice xa xl xc : Value) := hu39b.at_ 4
 clear hu39b
 go_wp2_with fail
 generalize w2.alloc (.cells #[.string s, .string xh, .string xm, .bool xd, .slice xa xl xc] 37) = wg46b at *
 with_reducible refine (HH0.out wg46b HB28b.out).mono ?_
 rintro e w3 ⟨rfl, hb⟩
 clear kx30b ky31b kp32b kq33b kx35b ky36b kp37b kq38b kf40b kc41b kc42b kc43b kc44b kc45b
 have Hd47b := Lib.hid (Hd24b.out.later hb)
 have Hr48b := Lib.hid (Hr25b.out.later hb)
 have Hu49b := Lib.hid (blk_later11 Hu26b.out hb)
 have HB50b := Lib.hid (below_next HB28b.out hb)
 clear hb
 have hEx : E = if !hasT xg g.data.toList then 12 else 0 := by
  have := HE0.out
  rw [HGS.out] at this
  exact this
 clear HE0 HH0
 cases hq : hasT xg g.data.toList with
 | true =>
  rw [hq] at hEx
  have e1 : E = 0 := hEx
  have e2 : L' = putV (plainR R) s.data.toList ((fun u => { u with gs := dropN u.gs g.data.toList }) (W11.u ⟨xh, xm, xd, xa, xg, xc⟩)) := by
   have := HLQ.out
   rw [e1, if_pos rfl] at this
   rw [this]
   exact HST.out
  clear hEx HLQ HST
  subst e1
  have HE2 := Lib.hid e2
  clear e2
  have HWO : Hid (∀ W, Below w.heap.size w W → Calls Tryz.prog 97 #[.slice xa xl xc, .string g] W fun e w' => ∃ v', e = .returned v' ∧ NmR w' v' (dropN xg g.data.toList) ∧ Below W.heap.size W w') := fun W hb => rwithout11_calls _ xg g W (by have := HLx.out; omega) (HRX.out W hb)
  have hd51bt := Hd47b.out
  have kx52bt := hd51bt.c0
  have ky53bt := hd51bt.c1
  have kp54bt := hd51bt.f0
  have kq55bt := hd51bt.f1
  clear hd51bt
  have hr56bt := Hr48b.out
  have kx57bt := hr56bt.c0
  have ky58bt := hr56bt.c1
  have kp59bt := hr56bt.f0
  have kq60bt := hr56bt.f1
  clear hr56bt
  have hu61bt := Hu49b.out
  have kf62bt := hu61bt.free
  have kc63bt : _ = some (.string s : Value) := hu61bt.at_ 0
  have kc64bt : _ = some (.string xh : Value) := hu61bt.at_ 1
  have kc65bt : _ = some (.string xm : Value) := hu61bt.at_ 2
  have kc66bt : _ = some (.bool xd : Value) := hu61bt.at_ 3
  have kc67bt : _ = some (.slice xa xl xc : Value) := hu61bt.at_ 4
  clear hu61bt
  go_wp2_with fail
  with_reducible refine (HWO.out w3 HB50b.out).mono ?_
  rintro e w6 ⟨v6, rfl, hr6, hb⟩
  clear kx52bt ky53bt kp54bt kq55bt kx57bt ky58bt kp59bt kq60bt kf62bt kc63bt kc64bt kc65bt kc66bt kc67bt
  have Hd68bt := Lib.hid (Hd47b.out.later hb)
  have Hr69bt := Lib.hid (Hr48b.out.later hb)
  have Hu70bt := Lib.hid (blk_later11 Hu49b.out hb)
  have HB71bt := Lib.hid (below_next HB50b.out hb)
  have HNM := Lib.hid hr6
  obtain ⟨A6, c6, rfl⟩ := HNM.out.shape
  clear hr6 HWO
  clear hb
  obtain ⟨yg, hyg⟩ : ∃ y, y = dropN xg g.data.toList := ⟨_, rfl⟩
  rw [← hyg] at HNM
  have HYG := Lib.hid hyg
  obtain ⟨yl, hyl⟩ : ∃ l, l = yg.length := ⟨_, rfl⟩
  rw [← hyg, ← hyl]
  rw [← hyl] at HNM
  have HYL := Lib.hid hyl
  clear hyg hyl
  have hd72bt := Hd68bt.out
  have kx73bt := hd72bt.c0
  have ky74bt := hd72bt.c1
  have kp75bt := hd72bt.f0
  have kq76bt := hd72bt.f1
  clear hd72bt
  have hr77bt := Hr69bt.out
  have kx78bt := hr77bt.c0
  have ky79bt := hr77bt.c1
  have kp80bt := hr77bt.f0
  have kq81bt := hr77bt.f1
  clear hr77bt
  have hu82bt := Hu70bt.out
  have kf83bt := hu82bt.free
  have kc84bt : _ = some (.string s : Value) := hu82bt.at_ 0
  have kc85bt : _ = some (.string xh : Value) := hu82bt.at_ 1
  have kc86bt : _ = some (.string xm : Value) := hu82bt.at_ 2
  have kc87bt : _ = some (.bool xd : Value) := hu82bt.at_ 3
  have kc88bt : _ = some (.slice xa xl xc : Value) := hu82bt.at_ 4
  clear hu82bt
  have Hd89bt : Hid (Bx11 (w6.setCell ⟨w2.heap.size, 4, none⟩ (.slice A6 yl c6)) (w.heap.size) (.slice A n c) (.slice A1 n1 c1)) := Hd68bt.out.other (by have := HLT22b.out; omega) _
  have Hr90bt : Hid (Bx11 (w6.setCell ⟨w2.heap.size, 4, none⟩ (.slice A6 yl c6)) (w.heap.size + 1) (.slice none 0 0) (.slice none 0 0)) := Hr69bt.out.other (by have := HLT23b.out; omega) _
  have Hu91bt : Hid (Blk5 (w6.setCell ⟨w2.heap.size, 4, none⟩ (.slice A6 yl c6)) (w2.heap.size) (.string s) (.string xh) (.string xm) (.bool xd) (.slice A6 yl c6)) := Hu70bt.out.put411 _
  have HB92bt : Hid (Below w.heap.size w (w6.setCell ⟨w2.heap.size, 4, none⟩ (.slice A6 yl c6))) := HB71bt.out.setCell (p := ⟨w2.heap.size, 4, none⟩) HLO27b.out _
  have HPT : Hid (∀ W, Below w.heap.size w W → Calls Tryz.prog 90 #[.agg #[.slice A n c, .slice A1 n1 c1], .agg #[.string s, .string xh, .string xm, .bool xd, .slice A6 yl c6]] W fun e w' => ∃ v', e = .returned (.agg #[v', .slice A1 n1 c1]) ∧ Rw11 (putV R s.data.toList ⟨xh, xm, xd, A6, yg, c6⟩) w' v' ∧ Below W.heap.size W w') := fun W hb => by
   have := HPT0.out ⟨xh, xm, xd, A6, yg, c6⟩ W hb
   unfold uval11 at this
   dsimp only at this
   rw [← HYL.out] at this
   exact this
  clear HPT0
  have HNK : Hid (NmR (w6.setCell ⟨w2.heap.size, 4, none⟩ (.slice A6 yl c6)) (.slice A6 yl c6) yg) := nmr_set11 HNM.out Hu70bt.out _ _
  have hd93bt := Hd89bt.out
  have kx94bt := hd93bt.c0
  have ky95bt := hd93bt.c1
  have kp96bt := hd93bt.f0
  have kq97bt := hd93bt.f1
  clear hd93bt
  have hr98bt := Hr90bt.out
  have kx99bt := hr98bt.c0
  have ky100bt := hr98bt.c1
  have kp101bt := hr98bt.f0
  have kq102bt := hr98bt.f1
  clear hr98bt
  have hu103bt := Hu91bt.out
  have kf104bt := hu103bt.free
  have kc105bt : _ = some (.string s : Value) := hu103bt.at_ 0
  have kc106bt : _ = some (.string xh : Value) := hu103bt.at_ 1
  have kc107bt : _ = some (.string xm : Value) := hu103bt.at_ 2
  have kc108bt : _ = some (.bool xd : Value) := hu103bt.at_ 3
  have kc109bt : _ = some (.slice A6 yl c6 : Value) := hu103bt.at_ 4
  clear hu103bt
  go_wp2_with fail
  generalize w6.setCell ⟨w2.heap.size, 4, none⟩ (.slice A6 yl c6) = wg110bt at *
  with_reducible refine (HPT.out wg110bt HB92bt.out).mono ?_
  rintro e w8 ⟨v7, rfl, hp, hb⟩
  clear kx73bt ky74bt kp75bt kq76bt kx78bt ky79bt kp80bt kq81bt kf83bt kc84bt kc85bt kc86bt kc87bt kc88bt kx94bt ky95bt kp96bt kq97bt kx99bt ky100bt kp101bt kq102bt kf104bt kc105bt kc106bt kc107bt kc108bt kc109bt
  have Hd111bt := Lib.hid (Hd89bt.out.later hb)
  have Hr112bt := Lib.hid (Hr90bt.out.later hb)
  have Hu113bt := Lib.hid (blk_later11 Hu91bt.out hb)
  have HB114bt := Lib.hid (below_next HB92bt.out hb)
  have HNK2 := Lib.hid (HNK.out.later hb)
  obtain ⟨A7, c7, rfl⟩ := hp.us.shape
  have HP := Lib.hid hp
  clear hp
  obtain ⟨n7, hn7⟩ : ∃ m, m = (putV R s.data.toList (⟨xh, xm, xd, A6, yg, c6⟩ : W11)).length := ⟨_, rfl⟩
  rw [← hn7] at HP ⊢
  clear hn7
  clear hb
  have HG5 : Hid (Gs11 0 w8 (putV R s.data.toList ⟨xh, xm, xd, A6, yg, c6⟩)) := ((HRC.out.later HB114bt.out).2).put _ _ (by have := HNK2.out; rw [HYL.out] at this; exact this)
  have HPL : Hid (plainR (putV R s.data.toList ⟨xh, xm, xd, A6, yg, c6⟩) = L') := by
   show _ = _
   rw [HE2.out, plainR_put, HYG.out]
   rfl
  have hd115bt := Hd111bt.out
  have kx116bt := hd115bt.c0
  have ky117bt := hd115bt.c1
  have kp118bt := hd115bt.f0
  have kq119bt := hd115bt.f1
  clear hd115bt
  have hr120bt := Hr112bt.out
  have kx121bt := hr120bt.c0
  have ky122bt := hr120bt.c1
  have kp123bt := hr120bt.f0
  have kq124bt := hr120bt.f1
  clear hr120bt
  have hu125bt := Hu113bt.out
  have kf126bt := hu125bt.free
  have kc127bt : _ = some (.string s : Value) := hu125bt.at_ 0
  have kc128bt : _ = some (.string xh : Value) := hu125bt.at_ 1
  have kc129bt : _ = some (.string xm : Value) := hu125bt.at_ 2
  have kc130bt : _ = some (.bool xd : Value) := hu125bt.at_ 3
  have kc131bt : _ = some (.slice A6 yl c6 : Value) := hu125bt.at_ 4
  clear hu125bt
  have HS := fin211 HB114bt.out Hr112bt.out HLO6b.out (.slice A7 n7 c7) (.slice A1 n1 c1)
  have z0 := HS.1.c0
  have z1 := HS.1.c1
  have HPOST := Lib.hid (show Doc11 0 L' N w (.returned (.tuple #[.agg #[.slice A7 n7 c7, .slice A1 n1 c1], .int .i64 0])) _ from ⟨_, _, _, rfl, ⟨HP.out.keepD11 HS.2.2, HG5.out.keepD11 HS.2.2⟩, HPL.out, HNN.out.later HS.2.1, HS.2.1⟩)
  clear HS
  go_wp2
  refine bodyPost_ret (v := .tuple #[.agg #[.slice A7 n7 c7, .slice A1 n1 c1], .int .i64 0]) ?_ rfl HPOST.out
  simp [results, Tryz.results46, go_sem, z0, z1]
 | false =>
  rw [hq] at hEx
  have e1 : E = 12 := hEx
  have e2 : L' = plainR R := by
   have := HLQ.out
   rw [e1, if_neg (by decide)] at this
   exact this
  clear HLQ HPT0 hEx
  subst e1
  have hd51bf := Hd47b.out
  have kx52bf := hd51bf.c0
  have ky53bf := hd51bf.c1
  have kp54bf := hd51bf.f0
  have kq55bf := hd51bf.f1
  clear hd51bf
  have hr56bf := Hr48b.out
  have kx57bf := hr56bf.c0
  have ky58bf := hr56bf.c1
  have kp59bf := hr56bf.f0
  have kq60bf := hr56bf.f1
  clear hr56bf
  have hu61bf := Hu49b.out
  have kf62bf := hu61bf.free
  have kc63bf : _ = some (.string s : Value) := hu61bf.at_ 0
  have kc64bf : _ = some (.string xh : Value) := hu61bf.at_ 1
  have kc65bf : _ = some (.string xm : Value) := hu61bf.at_ 2
  have kc66bf : _ = some (.bool xd : Value) := hu61bf.at_ 3
  have kc67bf : _ = some (.slice xa xl xc : Value) := hu61bf.at_ 4
  clear hu61bf
  have HS := fin211 HB50b.out Hr48b.out HLO6b.out (.slice A n c) (.slice A1 n1 c1)
  have z0 := HS.1.c0
  have z1 := HS.1.c1
  have HPOST := Lib.hid (show Doc11 12 L' N w (.returned (.tuple #[.agg #[.slice A n c, .slice A1 n1 c1], .int .i64 12])) _ from ⟨R, _, _, rfl, HRC.out.later HS.2.1, e2.symm, HNN.out.later HS.2.1, HS.2.1⟩)
  clear HS
  go_wp2
  refine bodyPost_ret (v := .tuple #[.agg #[.slice A n c, .slice A1 n1 c1], .int .i64 12]) ?_ rfl HPOST.out
  simp [results, Tryz.results46, go_sem, z0, z1]
end Go.Proofs.YthlgmkfofebbfaaGreatDoor


namespace Go.Proofs.YthlgmkfofebbfaaGreatDoor
open Go.RowKit Go.Maps

theorem rnF_leaf (a b c d : Bool) : rnF11 a b c d = if deF11 a c = 10 ∨ deF11 b d = 10 then 10 else if deF11 a c ≠ 0 then deF11 a c else if deF11 b d = 0 then 9 else 0 := by
 cases a <;> cases b <;> cases c <;> cases d <;> decide
def YRd11 (b0 : Nat) (R : RowV W11) (o n : ByteArray) (v : Value) (uv : Value) (x : W11) : Nat → Value → World → Prop
 | 1, u, _ => u = v
 | 2, u, _ => u = .string o
 | 3, u, W => Rw11 (delV R o.data.toList) W u
 | 4, u, _ => u = uv
 | 5, u, W => Rw11 (putV (delV R o.data.toList) n.data.toList x) W u
 | _, u, _ => u = .pointer (some ⟨b0, 0, none⟩)
theorem YRd11_keep {b0 : Nat} {R : RowV W11} {o n : ByteArray} {v uv : Value} {x : W11} {W W' : World} (hb : Below W.heap.size W W') (j : Nat) (u : Value) (h : YRd11 b0 R o n v uv x j u W) : YRd11 b0 R o n v uv x j u W' := by
 match j, h with
 | 0, h => exact h
 | 1, h => exact h
 | 2, h => exact h
 | 3, h => exact ownsRow_below11 h hb
 | 4, h => exact h
 | 5, h => exact ownsRow_below11 h hb
 | _ + 6, h => exact h
def Rnd11 (w : World) (b0 b1 : Nat) (R' : RowV W11) (vg : Value) (w3 W : World) : Prop := ∃ v', Bx11 W b0 v' vg ∧ Bx11 W b1 (.slice none 0 0) (.slice none 0 0) ∧ Rw11 R' W v' ∧ Below w.heap.size w W ∧ ∀ v (N : List (List UInt8)), NmR w3 v N → NmR W v N
set_option maxRecDepth 100000 in
set_option maxHeartbeats 8000000 in
theorem rrename11_calls (v vg : Value) (R : RowV W11) (N : List (List UInt8)) (o s : ByteArray) (w : World) (hR : Rc11 0 R w v) (hN : NmR w vg N) (h12 : R.length ≤ 12) (hr : RiseV R) (ho : o.size ≤ 1000) (hn : s.size ≤ 1000) :
  Calls Tryz.prog 39 #[.agg #[v, vg], .string o, .string s] w (Doc11 (drnE (plainR R) o.data.toList s.data.toList) (drnL (plainR R) o.data.toList s.data.toList) N w) := by
 have hnot : ∀ (x : Bool) (w : World), (Op.unary .not (.bool x)).run Tryz.prog w = .ok (.bool (!x)) w := fun _ _ => rfl
 have hzu := zerou11
 obtain ⟨A, c, rfl⟩ := hR.rw.us.shape
 obtain ⟨A1, c1, rfl⟩ := hN.shape
 have HU0 : Hid (∀ W, Below w.heap.size w W → Calls Tryz.prog 55 #[.agg #[.slice A R.length c, .slice A1 N.length c1], .string o] W (User11 R o W)) := fun W hb => ruser11_calls _ _ R N o W (hR.later hb) (hN.later hb) h12 hr ho
 have HU1 : Hid (∀ W, Below w.heap.size w W → Calls Tryz.prog 55 #[.agg #[.slice A R.length c, .slice A1 N.length c1], .string s] W (User11 R s W)) := fun W hb => ruser11_calls _ _ R N s W (hR.later hb) (hN.later hb) h12 hr hn
 have HDR : Hid (∀ W, Below w.heap.size w W → Calls Tryz.prog 94 #[.slice A R.length c, .string o] W fun e w' => ∃ v, e = .returned v ∧ Rw11 (delV R o.data.toList) w' v ∧ Below W.heap.size W w') := fun W hb => rdrop11_calls A c R.length R o W rfl h12 (hR.rw.us.later hb)
 have HPU : Hid (∀ (x : W11) v W, Rw11 (delV R o.data.toList) W v → Calls Tryz.prog 93 #[v, uval11 s x] W fun e w' => ∃ v, e = .returned v ∧ Rw11 (putV (delV R o.data.toList) s.data.toList x) w' v ∧ Below W.heap.size W w') := fun x v W hv => by
  obtain ⟨A', c', rfl⟩ := hv.us.shape
  exact rput11_calls A' c' _ _ s x W rfl (Nat.le_trans (delV_le R _) h12) (riseV_del hr _) hv.us
 have HRC := Lib.hid hR
 have HNN := Lib.hid hN
 have HRI := Lib.hid hr
 clear hR hN
 obtain ⟨n, hlen⟩ : ∃ n, n = R.length := ⟨_, rfl⟩
 obtain ⟨n1, hlen1⟩ : ∃ n, n = N.length := ⟨_, rfl⟩
 have HLR := Lib.hid hlen
 have HLN := Lib.hid hlen1
 unfold User11 at HU0 HU1
 rw [← hlen] at HU0 HU1 HDR HRC ⊢
 rw [← hlen1] at HU0 HU1 HNN ⊢
 clear hlen hlen1
 have HE : Hid (drnE (plainR R) o.data.toList s.data.toList = rnF11 (name5 o.data.toList) (name5 s.data.toList) (hasV R o.data.toList) (hasV R s.data.toList)) := by
  show _ = _
  unfold drnE; rw [plainR_has, plainR_has]
 have HLF := HE.out.trans (rnF_leaf _ _ _ _)
 have HL2 : Hid (drnL (plainR R) o.data.toList s.data.toList = if drnE (plainR R) o.data.toList s.data.toList = 0 then (match getV (plainR R) o.data.toList with | some u => putV (delV (plainR R) o.data.toList) s.data.toList u | none => plainR R) else plainR R) := rfl
 clear HE
 generalize drnE (plainR R) o.data.toList s.data.toList = E at *
 generalize drnL (plainR R) o.data.toList s.data.toList = L' at *
 have HLF2 := Lib.hid HLF
 clear HLF
 generalize deF11 (name5 o.data.toList) (hasV R o.data.toList) = E1 at *
 generalize deF11 (name5 s.data.toList) (hasV R s.data.toList) = E2 at *
 by_cases hE110 : E1 = 10
 ·
  have Hd1a : Hid (Bx11 (w.alloc (.cells #[.slice A n c, .slice A1 n1 c1] TD11)) (w.heap.size) (.slice A n c) (.slice A1 n1 c1)) := bx11_new w _ _
  have HLO2a : Hid (w.heap.size ≤ w.heap.size) := Nat.le_refl _
  have HB3a : Hid (Below w.heap.size w (w.alloc (.cells #[.slice A n c, .slice A1 n1 c1] TD11))) := below_alloc (Below.refl _ _) _
  have Hd4a := Lib.hid (Hd1a.out.later (below_alloc (Below.refl _ _) (.cells #[.slice none 0 0, .slice none 0 0] TD11)))
  have Hr5a : Hid (Bx11 ((w.alloc (.cells #[.slice A n c, .slice A1 n1 c1] TD11)).alloc (.cells #[.slice none 0 0, .slice none 0 0] TD11)) (w.heap.size + 1) (.slice none 0 0) (.slice none 0 0)) := by
   have hq : Bx11 ((w.alloc (.cells #[.slice A n c, .slice A1 n1 c1] TD11)).alloc (.cells #[.slice none 0 0, .slice none 0 0] TD11)) (w.alloc (.cells #[.slice A n c, .slice A1 n1 c1] TD11)).heap.size (.slice none 0 0) (.slice none 0 0) := bx11_new (w.alloc (.cells #[.slice A n c, .slice A1 n1 c1] TD11)) _ _
   simp only [World.size_alloc] at hq
   exact hq
  have HLO6a : Hid (w.heap.size ≤ w.heap.size + 1) := by have := HB3a.out.size; show _ ≤ _; simp at this; omega
  have HB7a := Lib.hid (below_next HB3a.out (below_alloc (Below.refl _ _) (.cells #[.slice none 0 0, .slice none 0 0] TD11)))
  have e1 : E = 10 := by rw [HLF2.out, if_pos (.inl hE110)]
  have hz : ¬ (10 : Int) = 0 := by decide
  subst hE110
  have e2 : L' = plainR R := by
   have := HL2.out
   rw [e1, if_neg hz] at this
   exact this
  clear HL2 HLF2 HDR HPU hz
  replace e1 := e1.symm
  subst e1
  go_enter Tryz.func39, Tryz.ntmps39
  have hd8a := Hd4a.out
  have kx9a := hd8a.c0
  have ky10a := hd8a.c1
  have kp11a := hd8a.f0
  have kq12a := hd8a.f1
  clear hd8a
  have hr13a := Hr5a.out
  have kx14a := hr13a.c0
  have ky15a := hr13a.c1
  have kp16a := hr13a.f0
  have kq17a := hr13a.f1
  clear hr13a
  go_wp2_with fail
  generalize (w.alloc (.cells #[.slice A n c, .slice A1 n1 c1] TD11)).alloc (.cells #[.slice none 0 0, .slice none 0 0] TD11) = wg18a at *
  with_reducible refine (HU0.out wg18a HB7a.out).mono ?_
  rintro e w2 ⟨t0, x0, rfl, hyes0, hno0, hb⟩
  clear kx9a ky10a kp11a kq12a kx14a ky15a kp16a kq17a
  have Hd19a := Lib.hid (Hd4a.out.later hb)
  have Hr20a := Lib.hid (Hr5a.out.later hb)
  have HB21a := Lib.hid (below_next HB7a.out hb)
  clear hb
  obtain ⟨x0h, x0m, x0d, x0a, x0g, x0c⟩ := x0
  unfold uval11
  dsimp only
  obtain ⟨x0l, hxl0⟩ : ∃ l, l = x0g.length := ⟨_, rfl⟩
  rw [← hxl0]
  have HXL0 := Lib.hid hxl0
  have HYES0 := Lib.hid hyes0
  clear hxl0 hyes0 hno0
  have HLT22a := Lib.hid (Hd19a.out.lt)
  have HLT23a := Lib.hid (Hr20a.out.lt)
  have Hd24a := Lib.hid (Hd19a.out.later (below_alloc (Below.refl _ _) (.cells #[.string t0, .string x0h, .string x0m, .bool x0d, .slice x0a x0l x0c] 37)))
  have Hr25a := Lib.hid (Hr20a.out.later (below_alloc (Below.refl _ _) (.cells #[.string t0, .string x0h, .string x0m, .bool x0d, .slice x0a x0l x0c] 37)))
  have Hu26a : Hid (Blk5 (w2.alloc (.cells #[.string t0, .string x0h, .string x0m, .bool x0d, .slice x0a x0l x0c] 37)) (w2.heap.size) (.string t0) (.string x0h) (.string x0m) (.bool x0d) (.slice x0a x0l x0c)) := heap_alloc_new w2 _
  have HLO27a : Hid (w.heap.size ≤ w2.heap.size) := by have := HB21a.out.size; show _ ≤ _; exact this
  have HB28a := Lib.hid (below_next HB21a.out (below_alloc (Below.refl _ _) (.cells #[.string t0, .string x0h, .string x0m, .bool x0d, .slice x0a x0l x0c] 37)))
  have hd29a := Hd24a.out
  have kx30a := hd29a.c0
  have ky31a := hd29a.c1
  have kp32a := hd29a.f0
  have kq33a := hd29a.f1
  clear hd29a
  have hr34a := Hr25a.out
  have kx35a := hr34a.c0
  have ky36a := hr34a.c1
  have kp37a := hr34a.f0
  have kq38a := hr34a.f1
  clear hr34a
  have hu39a := Hu26a.out
  have kf40a := hu39a.free
  have kc41a : _ = some (.string t0 : Value) := hu39a.at_ 0
  have kc42a : _ = some (.string x0h : Value) := hu39a.at_ 1
  have kc43a : _ = some (.string x0m : Value) := hu39a.at_ 2
  have kc44a : _ = some (.bool x0d : Value) := hu39a.at_ 3
  have kc45a : _ = some (.slice x0a x0l x0c : Value) := hu39a.at_ 4
  clear hu39a
  go_wp2_with fail
  generalize w2.alloc (.cells #[.string t0, .string x0h, .string x0m, .bool x0d, .slice x0a x0l x0c] 37) = wg46a at *
  with_reducible refine (HU1.out wg46a HB28a.out).mono ?_
  rintro e w3 ⟨t1, x1, rfl, hyes1, hno1, hb⟩
  clear kx30a ky31a kp32a kq33a kx35a ky36a kp37a kq38a kf40a kc41a kc42a kc43a kc44a kc45a
  have Hd47a := Lib.hid (Hd24a.out.later hb)
  have Hr48a := Lib.hid (Hr25a.out.later hb)
  have Hu49a := Lib.hid (blk_later11 Hu26a.out hb)
  have HB50a := Lib.hid (below_next HB28a.out hb)
  clear hb
  obtain ⟨x1h, x1m, x1d, x1a, x1g, x1c⟩ := x1
  unfold uval11
  dsimp only
  obtain ⟨x1l, hxl1⟩ : ∃ l, l = x1g.length := ⟨_, rfl⟩
  rw [← hxl1]
  have HXL1 := Lib.hid hxl1
  have HYES1 := Lib.hid hyes1
  clear hxl1 hyes1 hno1
  have HLT51a := Lib.hid (Hd47a.out.lt)
  have HLT52a := Lib.hid (Hr48a.out.lt)
  have HLT53a := Lib.hid (Hu49a.out.lt)
  have Hd54a := Lib.hid (Hd47a.out.later (below_alloc (Below.refl _ _) (.cells #[.string t1, .string x1h, .string x1m, .bool x1d, .slice x1a x1l x1c] 37)))
  have Hr55a := Lib.hid (Hr48a.out.later (below_alloc (Below.refl _ _) (.cells #[.string t1, .string x1h, .string x1m, .bool x1d, .slice x1a x1l x1c] 37)))
  have Hu56a := Lib.hid (blk_later11 Hu49a.out (below_alloc (Below.refl _ _) (.cells #[.string t1, .string x1h, .string x1m, .bool x1d, .slice x1a x1l x1c] 37)))
  have Ht57a : Hid (Blk5 (w3.alloc (.cells #[.string t1, .string x1h, .string x1m, .bool x1d, .slice x1a x1l x1c] 37)) (w3.heap.size) (.string t1) (.string x1h) (.string x1m) (.bool x1d) (.slice x1a x1l x1c)) := heap_alloc_new w3 _
  have HLO58a : Hid (w.heap.size ≤ w3.heap.size) := by have := HB50a.out.size; show _ ≤ _; exact this
  have HB59a := Lib.hid (below_next HB50a.out (below_alloc (Below.refl _ _) (.cells #[.string t1, .string x1h, .string x1m, .bool x1d, .slice x1a x1l x1c] 37)))
  clear HYES0 HYES1 HXL0 HXL1
  have hd60a := Hd54a.out
  have kx61a := hd60a.c0
  have ky62a := hd60a.c1
  have kp63a := hd60a.f0
  have kq64a := hd60a.f1
  clear hd60a
  have hr65a := Hr55a.out
  have kx66a := hr65a.c0
  have ky67a := hr65a.c1
  have kp68a := hr65a.f0
  have kq69a := hr65a.f1
  clear hr65a
  have hu70a := Hu56a.out
  have kf71a := hu70a.free
  have kc72a : _ = some (.string t0 : Value) := hu70a.at_ 0
  have kc73a : _ = some (.string x0h : Value) := hu70a.at_ 1
  have kc74a : _ = some (.string x0m : Value) := hu70a.at_ 2
  have kc75a : _ = some (.bool x0d : Value) := hu70a.at_ 3
  have kc76a : _ = some (.slice x0a x0l x0c : Value) := hu70a.at_ 4
  clear hu70a
  have ht77a := Ht57a.out
  have kf78a := ht77a.free
  have kc79a : _ = some (.string t1 : Value) := ht77a.at_ 0
  have kc80a : _ = some (.string x1h : Value) := ht77a.at_ 1
  have kc81a : _ = some (.string x1m : Value) := ht77a.at_ 2
  have kc82a : _ = some (.bool x1d : Value) := ht77a.at_ 3
  have kc83a : _ = some (.slice x1a x1l x1c : Value) := ht77a.at_ 4
  clear ht77a
  have HS := fin211 HB59a.out Hr55a.out HLO6a.out (.slice A n c) (.slice A1 n1 c1)
  have z0 := HS.1.c0
  have z1 := HS.1.c1
  have HPOST := Lib.hid (show Doc11 10 L' N w (.returned (.tuple #[.agg #[.slice A n c, .slice A1 n1 c1], .int .i64 10])) _ from ⟨R, _, _, rfl, HRC.out.later HS.2.1, e2.symm, HNN.out.later HS.2.1, HS.2.1⟩)
  clear HS
  go_wp2
  refine bodyPost_ret (v := .tuple #[.agg #[.slice A n c, .slice A1 n1 c1], .int .i64 10]) ?_ rfl HPOST.out
  simp [results, Tryz.results39, go_sem, z0, z1]
 by_cases hE210 : E2 = 10
 ·
  have Hd1b : Hid (Bx11 (w.alloc (.cells #[.slice A n c, .slice A1 n1 c1] TD11)) (w.heap.size) (.slice A n c) (.slice A1 n1 c1)) := bx11_new w _ _
  have HLO2b : Hid (w.heap.size ≤ w.heap.size) := Nat.le_refl _
  have HB3b : Hid (Below w.heap.size w (w.alloc (.cells #[.slice A n c, .slice A1 n1 c1] TD11))) := below_alloc (Below.refl _ _) _
  have Hd4b := Lib.hid (Hd1b.out.later (below_alloc (Below.refl _ _) (.cells #[.slice none 0 0, .slice none 0 0] TD11)))
  have Hr5b : Hid (Bx11 ((w.alloc (.cells #[.slice A n c, .slice A1 n1 c1] TD11)).alloc (.cells #[.slice none 0 0, .slice none 0 0] TD11)) (w.heap.size + 1) (.slice none 0 0) (.slice none 0 0)) := by
   have hq : Bx11 ((w.alloc (.cells #[.slice A n c, .slice A1 n1 c1] TD11)).alloc (.cells #[.slice none 0 0, .slice none 0 0] TD11)) (w.alloc (.cells #[.slice A n c, .slice A1 n1 c1] TD11)).heap.size (.slice none 0 0) (.slice none 0 0) := bx11_new (w.alloc (.cells #[.slice A n c, .slice A1 n1 c1] TD11)) _ _
   simp only [World.size_alloc] at hq
   exact hq
  have HLO6b : Hid (w.heap.size ≤ w.heap.size + 1) := by have := HB3b.out.size; show _ ≤ _; simp at this; omega
  have HB7b := Lib.hid (below_next HB3b.out (below_alloc (Below.refl _ _) (.cells #[.slice none 0 0, .slice none 0 0] TD11)))
  have e1 : E = 10 := by rw [HLF2.out, if_pos (.inr hE210)]
  have hz : ¬ (10 : Int) = 0 := by decide
  subst hE210
  have qE110 : (E1 == 10) = false := by simpa using hE110
  have pE110 : (E1 != 10) = true := by simpa using hE110
  have oE110 : decide (E1 = 10) = false := by simpa using hE110
  have e2 : L' = plainR R := by
   have := HL2.out
   rw [e1, if_neg hz] at this
   exact this
  clear HL2 HLF2 HDR HPU hz
  replace e1 := e1.symm
  subst e1
  go_enter Tryz.func39, Tryz.ntmps39
  have hd8b := Hd4b.out
  have kx9b := hd8b.c0
  have ky10b := hd8b.c1
  have kp11b := hd8b.f0
  have kq12b := hd8b.f1
  clear hd8b
  have hr13b := Hr5b.out
  have kx14b := hr13b.c0
  have ky15b := hr13b.c1
  have kp16b := hr13b.f0
  have kq17b := hr13b.f1
  clear hr13b
  go_wp2_with fail
  generalize (w.alloc (.cells #[.slice A n c, .slice A1 n1 c1] TD11)).alloc (.cells #[.slice none 0 0, .slice none 0 0] TD11) = wg18b at *
  with_reducible refine (HU0.out wg18b HB7b.out).mono ?_
  rintro e w2 ⟨t0, x0, rfl, hyes0, hno0, hb⟩
  clear kx9b ky10b kp11b kq12b kx14b ky15b kp16b kq17b
  have Hd19b := Lib.hid (Hd4b.out.later hb)
  have Hr20b := Lib.hid (Hr5b.out.later hb)
  have HB21b := Lib.hid (below_next HB7b.out hb)
  clear hb
  obtain ⟨x0h, x0m, x0d, x0a, x0g, x0c⟩ := x0
  unfold uval11
  dsimp only
  obtain ⟨x0l, hxl0⟩ : ∃ l, l = x0g.length := ⟨_, rfl⟩
  rw [← hxl0]
  have HXL0 := Lib.hid hxl0
  have HYES0 := Lib.hid hyes0
  clear hxl0 hyes0 hno0
  have HLT22b := Lib.hid (Hd19b.out.lt)
  have HLT23b := Lib.hid (Hr20b.out.lt)
  have Hd24b := Lib.hid (Hd19b.out.later (below_alloc (Below.refl _ _) (.cells #[.string t0, .string x0h, .string x0m, .bool x0d, .slice x0a x0l x0c] 37)))
  have Hr25b := Lib.hid (Hr20b.out.later (below_alloc (Below.refl _ _) (.cells #[.string t0, .string x0h, .string x0m, .bool x0d, .slice x0a x0l x0c] 37)))
  have Hu26b : Hid (Blk5 (w2.alloc (.cells #[.string t0, .string x0h, .string x0m, .bool x0d, .slice x0a x0l x0c] 37)) (w2.heap.size) (.string t0) (.string x0h) (.string x0m) (.bool x0d) (.slice x0a x0l x0c)) := heap_alloc_new w2 _
  have HLO27b : Hid (w.heap.size ≤ w2.heap.size) := by have := HB21b.out.size; show _ ≤ _; exact this
  have HB28b := Lib.hid (below_next HB21b.out (below_alloc (Below.refl _ _) (.cells #[.string t0, .string x0h, .string x0m, .bool x0d, .slice x0a x0l x0c] 37)))
  have hd29b := Hd24b.out
  have kx30b := hd29b.c0
  have ky31b := hd29b.c1
  have kp32b := hd29b.f0
  have kq33b := hd29b.f1
  clear hd29b
  have hr34b := Hr25b.out
  have kx35b := hr34b.c0
  have ky36b := hr34b.c1
  have kp37b := hr34b.f0
  have kq38b := hr34b.f1
  clear hr34b
  have hu39b := Hu26b.out
  have kf40b := hu39b.free
  have kc41b : _ = some (.string t0 : Value) := hu39b.at_ 0
  have kc42b : _ = some (.string x0h : Value) := hu39b.at_ 1
  have kc43b : _ = some (.string x0m : Value) := hu39b.at_ 2
  have kc44b : _ = some (.bool x0d : Value) := hu39b.at_ 3
  have kc45b : _ = some (.slice x0a x0l x0c : Value) := hu39b.at_ 4
  clear hu39b
  go_wp2_with fail
  generalize w2.alloc (.cells #[.string t0, .string x0h, .string x0m, .bool x0d, .slice x0a x0l x0c] 37) = wg46b at *
  with_reducible refine (HU1.out wg46b HB28b.out).mono ?_
  rintro e w3 ⟨t1, x1, rfl, hyes1, hno1, hb⟩
  clear kx30b ky31b kp32b kq33b kx35b ky36b kp37b kq38b kf40b kc41b kc42b kc43b kc44b kc45b
  have Hd47b := Lib.hid (Hd24b.out.later hb)
  have Hr48b := Lib.hid (Hr25b.out.later hb)
  have Hu49b := Lib.hid (blk_later11 Hu26b.out hb)
  have HB50b := Lib.hid (below_next HB28b.out hb)
  clear hb
  obtain ⟨x1h, x1m, x1d, x1a, x1g, x1c⟩ := x1
  unfold uval11
  dsimp only
  obtain ⟨x1l, hxl1⟩ : ∃ l, l = x1g.length := ⟨_, rfl⟩
  rw [← hxl1]
  have HXL1 := Lib.hid hxl1
  have HYES1 := Lib.hid hyes1
  clear hxl1 hyes1 hno1
  have HLT51b := Lib.hid (Hd47b.out.lt)
  have HLT52b := Lib.hid (Hr48b.out.lt)
  have HLT53b := Lib.hid (Hu49b.out.lt)
  have Hd54b := Lib.hid (Hd47b.out.later (below_alloc (Below.refl _ _) (.cells #[.string t1, .string x1h, .string x1m, .bool x1d, .slice x1a x1l x1c] 37)))
  have Hr55b := Lib.hid (Hr48b.out.later (below_alloc (Below.refl _ _) (.cells #[.string t1, .string x1h, .string x1m, .bool x1d, .slice x1a x1l x1c] 37)))
  have Hu56b := Lib.hid (blk_later11 Hu49b.out (below_alloc (Below.refl _ _) (.cells #[.string t1, .string x1h, .string x1m, .bool x1d, .slice x1a x1l x1c] 37)))
  have Ht57b : Hid (Blk5 (w3.alloc (.cells #[.string t1, .string x1h, .string x1m, .bool x1d, .slice x1a x1l x1c] 37)) (w3.heap.size) (.string t1) (.string x1h) (.string x1m) (.bool x1d) (.slice x1a x1l x1c)) := heap_alloc_new w3 _
  have HLO58b : Hid (w.heap.size ≤ w3.heap.size) := by have := HB50b.out.size; show _ ≤ _; exact this
  have HB59b := Lib.hid (below_next HB50b.out (below_alloc (Below.refl _ _) (.cells #[.string t1, .string x1h, .string x1m, .bool x1d, .slice x1a x1l x1c] 37)))
  clear HYES0 HYES1 HXL0 HXL1
  have hd60b := Hd54b.out
  have kx61b := hd60b.c0
  have ky62b := hd60b.c1
  have kp63b := hd60b.f0
  have kq64b := hd60b.f1
  clear hd60b
  have hr65b := Hr55b.out
  have kx66b := hr65b.c0
  have ky67b := hr65b.c1
  have kp68b := hr65b.f0
  have kq69b := hr65b.f1
  clear hr65b
  have hu70b := Hu56b.out
  have kf71b := hu70b.free
  have kc72b : _ = some (.string t0 : Value) := hu70b.at_ 0
  have kc73b : _ = some (.string x0h : Value) := hu70b.at_ 1
  have kc74b : _ = some (.string x0m : Value) := hu70b.at_ 2
  have kc75b : _ = some (.bool x0d : Value) := hu70b.at_ 3
  have kc76b : _ = some (.slice x0a x0l x0c : Value) := hu70b.at_ 4
  clear hu70b
  have ht77b := Ht57b.out
  have kf78b := ht77b.free
  have kc79b : _ = some (.string t1 : Value) := ht77b.at_ 0
  have kc80b : _ = some (.string x1h : Value) := ht77b.at_ 1
  have kc81b : _ = some (.string x1m : Value) := ht77b.at_ 2
  have kc82b : _ = some (.bool x1d : Value) := ht77b.at_ 3
  have kc83b : _ = some (.slice x1a x1l x1c : Value) := ht77b.at_ 4
  clear ht77b
  have HS := fin211 HB59b.out Hr55b.out HLO6b.out (.slice A n c) (.slice A1 n1 c1)
  have z0 := HS.1.c0
  have z1 := HS.1.c1
  have HPOST := Lib.hid (show Doc11 10 L' N w (.returned (.tuple #[.agg #[.slice A n c, .slice A1 n1 c1], .int .i64 10])) _ from ⟨R, _, _, rfl, HRC.out.later HS.2.1, e2.symm, HNN.out.later HS.2.1, HS.2.1⟩)
  clear HS
  go_wp2
  refine bodyPost_ret (v := .tuple #[.agg #[.slice A n c, .slice A1 n1 c1], .int .i64 10]) ?_ rfl HPOST.out
  simp [results, Tryz.results39, go_sem, z0, z1]
 by_cases hE10 : E1 = 0
 case neg =>
  have Hd1c : Hid (Bx11 (w.alloc (.cells #[.slice A n c, .slice A1 n1 c1] TD11)) (w.heap.size) (.slice A n c) (.slice A1 n1 c1)) := bx11_new w _ _
  have HLO2c : Hid (w.heap.size ≤ w.heap.size) := Nat.le_refl _
  have HB3c : Hid (Below w.heap.size w (w.alloc (.cells #[.slice A n c, .slice A1 n1 c1] TD11))) := below_alloc (Below.refl _ _) _
  have Hd4c := Lib.hid (Hd1c.out.later (below_alloc (Below.refl _ _) (.cells #[.slice none 0 0, .slice none 0 0] TD11)))
  have Hr5c : Hid (Bx11 ((w.alloc (.cells #[.slice A n c, .slice A1 n1 c1] TD11)).alloc (.cells #[.slice none 0 0, .slice none 0 0] TD11)) (w.heap.size + 1) (.slice none 0 0) (.slice none 0 0)) := by
   have hq : Bx11 ((w.alloc (.cells #[.slice A n c, .slice A1 n1 c1] TD11)).alloc (.cells #[.slice none 0 0, .slice none 0 0] TD11)) (w.alloc (.cells #[.slice A n c, .slice A1 n1 c1] TD11)).heap.size (.slice none 0 0) (.slice none 0 0) := bx11_new (w.alloc (.cells #[.slice A n c, .slice A1 n1 c1] TD11)) _ _
   simp only [World.size_alloc] at hq
   exact hq
  have HLO6c : Hid (w.heap.size ≤ w.heap.size + 1) := by have := HB3c.out.size; show _ ≤ _; simp at this; omega
  have HB7c := Lib.hid (below_next HB3c.out (below_alloc (Below.refl _ _) (.cells #[.slice none 0 0, .slice none 0 0] TD11)))
  have e1 : E = E1 := by rw [HLF2.out, if_neg (fun h => h.elim hE110 hE210), if_pos hE10]
  have hz : ¬ E1 = 0 := hE10
  have qE110 : (E1 == 10) = false := by simpa using hE110
  have pE110 : (E1 != 10) = true := by simpa using hE110
  have oE110 : decide (E1 = 10) = false := by simpa using hE110
  have qE210 : (E2 == 10) = false := by simpa using hE210
  have pE210 : (E2 != 10) = true := by simpa using hE210
  have oE210 : decide (E2 = 10) = false := by simpa using hE210
  have qE10 : (E1 == 0) = false := by simpa using hE10
  have pE10 : (E1 != 0) = true := by simpa using hE10
  have oE10 : decide (E1 = 0) = false := by simpa using hE10
  have e2 : L' = plainR R := by
   have := HL2.out
   rw [e1, if_neg hz] at this
   exact this
  clear HL2 HLF2 HDR HPU hz
  replace e1 := e1.symm
  subst e1
  go_enter Tryz.func39, Tryz.ntmps39
  have hd8c := Hd4c.out
  have kx9c := hd8c.c0
  have ky10c := hd8c.c1
  have kp11c := hd8c.f0
  have kq12c := hd8c.f1
  clear hd8c
  have hr13c := Hr5c.out
  have kx14c := hr13c.c0
  have ky15c := hr13c.c1
  have kp16c := hr13c.f0
  have kq17c := hr13c.f1
  clear hr13c
  go_wp2_with fail
  generalize (w.alloc (.cells #[.slice A n c, .slice A1 n1 c1] TD11)).alloc (.cells #[.slice none 0 0, .slice none 0 0] TD11) = wg18c at *
  with_reducible refine (HU0.out wg18c HB7c.out).mono ?_
  rintro e w2 ⟨t0, x0, rfl, hyes0, hno0, hb⟩
  clear kx9c ky10c kp11c kq12c kx14c ky15c kp16c kq17c
  have Hd19c := Lib.hid (Hd4c.out.later hb)
  have Hr20c := Lib.hid (Hr5c.out.later hb)
  have HB21c := Lib.hid (below_next HB7c.out hb)
  clear hb
  obtain ⟨x0h, x0m, x0d, x0a, x0g, x0c⟩ := x0
  unfold uval11
  dsimp only
  obtain ⟨x0l, hxl0⟩ : ∃ l, l = x0g.length := ⟨_, rfl⟩
  rw [← hxl0]
  have HXL0 := Lib.hid hxl0
  have HYES0 := Lib.hid hyes0
  clear hxl0 hyes0 hno0
  have HLT22c := Lib.hid (Hd19c.out.lt)
  have HLT23c := Lib.hid (Hr20c.out.lt)
  have Hd24c := Lib.hid (Hd19c.out.later (below_alloc (Below.refl _ _) (.cells #[.string t0, .string x0h, .string x0m, .bool x0d, .slice x0a x0l x0c] 37)))
  have Hr25c := Lib.hid (Hr20c.out.later (below_alloc (Below.refl _ _) (.cells #[.string t0, .string x0h, .string x0m, .bool x0d, .slice x0a x0l x0c] 37)))
  have Hu26c : Hid (Blk5 (w2.alloc (.cells #[.string t0, .string x0h, .string x0m, .bool x0d, .slice x0a x0l x0c] 37)) (w2.heap.size) (.string t0) (.string x0h) (.string x0m) (.bool x0d) (.slice x0a x0l x0c)) := heap_alloc_new w2 _
  have HLO27c : Hid (w.heap.size ≤ w2.heap.size) := by have := HB21c.out.size; show _ ≤ _; exact this
  have HB28c := Lib.hid (below_next HB21c.out (below_alloc (Below.refl _ _) (.cells #[.string t0, .string x0h, .string x0m, .bool x0d, .slice x0a x0l x0c] 37)))
  have hd29c := Hd24c.out
  have kx30c := hd29c.c0
  have ky31c := hd29c.c1
  have kp32c := hd29c.f0
  have kq33c := hd29c.f1
  clear hd29c
  have hr34c := Hr25c.out
  have kx35c := hr34c.c0
  have ky36c := hr34c.c1
  have kp37c := hr34c.f0
  have kq38c := hr34c.f1
  clear hr34c
  have hu39c := Hu26c.out
  have kf40c := hu39c.free
  have kc41c : _ = some (.string t0 : Value) := hu39c.at_ 0
  have kc42c : _ = some (.string x0h : Value) := hu39c.at_ 1
  have kc43c : _ = some (.string x0m : Value) := hu39c.at_ 2
  have kc44c : _ = some (.bool x0d : Value) := hu39c.at_ 3
  have kc45c : _ = some (.slice x0a x0l x0c : Value) := hu39c.at_ 4
  clear hu39c
  go_wp2_with fail
  generalize w2.alloc (.cells #[.string t0, .string x0h, .string x0m, .bool x0d, .slice x0a x0l x0c] 37) = wg46c at *
  with_reducible refine (HU1.out wg46c HB28c.out).mono ?_
  rintro e w3 ⟨t1, x1, rfl, hyes1, hno1, hb⟩
  clear kx30c ky31c kp32c kq33c kx35c ky36c kp37c kq38c kf40c kc41c kc42c kc43c kc44c kc45c
  have Hd47c := Lib.hid (Hd24c.out.later hb)
  have Hr48c := Lib.hid (Hr25c.out.later hb)
  have Hu49c := Lib.hid (blk_later11 Hu26c.out hb)
  have HB50c := Lib.hid (below_next HB28c.out hb)
  clear hb
  obtain ⟨x1h, x1m, x1d, x1a, x1g, x1c⟩ := x1
  unfold uval11
  dsimp only
  obtain ⟨x1l, hxl1⟩ : ∃ l, l = x1g.length := ⟨_, rfl⟩
  rw [← hxl1]
  have HXL1 := Lib.hid hxl1
  have HYES1 := Lib.hid hyes1
  clear hxl1 hyes1 hno1
  have HLT51c := Lib.hid (Hd47c.out.lt)
  have HLT52c := Lib.hid (Hr48c.out.lt)
  have HLT53c := Lib.hid (Hu49c.out.lt)
  have Hd54c := Lib.hid (Hd47c.out.later (below_alloc (Below.refl _ _) (.cells #[.string t1, .string x1h, .string x1m, .bool x1d, .slice x1a x1l x1c] 37)))
  have Hr55c := Lib.hid (Hr48c.out.later (below_alloc (Below.refl _ _) (.cells #[.string t1, .string x1h, .string x1m, .bool x1d, .slice x1a x1l x1c] 37)))
  have Hu56c := Lib.hid (blk_later11 Hu49c.out (below_alloc (Below.refl _ _) (.cells #[.string t1, .string x1h, .string x1m, .bool x1d, .slice x1a x1l x1c] 37)))
  have Ht57c : Hid (Blk5 (w3.alloc (.cells #[.string t1, .string x1h, .string x1m, .bool x1d, .slice x1a x1l x1c] 37)) (w3.heap.size) (.string t1) (.string x1h) (.string x1m) (.bool x1d) (.slice x1a x1l x1c)) := heap_alloc_new w3 _
  have HLO58c : Hid (w.heap.size ≤ w3.heap.size) := by have := HB50c.out.size; show _ ≤ _; exact this
  have HB59c := Lib.hid (below_next HB50c.out (below_alloc (Below.refl _ _) (.cells #[.string t1, .string x1h, .string x1m, .bool x1d, .slice x1a x1l x1c] 37)))
  clear HYES0 HYES1 HXL0 HXL1
  have hd60c := Hd54c.out
  have kx61c := hd60c.c0
  have ky62c := hd60c.c1
  have kp63c := hd60c.f0
  have kq64c := hd60c.f1
  clear hd60c
  have hr65c := Hr55c.out
  have kx66c := hr65c.c0
  have ky67c := hr65c.c1
  have kp68c := hr65c.f0
  have kq69c := hr65c.f1
  clear hr65c
  have hu70c := Hu56c.out
  have kf71c := hu70c.free
  have kc72c : _ = some (.string t0 : Value) := hu70c.at_ 0
  have kc73c : _ = some (.string x0h : Value) := hu70c.at_ 1
  have kc74c : _ = some (.string x0m : Value) := hu70c.at_ 2
  have kc75c : _ = some (.bool x0d : Value) := hu70c.at_ 3
  have kc76c : _ = some (.slice x0a x0l x0c : Value) := hu70c.at_ 4
  clear hu70c
  have ht77c := Ht57c.out
  have kf78c := ht77c.free
  have kc79c : _ = some (.string t1 : Value) := ht77c.at_ 0
  have kc80c : _ = some (.string x1h : Value) := ht77c.at_ 1
  have kc81c : _ = some (.string x1m : Value) := ht77c.at_ 2
  have kc82c : _ = some (.bool x1d : Value) := ht77c.at_ 3
  have kc83c : _ = some (.slice x1a x1l x1c : Value) := ht77c.at_ 4
  clear ht77c
  have HS := fin211 HB59c.out Hr55c.out HLO6c.out (.slice A n c) (.slice A1 n1 c1)
  have z0 := HS.1.c0
  have z1 := HS.1.c1
  have HPOST := Lib.hid (show Doc11 E1 L' N w (.returned (.tuple #[.agg #[.slice A n c, .slice A1 n1 c1], .int .i64 E1])) _ from ⟨R, _, _, rfl, HRC.out.later HS.2.1, e2.symm, HNN.out.later HS.2.1, HS.2.1⟩)
  clear HS
  go_wp2
  refine bodyPost_ret (v := .tuple #[.agg #[.slice A n c, .slice A1 n1 c1], .int .i64 E1]) ?_ rfl HPOST.out
  simp [results, Tryz.results39, go_sem, z0, z1]
 by_cases hE20 : E2 = 0
 ·
  have Hd1d : Hid (Bx11 (w.alloc (.cells #[.slice A n c, .slice A1 n1 c1] TD11)) (w.heap.size) (.slice A n c) (.slice A1 n1 c1)) := bx11_new w _ _
  have HLO2d : Hid (w.heap.size ≤ w.heap.size) := Nat.le_refl _
  have HB3d : Hid (Below w.heap.size w (w.alloc (.cells #[.slice A n c, .slice A1 n1 c1] TD11))) := below_alloc (Below.refl _ _) _
  have Hd4d := Lib.hid (Hd1d.out.later (below_alloc (Below.refl _ _) (.cells #[.slice none 0 0, .slice none 0 0] TD11)))
  have Hr5d : Hid (Bx11 ((w.alloc (.cells #[.slice A n c, .slice A1 n1 c1] TD11)).alloc (.cells #[.slice none 0 0, .slice none 0 0] TD11)) (w.heap.size + 1) (.slice none 0 0) (.slice none 0 0)) := by
   have hq : Bx11 ((w.alloc (.cells #[.slice A n c, .slice A1 n1 c1] TD11)).alloc (.cells #[.slice none 0 0, .slice none 0 0] TD11)) (w.alloc (.cells #[.slice A n c, .slice A1 n1 c1] TD11)).heap.size (.slice none 0 0) (.slice none 0 0) := bx11_new (w.alloc (.cells #[.slice A n c, .slice A1 n1 c1] TD11)) _ _
   simp only [World.size_alloc] at hq
   exact hq
  have HLO6d : Hid (w.heap.size ≤ w.heap.size + 1) := by have := HB3d.out.size; show _ ≤ _; simp at this; omega
  have HB7d := Lib.hid (below_next HB3d.out (below_alloc (Below.refl _ _) (.cells #[.slice none 0 0, .slice none 0 0] TD11)))
  have e1 : E = 9 := by rw [HLF2.out, if_neg (fun h => h.elim hE110 hE210), if_neg (fun h => h hE10), if_pos hE20]
  have hz : ¬ (9 : Int) = 0 := by decide
  subst hE10
  subst hE20
  have e2 : L' = plainR R := by
   have := HL2.out
   rw [e1, if_neg hz] at this
   exact this
  clear HL2 HLF2 HDR HPU hz
  replace e1 := e1.symm
  subst e1
  go_enter Tryz.func39, Tryz.ntmps39
  have hd8d := Hd4d.out
  have kx9d := hd8d.c0
  have ky10d := hd8d.c1
  have kp11d := hd8d.f0
  have kq12d := hd8d.f1
  clear hd8d
  have hr13d := Hr5d.out
  have kx14d := hr13d.c0
  have ky15d := hr13d.c1
  have kp16d := hr13d.f0
  have kq17d := hr13d.f1
  clear hr13d
  go_wp2_with fail
  generalize (w.alloc (.cells #[.slice A n c, .slice A1 n1 c1] TD11)).alloc (.cells #[.slice none 0 0, .slice none 0 0] TD11) = wg18d at *
  with_reducible refine (HU0.out wg18d HB7d.out).mono ?_
  rintro e w2 ⟨t0, x0, rfl, hyes0, hno0, hb⟩
  clear kx9d ky10d kp11d kq12d kx14d ky15d kp16d kq17d
  have Hd19d := Lib.hid (Hd4d.out.later hb)
  have Hr20d := Lib.hid (Hr5d.out.later hb)
  have HB21d := Lib.hid (below_next HB7d.out hb)
  clear hb
  obtain ⟨x0h, x0m, x0d, x0a, x0g, x0c⟩ := x0
  unfold uval11
  dsimp only
  obtain ⟨x0l, hxl0⟩ : ∃ l, l = x0g.length := ⟨_, rfl⟩
  rw [← hxl0]
  have HXL0 := Lib.hid hxl0
  have HYES0 := Lib.hid hyes0
  clear hxl0 hyes0 hno0
  have HLT22d := Lib.hid (Hd19d.out.lt)
  have HLT23d := Lib.hid (Hr20d.out.lt)
  have Hd24d := Lib.hid (Hd19d.out.later (below_alloc (Below.refl _ _) (.cells #[.string t0, .string x0h, .string x0m, .bool x0d, .slice x0a x0l x0c] 37)))
  have Hr25d := Lib.hid (Hr20d.out.later (below_alloc (Below.refl _ _) (.cells #[.string t0, .string x0h, .string x0m, .bool x0d, .slice x0a x0l x0c] 37)))
  have Hu26d : Hid (Blk5 (w2.alloc (.cells #[.string t0, .string x0h, .string x0m, .bool x0d, .slice x0a x0l x0c] 37)) (w2.heap.size) (.string t0) (.string x0h) (.string x0m) (.bool x0d) (.slice x0a x0l x0c)) := heap_alloc_new w2 _
  have HLO27d : Hid (w.heap.size ≤ w2.heap.size) := by have := HB21d.out.size; show _ ≤ _; exact this
  have HB28d := Lib.hid (below_next HB21d.out (below_alloc (Below.refl _ _) (.cells #[.string t0, .string x0h, .string x0m, .bool x0d, .slice x0a x0l x0c] 37)))
  have hd29d := Hd24d.out
  have kx30d := hd29d.c0
  have ky31d := hd29d.c1
  have kp32d := hd29d.f0
  have kq33d := hd29d.f1
  clear hd29d
  have hr34d := Hr25d.out
  have kx35d := hr34d.c0
  have ky36d := hr34d.c1
  have kp37d := hr34d.f0
  have kq38d := hr34d.f1
  clear hr34d
  have hu39d := Hu26d.out
  have kf40d := hu39d.free
  have kc41d : _ = some (.string t0 : Value) := hu39d.at_ 0
  have kc42d : _ = some (.string x0h : Value) := hu39d.at_ 1
  have kc43d : _ = some (.string x0m : Value) := hu39d.at_ 2
  have kc44d : _ = some (.bool x0d : Value) := hu39d.at_ 3
  have kc45d : _ = some (.slice x0a x0l x0c : Value) := hu39d.at_ 4
  clear hu39d
  go_wp2_with fail
  generalize w2.alloc (.cells #[.string t0, .string x0h, .string x0m, .bool x0d, .slice x0a x0l x0c] 37) = wg46d at *
  with_reducible refine (HU1.out wg46d HB28d.out).mono ?_
  rintro e w3 ⟨t1, x1, rfl, hyes1, hno1, hb⟩
  clear kx30d ky31d kp32d kq33d kx35d ky36d kp37d kq38d kf40d kc41d kc42d kc43d kc44d kc45d
  have Hd47d := Lib.hid (Hd24d.out.later hb)
  have Hr48d := Lib.hid (Hr25d.out.later hb)
  have Hu49d := Lib.hid (blk_later11 Hu26d.out hb)
  have HB50d := Lib.hid (below_next HB28d.out hb)
  clear hb
  obtain ⟨x1h, x1m, x1d, x1a, x1g, x1c⟩ := x1
  unfold uval11
  dsimp only
  obtain ⟨x1l, hxl1⟩ : ∃ l, l = x1g.length := ⟨_, rfl⟩
  rw [← hxl1]
  have HXL1 := Lib.hid hxl1
  have HYES1 := Lib.hid hyes1
  clear hxl1 hyes1 hno1
  have HLT51d := Lib.hid (Hd47d.out.lt)
  have HLT52d := Lib.hid (Hr48d.out.lt)
  have HLT53d := Lib.hid (Hu49d.out.lt)
  have Hd54d := Lib.hid (Hd47d.out.later (below_alloc (Below.refl _ _) (.cells #[.string t1, .string x1h, .string x1m, .bool x1d, .slice x1a x1l x1c] 37)))
  have Hr55d := Lib.hid (Hr48d.out.later (below_alloc (Below.refl _ _) (.cells #[.string t1, .string x1h, .string x1m, .bool x1d, .slice x1a x1l x1c] 37)))
  have Hu56d := Lib.hid (blk_later11 Hu49d.out (below_alloc (Below.refl _ _) (.cells #[.string t1, .string x1h, .string x1m, .bool x1d, .slice x1a x1l x1c] 37)))
  have Ht57d : Hid (Blk5 (w3.alloc (.cells #[.string t1, .string x1h, .string x1m, .bool x1d, .slice x1a x1l x1c] 37)) (w3.heap.size) (.string t1) (.string x1h) (.string x1m) (.bool x1d) (.slice x1a x1l x1c)) := heap_alloc_new w3 _
  have HLO58d : Hid (w.heap.size ≤ w3.heap.size) := by have := HB50d.out.size; show _ ≤ _; exact this
  have HB59d := Lib.hid (below_next HB50d.out (below_alloc (Below.refl _ _) (.cells #[.string t1, .string x1h, .string x1m, .bool x1d, .slice x1a x1l x1c] 37)))
  clear HYES0 HYES1 HXL0 HXL1
  have hd60d := Hd54d.out
  have kx61d := hd60d.c0
  have ky62d := hd60d.c1
  have kp63d := hd60d.f0
  have kq64d := hd60d.f1
  clear hd60d
  have hr65d := Hr55d.out
  have kx66d := hr65d.c0
  have ky67d := hr65d.c1
  have kp68d := hr65d.f0
  have kq69d := hr65d.f1
  clear hr65d
  have hu70d := Hu56d.out
  have kf71d := hu70d.free
  have kc72d : _ = some (.string t0 : Value) := hu70d.at_ 0
  have kc73d : _ = some (.string x0h : Value) := hu70d.at_ 1
  have kc74d : _ = some (.string x0m : Value) := hu70d.at_ 2
  have kc75d : _ = some (.bool x0d : Value) := hu70d.at_ 3
  have kc76d : _ = some (.slice x0a x0l x0c : Value) := hu70d.at_ 4
  clear hu70d
  have ht77d := Ht57d.out
  have kf78d := ht77d.free
  have kc79d : _ = some (.string t1 : Value) := ht77d.at_ 0
  have kc80d : _ = some (.string x1h : Value) := ht77d.at_ 1
  have kc81d : _ = some (.string x1m : Value) := ht77d.at_ 2
  have kc82d : _ = some (.bool x1d : Value) := ht77d.at_ 3
  have kc83d : _ = some (.slice x1a x1l x1c : Value) := ht77d.at_ 4
  clear ht77d
  have HS := fin211 HB59d.out Hr55d.out HLO6d.out (.slice A n c) (.slice A1 n1 c1)
  have z0 := HS.1.c0
  have z1 := HS.1.c1
  have HPOST := Lib.hid (show Doc11 9 L' N w (.returned (.tuple #[.agg #[.slice A n c, .slice A1 n1 c1], .int .i64 9])) _ from ⟨R, _, _, rfl, HRC.out.later HS.2.1, e2.symm, HNN.out.later HS.2.1, HS.2.1⟩)
  clear HS
  go_wp2
  refine bodyPost_ret (v := .tuple #[.agg #[.slice A n c, .slice A1 n1 c1], .int .i64 9]) ?_ rfl HPOST.out
  simp [results, Tryz.results39, go_sem, z0, z1]
 have Hd1e : Hid (Bx11 (w.alloc (.cells #[.slice A n c, .slice A1 n1 c1] TD11)) (w.heap.size) (.slice A n c) (.slice A1 n1 c1)) := bx11_new w _ _
 have HLO2e : Hid (w.heap.size ≤ w.heap.size) := Nat.le_refl _
 have HB3e : Hid (Below w.heap.size w (w.alloc (.cells #[.slice A n c, .slice A1 n1 c1] TD11))) := below_alloc (Below.refl _ _) _
 have Hd4e := Lib.hid (Hd1e.out.later (below_alloc (Below.refl _ _) (.cells #[.slice none 0 0, .slice none 0 0] TD11)))
 have Hr5e : Hid (Bx11 ((w.alloc (.cells #[.slice A n c, .slice A1 n1 c1] TD11)).alloc (.cells #[.slice none 0 0, .slice none 0 0] TD11)) (w.heap.size + 1) (.slice none 0 0) (.slice none 0 0)) := by
  have hq : Bx11 ((w.alloc (.cells #[.slice A n c, .slice A1 n1 c1] TD11)).alloc (.cells #[.slice none 0 0, .slice none 0 0] TD11)) (w.alloc (.cells #[.slice A n c, .slice A1 n1 c1] TD11)).heap.size (.slice none 0 0) (.slice none 0 0) := bx11_new (w.alloc (.cells #[.slice A n c, .slice A1 n1 c1] TD11)) _ _
  simp only [World.size_alloc] at hq
  exact hq
 have HLO6e : Hid (w.heap.size ≤ w.heap.size + 1) := by have := HB3e.out.size; show _ ≤ _; simp at this; omega
 have HB7e := Lib.hid (below_next HB3e.out (below_alloc (Below.refl _ _) (.cells #[.slice none 0 0, .slice none 0 0] TD11)))
 have e1 : E = 0 := by rw [HLF2.out, if_neg (fun h => h.elim hE110 hE210), if_neg (fun h => h hE10), if_neg hE20]
 have e2 := HL2.out
 rw [e1, if_pos rfl] at e2
 have HE2 := Lib.hid e2
 clear HL2 HLF2 e2
 subst e1
 subst hE10
 have qE210 : (E2 == 10) = false := by simpa using hE210
 have pE210 : (E2 != 10) = true := by simpa using hE210
 have oE210 : decide (E2 = 10) = false := by simpa using hE210
 have qE20 : (E2 == 0) = false := by simpa using hE20
 have pE20 : (E2 != 0) = true := by simpa using hE20
 have oE20 : decide (E2 = 0) = false := by simpa using hE20
 go_enter Tryz.func39, Tryz.ntmps39
 have hd8e := Hd4e.out
 have kx9e := hd8e.c0
 have ky10e := hd8e.c1
 have kp11e := hd8e.f0
 have kq12e := hd8e.f1
 clear hd8e
 have hr13e := Hr5e.out
 have kx14e := hr13e.c0
 have ky15e := hr13e.c1
 have kp16e := hr13e.f0
 have kq17e := hr13e.f1
 clear hr13e
 go_wp2_with fail
 generalize (w.alloc (.cells #[.slice A n c, .slice A1 n1 c1] TD11)).alloc (.cells #[.slice none 0 0, .slice none 0 0] TD11) = wg18e at *
 with_reducible refine (HU0.out wg18e HB7e.out).mono ?_
 rintro e w2 ⟨t0, x0, rfl, hyes0, hno0, hb⟩
 clear kx9e ky10e kp11e kq12e kx14e ky15e kp16e kq17e
 have Hd19e := Lib.hid (Hd4e.out.later hb)
 have Hr20e := Lib.hid (Hr5e.out.later hb)
 have HB21e := Lib.hid (below_next HB7e.out hb)
 clear hb
 obtain ⟨x0h, x0m, x0d, x0a, x0g, x0c⟩ := x0
 unfold uval11
 dsimp only
 obtain ⟨x0l, hxl0⟩ : ∃ l, l = x0g.length := ⟨_, rfl⟩
 rw [← hxl0]
 have HXL0 := Lib.hid hxl0
 have HYES0 := Lib.hid hyes0
 clear hxl0 hyes0 hno0
 have HLT22e := Lib.hid (Hd19e.out.lt)
 have HLT23e := Lib.hid (Hr20e.out.lt)
 have Hd24e := Lib.hid (Hd19e.out.later (below_alloc (Below.refl _ _) (.cells #[.string t0, .string x0h, .string x0m, .bool x0d, .slice x0a x0l x0c] 37)))
 have Hr25e := Lib.hid (Hr20e.out.later (below_alloc (Below.refl _ _) (.cells #[.string t0, .string x0h, .string x0m, .bool x0d, .slice x0a x0l x0c] 37)))
 have Hu26e : Hid (Blk5 (w2.alloc (.cells #[.string t0, .string x0h, .string x0m, .bool x0d, .slice x0a x0l x0c] 37)) (w2.heap.size) (.string t0) (.string x0h) (.string x0m) (.bool x0d) (.slice x0a x0l x0c)) := heap_alloc_new w2 _
 have HLO27e : Hid (w.heap.size ≤ w2.heap.size) := by have := HB21e.out.size; show _ ≤ _; exact this
 have HB28e := Lib.hid (below_next HB21e.out (below_alloc (Below.refl _ _) (.cells #[.string t0, .string x0h, .string x0m, .bool x0d, .slice x0a x0l x0c] 37)))
 obtain ⟨ht0, hx0⟩ := HYES0.out (by first | rfl | trivial)
 subst ht0
 have HX0 := Lib.hid hx0
 clear hx0 HYES0
 have hd29e := Hd24e.out
 have kx30e := hd29e.c0
 have ky31e := hd29e.c1
 have kp32e := hd29e.f0
 have kq33e := hd29e.f1
 clear hd29e
 have hr34e := Hr25e.out
 have kx35e := hr34e.c0
 have ky36e := hr34e.c1
 have kp37e := hr34e.f0
 have kq38e := hr34e.f1
 clear hr34e
 have hu39e := Hu26e.out
 have kf40e := hu39e.free
 have kc41e : _ = some (.string t0 : Value) := hu39e.at_ 0
 have kc42e : _ = some (.string x0h : Value) := hu39e.at_ 1
 have kc43e : _ = some (.string x0m : Value) := hu39e.at_ 2
 have kc44e : _ = some (.bool x0d : Value) := hu39e.at_ 3
 have kc45e : _ = some (.slice x0a x0l x0c : Value) := hu39e.at_ 4
 clear hu39e
 go_wp2_with fail
 generalize w2.alloc (.cells #[.string t0, .string x0h, .string x0m, .bool x0d, .slice x0a x0l x0c] 37) = wg46e at *
 with_reducible refine (HU1.out wg46e HB28e.out).mono ?_
 rintro e w3 ⟨t1, x1, rfl, hyes1, hno1, hb⟩
 clear kx30e ky31e kp32e kq33e kx35e ky36e kp37e kq38e kf40e kc41e kc42e kc43e kc44e kc45e
 have Hd47e := Lib.hid (Hd24e.out.later hb)
 have Hr48e := Lib.hid (Hr25e.out.later hb)
 have Hu49e := Lib.hid (blk_later11 Hu26e.out hb)
 have HB50e := Lib.hid (below_next HB28e.out hb)
 clear hb
 obtain ⟨x1h, x1m, x1d, x1a, x1g, x1c⟩ := x1
 unfold uval11
 dsimp only
 obtain ⟨x1l, hxl1⟩ : ∃ l, l = x1g.length := ⟨_, rfl⟩
 rw [← hxl1]
 have HXL1 := Lib.hid hxl1
 have HYES1 := Lib.hid hyes1
 clear hxl1 hyes1 hno1
 have HLT51e := Lib.hid (Hd47e.out.lt)
 have HLT52e := Lib.hid (Hr48e.out.lt)
 have HLT53e := Lib.hid (Hu49e.out.lt)
 have Hd54e := Lib.hid (Hd47e.out.later (below_alloc (Below.refl _ _) (.cells #[.string t1, .string x1h, .string x1m, .bool x1d, .slice x1a x1l x1c] 37)))
 have Hr55e := Lib.hid (Hr48e.out.later (below_alloc (Below.refl _ _) (.cells #[.string t1, .string x1h, .string x1m, .bool x1d, .slice x1a x1l x1c] 37)))
 have Hu56e := Lib.hid (blk_later11 Hu49e.out (below_alloc (Below.refl _ _) (.cells #[.string t1, .string x1h, .string x1m, .bool x1d, .slice x1a x1l x1c] 37)))
 have Ht57e : Hid (Blk5 (w3.alloc (.cells #[.string t1, .string x1h, .string x1m, .bool x1d, .slice x1a x1l x1c] 37)) (w3.heap.size) (.string t1) (.string x1h) (.string x1m) (.bool x1d) (.slice x1a x1l x1c)) := heap_alloc_new w3 _
 have HLO58e : Hid (w.heap.size ≤ w3.heap.size) := by have := HB50e.out.size; show _ ≤ _; exact this
 have HB59e := Lib.hid (below_next HB50e.out (below_alloc (Below.refl _ _) (.cells #[.string t1, .string x1h, .string x1m, .bool x1d, .slice x1a x1l x1c] 37)))
 clear HYES1 HXL1
 have hd60e := Hd54e.out
 have kx61e := hd60e.c0
 have ky62e := hd60e.c1
 have kp63e := hd60e.f0
 have kq64e := hd60e.f1
 clear hd60e
 have hr65e := Hr55e.out
 have kx66e := hr65e.c0
 have ky67e := hr65e.c1
 have kp68e := hr65e.f0
 have kq69e := hr65e.f1
 clear hr65e
 have hu70e := Hu56e.out
 have kf71e := hu70e.free
 have kc72e : _ = some (.string t0 : Value) := hu70e.at_ 0
 have kc73e : _ = some (.string x0h : Value) := hu70e.at_ 1
 have kc74e : _ = some (.string x0m : Value) := hu70e.at_ 2
 have kc75e : _ = some (.bool x0d : Value) := hu70e.at_ 3
 have kc76e : _ = some (.slice x0a x0l x0c : Value) := hu70e.at_ 4
 clear hu70e
 have ht77e := Ht57e.out
 have kf78e := ht77e.free
 have kc79e : _ = some (.string t1 : Value) := ht77e.at_ 0
 have kc80e : _ = some (.string x1h : Value) := ht77e.at_ 1
 have kc81e : _ = some (.string x1m : Value) := ht77e.at_ 2
 have kc82e : _ = some (.bool x1d : Value) := ht77e.at_ 3
 have kc83e : _ = some (.slice x1a x1l x1c : Value) := ht77e.at_ 4
 clear ht77e
 have Hd84e : Hid (Bx11 ((w3.alloc (.cells #[.string t1, .string x1h, .string x1m, .bool x1d, .slice x1a x1l x1c] 37)).setCell ⟨w2.heap.size, 0, none⟩ (.string s)) (w.heap.size) (.slice A n c) (.slice A1 n1 c1)) := Hd54e.out.other (by have := HLT22e.out; omega) _
 have Hr85e : Hid (Bx11 ((w3.alloc (.cells #[.string t1, .string x1h, .string x1m, .bool x1d, .slice x1a x1l x1c] 37)).setCell ⟨w2.heap.size, 0, none⟩ (.string s)) (w.heap.size + 1) (.slice none 0 0) (.slice none 0 0)) := Hr55e.out.other (by have := HLT23e.out; omega) _
 have Hu86e : Hid (Blk5 ((w3.alloc (.cells #[.string t1, .string x1h, .string x1m, .bool x1d, .slice x1a x1l x1c] 37)).setCell ⟨w2.heap.size, 0, none⟩ (.string s)) (w2.heap.size) (.string s) (.string x0h) (.string x0m) (.bool x0d) (.slice x0a x0l x0c)) := Hu56e.out.put011 _
 have Ht87e : Hid (Blk5 ((w3.alloc (.cells #[.string t1, .string x1h, .string x1m, .bool x1d, .slice x1a x1l x1c] 37)).setCell ⟨w2.heap.size, 0, none⟩ (.string s)) (w3.heap.size) (.string t1) (.string x1h) (.string x1m) (.bool x1d) (.slice x1a x1l x1c)) := Ht57e.out.other (by have := HLT53e.out; omega) _
 have HB88e : Hid (Below w.heap.size w ((w3.alloc (.cells #[.string t1, .string x1h, .string x1m, .bool x1d, .slice x1a x1l x1c] 37)).setCell ⟨w2.heap.size, 0, none⟩ (.string s))) := HB59e.out.setCell (p := ⟨w2.heap.size, 0, none⟩) HLO27e.out _
 have hd89e := Hd84e.out
 have kx90e := hd89e.c0
 have ky91e := hd89e.c1
 have kp92e := hd89e.f0
 have kq93e := hd89e.f1
 clear hd89e
 have hr94e := Hr85e.out
 have kx95e := hr94e.c0
 have ky96e := hr94e.c1
 have kp97e := hr94e.f0
 have kq98e := hr94e.f1
 clear hr94e
 have hu99e := Hu86e.out
 have kf100e := hu99e.free
 have kc101e : _ = some (.string s : Value) := hu99e.at_ 0
 have kc102e : _ = some (.string x0h : Value) := hu99e.at_ 1
 have kc103e : _ = some (.string x0m : Value) := hu99e.at_ 2
 have kc104e : _ = some (.bool x0d : Value) := hu99e.at_ 3
 have kc105e : _ = some (.slice x0a x0l x0c : Value) := hu99e.at_ 4
 clear hu99e
 have ht106e := Ht87e.out
 have kf107e := ht106e.free
 have kc108e : _ = some (.string t1 : Value) := ht106e.at_ 0
 have kc109e : _ = some (.string x1h : Value) := ht106e.at_ 1
 have kc110e : _ = some (.string x1m : Value) := ht106e.at_ 2
 have kc111e : _ = some (.bool x1d : Value) := ht106e.at_ 3
 have kc112e : _ = some (.slice x1a x1l x1c : Value) := ht106e.at_ 4
 clear ht106e
 go_wp2_with fail
 generalize (w3.alloc (.cells #[.string t1, .string x1h, .string x1m, .bool x1d, .slice x1a x1l x1c] 37)).setCell ⟨w2.heap.size, 0, none⟩ (.string s) = wg113e at *
 clear kx61e ky62e kp63e kq64e kx66e ky67e kp68e kq69e kf71e kc72e kc73e kc74e kc75e kc76e kf78e kc79e kc80e kc81e kc82e kc83e kx90e ky91e kp92e kq93e kx95e ky96e kp97e kq98e kf100e kc101e kc102e kc103e kc104e kc105e kf107e kc108e kc109e kc110e kc111e kc112e
 have HPU2 : Hid (∀ v W, Rw11 (delV R t0.data.toList) W v → Calls Tryz.prog 93 #[v, .agg #[.string s, .string x0h, .string x0m, .bool x0d, .slice x0a x0l x0c]] W fun e w' => ∃ v, e = .returned v ∧ Rw11 (putV (delV R t0.data.toList) s.data.toList ⟨x0h, x0m, x0d, x0a, x0g, x0c⟩) w' v ∧ Below W.heap.size W w') := fun v W hv => by
  have := HPU.out ⟨x0h, x0m, x0d, x0a, x0g, x0c⟩ v W hv
  unfold uval11 at this
  dsimp only at this
  rw [← HXL0.out] at this
  exact this
 clear HPU
 refine wp_region_last (by kernel_rfl) 7 (fun W => Below wg113e.heap.size wg113e W) (fun W => Rnd11 w (w.heap.size) (w.heap.size + 1) (putV (delV R t0.data.toList) s.data.toList ⟨x0h, x0m, x0d, x0a, x0g, x0c⟩) (.slice A1 n1 c1) wg113e W) (YRd11 (w.heap.size) R t0 s (.slice A n c) (.agg #[.string s, .string x0h, .string x0m, .bool x0d, .slice x0a x0l x0c]) ⟨x0h, x0m, x0d, x0a, x0g, x0c⟩) (fun _ => True) ?F ?hF (by kernel_rfl) (by kernel_rfl) (by kernel_rfl) (by kernel_rfl) (by decide) (below_drew (Below.refl _ _)) ?step ?fin
 case hF =>
   intro x
   simp only [List.map_cons, List.map_nil, putL, Act.put, List.setIfInBounds_toArray, List.set_cons_zero, List.set_cons_succ, Nat.zero_add, Nat.reduceAdd]
   exact rfl
 case step =>
  refine ⟨?_, ?_, ?_, ?_, ?_, ?_, ?_, ?_, trivial⟩
  ·
   intro x W
   refine ⟨fun _ hW hdep K hK => ?_, (fun h => absurd h (by decide)), (fun h => absurd h (by decide))⟩
   clear hdep
   go_simp
   exact hK _ _ rfl hW (fun _ _ h => h)
  ·
   intro x W
   refine ⟨fun _ hW hdep K hK => ?_, (fun h => absurd h (by decide)), (fun h => absurd h (by decide))⟩
   have h0 : x 0 = _ := hdep 0 rfl
   have hx := Hd84e.out.later hW
   have c0 := hx.c0
   clear hdep
   simp only [h0] at hK
   go_simp
   exact hK _ _ rfl hW (fun _ _ h => h)
  ·
   intro x W
   refine ⟨fun _ hW hdep K hK => ?_, (fun h => absurd h (by decide)), (fun h => absurd h (by decide))⟩
   clear hdep
   go_simp
   exact hK _ _ rfl hW (fun _ _ h => h)
  ·
   intro x W
   refine ⟨fun _ hW hdep K hK => ?_, (fun h => absurd h (by decide)), (fun h => absurd h (by decide))⟩
   have h1 : x 1 = _ := hdep 1 rfl
   have h2 : x 2 = _ := hdep 2 rfl
   have hc := HDR.out W (below_next HB88e.out hW)
   clear hdep
   simp only [h1, h2] at hK
   go_simp
   refine hc.mono ?_
   rintro e W' ⟨v', rfl, hv, hb⟩
   exact hK _ _ hv (below_next hW hb) (fun j u h => YRd11_keep hb j u h)
  ·
   intro x W
   refine ⟨fun _ hW hdep K hK => ?_, (fun h => absurd h (by decide)), (fun h => absurd h (by decide))⟩
   have hu := blk_later11 Hu86e.out hW
   have kc0 : _ = some (.string s : Value) := hu.at_ 0
   have kc1 : _ = some (.string x0h : Value) := hu.at_ 1
   have kc2 : _ = some (.string x0m : Value) := hu.at_ 2
   have kc3 : _ = some (.bool x0d : Value) := hu.at_ 3
   have kc4 : _ = some (.slice x0a x0l x0c : Value) := hu.at_ 4
   clear hu
   clear hdep
   go_simp
   exact hK _ _ rfl hW (fun _ _ h => h)
  ·
   intro x W
   refine ⟨fun _ hW hdep K hK => ?_, (fun h => absurd h (by decide)), (fun h => absurd h (by decide))⟩
   have h4 : x 4 = _ := hdep 4 rfl
   have hA : Rw11 (delV R t0.data.toList) W (x 3) := hdep 3 rfl
   have hc := HPU2.out _ W hA
   clear hdep
   simp only [h4] at hK
   go_simp
   refine hc.mono ?_
   rintro e W' ⟨v', rfl, hv, hb⟩
   exact hK _ _ hv (below_next hW hb) (fun j u h => YRd11_keep hb j u h)
  ·
   intro x W
   refine ⟨fun _ hW hdep K hK => ?_, (fun h => absurd h (by decide)), (fun h => absurd h (by decide))⟩
   clear hdep
   go_simp
   exact hK _ _ rfl hW (fun _ _ h => h)
  ·
   intro x W
   refine ⟨(fun h => absurd h (by decide)), fun _ hW hdep K hK => ?_, (fun h => absurd h (by decide))⟩
   have h6 : x 6 = _ := hdep 6 rfl
   have hA : Rw11 (putV (delV R t0.data.toList) s.data.toList ⟨x0h, x0m, x0d, x0a, x0g, x0c⟩) W (x 5) := hdep 5 rfl
   have hx := Hd84e.out.later hW
   have hr := Hr85e.out.later hW
   have f0 := hx.f0
   have k0 := hx.c0
   have hq : Rnd11 w (w.heap.size) (w.heap.size + 1) (putV (delV R t0.data.toList) s.data.toList ⟨x0h, x0m, x0d, x0a, x0g, x0c⟩) (.slice A1 n1 c1) wg113e (W.setCell ⟨w.heap.size, 0, none⟩ (x 5)) := ⟨_, hx.set0 _, hr.other (by omega) _, hA.keepD11 (hx.keep 0 _), (below_next HB88e.out hW).setCell (p := ⟨w.heap.size, 0, none⟩) (Nat.le_refl _) _, fun v N hn => (hn.later hW).keepD11 (hx.keep 0 _)⟩
   have h1c : (x 5).oneCell' = true := by obtain ⟨_, _, e⟩ := hA.us.shape; rw [e]; rfl
   generalize x 5 = v5 at *
   obtain ⟨A5, c5, rfl⟩ := hA.us.shape
   clear hA hx hr
   clear hdep
   simp only [h6] at hK
   go_simp
   exact hK undef _ trivial hq
 case fin =>
  intro x W hW _
  obtain ⟨v6, hx, hr, hv, hb, hN⟩ := hW
  obtain ⟨A6, c6, rfl⟩ := hv.us.shape
  have HD6 := Lib.hid hx
  have HR6 := Lib.hid hr
  have HB6 := Lib.hid hb
  have HV6 := Lib.hid hv
  have HG5 : Hid (Gs11 0 W (putV (delV R t0.data.toList) s.data.toList ⟨x0h, x0m, x0d, x0a, x0g, x0c⟩)) := ((HRC.out.later hb).2.del _).put _ _ ((HRC.out.later hb).2 (t0.data.toList, ⟨x0h, x0m, x0d, x0a, x0g, x0c⟩) ((getV_some HRI.out).1 HX0.out))
  have HPL : Hid (plainR (putV (delV R t0.data.toList) s.data.toList ⟨x0h, x0m, x0d, x0a, x0g, x0c⟩) = L') := by
   show _ = _
   rw [HE2.out, plainR_put, plainR_del, plainR_get, HX0.out]
   rfl
  obtain ⟨n6, hn6⟩ : ∃ m, m = (putV (delV R t0.data.toList) s.data.toList (⟨x0h, x0m, x0d, x0a, x0g, x0c⟩ : W11)).length := ⟨_, rfl⟩
  rw [← hn6] at HV6 HD6
  clear hx hr hv hb hN hn6 HE2 HDR HPU2
  have hd114e := HD6.out
  have kx115e := hd114e.c0
  have ky116e := hd114e.c1
  have kp117e := hd114e.f0
  have kq118e := hd114e.f1
  clear hd114e
  have hr119e := HR6.out
  have kx120e := hr119e.c0
  have ky121e := hr119e.c1
  have kp122e := hr119e.f0
  have kq123e := hr119e.f1
  clear hr119e
  have HS := fin211 HB6.out HR6.out (Nat.le_succ _) (.slice A6 n6 c6) (.slice A1 n1 c1)
  have z0 := HS.1.c0
  have z1 := HS.1.c1
  have HPOST := Lib.hid (show Doc11 0 L' N w (.returned (.tuple #[.agg #[.slice A6 n6 c6, .slice A1 n1 c1], .int .i64 0])) _ from ⟨_, _, _, rfl, ⟨HV6.out.keepD11 HS.2.2, HG5.out.keepD11 HS.2.2⟩, HPL.out, HNN.out.later HS.2.1, HS.2.1⟩)
  clear HS
  go_wp2
  refine bodyPost_ret (v := .tuple #[.agg #[.slice A6 n6 c6, .slice A1 n1 c1], .int .i64 0]) ?_ rfl HPOST.out
  simp [results, Tryz.results39, go_sem, z0, z1]
end Go.Proofs.YthlgmkfofebbfaaGreatDoor


namespace Go.Proofs.YthlgmkfofebbfaaGreatDoor
open Go.RowKit

def cur5 (x : UInt8) (j : Nat) : ByteArray := if 65 ≤ x.toNat ∧ x.toNat < 65 + j then ⟨#[x + 32]⟩ else ⟨#[x]⟩
theorem cur5_zero (x : UInt8) : cur5 x 0 = ⟨#[x]⟩ := by unfold cur5; rw [if_neg (by omega)]
theorem cur5_end (x : UInt8) : cur5 x 26 = ⟨#[foldC x]⟩ := by
 unfold cur5 foldC inR
 by_cases h : 65 ≤ x.toNat ∧ x.toNat < 65 + 26
 ·
  have : (decide (65 ≤ x.toNat) && decide (x.toNat ≤ 90)) = true := by simp; omega
  rw [if_pos h, if_pos this]
 ·
  have : ¬ (decide (65 ≤ x.toNat) && decide (x.toNat ≤ 90)) = true := by simp; omega
  rw [if_neg h, if_neg this]
theorem cur5_hit (x : UInt8) (j : Nat) (h : x.toNat = 65 + j) : cur5 x (j + 1) = ⟨#[x + 32]⟩ := by unfold cur5; rw [if_pos (by omega)]
theorem cur5_miss (x : UInt8) (j : Nat) (h : ¬ x.toNat = 65 + j) : cur5 x (j + 1) = cur5 x j := by
 unfold cur5
 by_cases h1 : 65 ≤ x.toNat ∧ x.toNat < 65 + j
 ·
  rw [if_pos h1, if_pos (by omega)]
 ·
  rw [if_neg h1, if_neg (by omega)]
theorem cur5_size (x : UInt8) (j : Nat) : (cur5 x j).size = 1 := by unfold cur5; split <;> rfl

def great5 : ByteArray := ⟨#[65, 66, 67, 68, 69, 70, 71, 72, 73, 74, 75, 76, 77, 78, 79, 80, 81, 82, 83, 84, 85, 86, 87, 88, 89, 90]⟩
def small5 : ByteArray := ⟨#[97, 98, 99, 100, 101, 102, 103, 104, 105, 106, 107, 108, 109, 110, 111, 112, 113, 114, 115, 116, 117, 118, 119, 120, 121, 122]⟩
theorem great5_size : great5.size = 26 := rfl
theorem great5_at : ∀ j, j < 26 → ∀ (h : j < great5.size), ((great5[j]'h).toNat : Int) = 65 + (j : Int) := by
 have h : ∀ j, j < 26 → ∀ (h : j < great5.size), (great5[j]'h).toNat = 65 + j := by decide +kernel
 intro j hj h2
 rw [h j hj h2]; omega
theorem small5_at (x : UInt8) (j : Nat) (hj : j < 26) (h : x.toNat = 65 + j) : small5.extract j (j + 1) = ⟨#[x + 32]⟩ := by
 have h1 : ∀ j, j < 26 → small5.extract j (j + 1) = ⟨#[UInt8.ofNat (65 + j) + 32]⟩ := by decide +kernel
 have hx : x = UInt8.ofNat (65 + j) := by rw [← h, UInt8.ofNat_toNat]
 rw [h1 j hj, hx]
theorem one_at (s : ByteArray) (i : Nat) (h : i < s.size) : s.extract i (i + 1) = ⟨#[s[i]]⟩ := by
 apply ByteArray.ext
 apply Array.ext'
 rw [ByteArray.data_extract]
 have : i < s.data.size := h
 apply List.ext_getElem
 ·
  simp; omega
 ·
  intro n h1 h2
  simp at h2
  subst h2
  simp
  rfl

theorem cut_at (s : ByteArray) (i : Nat) (y : ByteArray) (h : i < s.size) (e : s.extract i (i + 1) = y) (W : World) :
  (Instr.slice 9 (.string s) (some (.int .i64 i)) (some (.int .i64 ((i : Int) + 1))) none).run Tryz.prog W = .ok (.string y) W := by
 have h1 : ((i : Int) + 1) = ((i + 1 : Nat) : Int) := by omega
 rw [h1, run_slice_string W 9 s .i64 .i64 (i : Int) ((i + 1 : Nat) : Int) Tryz.underlying9 (by omega) (by omega) (by omega)]
 rw [← e]
 simp

set_option maxRecDepth 100000 in
theorem rfold_calls (s : ByteArray) (w : World) (hs : s.size ≤ 1000) :
  Calls Tryz.prog 114 #[.string s] w fun e w' => e = .returned (.string ⟨(fold5 s.data.toList).toArray⟩) ∧ ∃ q, w' = w.drewN q := by
 obtain ⟨r, hr⟩ : ∃ r, r = (⟨(fold5 s.data.toList).toArray⟩ : ByteArray) := ⟨_, rfl⟩
 rw [← hr]
 have HR := Lib.hid hr
 clear hr
 generalize hn : s.size = n at *
 have HN := Lib.hid hn
 clear hn
 have hgs := great5_size
 have HGA := Lib.hid great5_at
 go_enter Tryz.func114, Tryz.ntmps114
 go_wp2
 generalize hgr : (⟨#[65, 66, 67, 68, 69, 70, 71, 72, 73, 74, 75, 76, 77, 78, 79, 80, 81, 82, 83, 84, 85, 86, 87, 88, 89, 90]⟩ : ByteArray) = gr
 have hgr2 : great5 = gr := hgr
 rw [hgr2] at hgs HGA
 clear hgr hgr2
 go_loopg [4, 5, 6, 7] n (fun gg s4 s5 _ _ wr => ∃ i q : Nat, i ≤ n ∧ n - i ≤ gg ∧ s4 = .string ⟨(fold5 (s.data.toList.take i)).toArray⟩ ∧ s5 = .int .i64 i ∧ wr = w.drewN q)
 case atStart => exact ⟨0, 0, Nat.zero_le _, by omega, rfl, rfl, rfl⟩
 case round =>
  obtain ⟨i, q, hi, hg, rfl, rfl, rfl⟩ := hrel
  have hsz := HN.out
  by_cases hlt : i < n
  ·
   have hltz : (i : Int) < (n : Int) := by omega
   have his : i < s.size := by omega
   obtain ⟨o, ho⟩ : ∃ o, o = (⟨(fold5 (s.data.toList.take i)).toArray⟩ : ByteArray) := ⟨_, rfl⟩
   rw [← ho]
   have HO := Lib.hid ho
   have hos : o.size = i := by
    rw [ho]
    show (fold5 (s.data.toList.take i)).toArray.size = i
    rw [List.size_toArray, fold5, List.length_map, List.length_take, size_list]; omega
   clear ho
   have hx : ∀ (h : i < s.size), ((s[i]'h).toNat : Int) = bt5 s i := fun h => bt5_eq s i h
   have hex := one_at s i his
   rw [← cur5_zero] at hex
   obtain ⟨x, hxx⟩ : ∃ x, x = s[i] := ⟨_, rfl⟩
   rw [← hxx] at hex
   have hxn : bt5 s i = (x.toNat : Int) := by rw [hxx]; exact (hx his).symm
   have HX := Lib.hid hxx
   rw [hxn] at hx
   clear hxx hxn
   have hsl := cut_at s i _ his hex
   go_wp2
   go_loopg [6, 7, 19] 26 (fun gg s6 _ s19 wr => ∃ j q : Nat, j ≤ 26 ∧ 26 - j ≤ gg ∧ s6 = .string (cur5 x j) ∧ s19 = .int .i64 j ∧ wr = w.drewN q)
   case atStart => exact ⟨0, q, Nat.zero_le _, by omega, rfl, rfl, rfl⟩
   case round =>
    obtain ⟨j, q, hj, hg2, rfl, rfl, rfl⟩ := hrel
    by_cases hlj : j < 26
    ·
     have hljz : (j : Int) < 26 := by omega
     have hjs : j < gr.size := by omega
     have hgx := HGA.out j hlj
     by_cases hq : x.toNat = 65 + j
     ·
      have hq' : (x.toNat : Int) = 65 + (j : Int) := by omega
      have hsm := cut_at small5 j _ hlj (small5_at x j hlj hq)
      rw [← cur5_hit x j hq] at hsm
      have hsm2 : ∀ W, (Instr.slice 9 (.string ⟨#[97, 98, 99, 100, 101, 102, 103, 104, 105, 106, 107, 108, 109, 110, 111, 112, 113, 114, 115, 116, 117, 118, 119, 120, 121, 122]⟩) (some (.int .i64 j)) (some (.int .i64 ((j : Int) + 1))) none).run Tryz.prog W = .ok (.string (cur5 x (j + 1))) W := hsm
      clear hsm
      go_wp2_with fail
      go_quiet (fail)
      go_wp2
      go_roundg (26 - (j + 1))
      case measure => omega
      case rel => exact ⟨j + 1, _, by omega, by omega, rfl, by go_num, rfl⟩
     ·
      have hq' : ¬ (x.toNat : Int) = 65 + (j : Int) := by omega
      have hcu := cur5_miss x j hq
      generalize cur5 x j = c at *
      go_wp2_with fail
      go_quiet (fail)
      go_wp2
      go_roundg (26 - (j + 1))
      case measure => omega
      case rel => exact ⟨j + 1, _, by omega, by omega, by rw [hcu], by go_num, rfl⟩
    ·
     have hljz : ¬ (j : Int) < 26 := by omega
     obtain rfl : j = 26 := by omega
     obtain ⟨o2, ho2⟩ : ∃ o2, o2 = (⟨(fold5 (s.data.toList.take (i + 1))).toArray⟩ : ByteArray) := ⟨_, rfl⟩
     have hcs := cur5_size x 26
     have hadd : ∀ W, (Op.stringOp .add o (cur5 x 26)).run Tryz.prog W = .ok (.string o2) W := fun W => by
      rw [run_string_add_sum W _ _ (by omega)]
      congr 2
      rw [ho2, HO.out, cur5_end]
      apply ByteArray.ext
      have hls : i < s.data.toList.length := by rw [size_list]; exact his
      rw [List.take_succ_eq_append_getElem hls]
      have hxe : s.data.toList[i] = x := by rw [HX.out]; rfl
      simp [fold5, hxe]
     have HO2 := Lib.hid ho2
     clear ho2
     generalize cur5 x 26 = c at *
     go_wp2
     go_roundg (n - (i + 1))
     case measure => omega
     case rel => exact ⟨i + 1, _, by omega, by omega, by rw [HO2.out], by go_num, rfl⟩
  ·
   have hltz : ¬ (i : Int) < (n : Int) := by omega
   obtain rfl : i = n := by omega
   have he : (⟨(fold5 (s.data.toList.take i)).toArray⟩ : ByteArray) = r := by
    rw [HR.out, List.take_of_length_le (by rw [size_list]; omega)]
   rw [he]
   go_wp2
   go_ret
   exact ⟨rfl, q, rfl⟩
end Go.Proofs.YthlgmkfofebbfaaGreatDoor


namespace Go.Proofs.YthlgmkfofebbfaaGreatDoor
open Go.RowKit

theorem idx_hit (c : UInt8) : ∀ (l : List UInt8) (k : Nat) (hk : k < l.length), (∀ j (h : j < l.length), j < k → ¬ l[j] = c) → l[k] = c → Lib.indexByte l c = k
 | [], k, hk, _, _ => absurd hk (by simp)
 | x :: l, 0, _, _, h => by
  have : x = c := h
  unfold Lib.indexByte
  rw [if_pos (beq_iff_eq.2 this)]; rfl
 | x :: l, k + 1, hk, ha, h => by
  have h0 : ¬ x = c := ha 0 (by simp) (by omega)
  have ih := idx_hit c l k (by simpa using hk) (fun j hj hjk => ha (j + 1) (by simpa using hj) (by omega)) (by simpa using h)
  unfold Lib.indexByte
  rw [if_neg (by simpa using h0), ih]
  have : ((k : Int) == -1) = false := by simp
  rw [this]
  simp
theorem idx_none (c : UInt8) : ∀ (l : List UInt8), (∀ j (h : j < l.length), ¬ l[j] = c) → Lib.indexByte l c = -1
 | [], _ => rfl
 | x :: l, ha => by
  have h0 : ¬ x = c := ha 0 (by simp)
  have ih := idx_none c l (fun j hj => ha (j + 1) (by simpa using hj))
  unfold Lib.indexByte
  rw [if_neg (by simpa using h0), ih]
  rfl

theorem cut5_hit (l : List UInt8) (k : Nat) (hk : k < (fold5 l).length) (ha : ∀ j (h : j < (fold5 l).length), j < k → ¬ (fold5 l)[j] = 64) (h : (fold5 l)[k] = 64) :
  cut5 l = ((fold5 l).take k, (fold5 l).drop (k + 1), true) := by
 have hi := (Lib.index_one (fold5 l) 64).trans (idx_hit 64 _ k hk ha h)
 unfold cut5 Lib.cut
 rw [hi, if_pos (by omega)]
 simp
theorem cut5_none (l : List UInt8) (ha : ∀ j (h : j < (fold5 l).length), ¬ (fold5 l)[j] = 64) : (cut5 l).2.2 = false := by
 have hi := (Lib.index_one (fold5 l) 64).trans (idx_none 64 _ ha)
 unfold cut5 Lib.cut
 rw [hi, if_neg (by omega)]

theorem cut_to (s : ByteArray) (k : Nat) (h : k ≤ s.size) (W : World) :
  (Instr.slice 9 (.string s) none (some (.int .i64 k)) none).run Tryz.prog W = .ok (.string (s.extract 0 k)) W := by
 rw [run_slice_string_to_if W 9 s .i64 (k : Int) Tryz.underlying9]
 simp [h]

def RMails5 (b : Bool) (t : ByteArray) (w : World) (e : Ending) (w' : World) : Prop := e = .returned (.tuple #[.string t, .bool b]) ∧ ∃ q, w' = w.drewN q

set_option maxRecDepth 100000 in
theorem rmail_calls (s : ByteArray) (w : World) (hs : s.size ≤ 1000) :
  Calls Tryz.prog 57 #[.string s] w (RMails5 (mail5 s.data.toList) (mailT s.data.toList) w) := by
 by_cases h20 : s.size ≤ 20
 ·
  have hm1 : mail5 s.data.toList = ((cut5 s.data.toList).2.2 && name5 (cut5 s.data.toList).1 && dom5 both5 (cut5 s.data.toList).2.1) := by
   unfold mail5
   rw [size_list, decide_eq_true h20, Bool.true_and]
  have hfl : (fold5 s.data.toList).length = s.size := by rw [fold5_length, size_list]
  have HF := Lib.hid (rfold_calls s w hs)
  unfold mailT
  rw [hm1]
  clear hm1
  have HCH := Lib.hid (cut5_hit s.data.toList)
  have HCN := Lib.hid (cut5_none s.data.toList)
  generalize hcc : cut5 s.data.toList = c at *
  clear hcc
  generalize fold5 s.data.toList = l at *
  generalize hn : s.size = n at *
  have z : ¬ (n : Int) > 20 := by omega
  have z' : ¬ 20 < n := by omega
  obtain ⟨f, hf⟩ : ∃ f : ByteArray, f = ⟨l.toArray⟩ := ⟨_, rfl⟩
  have hfs : f.size = n := by rw [hf]; show l.toArray.size = n; rw [List.size_toArray, hfl]
  have hfl2 : f.data.toList = l := by rw [hf]
  have HGet : Hid (∀ j (h : j < l.length) (h2 : j < f.size), l[j] = f[j]) := fun j h h2 => by subst hf; rfl
  rw [← hf] at HF ⊢
  clear hf
  obtain ⟨r, hr⟩ : ∃ r : Bool, r = (c.2.2 && name5 c.1 && dom5 both5 c.2.1) := ⟨_, rfl⟩
  obtain ⟨rt, hrt⟩ : ∃ rt : ByteArray, rt = if (c.2.2 && name5 c.1 && dom5 both5 c.2.1) = true then f else ⟨#[]⟩ := ⟨_, rfl⟩
  rw [← hrt, ← hr]
  rw [← hr] at hrt
  have HR := Lib.hid hr
  have HRT := Lib.hid hrt
  have HFL := Lib.hid hfl
  have HFL2 := Lib.hid hfl2
  have HFS := Lib.hid hfs
  clear hr hrt hfl hfl2 hfs
  go_enter Tryz.func57, Tryz.ntmps57
  go_wp2_with fail
  with_reducible refine HF.out.mono ?_
  rintro e w1 ⟨rfl, q, rfl⟩
  have HQ : Hid (∃ q', w.drewN q = w.drewN q') := ⟨q, rfl⟩
  generalize w.drewN q = w1 at *
  clear HF
  have hfs := HFS.out
  go_wp2
  go_loopg [4] n (fun gg s4 wr => ∃ k : Nat, k ≤ n ∧ n - k ≤ gg ∧ s4 = .int .i64 k ∧ wr = w1 ∧ Hid (∀ j (h : j < l.length), j < k → ¬ l[j] = 64))
  case atStart => exact ⟨0, Nat.zero_le _, by omega, rfl, rfl, fun j _ hj => absurd hj (Nat.not_lt_zero _)⟩
  case round =>
   obtain ⟨k, hk, hg, rfl, rfl, A⟩ := hrel
   by_cases hlt : k < n
   ·
    have hltz : (k : Int) < (n : Int) := by omega
    have hkf : k < f.size := by omega
    have hkl : k < l.length := by have := HFL.out; omega
    have hx : ∀ (h : k < f.size), ((f[k]'h).toNat : Int) = bt5 f k := fun h => bt5_eq f k h
    have hlx := HGet.out k hkl hkf
    have h64 : l[k] = 64 ↔ bt5 f k = 64 := by
     rw [← hx hkf, hlx]
     constructor
     ·
      intro h; rw [h]; rfl
     ·
      intro h; exact UInt8.toNat_inj.1 (by have : (64 : UInt8).toNat = 64 := rfl; omega)
    by_cases hq : l[k] = 64
    ·
     have hq' := h64.1 hq
     have hcc := HCH.out k hkl A.out hq
     have hc1 : c.1 = l.take k := by rw [hcc]
     have hc2 : c.2.1 = l.drop (k + 1) := by rw [hcc]
     have hc3 : c.2.2 = true := by rw [hcc]
     have HNM := Lib.hid (rname_calls (f.extract 0 k) wr (by simp; omega))
     have hex : (f.extract 0 k).data.toList = l.take k := by
      rw [← HFL2.out]
      exact Lib.extract_from_zero f k
     rw [hex, ← hc1] at HNM
     have hct := cut_to f k (by omega)
     generalize f.extract 0 k = f1 at *
     have hr1 : r = (name5 c.1 && dom5 both5 (l.drop (k + 1))) := by rw [HR.out, hc3, hc2, Bool.true_and]
     clear HR HCH HCN hcc hc2 hc3 hc1 hex h64 hlx hq A
     generalize name5 c.1 = bn at *
     have zk : ¬ (k : Int) = (n : Int) := by omega
     have zk' : ¬ k = n := by omega
     have zkb : ((k : Int) == (n : Int)) = false := by simp; omega
     cases bn with
     | false =>
      have hr : r = false := hr1
      have hrt : rt = ⟨#[]⟩ := by rw [HRT.out, hr]; rfl
      subst hr; subst hrt
      clear hr1 HRT
      go_wp2_with fail
      with_reducible refine HNM.out.mono ?_
      rintro e w2 ⟨rfl, rfl⟩
      go_wp2
      go_ret2
      exact ⟨rfl, HQ.out⟩
     | true =>
      rw [Bool.true_and, ← scan5_dom] at hr1
      have HR1 := Lib.hid hr1
      clear hr1
      go_wp2_with fail
      with_reducible refine HNM.out.mono ?_
      rintro e w2 ⟨rfl, rfl⟩
      clear HNM hct
      go_wp2
      go_loopg [5, 6, 7] n (fun gg s5 s6 s7 wr => ∃ i st lg : Nat, i ≤ n ∧ n - i ≤ gg ∧ st ≤ i ∧ lg ≤ i ∧ s5 = .int .i64 st ∧ s6 = .int .i64 lg ∧ s7 = .int .i64 i ∧ wr = w2 ∧ Hid (r = scan5 both5 (l.drop i) st lg))
      case atStart => exact ⟨k + 1, 0, 0, by omega, by omega, by omega, by omega, rfl, rfl, by go_num, rfl, HR1⟩
      case round =>
       obtain ⟨i, st, lg, hi, hgi, hst, hlg, rfl, rfl, rfl, rfl, HS⟩ := hrel
       by_cases hil : i < n
       ·
        have hilz : (i : Int) < (n : Int) := by omega
        have hif : i < f.size := by omega
        have hill : i < l.length := by have := HFL.out; omega
        have hxi : ∀ (h : i < f.size), ((f[i]'h).toNat : Int) = bt5 f i := fun h => bt5_eq f i h
        have hli := HGet.out i hill hif
        have hsc : r = scan5 both5 (f[i] :: l.drop (i + 1)) st lg := by
         rw [HS.out, List.drop_eq_getElem_cons hill, hli]
        have HI := Lib.hid (hxi hif ▸ inboth_calls f[i] wr)
        have h46 : f[i] = 46 ↔ bt5 f i = 46 := by
         rw [← hxi hif]
         constructor
         ·
          intro h; rw [h]; rfl
         ·
          intro h; exact UInt8.toNat_inj.1 (by have : (46 : UInt8).toNat = 46 := rfl; omega)
        rw [scan5] at hsc
        clear hx
        by_cases hd : f[i] = 46
        ·
         rw [if_pos hd] at hsc
         have hd' := h46.1 hd
         clear h46 hd HI hli HS
         by_cases hl0 : lg = 0
         ·
          rw [if_pos hl0] at hsc
          have hrt : rt = ⟨#[]⟩ := by rw [HRT.out, hsc]; rfl
          subst hsc; subst hrt
          have zl : (lg : Int) = 0 := by omega
          clear HRT
          go_wp2
          go_ret2
          exact ⟨rfl, HQ.out⟩
         ·
          rw [if_neg hl0] at hsc
          have zl : ¬ (lg : Int) = 0 := by omega
          have HS2 := Lib.hid hsc
          clear hsc
          go_wp2
          go_roundg (n - (i + 1))
          case measure => omega
          case rel => exact ⟨i + 1, st + 1, 0, by omega, by omega, by omega, by omega, by go_num, rfl, by go_num, rfl, HS2⟩
        ·
         rw [if_neg hd] at hsc
         have hd' : ¬ bt5 f i = 46 := fun h => hd (h46.2 h)
         clear h46 hd hli HS
         generalize both5 f[i] = bb at *
         cases bb with
         | false =>
          have hrf : r = false := hsc
          have hrt : rt = ⟨#[]⟩ := by rw [HRT.out, hrf]; rfl
          subst hrf; subst hrt
          clear HRT hsc
          go_wp2_with fail
          with_reducible refine HI.out.mono ?_
          rintro e w3 ⟨rfl, rfl⟩
          go_wp2
          go_ret2
          exact ⟨rfl, HQ.out⟩
         | true =>
          have HS2 : Hid (r = scan5 both5 (l.drop (i + 1)) st (lg + 1)) := hsc
          clear hsc
          go_wp2_with (go_at_call 115; with_reducible refine HI.out.mono ?_; rintro e w3 ⟨rfl, rfl⟩)
          go_roundg (n - (i + 1))
          case measure => omega
          case rel => exact ⟨i + 1, st, lg + 1, by omega, by omega, by omega, by omega, rfl, by go_num, by go_num, rfl, HS2⟩
       ·
        have hilz : ¬ (i : Int) < (n : Int) := by omega
        obtain rfl : i = n := by omega
        have hnil : l.drop i = [] := List.drop_eq_nil_of_le (by have := HFL.out; omega)
        have hsc : r = (decide (1 ≤ st) && decide (1 ≤ lg)) := by rw [HS.out, hnil]; rfl
        clear hnil HS hx
        by_cases hs0 : st = 0
        ·
         have hrf : r = false := by rw [hsc, decide_eq_false (by omega)]; rfl
         have hrt : rt = ⟨#[]⟩ := by rw [HRT.out, hrf]; rfl
         subst hrf; subst hrt
         clear hsc HRT
         have zs : (st : Int) = 0 := by omega
         go_wp2
         go_ret2
         exact ⟨rfl, HQ.out⟩
        ·
         have zs : ¬ (st : Int) = 0 := by omega
         have zsb : ((st : Int) == 0) = false := by simp; omega
         by_cases hl0 : lg = 0
         ·
          have hrf : r = false := by rw [hsc, decide_eq_false (by omega : ¬ 1 ≤ lg), Bool.and_false]
          have hrt : rt = ⟨#[]⟩ := by rw [HRT.out, hrf]; rfl
          subst hrf; subst hrt
          clear hsc HRT
          have zl : (lg : Int) = 0 := by omega
          go_wp2
          go_ret2
          exact ⟨rfl, HQ.out⟩
         ·
          have zl : ¬ (lg : Int) = 0 := by omega
          have zlb : ((lg : Int) == 0) = false := by simp; omega
          have hrf : r = true := by rw [hsc, decide_eq_true (by omega : 1 ≤ st), decide_eq_true (by omega : 1 ≤ lg)]; rfl
          have hrt : rt = f := by rw [HRT.out, hrf]; rfl
          subst hrf; subst hrt
          clear hsc HRT
          go_wp2
          go_ret2
          exact ⟨rfl, HQ.out⟩
    ·
     have hq' : ¬ bt5 f k = 64 := fun h => hq (h64.2 h)
     have HQ2 := Lib.hid hq
     clear hq h64 hlx
     go_wp2
     go_roundg (n - (k + 1))
     case measure => omega
     case rel =>
      refine ⟨k + 1, by omega, by omega, by go_num, rfl, (show Hid _ from fun j h hj => ?_)⟩
      by_cases e : j = k
      ·
       subst e
       exact HQ2.out
      ·
       exact A.out j h (by omega)
   ·
    have hltz : ¬ (k : Int) < (n : Int) := by omega
    obtain rfl : k = n := by omega
    have hb : c.2.2 = false := HCN.out fun j hj => A.out j hj (by have := HFL.out; omega)
    have hr : r = false := by rw [HR.out, hb]; rfl
    have hrt : rt = ⟨#[]⟩ := by rw [HRT.out, hr]; rfl
    subst hr; subst hrt
    clear hb
    go_wp2
    go_ret2
    exact ⟨rfl, HQ.out⟩
 ·
  have hm1 : mail5 s.data.toList = false := by
   unfold mail5
   rw [size_list, decide_eq_false h20]; rfl
  have hm2 : mailT s.data.toList = ⟨#[]⟩ := by unfold mailT; rw [hm1]; rfl
  rw [hm1, hm2]
  clear hm1 hm2
  generalize hn : s.size = n at *
  have z : (n : Int) > 20 := by omega
  have z' : 20 < n := by omega
  go_enter Tryz.func57, Tryz.ntmps57
  go_wp2
  go_ret2
  exact ⟨rfl, 0, rfl⟩
end Go.Proofs.YthlgmkfofebbfaaGreatDoor

