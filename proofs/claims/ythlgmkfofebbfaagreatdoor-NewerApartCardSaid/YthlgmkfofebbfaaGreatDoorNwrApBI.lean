/-
  The texts that the laws of this seat share, part 9: what the code and the document's own answers tell, walked function by function.
  Conditions: each theorem's own.
-/
import Derived.ProofKit
import Derived.OpenShut
import Derived.Lay
import Derived.SevenTiedAt
import Derived.MakeChecks
import Derived.Shelf.Vars
import Derived.ChangeOld
import Derived.SliceStrings
import Derived.Deep.Slices
import Derived.SizedLaws
import Derived.Test.YthlgmkfofebbfaaGreatDoorNwrApBA
import Derived.Test.YthlgmkfofebbfaaGreatDoorNwrApBB
import Derived.Test.YthlgmkfofebbfaaGreatDoorNwrApBC
import Derived.Test.YthlgmkfofebbfaaGreatDoorNwrApBD
import Derived.Test.YthlgmkfofebbfaaGreatDoorNwrApBE
import Derived.Test.YthlgmkfofebbfaaGreatDoorNwrApBF
import Derived.Test.YthlgmkfofebbfaaGreatDoorNwrApBG
import Derived.Test.YthlgmkfofebbfaaGreatDoorNwrApBH
namespace Go.Proofs.YthlgmkfofebbfaaGreatDoor
open Go.RowKit Go.Maps
set_option linter.unusedVariables false

def Act11 (W : World) (b : Nat) (kd : Nat) (x y : ByteArray) (z : Bool) : Prop := W.heap[b]? = some (.cells #[.int .u8 (kd : Int), .string x, .string y, .bool z] 32 (0, 0))
section
variable {W W' : World} {b kd : Nat} {x y : ByteArray} {z : Bool}
theorem Act11.c0 (h : Act11 W b kd x y z) : W.cell? ⟨b, 0, none⟩ = some (.int .u8 (kd : Int)) := by unfold Act11 at h; simp [World.cell?, h]
theorem Act11.c1 (h : Act11 W b kd x y z) : W.cell? ⟨b, 1, none⟩ = some (.string x) := by unfold Act11 at h; simp [World.cell?, h]
theorem Act11.c2 (h : Act11 W b kd x y z) : W.cell? ⟨b, 2, none⟩ = some (.string y) := by unfold Act11 at h; simp [World.cell?, h]
theorem Act11.c3 (h : Act11 W b kd x y z) : W.cell? ⟨b, 3, none⟩ = some (.bool z) := by unfold Act11 at h; simp [World.cell?, h]
theorem Act11.lt (h : Act11 W b kd x y z) : b < W.heap.size := (Array.getElem?_eq_some_iff.1 h).1
theorem Act11.later (h : Act11 W b kd x y z) (hb : Below W.heap.size W W') : Act11 W' b kd x y z := (hb.block b h.lt).trans h
theorem Act11.other (h : Act11 W b kd x y z) {c i : Nat} (hne : b ≠ c) (v : Value) : Act11 (W.setCell ⟨c, i, none⟩ v) b kd x y z := (Below.heap_setCell _ _ _ _ hne).trans h
theorem act11_new (W : World) (kd : Nat) (x y : ByteArray) (z : Bool) : Act11 (W.alloc (.cells #[.int .u8 (kd : Int), .string x, .string y, .bool z] 32)) W.heap.size kd x y z := (MapKept.heap_alloc W _).1
end
theorem Bx11.keeps11 {W W' : World} {b : Nat} {v1 v2 : Value} (h : Bx11 W b v1 v2) (hk : Keeps11 W W') : Bx11 W' b v1 v2 := hk _ _ _ _ h (by decide) (by decide) (by decide)
theorem NmR.keeps11 {W W' : World} {v : Value} {N : List (List UInt8)} (h : NmR W v N) (hk : Keeps11 W W') : NmR W' v N := ownsRow_keeps11 h hk (by decide) (by decide) (by decide)
theorem Keeps11.cellN11 {w W : World} {c i : Nat} (h : Keeps11 w W) (hc : w.heap.size ≤ c) (x : Value) : Keeps11 w (W.setCell ⟨c, i, none⟩ x) := fun j cs T fr hj h1 h2 h3 => by
 have hlt := (Array.getElem?_eq_some_iff.1 hj).1
 exact (Below.heap_setCell _ _ _ _ (show j ≠ c by omega)).trans (h j cs T fr hj h1 h2 h3)
section
variable {w0 W : World} {D P M G : Nat} {A : Acc11} {L : Row7} {S : Grs10} {k : Nat}
theorem Own11.cell11 (h : Own11 w0 W D P M G A L S) {c i : Nat} {v1 v2 : Value} (hc : Bx11 W c v1 v2) (h0 : w0.heap.size ≤ c) (x : Value) : Own11 w0 (W.setCell ⟨c, i, none⟩ x) D P M G A L S := by
 obtain ⟨p, q, LM, pg, T, hd, hS, h2, h3⟩ := h
 have ht : Turns (fun j => j = c) W (W.setCell ⟨c, i, none⟩ x) := (Turns.refl (fun j => j = c) W).setCell (p := ⟨c, i, none⟩) (fun _ => rfl) x
 refine ⟨p, q, LM, pg, T, ⟨(ht.block D hd.lt (cells_ne11 hd.blk hc (by decide))).trans hd.blk, hd.acc.kept (ht.block P hd.acc.lt (acc_ne11 hd.acc hc)), hd.idx.turnsF ht (fun j hj e => ?_), hd.grp.turnsF ht (fun j hj e => ?_), hd.sep1, hd.sep2, hd.sep3⟩, hS, h2, h3.trans (ht.below_at h3.size (fun j e => by omega))⟩
 ·
  subst e; exact fpM_cells hd.idx hc (by decide) hj
 ·
  subst e; exact fpG_cells hd.grp hc (by decide) hj
theorem de_one11 (hg : Good11 A L S k) (n : List UInt8) : One11 (deA11 A n) (deL11 A L n) (deS11 A S n) (ddeL (tell11 A L S) n) (names10 S) (k + 1) := by
 unfold deA11 deL11 deS11
 by_cases e : deE11 A n = 0
 ·
  rw [if_pos e, if_pos e, if_pos e]; exact de_one hg n e
 ·
  rw [if_neg e, if_neg e, if_neg e]
  unfold ddeL
  rw [de_same, if_neg e]
  exact ⟨hg.mono (Nat.le_succ _), rfl, rfl⟩
def Did11 (w0 : World) (D P M G k : Nat) (W : World) (T0 : Usr11) (kd : Nat) (a b : List UInt8) (e : Ending) (w' : World) : Prop :=
 ∃ A L S R v vg, e = .returned (.tuple #[.agg #[v, vg], .bool true]) ∧ Own11 w0 w' D P M G A L S ∧ Good11 A L S (k + 1) ∧ Rc11 0 R w' v ∧ NmR w' vg (names10 S) ∧ plainR R = tell11 A L S ∧ Keeps11 W w' ∧ Others11 kd a b T0 (tell11 A L S)
theorem rows_facts11 {R : RowV W11} (hg : Good11 A L S k) (hp : plainR R = tell11 A L S) : R.length ≤ 12 ∧ RiseV R ∧ (names10 S).length ≤ 900 ∧ ∀ p ∈ R, p.2.gs.length ≤ 12 := by
 have hf := hg.grp.few
 refine ⟨?_, plainR_rise.1 (by rw [hp]; exact tell_rise hg.rise), by rw [names10_length]; omega, fun p hpp => ?_⟩
 ·
  rw [← plainR_len, hp, tell_len]; exact hg.few
 ·
  have h1 : (p.1, p.2.u) ∈ plainR R := List.mem_map.2 ⟨p, hpp, rfl⟩
  rw [hp] at h1
  obtain ⟨q, _, e⟩ := List.mem_map.1 h1
  injection e with _ e
  have : p.2.gs = of10 S q.1 := by
   have := congrArg U11.gs e
   exact this.symm
  rw [this]
  have := of10_le S q.1
  omega

set_option maxRecDepth 100000 in
set_option maxHeartbeats 8000000 in
theorem do11_0 (R : RowV W11) (v vg : Value) (kd : Nat) (a b : ByteArray) (z : Bool) (w : World) (ho : Own11 w0 w D P M G A L S) (hg : Good11 A L S k) (hk : k ≤ 90) (h5 : Len5 w0) (hR : Rc11 0 R w v) (hN : NmR w vg (names10 S)) (hp : plainR R = tell11 A L S) (ha : a.size ≤ 50) (hb5 : b.size ≤ 50) (hkd : kd % 11 = 0) :
  Calls Tryz.prog 10 #[.pointer (some ⟨D, 0, none⟩), .agg #[v, vg], .agg #[.int .u8 (kd : Int), .string a, .string b, .bool z]] w (Did11 w0 D P M G k w (tell11 A L S) kd a.data.toList b.data.toList) := by
 obtain ⟨f1, f2, f3, f4⟩ := rows_facts11 hg hp
 have HRF : Hid (∀ W', Below w.heap.size w W' → Calls Tryz.prog 32 #[.agg #[v, vg], .string a, .string b] W' (Doc11 (crE11 A a.data.toList b.data.toList) (dcrL (tell11 A L S) a.data.toList b.data.toList) (names10 S) W')) := fun W' hb => by
  have hR := hR.later hb
  have hN := hN.later hb
  have h := rcreated11_calls _ _ R _ a b W' hR hN f1 f2 (by omega) (by omega)
  rw [hp] at h
  have e := (show _ = crE11 A a.data.toList b.data.toList from cr_same (A := A) (L := L) (S := S) _ _)
  rwa [e] at h
 have HDO : Hid (∀ W', Own11 w0 W' D P M G A L S → Calls Tryz.prog 27 #[.pointer (some ⟨D, 0, none⟩), .string a, .string b] W' fun e w' => e = .returned (.int .i64 (crE11 A a.data.toList b.data.toList)) ∧ Goes11 w0 W' D P M G (crA11 A a.data.toList b.data.toList) (L) (S) w') := fun W' ho => create11_calls a b ho hg (by omega) (by omega)
 have HONE : Hid (One11 (crA11 A a.data.toList b.data.toList) (L) (S) (dcrL (tell11 A L S) a.data.toList b.data.toList) (names10 S) (k + 1)) := cr_one hg _ _
 have HRT : Hid (RiseV (tell11 A L S)) := tell_rise hg.rise
 have HOTH : Hid (Others11 kd a.data.toList b.data.toList (tell11 A L S) (dcrL (tell11 A L S) a.data.toList b.data.toList)) := oth_cr HRT.out hkd
 have hrem : (kd : Int).tmod 11 = 0 := by
  have : (kd : Int).tmod 11 = ((kd % 11 : Nat) : Int) := rfl
  rw [this, hkd]; rfl
 have hzd : ∀ w : World, (zeroValue TD11).run Tryz.prog w = .ok (.agg #[.slice none 0 0, .slice none 0 0]) w := fun w => by kernel_rfl
 have HO := Lib.hid ho
 have HW0 : Hid (w0.heap.size ≤ w.heap.size) := ho.below.size
 obtain ⟨A0, c, rfl⟩ := hR.rw.us.shape
 obtain ⟨A1, c1, rfl⟩ := hN.shape
 clear ho hg hR hN hp h5 f1 f2 f3 f4 hkd
 generalize R.length = n at *
 generalize (names10 S).length = n1 at *
 generalize crE11 A a.data.toList b.data.toList = E at HRF HDO HONE HOTH
 generalize crA11 A a.data.toList b.data.toList = A' at HRF HDO HONE HOTH
 generalize dcrL (tell11 A L S) a.data.toList b.data.toList = l' at HRF HDO HONE HOTH
 generalize hnx : names10 S = nx at HRF HONE
 have Hd1j0 : Hid (Bx11 (w.alloc (.cells #[.slice A0 n c, .slice A1 n1 c1] TD11)) (w.heap.size) (.slice A0 n c) (.slice A1 n1 c1)) := bx11_new w _ _
 have HLO2j0 : Hid (w.heap.size ≤ w.heap.size) := by show _ ≤ _; omega
 have HB3j0 : Hid (Below w.heap.size w (w.alloc (.cells #[.slice A0 n c, .slice A1 n1 c1] TD11))) := below_alloc (Below.refl _ _) _
 have Hd4j0 := Lib.hid (Hd1j0.out.later (below_alloc (Below.refl _ _) (.cells #[.int .u8 (kd : Int), .string a, .string b, .bool z] 32)))
 have Ha5j0 : Hid (Act11 ((w.alloc (.cells #[.slice A0 n c, .slice A1 n1 c1] TD11)).alloc (.cells #[.int .u8 (kd : Int), .string a, .string b, .bool z] 32)) (w.heap.size + 1) (kd) (a) (b) (z)) := by
  have hq : Act11 ((w.alloc (.cells #[.slice A0 n c, .slice A1 n1 c1] TD11)).alloc (.cells #[.int .u8 (kd : Int), .string a, .string b, .bool z] 32)) (w.alloc (.cells #[.slice A0 n c, .slice A1 n1 c1] TD11)).heap.size (kd) (a) (b) (z) := act11_new (w.alloc (.cells #[.slice A0 n c, .slice A1 n1 c1] TD11)) _ _ _ _
  simp only [World.size_alloc] at hq
  exact hq
 have HLO6j0 : Hid (w.heap.size ≤ w.heap.size + 1) := by show _ ≤ _; omega
 have HB7j0 := Lib.hid (below_next HB3j0.out (below_alloc (Below.refl _ _) (.cells #[.int .u8 (kd : Int), .string a, .string b, .bool z] 32)))
 have Hd8j0 := Lib.hid (Hd4j0.out.later (below_alloc (Below.refl _ _) (.cells #[.slice none 0 0, .slice none 0 0] TD11)))
 have Ha9j0 := Lib.hid (Ha5j0.out.later (below_alloc (Below.refl _ _) (.cells #[.slice none 0 0, .slice none 0 0] TD11)))
 have Hr10j0 : Hid (Bx11 (((w.alloc (.cells #[.slice A0 n c, .slice A1 n1 c1] TD11)).alloc (.cells #[.int .u8 (kd : Int), .string a, .string b, .bool z] 32)).alloc (.cells #[.slice none 0 0, .slice none 0 0] TD11)) (w.heap.size + 2) (.slice none 0 0) (.slice none 0 0)) := by
  have hq : Bx11 (((w.alloc (.cells #[.slice A0 n c, .slice A1 n1 c1] TD11)).alloc (.cells #[.int .u8 (kd : Int), .string a, .string b, .bool z] 32)).alloc (.cells #[.slice none 0 0, .slice none 0 0] TD11)) ((w.alloc (.cells #[.slice A0 n c, .slice A1 n1 c1] TD11)).alloc (.cells #[.int .u8 (kd : Int), .string a, .string b, .bool z] 32)).heap.size (.slice none 0 0) (.slice none 0 0) := bx11_new ((w.alloc (.cells #[.slice A0 n c, .slice A1 n1 c1] TD11)).alloc (.cells #[.int .u8 (kd : Int), .string a, .string b, .bool z] 32)) _ _
  simp only [World.size_alloc] at hq
  exact hq
 have HLO11j0 : Hid (w.heap.size ≤ w.heap.size + 2) := by show _ ≤ _; omega
 have HB12j0 := Lib.hid (below_next HB7j0.out (below_alloc (Below.refl _ _) (.cells #[.slice none 0 0, .slice none 0 0] TD11)))
 go_enter Tryz.func10, Tryz.ntmps10
 have hd13j0 := Hd8j0.out
 have kx14j0 := hd13j0.c0
 have ky15j0 := hd13j0.c1
 have kp16j0 := hd13j0.f0
 have kq17j0 := hd13j0.f1
 clear hd13j0
 have ha18j0 := Ha9j0.out
 have kx19j0 := ha18j0.c0
 have ky20j0 := ha18j0.c1
 have kz21j0 := ha18j0.c2
 have kw22j0 := ha18j0.c3
 clear ha18j0
 have hr23j0 := Hr10j0.out
 have kx24j0 := hr23j0.c0
 have ky25j0 := hr23j0.c1
 have kp26j0 := hr23j0.f0
 have kq27j0 := hr23j0.f1
 clear hr23j0
 go_wp2_with fail
 generalize ((w.alloc (.cells #[.slice A0 n c, .slice A1 n1 c1] TD11)).alloc (.cells #[.int .u8 (kd : Int), .string a, .string b, .bool z] 32)).alloc (.cells #[.slice none 0 0, .slice none 0 0] TD11) = wg28j0 at *
 with_reducible refine (HRF.out wg28j0 HB12j0.out).mono ?_
 rintro e w2 ⟨R2, u1, u2, rfl, hrc, hpl, hnm, hb⟩
 clear kx14j0 ky15j0 kp16j0 kq17j0 kx19j0 ky20j0 kz21j0 kw22j0 kx24j0 ky25j0 kp26j0 kq27j0
 have Hd29j0 := Lib.hid (Hd8j0.out.later hb)
 have Ha30j0 := Lib.hid (Ha9j0.out.later hb)
 have Hr31j0 := Lib.hid (Hr10j0.out.later hb)
 have HB32j0 := Lib.hid (below_next HB12j0.out hb)
 obtain ⟨A2, c2, rfl⟩ := hrc.rw.us.shape
 obtain ⟨A3, c3, rfl⟩ := hnm.shape
 have HRC := Lib.hid hrc
 have HPL := Lib.hid hpl
 have HNM := Lib.hid hnm
 clear hrc hpl hnm HRF
 obtain ⟨n2, hn2⟩ : ∃ m, m = R2.length := ⟨_, rfl⟩
 obtain ⟨n3, hn3⟩ : ∃ m, m = List.length nx := ⟨_, rfl⟩
 rw [← hn2] at HRC ⊢
 rw [← hn3] at HNM ⊢
 clear hn2 hn3
 clear hb
 have hd33j0 := Hd29j0.out
 have kx34j0 := hd33j0.c0
 have ky35j0 := hd33j0.c1
 have kp36j0 := hd33j0.f0
 have kq37j0 := hd33j0.f1
 clear hd33j0
 have ha38j0 := Ha30j0.out
 have kx39j0 := ha38j0.c0
 have ky40j0 := ha38j0.c1
 have kz41j0 := ha38j0.c2
 have kw42j0 := ha38j0.c3
 clear ha38j0
 have hr43j0 := Hr31j0.out
 have kx44j0 := hr43j0.c0
 have ky45j0 := hr43j0.c1
 have kp46j0 := hr43j0.f0
 have kq47j0 := hr43j0.f1
 clear hr43j0
 have Hd48j0 : Hid (Bx11 (w2.setCell ⟨w.heap.size, 0, none⟩ (.slice A2 n2 c2)) (w.heap.size) (.slice A2 n2 c2) (.slice A1 n1 c1)) := Hd29j0.out.set0 _
 have Ha49j0 : Hid (Act11 (w2.setCell ⟨w.heap.size, 0, none⟩ (.slice A2 n2 c2)) (w.heap.size + 1) (kd) (a) (b) (z)) := Ha30j0.out.other (by omega) _
 have Hr50j0 : Hid (Bx11 (w2.setCell ⟨w.heap.size, 0, none⟩ (.slice A2 n2 c2)) (w.heap.size + 2) (.slice none 0 0) (.slice none 0 0)) := Hr31j0.out.other (by omega) _
 have HB51j0 : Hid (Below w.heap.size w (w2.setCell ⟨w.heap.size, 0, none⟩ (.slice A2 n2 c2))) := HB32j0.out.setCell (p := ⟨w.heap.size, 0, none⟩) HLO2j0.out _
 have hd52j0 := Hd48j0.out
 have kx53j0 := hd52j0.c0
 have ky54j0 := hd52j0.c1
 have kp55j0 := hd52j0.f0
 have kq56j0 := hd52j0.f1
 clear hd52j0
 have ha57j0 := Ha49j0.out
 have kx58j0 := ha57j0.c0
 have ky59j0 := ha57j0.c1
 have kz60j0 := ha57j0.c2
 have kw61j0 := ha57j0.c3
 clear ha57j0
 have hr62j0 := Hr50j0.out
 have kx63j0 := hr62j0.c0
 have ky64j0 := hr62j0.c1
 have kp65j0 := hr62j0.f0
 have kq66j0 := hr62j0.f1
 clear hr62j0
 have Hd67j0 : Hid (Bx11 ((w2.setCell ⟨w.heap.size, 0, none⟩ (.slice A2 n2 c2)).setCell ⟨w.heap.size, 1, none⟩ (.slice A3 n3 c3)) (w.heap.size) (.slice A2 n2 c2) (.slice A3 n3 c3)) := Hd48j0.out.set1 _
 have Ha68j0 : Hid (Act11 ((w2.setCell ⟨w.heap.size, 0, none⟩ (.slice A2 n2 c2)).setCell ⟨w.heap.size, 1, none⟩ (.slice A3 n3 c3)) (w.heap.size + 1) (kd) (a) (b) (z)) := Ha49j0.out.other (by omega) _
 have Hr69j0 : Hid (Bx11 ((w2.setCell ⟨w.heap.size, 0, none⟩ (.slice A2 n2 c2)).setCell ⟨w.heap.size, 1, none⟩ (.slice A3 n3 c3)) (w.heap.size + 2) (.slice none 0 0) (.slice none 0 0)) := Hr50j0.out.other (by omega) _
 have HB70j0 : Hid (Below w.heap.size w ((w2.setCell ⟨w.heap.size, 0, none⟩ (.slice A2 n2 c2)).setCell ⟨w.heap.size, 1, none⟩ (.slice A3 n3 c3))) := HB51j0.out.setCell (p := ⟨w.heap.size, 1, none⟩) HLO2j0.out _
 have HKD : Hid (KeepD11 w2 ((w2.setCell ⟨w.heap.size, 0, none⟩ (.slice A2 n2 c2)).setCell ⟨w.heap.size, 1, none⟩ (.slice A3 n3 c3))) := (Hd29j0.out.keep 0 _).trans (Hd48j0.out.keep 1 _)
 have hd71j0 := Hd67j0.out
 have kx72j0 := hd71j0.c0
 have ky73j0 := hd71j0.c1
 have kp74j0 := hd71j0.f0
 have kq75j0 := hd71j0.f1
 clear hd71j0
 have ha76j0 := Ha68j0.out
 have kx77j0 := ha76j0.c0
 have ky78j0 := ha76j0.c1
 have kz79j0 := ha76j0.c2
 have kw80j0 := ha76j0.c3
 clear ha76j0
 have hr81j0 := Hr69j0.out
 have kx82j0 := hr81j0.c0
 have ky83j0 := hr81j0.c1
 have kp84j0 := hr81j0.f0
 have kq85j0 := hr81j0.f1
 clear hr81j0
 go_wp2_with fail
 generalize (w2.setCell ⟨w.heap.size, 0, none⟩ (.slice A2 n2 c2)).setCell ⟨w.heap.size, 1, none⟩ (.slice A3 n3 c3) = wg86j0 at *
 with_reducible refine (HDO.out wg86j0 (HO.out.later HB70j0.out)).mono ?_
 rintro e w5 ⟨rfl, hgo⟩
 clear kx34j0 ky35j0 kp36j0 kq37j0 kx39j0 ky40j0 kz41j0 kw42j0 kx44j0 ky45j0 kp46j0 kq47j0 kx53j0 ky54j0 kp55j0 kq56j0 kx58j0 ky59j0 kz60j0 kw61j0 kx63j0 ky64j0 kp65j0 kq66j0 kx72j0 ky73j0 kp74j0 kq75j0 kx77j0 ky78j0 kz79j0 kw80j0 kx82j0 ky83j0 kp84j0 kq85j0
 have Hd87j0 : Hid (Bx11 (w5) (w.heap.size) (.slice A2 n2 c2) (.slice A3 n3 c3)) := Hd67j0.out.keeps11 hgo.2
 have Hr88j0 : Hid (Bx11 (w5) (w.heap.size + 2) (.slice none 0 0) (.slice none 0 0)) := Hr69j0.out.keeps11 hgo.2
 have HRC5 : Hid (Rc11 0 R2 w5 (.slice A2 n2 c2)) := (HRC.out.keepD11 HKD.out).keeps hgo.2
 have HNM5 : Hid (NmR w5 (.slice A3 n3 c3) nx) := (HNM.out.keepD11 HKD.out).keeps11 hgo.2
 have HK5 : Hid (Keeps11 w w5) := (Keeps11.of_below HB70j0.out).trans hgo.2
 have HO5 := Lib.hid hgo.1
 clear hgo HDO HO HRC HNM HKD
 have hd89j0 := Hd87j0.out
 have kx90j0 := hd89j0.c0
 have ky91j0 := hd89j0.c1
 have kp92j0 := hd89j0.f0
 have kq93j0 := hd89j0.f1
 clear hd89j0
 have hr94j0 := Hr88j0.out
 have kx95j0 := hr94j0.c0
 have ky96j0 := hr94j0.c1
 have kp97j0 := hr94j0.f0
 have kq98j0 := hr94j0.f1
 clear hr94j0
 have HRES : Hid (Bx11 ((w5.setCell ⟨w.heap.size + 2, 0, none⟩ (.slice A2 n2 c2)).setCell ⟨w.heap.size + 2, 1, none⟩ (.slice A3 n3 c3)) (w.heap.size + 2) (.slice A2 n2 c2) (.slice A3 n3 c3)) := (Hr88j0.out.set0 _).set1 _
 have HKF : Hid (KeepD11 w5 ((w5.setCell ⟨w.heap.size + 2, 0, none⟩ (.slice A2 n2 c2)).setCell ⟨w.heap.size + 2, 1, none⟩ (.slice A3 n3 c3))) := (Hr88j0.out.keep 0 _).trans ((Hr88j0.out.set0 _).keep 1 _)
 have HOF : Hid (Own11 w0 ((w5.setCell ⟨w.heap.size + 2, 0, none⟩ (.slice A2 n2 c2)).setCell ⟨w.heap.size + 2, 1, none⟩ (.slice A3 n3 c3)) D P M G A' L S) := (HO5.out.cell11 Hr88j0.out (Nat.le_trans HW0.out (by omega)) _).cell11 (Hr88j0.out.set0 _) (Nat.le_trans HW0.out (by omega)) _
 have HKP : Hid (Keeps11 w ((w5.setCell ⟨w.heap.size + 2, 0, none⟩ (.slice A2 n2 c2)).setCell ⟨w.heap.size + 2, 1, none⟩ (.slice A3 n3 c3))) := (HK5.out.cellN11 (by omega) _).cellN11 (by omega) _
 have HPOST : Hid (Did11 w0 D P M G k w (tell11 A L S) kd a.data.toList b.data.toList (.returned (.tuple #[.agg #[.slice A2 n2 c2, .slice A3 n3 c3], .bool true])) ((w5.setCell ⟨w.heap.size + 2, 0, none⟩ (.slice A2 n2 c2)).setCell ⟨w.heap.size + 2, 1, none⟩ (.slice A3 n3 c3))) := ⟨_, _, _, R2, _, _, rfl, HOF.out, HONE.out.1, HRC5.out.keepD11 HKF.out, by rw [HONE.out.2.2]; exact HNM5.out.keepD11 HKF.out, by rw [HPL.out, HONE.out.2.1], HKP.out, by rw [HONE.out.2.1]; exact HOTH.out⟩
 have z0 := HRES.out.c0
 have z1 := HRES.out.c1
 go_wp2
 refine bodyPost_ret (v := .tuple #[.agg #[.slice A2 n2 c2, .slice A3 n3 c3], .bool true]) ?_ rfl HPOST.out
 simp [results, Tryz.results10, go_sem, z0, z1]

set_option maxRecDepth 100000 in
set_option maxHeartbeats 8000000 in
theorem do11_1 (R : RowV W11) (v vg : Value) (kd : Nat) (a b : ByteArray) (z : Bool) (w : World) (ho : Own11 w0 w D P M G A L S) (hg : Good11 A L S k) (hk : k ≤ 90) (h5 : Len5 w0) (hR : Rc11 0 R w v) (hN : NmR w vg (names10 S)) (hp : plainR R = tell11 A L S) (ha : a.size ≤ 50) (hb5 : b.size ≤ 50) (hkd : kd % 11 = 1) :
  Calls Tryz.prog 10 #[.pointer (some ⟨D, 0, none⟩), .agg #[v, vg], .agg #[.int .u8 (kd : Int), .string a, .string b, .bool z]] w (Did11 w0 D P M G k w (tell11 A L S) kd a.data.toList b.data.toList) := by
 obtain ⟨f1, f2, f3, f4⟩ := rows_facts11 hg hp
 have HRF : Hid (∀ W', Below w.heap.size w W' → Calls Tryz.prog 33 #[.agg #[v, vg], .string a] W' (Doc11 (deE11 A a.data.toList) (ddeL (tell11 A L S) a.data.toList) (names10 S) W')) := fun W' hb => by
  have hR := hR.later hb
  have hN := hN.later hb
  have h := rdeleted11_calls _ _ R _ a W' hR hN f1 (by omega)
  rw [hp] at h
  have e := (show _ = deE11 A a.data.toList from de_same (A := A) (L := L) (S := S) _)
  rwa [e] at h
 have HDO : Hid (∀ W', Own11 w0 W' D P M G A L S → Calls Tryz.prog 26 #[.pointer (some ⟨D, 0, none⟩), .string a] W' fun e w' => e = .returned (.int .i64 (deE11 A a.data.toList)) ∧ Goes11 w0 W' D P M G (deA11 A a.data.toList) (deL11 A L a.data.toList) (deS11 A S a.data.toList) w') := fun W' ho => delete11_calls a ho hg (by omega)
 have HONE : Hid (One11 (deA11 A a.data.toList) (deL11 A L a.data.toList) (deS11 A S a.data.toList) (ddeL (tell11 A L S) a.data.toList) (names10 S) (k + 1)) := de_one11 hg _
 have HRT : Hid (RiseV (tell11 A L S)) := tell_rise hg.rise
 have HOTH : Hid (Others11 kd a.data.toList b.data.toList (tell11 A L S) (ddeL (tell11 A L S) a.data.toList)) := oth_de HRT.out hkd
 have hrem : (kd : Int).tmod 11 = 1 := by
  have : (kd : Int).tmod 11 = ((kd % 11 : Nat) : Int) := rfl
  rw [this, hkd]; rfl
 have hzd : ∀ w : World, (zeroValue TD11).run Tryz.prog w = .ok (.agg #[.slice none 0 0, .slice none 0 0]) w := fun w => by kernel_rfl
 have HO := Lib.hid ho
 have HW0 : Hid (w0.heap.size ≤ w.heap.size) := ho.below.size
 obtain ⟨A0, c, rfl⟩ := hR.rw.us.shape
 obtain ⟨A1, c1, rfl⟩ := hN.shape
 clear ho hg hR hN hp h5 f1 f2 f3 f4 hkd
 generalize R.length = n at *
 generalize (names10 S).length = n1 at *
 generalize deE11 A a.data.toList = E at HRF HDO HONE HOTH
 generalize deA11 A a.data.toList = A' at HRF HDO HONE HOTH
 generalize deL11 A L a.data.toList = L' at HRF HDO HONE HOTH
 generalize deS11 A S a.data.toList = S' at HRF HDO HONE HOTH
 generalize ddeL (tell11 A L S) a.data.toList = l' at HRF HDO HONE HOTH
 generalize hnx : names10 S = nx at HRF HONE
 have Hd1j1 : Hid (Bx11 (w.alloc (.cells #[.slice A0 n c, .slice A1 n1 c1] TD11)) (w.heap.size) (.slice A0 n c) (.slice A1 n1 c1)) := bx11_new w _ _
 have HLO2j1 : Hid (w.heap.size ≤ w.heap.size) := by show _ ≤ _; omega
 have HB3j1 : Hid (Below w.heap.size w (w.alloc (.cells #[.slice A0 n c, .slice A1 n1 c1] TD11))) := below_alloc (Below.refl _ _) _
 have Hd4j1 := Lib.hid (Hd1j1.out.later (below_alloc (Below.refl _ _) (.cells #[.int .u8 (kd : Int), .string a, .string b, .bool z] 32)))
 have Ha5j1 : Hid (Act11 ((w.alloc (.cells #[.slice A0 n c, .slice A1 n1 c1] TD11)).alloc (.cells #[.int .u8 (kd : Int), .string a, .string b, .bool z] 32)) (w.heap.size + 1) (kd) (a) (b) (z)) := by
  have hq : Act11 ((w.alloc (.cells #[.slice A0 n c, .slice A1 n1 c1] TD11)).alloc (.cells #[.int .u8 (kd : Int), .string a, .string b, .bool z] 32)) (w.alloc (.cells #[.slice A0 n c, .slice A1 n1 c1] TD11)).heap.size (kd) (a) (b) (z) := act11_new (w.alloc (.cells #[.slice A0 n c, .slice A1 n1 c1] TD11)) _ _ _ _
  simp only [World.size_alloc] at hq
  exact hq
 have HLO6j1 : Hid (w.heap.size ≤ w.heap.size + 1) := by show _ ≤ _; omega
 have HB7j1 := Lib.hid (below_next HB3j1.out (below_alloc (Below.refl _ _) (.cells #[.int .u8 (kd : Int), .string a, .string b, .bool z] 32)))
 have Hd8j1 := Lib.hid (Hd4j1.out.later (below_alloc (Below.refl _ _) (.cells #[.slice none 0 0, .slice none 0 0] TD11)))
 have Ha9j1 := Lib.hid (Ha5j1.out.later (below_alloc (Below.refl _ _) (.cells #[.slice none 0 0, .slice none 0 0] TD11)))
 have Hr10j1 : Hid (Bx11 (((w.alloc (.cells #[.slice A0 n c, .slice A1 n1 c1] TD11)).alloc (.cells #[.int .u8 (kd : Int), .string a, .string b, .bool z] 32)).alloc (.cells #[.slice none 0 0, .slice none 0 0] TD11)) (w.heap.size + 2) (.slice none 0 0) (.slice none 0 0)) := by
  have hq : Bx11 (((w.alloc (.cells #[.slice A0 n c, .slice A1 n1 c1] TD11)).alloc (.cells #[.int .u8 (kd : Int), .string a, .string b, .bool z] 32)).alloc (.cells #[.slice none 0 0, .slice none 0 0] TD11)) ((w.alloc (.cells #[.slice A0 n c, .slice A1 n1 c1] TD11)).alloc (.cells #[.int .u8 (kd : Int), .string a, .string b, .bool z] 32)).heap.size (.slice none 0 0) (.slice none 0 0) := bx11_new ((w.alloc (.cells #[.slice A0 n c, .slice A1 n1 c1] TD11)).alloc (.cells #[.int .u8 (kd : Int), .string a, .string b, .bool z] 32)) _ _
  simp only [World.size_alloc] at hq
  exact hq
 have HLO11j1 : Hid (w.heap.size ≤ w.heap.size + 2) := by show _ ≤ _; omega
 have HB12j1 := Lib.hid (below_next HB7j1.out (below_alloc (Below.refl _ _) (.cells #[.slice none 0 0, .slice none 0 0] TD11)))
 go_enter Tryz.func10, Tryz.ntmps10
 have hd13j1 := Hd8j1.out
 have kx14j1 := hd13j1.c0
 have ky15j1 := hd13j1.c1
 have kp16j1 := hd13j1.f0
 have kq17j1 := hd13j1.f1
 clear hd13j1
 have ha18j1 := Ha9j1.out
 have kx19j1 := ha18j1.c0
 have ky20j1 := ha18j1.c1
 have kz21j1 := ha18j1.c2
 have kw22j1 := ha18j1.c3
 clear ha18j1
 have hr23j1 := Hr10j1.out
 have kx24j1 := hr23j1.c0
 have ky25j1 := hr23j1.c1
 have kp26j1 := hr23j1.f0
 have kq27j1 := hr23j1.f1
 clear hr23j1
 go_wp2_with fail
 generalize ((w.alloc (.cells #[.slice A0 n c, .slice A1 n1 c1] TD11)).alloc (.cells #[.int .u8 (kd : Int), .string a, .string b, .bool z] 32)).alloc (.cells #[.slice none 0 0, .slice none 0 0] TD11) = wg28j1 at *
 with_reducible refine (HRF.out wg28j1 HB12j1.out).mono ?_
 rintro e w2 ⟨R2, u1, u2, rfl, hrc, hpl, hnm, hb⟩
 clear kx14j1 ky15j1 kp16j1 kq17j1 kx19j1 ky20j1 kz21j1 kw22j1 kx24j1 ky25j1 kp26j1 kq27j1
 have Hd29j1 := Lib.hid (Hd8j1.out.later hb)
 have Ha30j1 := Lib.hid (Ha9j1.out.later hb)
 have Hr31j1 := Lib.hid (Hr10j1.out.later hb)
 have HB32j1 := Lib.hid (below_next HB12j1.out hb)
 obtain ⟨A2, c2, rfl⟩ := hrc.rw.us.shape
 obtain ⟨A3, c3, rfl⟩ := hnm.shape
 have HRC := Lib.hid hrc
 have HPL := Lib.hid hpl
 have HNM := Lib.hid hnm
 clear hrc hpl hnm HRF
 obtain ⟨n2, hn2⟩ : ∃ m, m = R2.length := ⟨_, rfl⟩
 obtain ⟨n3, hn3⟩ : ∃ m, m = List.length nx := ⟨_, rfl⟩
 rw [← hn2] at HRC ⊢
 rw [← hn3] at HNM ⊢
 clear hn2 hn3
 clear hb
 have hd33j1 := Hd29j1.out
 have kx34j1 := hd33j1.c0
 have ky35j1 := hd33j1.c1
 have kp36j1 := hd33j1.f0
 have kq37j1 := hd33j1.f1
 clear hd33j1
 have ha38j1 := Ha30j1.out
 have kx39j1 := ha38j1.c0
 have ky40j1 := ha38j1.c1
 have kz41j1 := ha38j1.c2
 have kw42j1 := ha38j1.c3
 clear ha38j1
 have hr43j1 := Hr31j1.out
 have kx44j1 := hr43j1.c0
 have ky45j1 := hr43j1.c1
 have kp46j1 := hr43j1.f0
 have kq47j1 := hr43j1.f1
 clear hr43j1
 have Hd48j1 : Hid (Bx11 (w2.setCell ⟨w.heap.size, 0, none⟩ (.slice A2 n2 c2)) (w.heap.size) (.slice A2 n2 c2) (.slice A1 n1 c1)) := Hd29j1.out.set0 _
 have Ha49j1 : Hid (Act11 (w2.setCell ⟨w.heap.size, 0, none⟩ (.slice A2 n2 c2)) (w.heap.size + 1) (kd) (a) (b) (z)) := Ha30j1.out.other (by omega) _
 have Hr50j1 : Hid (Bx11 (w2.setCell ⟨w.heap.size, 0, none⟩ (.slice A2 n2 c2)) (w.heap.size + 2) (.slice none 0 0) (.slice none 0 0)) := Hr31j1.out.other (by omega) _
 have HB51j1 : Hid (Below w.heap.size w (w2.setCell ⟨w.heap.size, 0, none⟩ (.slice A2 n2 c2))) := HB32j1.out.setCell (p := ⟨w.heap.size, 0, none⟩) HLO2j1.out _
 have hd52j1 := Hd48j1.out
 have kx53j1 := hd52j1.c0
 have ky54j1 := hd52j1.c1
 have kp55j1 := hd52j1.f0
 have kq56j1 := hd52j1.f1
 clear hd52j1
 have ha57j1 := Ha49j1.out
 have kx58j1 := ha57j1.c0
 have ky59j1 := ha57j1.c1
 have kz60j1 := ha57j1.c2
 have kw61j1 := ha57j1.c3
 clear ha57j1
 have hr62j1 := Hr50j1.out
 have kx63j1 := hr62j1.c0
 have ky64j1 := hr62j1.c1
 have kp65j1 := hr62j1.f0
 have kq66j1 := hr62j1.f1
 clear hr62j1
 have Hd67j1 : Hid (Bx11 ((w2.setCell ⟨w.heap.size, 0, none⟩ (.slice A2 n2 c2)).setCell ⟨w.heap.size, 1, none⟩ (.slice A3 n3 c3)) (w.heap.size) (.slice A2 n2 c2) (.slice A3 n3 c3)) := Hd48j1.out.set1 _
 have Ha68j1 : Hid (Act11 ((w2.setCell ⟨w.heap.size, 0, none⟩ (.slice A2 n2 c2)).setCell ⟨w.heap.size, 1, none⟩ (.slice A3 n3 c3)) (w.heap.size + 1) (kd) (a) (b) (z)) := Ha49j1.out.other (by omega) _
 have Hr69j1 : Hid (Bx11 ((w2.setCell ⟨w.heap.size, 0, none⟩ (.slice A2 n2 c2)).setCell ⟨w.heap.size, 1, none⟩ (.slice A3 n3 c3)) (w.heap.size + 2) (.slice none 0 0) (.slice none 0 0)) := Hr50j1.out.other (by omega) _
 have HB70j1 : Hid (Below w.heap.size w ((w2.setCell ⟨w.heap.size, 0, none⟩ (.slice A2 n2 c2)).setCell ⟨w.heap.size, 1, none⟩ (.slice A3 n3 c3))) := HB51j1.out.setCell (p := ⟨w.heap.size, 1, none⟩) HLO2j1.out _
 have HKD : Hid (KeepD11 w2 ((w2.setCell ⟨w.heap.size, 0, none⟩ (.slice A2 n2 c2)).setCell ⟨w.heap.size, 1, none⟩ (.slice A3 n3 c3))) := (Hd29j1.out.keep 0 _).trans (Hd48j1.out.keep 1 _)
 have hd71j1 := Hd67j1.out
 have kx72j1 := hd71j1.c0
 have ky73j1 := hd71j1.c1
 have kp74j1 := hd71j1.f0
 have kq75j1 := hd71j1.f1
 clear hd71j1
 have ha76j1 := Ha68j1.out
 have kx77j1 := ha76j1.c0
 have ky78j1 := ha76j1.c1
 have kz79j1 := ha76j1.c2
 have kw80j1 := ha76j1.c3
 clear ha76j1
 have hr81j1 := Hr69j1.out
 have kx82j1 := hr81j1.c0
 have ky83j1 := hr81j1.c1
 have kp84j1 := hr81j1.f0
 have kq85j1 := hr81j1.f1
 clear hr81j1
 go_wp2_with fail
 generalize (w2.setCell ⟨w.heap.size, 0, none⟩ (.slice A2 n2 c2)).setCell ⟨w.heap.size, 1, none⟩ (.slice A3 n3 c3) = wg86j1 at *
 with_reducible refine (HDO.out wg86j1 (HO.out.later HB70j1.out)).mono ?_
 rintro e w5 ⟨rfl, hgo⟩
 clear kx34j1 ky35j1 kp36j1 kq37j1 kx39j1 ky40j1 kz41j1 kw42j1 kx44j1 ky45j1 kp46j1 kq47j1 kx53j1 ky54j1 kp55j1 kq56j1 kx58j1 ky59j1 kz60j1 kw61j1 kx63j1 ky64j1 kp65j1 kq66j1 kx72j1 ky73j1 kp74j1 kq75j1 kx77j1 ky78j1 kz79j1 kw80j1 kx82j1 ky83j1 kp84j1 kq85j1
 have Hd87j1 : Hid (Bx11 (w5) (w.heap.size) (.slice A2 n2 c2) (.slice A3 n3 c3)) := Hd67j1.out.keeps11 hgo.2
 have Hr88j1 : Hid (Bx11 (w5) (w.heap.size + 2) (.slice none 0 0) (.slice none 0 0)) := Hr69j1.out.keeps11 hgo.2
 have HRC5 : Hid (Rc11 0 R2 w5 (.slice A2 n2 c2)) := (HRC.out.keepD11 HKD.out).keeps hgo.2
 have HNM5 : Hid (NmR w5 (.slice A3 n3 c3) nx) := (HNM.out.keepD11 HKD.out).keeps11 hgo.2
 have HK5 : Hid (Keeps11 w w5) := (Keeps11.of_below HB70j1.out).trans hgo.2
 have HO5 := Lib.hid hgo.1
 clear hgo HDO HO HRC HNM HKD
 have hd89j1 := Hd87j1.out
 have kx90j1 := hd89j1.c0
 have ky91j1 := hd89j1.c1
 have kp92j1 := hd89j1.f0
 have kq93j1 := hd89j1.f1
 clear hd89j1
 have hr94j1 := Hr88j1.out
 have kx95j1 := hr94j1.c0
 have ky96j1 := hr94j1.c1
 have kp97j1 := hr94j1.f0
 have kq98j1 := hr94j1.f1
 clear hr94j1
 have HRES : Hid (Bx11 ((w5.setCell ⟨w.heap.size + 2, 0, none⟩ (.slice A2 n2 c2)).setCell ⟨w.heap.size + 2, 1, none⟩ (.slice A3 n3 c3)) (w.heap.size + 2) (.slice A2 n2 c2) (.slice A3 n3 c3)) := (Hr88j1.out.set0 _).set1 _
 have HKF : Hid (KeepD11 w5 ((w5.setCell ⟨w.heap.size + 2, 0, none⟩ (.slice A2 n2 c2)).setCell ⟨w.heap.size + 2, 1, none⟩ (.slice A3 n3 c3))) := (Hr88j1.out.keep 0 _).trans ((Hr88j1.out.set0 _).keep 1 _)
 have HOF : Hid (Own11 w0 ((w5.setCell ⟨w.heap.size + 2, 0, none⟩ (.slice A2 n2 c2)).setCell ⟨w.heap.size + 2, 1, none⟩ (.slice A3 n3 c3)) D P M G A' L' S') := (HO5.out.cell11 Hr88j1.out (Nat.le_trans HW0.out (by omega)) _).cell11 (Hr88j1.out.set0 _) (Nat.le_trans HW0.out (by omega)) _
 have HKP : Hid (Keeps11 w ((w5.setCell ⟨w.heap.size + 2, 0, none⟩ (.slice A2 n2 c2)).setCell ⟨w.heap.size + 2, 1, none⟩ (.slice A3 n3 c3))) := (HK5.out.cellN11 (by omega) _).cellN11 (by omega) _
 have HPOST : Hid (Did11 w0 D P M G k w (tell11 A L S) kd a.data.toList b.data.toList (.returned (.tuple #[.agg #[.slice A2 n2 c2, .slice A3 n3 c3], .bool true])) ((w5.setCell ⟨w.heap.size + 2, 0, none⟩ (.slice A2 n2 c2)).setCell ⟨w.heap.size + 2, 1, none⟩ (.slice A3 n3 c3))) := ⟨_, _, _, R2, _, _, rfl, HOF.out, HONE.out.1, HRC5.out.keepD11 HKF.out, by rw [HONE.out.2.2]; exact HNM5.out.keepD11 HKF.out, by rw [HPL.out, HONE.out.2.1], HKP.out, by rw [HONE.out.2.1]; exact HOTH.out⟩
 have z0 := HRES.out.c0
 have z1 := HRES.out.c1
 go_wp2
 refine bodyPost_ret (v := .tuple #[.agg #[.slice A2 n2 c2, .slice A3 n3 c3], .bool true]) ?_ rfl HPOST.out
 simp [results, Tryz.results10, go_sem, z0, z1]

set_option maxRecDepth 100000 in
set_option maxHeartbeats 8000000 in
theorem do11_2 (R : RowV W11) (v vg : Value) (kd : Nat) (a b : ByteArray) (z : Bool) (w : World) (ho : Own11 w0 w D P M G A L S) (hg : Good11 A L S k) (hk : k ≤ 90) (h5 : Len5 w0) (hR : Rc11 0 R w v) (hN : NmR w vg (names10 S)) (hp : plainR R = tell11 A L S) (ha : a.size ≤ 50) (hb5 : b.size ≤ 50) (hkd : kd % 11 = 2) :
  Calls Tryz.prog 10 #[.pointer (some ⟨D, 0, none⟩), .agg #[v, vg], .agg #[.int .u8 (kd : Int), .string a, .string b, .bool z]] w (Did11 w0 D P M G k w (tell11 A L S) kd a.data.toList b.data.toList) := by
 obtain ⟨f1, f2, f3, f4⟩ := rows_facts11 hg hp
 have HRF : Hid (∀ W', Below w.heap.size w W' → Calls Tryz.prog 34 #[.agg #[v, vg], .string a, .string b] W' (Doc11 (shE11 A a.data.toList b.data.toList) (dshL (tell11 A L S) a.data.toList b.data.toList) (names10 S) W')) := fun W' hb => by
  have hR := hR.later hb
  have hN := hN.later hb
  have h := rsetHash11_calls _ _ R _ a b W' hR hN f1 f2 (by omega) (by omega)
  rw [hp] at h
  have e := (show _ = shE11 A a.data.toList b.data.toList from sh_same hg _ _)
  rwa [e] at h
 have HDO : Hid (∀ W', Own11 w0 W' D P M G A L S → Calls Tryz.prog 35 #[.pointer (some ⟨D, 0, none⟩), .string a, .string b] W' fun e w' => e = .returned (.int .i64 (shE11 A a.data.toList b.data.toList)) ∧ Goes11 w0 W' D P M G (shA11 A a.data.toList b.data.toList) (L) (S) w') := fun W' ho => setHash11_calls a b ho hg (by omega) (by omega)
 have HONE : Hid (One11 (shA11 A a.data.toList b.data.toList) (L) (S) (dshL (tell11 A L S) a.data.toList b.data.toList) (names10 S) (k + 1)) := sh_one hg _ _
 have HRT : Hid (RiseV (tell11 A L S)) := tell_rise hg.rise
 have HOTH : Hid (Others11 kd a.data.toList b.data.toList (tell11 A L S) (dshL (tell11 A L S) a.data.toList b.data.toList)) := oth_sh HRT.out hkd
 have hrem : (kd : Int).tmod 11 = 2 := by
  have : (kd : Int).tmod 11 = ((kd % 11 : Nat) : Int) := rfl
  rw [this, hkd]; rfl
 have hzd : ∀ w : World, (zeroValue TD11).run Tryz.prog w = .ok (.agg #[.slice none 0 0, .slice none 0 0]) w := fun w => by kernel_rfl
 have HO := Lib.hid ho
 have HW0 : Hid (w0.heap.size ≤ w.heap.size) := ho.below.size
 obtain ⟨A0, c, rfl⟩ := hR.rw.us.shape
 obtain ⟨A1, c1, rfl⟩ := hN.shape
 clear ho hg hR hN hp h5 f1 f2 f3 f4 hkd
 generalize R.length = n at *
 generalize (names10 S).length = n1 at *
 generalize shE11 A a.data.toList b.data.toList = E at HRF HDO HONE HOTH
 generalize shA11 A a.data.toList b.data.toList = A' at HRF HDO HONE HOTH
 generalize dshL (tell11 A L S) a.data.toList b.data.toList = l' at HRF HDO HONE HOTH
 generalize hnx : names10 S = nx at HRF HONE
 have Hd1j2 : Hid (Bx11 (w.alloc (.cells #[.slice A0 n c, .slice A1 n1 c1] TD11)) (w.heap.size) (.slice A0 n c) (.slice A1 n1 c1)) := bx11_new w _ _
 have HLO2j2 : Hid (w.heap.size ≤ w.heap.size) := by show _ ≤ _; omega
 have HB3j2 : Hid (Below w.heap.size w (w.alloc (.cells #[.slice A0 n c, .slice A1 n1 c1] TD11))) := below_alloc (Below.refl _ _) _
 have Hd4j2 := Lib.hid (Hd1j2.out.later (below_alloc (Below.refl _ _) (.cells #[.int .u8 (kd : Int), .string a, .string b, .bool z] 32)))
 have Ha5j2 : Hid (Act11 ((w.alloc (.cells #[.slice A0 n c, .slice A1 n1 c1] TD11)).alloc (.cells #[.int .u8 (kd : Int), .string a, .string b, .bool z] 32)) (w.heap.size + 1) (kd) (a) (b) (z)) := by
  have hq : Act11 ((w.alloc (.cells #[.slice A0 n c, .slice A1 n1 c1] TD11)).alloc (.cells #[.int .u8 (kd : Int), .string a, .string b, .bool z] 32)) (w.alloc (.cells #[.slice A0 n c, .slice A1 n1 c1] TD11)).heap.size (kd) (a) (b) (z) := act11_new (w.alloc (.cells #[.slice A0 n c, .slice A1 n1 c1] TD11)) _ _ _ _
  simp only [World.size_alloc] at hq
  exact hq
 have HLO6j2 : Hid (w.heap.size ≤ w.heap.size + 1) := by show _ ≤ _; omega
 have HB7j2 := Lib.hid (below_next HB3j2.out (below_alloc (Below.refl _ _) (.cells #[.int .u8 (kd : Int), .string a, .string b, .bool z] 32)))
 have Hd8j2 := Lib.hid (Hd4j2.out.later (below_alloc (Below.refl _ _) (.cells #[.slice none 0 0, .slice none 0 0] TD11)))
 have Ha9j2 := Lib.hid (Ha5j2.out.later (below_alloc (Below.refl _ _) (.cells #[.slice none 0 0, .slice none 0 0] TD11)))
 have Hr10j2 : Hid (Bx11 (((w.alloc (.cells #[.slice A0 n c, .slice A1 n1 c1] TD11)).alloc (.cells #[.int .u8 (kd : Int), .string a, .string b, .bool z] 32)).alloc (.cells #[.slice none 0 0, .slice none 0 0] TD11)) (w.heap.size + 2) (.slice none 0 0) (.slice none 0 0)) := by
  have hq : Bx11 (((w.alloc (.cells #[.slice A0 n c, .slice A1 n1 c1] TD11)).alloc (.cells #[.int .u8 (kd : Int), .string a, .string b, .bool z] 32)).alloc (.cells #[.slice none 0 0, .slice none 0 0] TD11)) ((w.alloc (.cells #[.slice A0 n c, .slice A1 n1 c1] TD11)).alloc (.cells #[.int .u8 (kd : Int), .string a, .string b, .bool z] 32)).heap.size (.slice none 0 0) (.slice none 0 0) := bx11_new ((w.alloc (.cells #[.slice A0 n c, .slice A1 n1 c1] TD11)).alloc (.cells #[.int .u8 (kd : Int), .string a, .string b, .bool z] 32)) _ _
  simp only [World.size_alloc] at hq
  exact hq
 have HLO11j2 : Hid (w.heap.size ≤ w.heap.size + 2) := by show _ ≤ _; omega
 have HB12j2 := Lib.hid (below_next HB7j2.out (below_alloc (Below.refl _ _) (.cells #[.slice none 0 0, .slice none 0 0] TD11)))
 go_enter Tryz.func10, Tryz.ntmps10
 have hd13j2 := Hd8j2.out
 have kx14j2 := hd13j2.c0
 have ky15j2 := hd13j2.c1
 have kp16j2 := hd13j2.f0
 have kq17j2 := hd13j2.f1
 clear hd13j2
 have ha18j2 := Ha9j2.out
 have kx19j2 := ha18j2.c0
 have ky20j2 := ha18j2.c1
 have kz21j2 := ha18j2.c2
 have kw22j2 := ha18j2.c3
 clear ha18j2
 have hr23j2 := Hr10j2.out
 have kx24j2 := hr23j2.c0
 have ky25j2 := hr23j2.c1
 have kp26j2 := hr23j2.f0
 have kq27j2 := hr23j2.f1
 clear hr23j2
 go_wp2_with fail
 generalize ((w.alloc (.cells #[.slice A0 n c, .slice A1 n1 c1] TD11)).alloc (.cells #[.int .u8 (kd : Int), .string a, .string b, .bool z] 32)).alloc (.cells #[.slice none 0 0, .slice none 0 0] TD11) = wg28j2 at *
 with_reducible refine (HRF.out wg28j2 HB12j2.out).mono ?_
 rintro e w2 ⟨R2, u1, u2, rfl, hrc, hpl, hnm, hb⟩
 clear kx14j2 ky15j2 kp16j2 kq17j2 kx19j2 ky20j2 kz21j2 kw22j2 kx24j2 ky25j2 kp26j2 kq27j2
 have Hd29j2 := Lib.hid (Hd8j2.out.later hb)
 have Ha30j2 := Lib.hid (Ha9j2.out.later hb)
 have Hr31j2 := Lib.hid (Hr10j2.out.later hb)
 have HB32j2 := Lib.hid (below_next HB12j2.out hb)
 obtain ⟨A2, c2, rfl⟩ := hrc.rw.us.shape
 obtain ⟨A3, c3, rfl⟩ := hnm.shape
 have HRC := Lib.hid hrc
 have HPL := Lib.hid hpl
 have HNM := Lib.hid hnm
 clear hrc hpl hnm HRF
 obtain ⟨n2, hn2⟩ : ∃ m, m = R2.length := ⟨_, rfl⟩
 obtain ⟨n3, hn3⟩ : ∃ m, m = List.length nx := ⟨_, rfl⟩
 rw [← hn2] at HRC ⊢
 rw [← hn3] at HNM ⊢
 clear hn2 hn3
 clear hb
 have hd33j2 := Hd29j2.out
 have kx34j2 := hd33j2.c0
 have ky35j2 := hd33j2.c1
 have kp36j2 := hd33j2.f0
 have kq37j2 := hd33j2.f1
 clear hd33j2
 have ha38j2 := Ha30j2.out
 have kx39j2 := ha38j2.c0
 have ky40j2 := ha38j2.c1
 have kz41j2 := ha38j2.c2
 have kw42j2 := ha38j2.c3
 clear ha38j2
 have hr43j2 := Hr31j2.out
 have kx44j2 := hr43j2.c0
 have ky45j2 := hr43j2.c1
 have kp46j2 := hr43j2.f0
 have kq47j2 := hr43j2.f1
 clear hr43j2
 have Hd48j2 : Hid (Bx11 (w2.setCell ⟨w.heap.size, 0, none⟩ (.slice A2 n2 c2)) (w.heap.size) (.slice A2 n2 c2) (.slice A1 n1 c1)) := Hd29j2.out.set0 _
 have Ha49j2 : Hid (Act11 (w2.setCell ⟨w.heap.size, 0, none⟩ (.slice A2 n2 c2)) (w.heap.size + 1) (kd) (a) (b) (z)) := Ha30j2.out.other (by omega) _
 have Hr50j2 : Hid (Bx11 (w2.setCell ⟨w.heap.size, 0, none⟩ (.slice A2 n2 c2)) (w.heap.size + 2) (.slice none 0 0) (.slice none 0 0)) := Hr31j2.out.other (by omega) _
 have HB51j2 : Hid (Below w.heap.size w (w2.setCell ⟨w.heap.size, 0, none⟩ (.slice A2 n2 c2))) := HB32j2.out.setCell (p := ⟨w.heap.size, 0, none⟩) HLO2j2.out _
 have hd52j2 := Hd48j2.out
 have kx53j2 := hd52j2.c0
 have ky54j2 := hd52j2.c1
 have kp55j2 := hd52j2.f0
 have kq56j2 := hd52j2.f1
 clear hd52j2
 have ha57j2 := Ha49j2.out
 have kx58j2 := ha57j2.c0
 have ky59j2 := ha57j2.c1
 have kz60j2 := ha57j2.c2
 have kw61j2 := ha57j2.c3
 clear ha57j2
 have hr62j2 := Hr50j2.out
 have kx63j2 := hr62j2.c0
 have ky64j2 := hr62j2.c1
 have kp65j2 := hr62j2.f0
 have kq66j2 := hr62j2.f1
 clear hr62j2
 have Hd67j2 : Hid (Bx11 ((w2.setCell ⟨w.heap.size, 0, none⟩ (.slice A2 n2 c2)).setCell ⟨w.heap.size, 1, none⟩ (.slice A3 n3 c3)) (w.heap.size) (.slice A2 n2 c2) (.slice A3 n3 c3)) := Hd48j2.out.set1 _
 have Ha68j2 : Hid (Act11 ((w2.setCell ⟨w.heap.size, 0, none⟩ (.slice A2 n2 c2)).setCell ⟨w.heap.size, 1, none⟩ (.slice A3 n3 c3)) (w.heap.size + 1) (kd) (a) (b) (z)) := Ha49j2.out.other (by omega) _
 have Hr69j2 : Hid (Bx11 ((w2.setCell ⟨w.heap.size, 0, none⟩ (.slice A2 n2 c2)).setCell ⟨w.heap.size, 1, none⟩ (.slice A3 n3 c3)) (w.heap.size + 2) (.slice none 0 0) (.slice none 0 0)) := Hr50j2.out.other (by omega) _
 have HB70j2 : Hid (Below w.heap.size w ((w2.setCell ⟨w.heap.size, 0, none⟩ (.slice A2 n2 c2)).setCell ⟨w.heap.size, 1, none⟩ (.slice A3 n3 c3))) := HB51j2.out.setCell (p := ⟨w.heap.size, 1, none⟩) HLO2j2.out _
 have HKD : Hid (KeepD11 w2 ((w2.setCell ⟨w.heap.size, 0, none⟩ (.slice A2 n2 c2)).setCell ⟨w.heap.size, 1, none⟩ (.slice A3 n3 c3))) := (Hd29j2.out.keep 0 _).trans (Hd48j2.out.keep 1 _)
 have hd71j2 := Hd67j2.out
 have kx72j2 := hd71j2.c0
 have ky73j2 := hd71j2.c1
 have kp74j2 := hd71j2.f0
 have kq75j2 := hd71j2.f1
 clear hd71j2
 have ha76j2 := Ha68j2.out
 have kx77j2 := ha76j2.c0
 have ky78j2 := ha76j2.c1
 have kz79j2 := ha76j2.c2
 have kw80j2 := ha76j2.c3
 clear ha76j2
 have hr81j2 := Hr69j2.out
 have kx82j2 := hr81j2.c0
 have ky83j2 := hr81j2.c1
 have kp84j2 := hr81j2.f0
 have kq85j2 := hr81j2.f1
 clear hr81j2
 go_wp2_with fail
 generalize (w2.setCell ⟨w.heap.size, 0, none⟩ (.slice A2 n2 c2)).setCell ⟨w.heap.size, 1, none⟩ (.slice A3 n3 c3) = wg86j2 at *
 with_reducible refine (HDO.out wg86j2 (HO.out.later HB70j2.out)).mono ?_
 rintro e w5 ⟨rfl, hgo⟩
 clear kx34j2 ky35j2 kp36j2 kq37j2 kx39j2 ky40j2 kz41j2 kw42j2 kx44j2 ky45j2 kp46j2 kq47j2 kx53j2 ky54j2 kp55j2 kq56j2 kx58j2 ky59j2 kz60j2 kw61j2 kx63j2 ky64j2 kp65j2 kq66j2 kx72j2 ky73j2 kp74j2 kq75j2 kx77j2 ky78j2 kz79j2 kw80j2 kx82j2 ky83j2 kp84j2 kq85j2
 have Hd87j2 : Hid (Bx11 (w5) (w.heap.size) (.slice A2 n2 c2) (.slice A3 n3 c3)) := Hd67j2.out.keeps11 hgo.2
 have Hr88j2 : Hid (Bx11 (w5) (w.heap.size + 2) (.slice none 0 0) (.slice none 0 0)) := Hr69j2.out.keeps11 hgo.2
 have HRC5 : Hid (Rc11 0 R2 w5 (.slice A2 n2 c2)) := (HRC.out.keepD11 HKD.out).keeps hgo.2
 have HNM5 : Hid (NmR w5 (.slice A3 n3 c3) nx) := (HNM.out.keepD11 HKD.out).keeps11 hgo.2
 have HK5 : Hid (Keeps11 w w5) := (Keeps11.of_below HB70j2.out).trans hgo.2
 have HO5 := Lib.hid hgo.1
 clear hgo HDO HO HRC HNM HKD
 have hd89j2 := Hd87j2.out
 have kx90j2 := hd89j2.c0
 have ky91j2 := hd89j2.c1
 have kp92j2 := hd89j2.f0
 have kq93j2 := hd89j2.f1
 clear hd89j2
 have hr94j2 := Hr88j2.out
 have kx95j2 := hr94j2.c0
 have ky96j2 := hr94j2.c1
 have kp97j2 := hr94j2.f0
 have kq98j2 := hr94j2.f1
 clear hr94j2
 have HRES : Hid (Bx11 ((w5.setCell ⟨w.heap.size + 2, 0, none⟩ (.slice A2 n2 c2)).setCell ⟨w.heap.size + 2, 1, none⟩ (.slice A3 n3 c3)) (w.heap.size + 2) (.slice A2 n2 c2) (.slice A3 n3 c3)) := (Hr88j2.out.set0 _).set1 _
 have HKF : Hid (KeepD11 w5 ((w5.setCell ⟨w.heap.size + 2, 0, none⟩ (.slice A2 n2 c2)).setCell ⟨w.heap.size + 2, 1, none⟩ (.slice A3 n3 c3))) := (Hr88j2.out.keep 0 _).trans ((Hr88j2.out.set0 _).keep 1 _)
 have HOF : Hid (Own11 w0 ((w5.setCell ⟨w.heap.size + 2, 0, none⟩ (.slice A2 n2 c2)).setCell ⟨w.heap.size + 2, 1, none⟩ (.slice A3 n3 c3)) D P M G A' L S) := (HO5.out.cell11 Hr88j2.out (Nat.le_trans HW0.out (by omega)) _).cell11 (Hr88j2.out.set0 _) (Nat.le_trans HW0.out (by omega)) _
 have HKP : Hid (Keeps11 w ((w5.setCell ⟨w.heap.size + 2, 0, none⟩ (.slice A2 n2 c2)).setCell ⟨w.heap.size + 2, 1, none⟩ (.slice A3 n3 c3))) := (HK5.out.cellN11 (by omega) _).cellN11 (by omega) _
 have HPOST : Hid (Did11 w0 D P M G k w (tell11 A L S) kd a.data.toList b.data.toList (.returned (.tuple #[.agg #[.slice A2 n2 c2, .slice A3 n3 c3], .bool true])) ((w5.setCell ⟨w.heap.size + 2, 0, none⟩ (.slice A2 n2 c2)).setCell ⟨w.heap.size + 2, 1, none⟩ (.slice A3 n3 c3))) := ⟨_, _, _, R2, _, _, rfl, HOF.out, HONE.out.1, HRC5.out.keepD11 HKF.out, by rw [HONE.out.2.2]; exact HNM5.out.keepD11 HKF.out, by rw [HPL.out, HONE.out.2.1], HKP.out, by rw [HONE.out.2.1]; exact HOTH.out⟩
 have z0 := HRES.out.c0
 have z1 := HRES.out.c1
 go_wp2
 refine bodyPost_ret (v := .tuple #[.agg #[.slice A2 n2 c2, .slice A3 n3 c3], .bool true]) ?_ rfl HPOST.out
 simp [results, Tryz.results10, go_sem, z0, z1]

set_option maxRecDepth 100000 in
set_option maxHeartbeats 8000000 in
theorem do11_3 (R : RowV W11) (v vg : Value) (kd : Nat) (a b : ByteArray) (z : Bool) (w : World) (ho : Own11 w0 w D P M G A L S) (hg : Good11 A L S k) (hk : k ≤ 90) (h5 : Len5 w0) (hR : Rc11 0 R w v) (hN : NmR w vg (names10 S)) (hp : plainR R = tell11 A L S) (ha : a.size ≤ 50) (hb5 : b.size ≤ 50) (hkd : kd % 11 = 3) :
  Calls Tryz.prog 10 #[.pointer (some ⟨D, 0, none⟩), .agg #[v, vg], .agg #[.int .u8 (kd : Int), .string a, .string b, .bool z]] w (Did11 w0 D P M G k w (tell11 A L S) kd a.data.toList b.data.toList) := by
 obtain ⟨f1, f2, f3, f4⟩ := rows_facts11 hg hp
 have HRF : Hid (∀ W', Below w.heap.size w W' → Calls Tryz.prog 36 #[.agg #[v, vg], .string a, .string b] W' (Doc11 (smE11 A L a.data.toList b.data.toList) (dsmL (tell11 A L S) a.data.toList b.data.toList) (names10 S) W')) := fun W' hb => by
  have hR := hR.later hb
  have hN := hN.later hb
  have h := rsetMail11_calls _ _ R _ a b W' hR hN f1 f2 (by omega) (by omega)
  rw [hp] at h
  have e := (show _ = smE11 A L a.data.toList b.data.toList from sm_same hg _ _)
  rwa [e] at h
 have HDO : Hid (∀ W', Own11 w0 W' D P M G A L S → Calls Tryz.prog 28 #[.pointer (some ⟨D, 0, none⟩), .string a, .string b] W' fun e w' => e = .returned (.int .i64 (smE11 A L a.data.toList b.data.toList)) ∧ Goes11 w0 W' D P M G (A) (smL11 A L a.data.toList b.data.toList) (S) w') := fun W' ho => setMail11_calls a b ho (by have := hg.lfew; omega) (h5.later ho.below) (by omega) (by omega)
 have HONE : Hid (One11 (A) (smL11 A L a.data.toList b.data.toList) (S) (dsmL (tell11 A L S) a.data.toList b.data.toList) (names10 S) (k + 1)) := sm_one hg _ _
 have HRT : Hid (RiseV (tell11 A L S)) := tell_rise hg.rise
 have HOTH : Hid (Others11 kd a.data.toList b.data.toList (tell11 A L S) (dsmL (tell11 A L S) a.data.toList b.data.toList)) := oth_sm HRT.out hkd
 have hrem : (kd : Int).tmod 11 = 3 := by
  have : (kd : Int).tmod 11 = ((kd % 11 : Nat) : Int) := rfl
  rw [this, hkd]; rfl
 have hzd : ∀ w : World, (zeroValue TD11).run Tryz.prog w = .ok (.agg #[.slice none 0 0, .slice none 0 0]) w := fun w => by kernel_rfl
 have HO := Lib.hid ho
 have HW0 : Hid (w0.heap.size ≤ w.heap.size) := ho.below.size
 obtain ⟨A0, c, rfl⟩ := hR.rw.us.shape
 obtain ⟨A1, c1, rfl⟩ := hN.shape
 clear ho hg hR hN hp h5 f1 f2 f3 f4 hkd
 generalize R.length = n at *
 generalize (names10 S).length = n1 at *
 generalize smE11 A L a.data.toList b.data.toList = E at HRF HDO HONE HOTH
 generalize smL11 A L a.data.toList b.data.toList = L' at HRF HDO HONE HOTH
 generalize dsmL (tell11 A L S) a.data.toList b.data.toList = l' at HRF HDO HONE HOTH
 generalize hnx : names10 S = nx at HRF HONE
 have Hd1j3 : Hid (Bx11 (w.alloc (.cells #[.slice A0 n c, .slice A1 n1 c1] TD11)) (w.heap.size) (.slice A0 n c) (.slice A1 n1 c1)) := bx11_new w _ _
 have HLO2j3 : Hid (w.heap.size ≤ w.heap.size) := by show _ ≤ _; omega
 have HB3j3 : Hid (Below w.heap.size w (w.alloc (.cells #[.slice A0 n c, .slice A1 n1 c1] TD11))) := below_alloc (Below.refl _ _) _
 have Hd4j3 := Lib.hid (Hd1j3.out.later (below_alloc (Below.refl _ _) (.cells #[.int .u8 (kd : Int), .string a, .string b, .bool z] 32)))
 have Ha5j3 : Hid (Act11 ((w.alloc (.cells #[.slice A0 n c, .slice A1 n1 c1] TD11)).alloc (.cells #[.int .u8 (kd : Int), .string a, .string b, .bool z] 32)) (w.heap.size + 1) (kd) (a) (b) (z)) := by
  have hq : Act11 ((w.alloc (.cells #[.slice A0 n c, .slice A1 n1 c1] TD11)).alloc (.cells #[.int .u8 (kd : Int), .string a, .string b, .bool z] 32)) (w.alloc (.cells #[.slice A0 n c, .slice A1 n1 c1] TD11)).heap.size (kd) (a) (b) (z) := act11_new (w.alloc (.cells #[.slice A0 n c, .slice A1 n1 c1] TD11)) _ _ _ _
  simp only [World.size_alloc] at hq
  exact hq
 have HLO6j3 : Hid (w.heap.size ≤ w.heap.size + 1) := by show _ ≤ _; omega
 have HB7j3 := Lib.hid (below_next HB3j3.out (below_alloc (Below.refl _ _) (.cells #[.int .u8 (kd : Int), .string a, .string b, .bool z] 32)))
 have Hd8j3 := Lib.hid (Hd4j3.out.later (below_alloc (Below.refl _ _) (.cells #[.slice none 0 0, .slice none 0 0] TD11)))
 have Ha9j3 := Lib.hid (Ha5j3.out.later (below_alloc (Below.refl _ _) (.cells #[.slice none 0 0, .slice none 0 0] TD11)))
 have Hr10j3 : Hid (Bx11 (((w.alloc (.cells #[.slice A0 n c, .slice A1 n1 c1] TD11)).alloc (.cells #[.int .u8 (kd : Int), .string a, .string b, .bool z] 32)).alloc (.cells #[.slice none 0 0, .slice none 0 0] TD11)) (w.heap.size + 2) (.slice none 0 0) (.slice none 0 0)) := by
  have hq : Bx11 (((w.alloc (.cells #[.slice A0 n c, .slice A1 n1 c1] TD11)).alloc (.cells #[.int .u8 (kd : Int), .string a, .string b, .bool z] 32)).alloc (.cells #[.slice none 0 0, .slice none 0 0] TD11)) ((w.alloc (.cells #[.slice A0 n c, .slice A1 n1 c1] TD11)).alloc (.cells #[.int .u8 (kd : Int), .string a, .string b, .bool z] 32)).heap.size (.slice none 0 0) (.slice none 0 0) := bx11_new ((w.alloc (.cells #[.slice A0 n c, .slice A1 n1 c1] TD11)).alloc (.cells #[.int .u8 (kd : Int), .string a, .string b, .bool z] 32)) _ _
  simp only [World.size_alloc] at hq
  exact hq
 have HLO11j3 : Hid (w.heap.size ≤ w.heap.size + 2) := by show _ ≤ _; omega
 have HB12j3 := Lib.hid (below_next HB7j3.out (below_alloc (Below.refl _ _) (.cells #[.slice none 0 0, .slice none 0 0] TD11)))
 go_enter Tryz.func10, Tryz.ntmps10
 have hd13j3 := Hd8j3.out
 have kx14j3 := hd13j3.c0
 have ky15j3 := hd13j3.c1
 have kp16j3 := hd13j3.f0
 have kq17j3 := hd13j3.f1
 clear hd13j3
 have ha18j3 := Ha9j3.out
 have kx19j3 := ha18j3.c0
 have ky20j3 := ha18j3.c1
 have kz21j3 := ha18j3.c2
 have kw22j3 := ha18j3.c3
 clear ha18j3
 have hr23j3 := Hr10j3.out
 have kx24j3 := hr23j3.c0
 have ky25j3 := hr23j3.c1
 have kp26j3 := hr23j3.f0
 have kq27j3 := hr23j3.f1
 clear hr23j3
 go_wp2_with fail
 generalize ((w.alloc (.cells #[.slice A0 n c, .slice A1 n1 c1] TD11)).alloc (.cells #[.int .u8 (kd : Int), .string a, .string b, .bool z] 32)).alloc (.cells #[.slice none 0 0, .slice none 0 0] TD11) = wg28j3 at *
 with_reducible refine (HRF.out wg28j3 HB12j3.out).mono ?_
 rintro e w2 ⟨R2, u1, u2, rfl, hrc, hpl, hnm, hb⟩
 clear kx14j3 ky15j3 kp16j3 kq17j3 kx19j3 ky20j3 kz21j3 kw22j3 kx24j3 ky25j3 kp26j3 kq27j3
 have Hd29j3 := Lib.hid (Hd8j3.out.later hb)
 have Ha30j3 := Lib.hid (Ha9j3.out.later hb)
 have Hr31j3 := Lib.hid (Hr10j3.out.later hb)
 have HB32j3 := Lib.hid (below_next HB12j3.out hb)
 obtain ⟨A2, c2, rfl⟩ := hrc.rw.us.shape
 obtain ⟨A3, c3, rfl⟩ := hnm.shape
 have HRC := Lib.hid hrc
 have HPL := Lib.hid hpl
 have HNM := Lib.hid hnm
 clear hrc hpl hnm HRF
 obtain ⟨n2, hn2⟩ : ∃ m, m = R2.length := ⟨_, rfl⟩
 obtain ⟨n3, hn3⟩ : ∃ m, m = List.length nx := ⟨_, rfl⟩
 rw [← hn2] at HRC ⊢
 rw [← hn3] at HNM ⊢
 clear hn2 hn3
 clear hb
 have hd33j3 := Hd29j3.out
 have kx34j3 := hd33j3.c0
 have ky35j3 := hd33j3.c1
 have kp36j3 := hd33j3.f0
 have kq37j3 := hd33j3.f1
 clear hd33j3
 have ha38j3 := Ha30j3.out
 have kx39j3 := ha38j3.c0
 have ky40j3 := ha38j3.c1
 have kz41j3 := ha38j3.c2
 have kw42j3 := ha38j3.c3
 clear ha38j3
 have hr43j3 := Hr31j3.out
 have kx44j3 := hr43j3.c0
 have ky45j3 := hr43j3.c1
 have kp46j3 := hr43j3.f0
 have kq47j3 := hr43j3.f1
 clear hr43j3
 have Hd48j3 : Hid (Bx11 (w2.setCell ⟨w.heap.size, 0, none⟩ (.slice A2 n2 c2)) (w.heap.size) (.slice A2 n2 c2) (.slice A1 n1 c1)) := Hd29j3.out.set0 _
 have Ha49j3 : Hid (Act11 (w2.setCell ⟨w.heap.size, 0, none⟩ (.slice A2 n2 c2)) (w.heap.size + 1) (kd) (a) (b) (z)) := Ha30j3.out.other (by omega) _
 have Hr50j3 : Hid (Bx11 (w2.setCell ⟨w.heap.size, 0, none⟩ (.slice A2 n2 c2)) (w.heap.size + 2) (.slice none 0 0) (.slice none 0 0)) := Hr31j3.out.other (by omega) _
 have HB51j3 : Hid (Below w.heap.size w (w2.setCell ⟨w.heap.size, 0, none⟩ (.slice A2 n2 c2))) := HB32j3.out.setCell (p := ⟨w.heap.size, 0, none⟩) HLO2j3.out _
 have hd52j3 := Hd48j3.out
 have kx53j3 := hd52j3.c0
 have ky54j3 := hd52j3.c1
 have kp55j3 := hd52j3.f0
 have kq56j3 := hd52j3.f1
 clear hd52j3
 have ha57j3 := Ha49j3.out
 have kx58j3 := ha57j3.c0
 have ky59j3 := ha57j3.c1
 have kz60j3 := ha57j3.c2
 have kw61j3 := ha57j3.c3
 clear ha57j3
 have hr62j3 := Hr50j3.out
 have kx63j3 := hr62j3.c0
 have ky64j3 := hr62j3.c1
 have kp65j3 := hr62j3.f0
 have kq66j3 := hr62j3.f1
 clear hr62j3
 have Hd67j3 : Hid (Bx11 ((w2.setCell ⟨w.heap.size, 0, none⟩ (.slice A2 n2 c2)).setCell ⟨w.heap.size, 1, none⟩ (.slice A3 n3 c3)) (w.heap.size) (.slice A2 n2 c2) (.slice A3 n3 c3)) := Hd48j3.out.set1 _
 have Ha68j3 : Hid (Act11 ((w2.setCell ⟨w.heap.size, 0, none⟩ (.slice A2 n2 c2)).setCell ⟨w.heap.size, 1, none⟩ (.slice A3 n3 c3)) (w.heap.size + 1) (kd) (a) (b) (z)) := Ha49j3.out.other (by omega) _
 have Hr69j3 : Hid (Bx11 ((w2.setCell ⟨w.heap.size, 0, none⟩ (.slice A2 n2 c2)).setCell ⟨w.heap.size, 1, none⟩ (.slice A3 n3 c3)) (w.heap.size + 2) (.slice none 0 0) (.slice none 0 0)) := Hr50j3.out.other (by omega) _
 have HB70j3 : Hid (Below w.heap.size w ((w2.setCell ⟨w.heap.size, 0, none⟩ (.slice A2 n2 c2)).setCell ⟨w.heap.size, 1, none⟩ (.slice A3 n3 c3))) := HB51j3.out.setCell (p := ⟨w.heap.size, 1, none⟩) HLO2j3.out _
 have HKD : Hid (KeepD11 w2 ((w2.setCell ⟨w.heap.size, 0, none⟩ (.slice A2 n2 c2)).setCell ⟨w.heap.size, 1, none⟩ (.slice A3 n3 c3))) := (Hd29j3.out.keep 0 _).trans (Hd48j3.out.keep 1 _)
 have hd71j3 := Hd67j3.out
 have kx72j3 := hd71j3.c0
 have ky73j3 := hd71j3.c1
 have kp74j3 := hd71j3.f0
 have kq75j3 := hd71j3.f1
 clear hd71j3
 have ha76j3 := Ha68j3.out
 have kx77j3 := ha76j3.c0
 have ky78j3 := ha76j3.c1
 have kz79j3 := ha76j3.c2
 have kw80j3 := ha76j3.c3
 clear ha76j3
 have hr81j3 := Hr69j3.out
 have kx82j3 := hr81j3.c0
 have ky83j3 := hr81j3.c1
 have kp84j3 := hr81j3.f0
 have kq85j3 := hr81j3.f1
 clear hr81j3
 go_wp2_with fail
 generalize (w2.setCell ⟨w.heap.size, 0, none⟩ (.slice A2 n2 c2)).setCell ⟨w.heap.size, 1, none⟩ (.slice A3 n3 c3) = wg86j3 at *
 with_reducible refine (HDO.out wg86j3 (HO.out.later HB70j3.out)).mono ?_
 rintro e w5 ⟨rfl, hgo⟩
 clear kx34j3 ky35j3 kp36j3 kq37j3 kx39j3 ky40j3 kz41j3 kw42j3 kx44j3 ky45j3 kp46j3 kq47j3 kx53j3 ky54j3 kp55j3 kq56j3 kx58j3 ky59j3 kz60j3 kw61j3 kx63j3 ky64j3 kp65j3 kq66j3 kx72j3 ky73j3 kp74j3 kq75j3 kx77j3 ky78j3 kz79j3 kw80j3 kx82j3 ky83j3 kp84j3 kq85j3
 have Hd87j3 : Hid (Bx11 (w5) (w.heap.size) (.slice A2 n2 c2) (.slice A3 n3 c3)) := Hd67j3.out.keeps11 hgo.2
 have Hr88j3 : Hid (Bx11 (w5) (w.heap.size + 2) (.slice none 0 0) (.slice none 0 0)) := Hr69j3.out.keeps11 hgo.2
 have HRC5 : Hid (Rc11 0 R2 w5 (.slice A2 n2 c2)) := (HRC.out.keepD11 HKD.out).keeps hgo.2
 have HNM5 : Hid (NmR w5 (.slice A3 n3 c3) nx) := (HNM.out.keepD11 HKD.out).keeps11 hgo.2
 have HK5 : Hid (Keeps11 w w5) := (Keeps11.of_below HB70j3.out).trans hgo.2
 have HO5 := Lib.hid hgo.1
 clear hgo HDO HO HRC HNM HKD
 have hd89j3 := Hd87j3.out
 have kx90j3 := hd89j3.c0
 have ky91j3 := hd89j3.c1
 have kp92j3 := hd89j3.f0
 have kq93j3 := hd89j3.f1
 clear hd89j3
 have hr94j3 := Hr88j3.out
 have kx95j3 := hr94j3.c0
 have ky96j3 := hr94j3.c1
 have kp97j3 := hr94j3.f0
 have kq98j3 := hr94j3.f1
 clear hr94j3
 have HRES : Hid (Bx11 ((w5.setCell ⟨w.heap.size + 2, 0, none⟩ (.slice A2 n2 c2)).setCell ⟨w.heap.size + 2, 1, none⟩ (.slice A3 n3 c3)) (w.heap.size + 2) (.slice A2 n2 c2) (.slice A3 n3 c3)) := (Hr88j3.out.set0 _).set1 _
 have HKF : Hid (KeepD11 w5 ((w5.setCell ⟨w.heap.size + 2, 0, none⟩ (.slice A2 n2 c2)).setCell ⟨w.heap.size + 2, 1, none⟩ (.slice A3 n3 c3))) := (Hr88j3.out.keep 0 _).trans ((Hr88j3.out.set0 _).keep 1 _)
 have HOF : Hid (Own11 w0 ((w5.setCell ⟨w.heap.size + 2, 0, none⟩ (.slice A2 n2 c2)).setCell ⟨w.heap.size + 2, 1, none⟩ (.slice A3 n3 c3)) D P M G A L' S) := (HO5.out.cell11 Hr88j3.out (Nat.le_trans HW0.out (by omega)) _).cell11 (Hr88j3.out.set0 _) (Nat.le_trans HW0.out (by omega)) _
 have HKP : Hid (Keeps11 w ((w5.setCell ⟨w.heap.size + 2, 0, none⟩ (.slice A2 n2 c2)).setCell ⟨w.heap.size + 2, 1, none⟩ (.slice A3 n3 c3))) := (HK5.out.cellN11 (by omega) _).cellN11 (by omega) _
 have HPOST : Hid (Did11 w0 D P M G k w (tell11 A L S) kd a.data.toList b.data.toList (.returned (.tuple #[.agg #[.slice A2 n2 c2, .slice A3 n3 c3], .bool true])) ((w5.setCell ⟨w.heap.size + 2, 0, none⟩ (.slice A2 n2 c2)).setCell ⟨w.heap.size + 2, 1, none⟩ (.slice A3 n3 c3))) := ⟨_, _, _, R2, _, _, rfl, HOF.out, HONE.out.1, HRC5.out.keepD11 HKF.out, by rw [HONE.out.2.2]; exact HNM5.out.keepD11 HKF.out, by rw [HPL.out, HONE.out.2.1], HKP.out, by rw [HONE.out.2.1]; exact HOTH.out⟩
 have z0 := HRES.out.c0
 have z1 := HRES.out.c1
 go_wp2
 refine bodyPost_ret (v := .tuple #[.agg #[.slice A2 n2 c2, .slice A3 n3 c3], .bool true]) ?_ rfl HPOST.out
 simp [results, Tryz.results10, go_sem, z0, z1]

set_option maxRecDepth 100000 in
set_option maxHeartbeats 8000000 in
theorem do11_4 (R : RowV W11) (v vg : Value) (kd : Nat) (a b : ByteArray) (z : Bool) (w : World) (ho : Own11 w0 w D P M G A L S) (hg : Good11 A L S k) (hk : k ≤ 90) (h5 : Len5 w0) (hR : Rc11 0 R w v) (hN : NmR w vg (names10 S)) (hp : plainR R = tell11 A L S) (ha : a.size ≤ 50) (hb5 : b.size ≤ 50) (hkd : kd % 11 = 4) :
  Calls Tryz.prog 10 #[.pointer (some ⟨D, 0, none⟩), .agg #[v, vg], .agg #[.int .u8 (kd : Int), .string a, .string b, .bool z]] w (Did11 w0 D P M G k w (tell11 A L S) kd a.data.toList b.data.toList) := by
 obtain ⟨f1, f2, f3, f4⟩ := rows_facts11 hg hp
 have HRF : Hid (∀ W', Below w.heap.size w W' → Calls Tryz.prog 37 #[.agg #[v, vg], .string a, .bool z] W' (Doc11 (diE11 A a.data.toList z) (ddiL (tell11 A L S) a.data.toList z) (names10 S) W')) := fun W' hb => by
  have hR := hR.later hb
  have hN := hN.later hb
  have h := rdisable11_calls _ _ R _ a z W' hR hN f1 f2 (by omega)
  rw [hp] at h
  have e := (show _ = diE11 A a.data.toList z from di_same hg _ _)
  rwa [e] at h
 have HDO : Hid (∀ W', Own11 w0 W' D P M G A L S → Calls Tryz.prog 38 #[.pointer (some ⟨D, 0, none⟩), .string a, .bool z] W' fun e w' => e = .returned (.int .i64 (diE11 A a.data.toList z)) ∧ Goes11 w0 W' D P M G (diA11 A a.data.toList z) (L) (S) w') := fun W' ho => disable11_calls a z ho hg (by omega)
 have HONE : Hid (One11 (diA11 A a.data.toList z) (L) (S) (ddiL (tell11 A L S) a.data.toList z) (names10 S) (k + 1)) := di_one hg _ _
 have HRT : Hid (RiseV (tell11 A L S)) := tell_rise hg.rise
 have HOTH : Hid (Others11 kd a.data.toList b.data.toList (tell11 A L S) (ddiL (tell11 A L S) a.data.toList z)) := oth_di HRT.out z hkd
 have hrem : (kd : Int).tmod 11 = 4 := by
  have : (kd : Int).tmod 11 = ((kd % 11 : Nat) : Int) := rfl
  rw [this, hkd]; rfl
 have hzd : ∀ w : World, (zeroValue TD11).run Tryz.prog w = .ok (.agg #[.slice none 0 0, .slice none 0 0]) w := fun w => by kernel_rfl
 have HO := Lib.hid ho
 have HW0 : Hid (w0.heap.size ≤ w.heap.size) := ho.below.size
 obtain ⟨A0, c, rfl⟩ := hR.rw.us.shape
 obtain ⟨A1, c1, rfl⟩ := hN.shape
 clear ho hg hR hN hp h5 f1 f2 f3 f4 hkd
 generalize R.length = n at *
 generalize (names10 S).length = n1 at *
 generalize diE11 A a.data.toList z = E at HRF HDO HONE HOTH
 generalize diA11 A a.data.toList z = A' at HRF HDO HONE HOTH
 generalize ddiL (tell11 A L S) a.data.toList z = l' at HRF HDO HONE HOTH
 generalize hnx : names10 S = nx at HRF HONE
 have Hd1j4 : Hid (Bx11 (w.alloc (.cells #[.slice A0 n c, .slice A1 n1 c1] TD11)) (w.heap.size) (.slice A0 n c) (.slice A1 n1 c1)) := bx11_new w _ _
 have HLO2j4 : Hid (w.heap.size ≤ w.heap.size) := by show _ ≤ _; omega
 have HB3j4 : Hid (Below w.heap.size w (w.alloc (.cells #[.slice A0 n c, .slice A1 n1 c1] TD11))) := below_alloc (Below.refl _ _) _
 have Hd4j4 := Lib.hid (Hd1j4.out.later (below_alloc (Below.refl _ _) (.cells #[.int .u8 (kd : Int), .string a, .string b, .bool z] 32)))
 have Ha5j4 : Hid (Act11 ((w.alloc (.cells #[.slice A0 n c, .slice A1 n1 c1] TD11)).alloc (.cells #[.int .u8 (kd : Int), .string a, .string b, .bool z] 32)) (w.heap.size + 1) (kd) (a) (b) (z)) := by
  have hq : Act11 ((w.alloc (.cells #[.slice A0 n c, .slice A1 n1 c1] TD11)).alloc (.cells #[.int .u8 (kd : Int), .string a, .string b, .bool z] 32)) (w.alloc (.cells #[.slice A0 n c, .slice A1 n1 c1] TD11)).heap.size (kd) (a) (b) (z) := act11_new (w.alloc (.cells #[.slice A0 n c, .slice A1 n1 c1] TD11)) _ _ _ _
  simp only [World.size_alloc] at hq
  exact hq
 have HLO6j4 : Hid (w.heap.size ≤ w.heap.size + 1) := by show _ ≤ _; omega
 have HB7j4 := Lib.hid (below_next HB3j4.out (below_alloc (Below.refl _ _) (.cells #[.int .u8 (kd : Int), .string a, .string b, .bool z] 32)))
 have Hd8j4 := Lib.hid (Hd4j4.out.later (below_alloc (Below.refl _ _) (.cells #[.slice none 0 0, .slice none 0 0] TD11)))
 have Ha9j4 := Lib.hid (Ha5j4.out.later (below_alloc (Below.refl _ _) (.cells #[.slice none 0 0, .slice none 0 0] TD11)))
 have Hr10j4 : Hid (Bx11 (((w.alloc (.cells #[.slice A0 n c, .slice A1 n1 c1] TD11)).alloc (.cells #[.int .u8 (kd : Int), .string a, .string b, .bool z] 32)).alloc (.cells #[.slice none 0 0, .slice none 0 0] TD11)) (w.heap.size + 2) (.slice none 0 0) (.slice none 0 0)) := by
  have hq : Bx11 (((w.alloc (.cells #[.slice A0 n c, .slice A1 n1 c1] TD11)).alloc (.cells #[.int .u8 (kd : Int), .string a, .string b, .bool z] 32)).alloc (.cells #[.slice none 0 0, .slice none 0 0] TD11)) ((w.alloc (.cells #[.slice A0 n c, .slice A1 n1 c1] TD11)).alloc (.cells #[.int .u8 (kd : Int), .string a, .string b, .bool z] 32)).heap.size (.slice none 0 0) (.slice none 0 0) := bx11_new ((w.alloc (.cells #[.slice A0 n c, .slice A1 n1 c1] TD11)).alloc (.cells #[.int .u8 (kd : Int), .string a, .string b, .bool z] 32)) _ _
  simp only [World.size_alloc] at hq
  exact hq
 have HLO11j4 : Hid (w.heap.size ≤ w.heap.size + 2) := by show _ ≤ _; omega
 have HB12j4 := Lib.hid (below_next HB7j4.out (below_alloc (Below.refl _ _) (.cells #[.slice none 0 0, .slice none 0 0] TD11)))
 go_enter Tryz.func10, Tryz.ntmps10
 have hd13j4 := Hd8j4.out
 have kx14j4 := hd13j4.c0
 have ky15j4 := hd13j4.c1
 have kp16j4 := hd13j4.f0
 have kq17j4 := hd13j4.f1
 clear hd13j4
 have ha18j4 := Ha9j4.out
 have kx19j4 := ha18j4.c0
 have ky20j4 := ha18j4.c1
 have kz21j4 := ha18j4.c2
 have kw22j4 := ha18j4.c3
 clear ha18j4
 have hr23j4 := Hr10j4.out
 have kx24j4 := hr23j4.c0
 have ky25j4 := hr23j4.c1
 have kp26j4 := hr23j4.f0
 have kq27j4 := hr23j4.f1
 clear hr23j4
 go_wp2_with fail
 generalize ((w.alloc (.cells #[.slice A0 n c, .slice A1 n1 c1] TD11)).alloc (.cells #[.int .u8 (kd : Int), .string a, .string b, .bool z] 32)).alloc (.cells #[.slice none 0 0, .slice none 0 0] TD11) = wg28j4 at *
 with_reducible refine (HRF.out wg28j4 HB12j4.out).mono ?_
 rintro e w2 ⟨R2, u1, u2, rfl, hrc, hpl, hnm, hb⟩
 clear kx14j4 ky15j4 kp16j4 kq17j4 kx19j4 ky20j4 kz21j4 kw22j4 kx24j4 ky25j4 kp26j4 kq27j4
 have Hd29j4 := Lib.hid (Hd8j4.out.later hb)
 have Ha30j4 := Lib.hid (Ha9j4.out.later hb)
 have Hr31j4 := Lib.hid (Hr10j4.out.later hb)
 have HB32j4 := Lib.hid (below_next HB12j4.out hb)
 obtain ⟨A2, c2, rfl⟩ := hrc.rw.us.shape
 obtain ⟨A3, c3, rfl⟩ := hnm.shape
 have HRC := Lib.hid hrc
 have HPL := Lib.hid hpl
 have HNM := Lib.hid hnm
 clear hrc hpl hnm HRF
 obtain ⟨n2, hn2⟩ : ∃ m, m = R2.length := ⟨_, rfl⟩
 obtain ⟨n3, hn3⟩ : ∃ m, m = List.length nx := ⟨_, rfl⟩
 rw [← hn2] at HRC ⊢
 rw [← hn3] at HNM ⊢
 clear hn2 hn3
 clear hb
 have hd33j4 := Hd29j4.out
 have kx34j4 := hd33j4.c0
 have ky35j4 := hd33j4.c1
 have kp36j4 := hd33j4.f0
 have kq37j4 := hd33j4.f1
 clear hd33j4
 have ha38j4 := Ha30j4.out
 have kx39j4 := ha38j4.c0
 have ky40j4 := ha38j4.c1
 have kz41j4 := ha38j4.c2
 have kw42j4 := ha38j4.c3
 clear ha38j4
 have hr43j4 := Hr31j4.out
 have kx44j4 := hr43j4.c0
 have ky45j4 := hr43j4.c1
 have kp46j4 := hr43j4.f0
 have kq47j4 := hr43j4.f1
 clear hr43j4
 have Hd48j4 : Hid (Bx11 (w2.setCell ⟨w.heap.size, 0, none⟩ (.slice A2 n2 c2)) (w.heap.size) (.slice A2 n2 c2) (.slice A1 n1 c1)) := Hd29j4.out.set0 _
 have Ha49j4 : Hid (Act11 (w2.setCell ⟨w.heap.size, 0, none⟩ (.slice A2 n2 c2)) (w.heap.size + 1) (kd) (a) (b) (z)) := Ha30j4.out.other (by omega) _
 have Hr50j4 : Hid (Bx11 (w2.setCell ⟨w.heap.size, 0, none⟩ (.slice A2 n2 c2)) (w.heap.size + 2) (.slice none 0 0) (.slice none 0 0)) := Hr31j4.out.other (by omega) _
 have HB51j4 : Hid (Below w.heap.size w (w2.setCell ⟨w.heap.size, 0, none⟩ (.slice A2 n2 c2))) := HB32j4.out.setCell (p := ⟨w.heap.size, 0, none⟩) HLO2j4.out _
 have hd52j4 := Hd48j4.out
 have kx53j4 := hd52j4.c0
 have ky54j4 := hd52j4.c1
 have kp55j4 := hd52j4.f0
 have kq56j4 := hd52j4.f1
 clear hd52j4
 have ha57j4 := Ha49j4.out
 have kx58j4 := ha57j4.c0
 have ky59j4 := ha57j4.c1
 have kz60j4 := ha57j4.c2
 have kw61j4 := ha57j4.c3
 clear ha57j4
 have hr62j4 := Hr50j4.out
 have kx63j4 := hr62j4.c0
 have ky64j4 := hr62j4.c1
 have kp65j4 := hr62j4.f0
 have kq66j4 := hr62j4.f1
 clear hr62j4
 have Hd67j4 : Hid (Bx11 ((w2.setCell ⟨w.heap.size, 0, none⟩ (.slice A2 n2 c2)).setCell ⟨w.heap.size, 1, none⟩ (.slice A3 n3 c3)) (w.heap.size) (.slice A2 n2 c2) (.slice A3 n3 c3)) := Hd48j4.out.set1 _
 have Ha68j4 : Hid (Act11 ((w2.setCell ⟨w.heap.size, 0, none⟩ (.slice A2 n2 c2)).setCell ⟨w.heap.size, 1, none⟩ (.slice A3 n3 c3)) (w.heap.size + 1) (kd) (a) (b) (z)) := Ha49j4.out.other (by omega) _
 have Hr69j4 : Hid (Bx11 ((w2.setCell ⟨w.heap.size, 0, none⟩ (.slice A2 n2 c2)).setCell ⟨w.heap.size, 1, none⟩ (.slice A3 n3 c3)) (w.heap.size + 2) (.slice none 0 0) (.slice none 0 0)) := Hr50j4.out.other (by omega) _
 have HB70j4 : Hid (Below w.heap.size w ((w2.setCell ⟨w.heap.size, 0, none⟩ (.slice A2 n2 c2)).setCell ⟨w.heap.size, 1, none⟩ (.slice A3 n3 c3))) := HB51j4.out.setCell (p := ⟨w.heap.size, 1, none⟩) HLO2j4.out _
 have HKD : Hid (KeepD11 w2 ((w2.setCell ⟨w.heap.size, 0, none⟩ (.slice A2 n2 c2)).setCell ⟨w.heap.size, 1, none⟩ (.slice A3 n3 c3))) := (Hd29j4.out.keep 0 _).trans (Hd48j4.out.keep 1 _)
 have hd71j4 := Hd67j4.out
 have kx72j4 := hd71j4.c0
 have ky73j4 := hd71j4.c1
 have kp74j4 := hd71j4.f0
 have kq75j4 := hd71j4.f1
 clear hd71j4
 have ha76j4 := Ha68j4.out
 have kx77j4 := ha76j4.c0
 have ky78j4 := ha76j4.c1
 have kz79j4 := ha76j4.c2
 have kw80j4 := ha76j4.c3
 clear ha76j4
 have hr81j4 := Hr69j4.out
 have kx82j4 := hr81j4.c0
 have ky83j4 := hr81j4.c1
 have kp84j4 := hr81j4.f0
 have kq85j4 := hr81j4.f1
 clear hr81j4
 go_wp2_with fail
 generalize (w2.setCell ⟨w.heap.size, 0, none⟩ (.slice A2 n2 c2)).setCell ⟨w.heap.size, 1, none⟩ (.slice A3 n3 c3) = wg86j4 at *
 with_reducible refine (HDO.out wg86j4 (HO.out.later HB70j4.out)).mono ?_
 rintro e w5 ⟨rfl, hgo⟩
 clear kx34j4 ky35j4 kp36j4 kq37j4 kx39j4 ky40j4 kz41j4 kw42j4 kx44j4 ky45j4 kp46j4 kq47j4 kx53j4 ky54j4 kp55j4 kq56j4 kx58j4 ky59j4 kz60j4 kw61j4 kx63j4 ky64j4 kp65j4 kq66j4 kx72j4 ky73j4 kp74j4 kq75j4 kx77j4 ky78j4 kz79j4 kw80j4 kx82j4 ky83j4 kp84j4 kq85j4
 have Hd87j4 : Hid (Bx11 (w5) (w.heap.size) (.slice A2 n2 c2) (.slice A3 n3 c3)) := Hd67j4.out.keeps11 hgo.2
 have Hr88j4 : Hid (Bx11 (w5) (w.heap.size + 2) (.slice none 0 0) (.slice none 0 0)) := Hr69j4.out.keeps11 hgo.2
 have HRC5 : Hid (Rc11 0 R2 w5 (.slice A2 n2 c2)) := (HRC.out.keepD11 HKD.out).keeps hgo.2
 have HNM5 : Hid (NmR w5 (.slice A3 n3 c3) nx) := (HNM.out.keepD11 HKD.out).keeps11 hgo.2
 have HK5 : Hid (Keeps11 w w5) := (Keeps11.of_below HB70j4.out).trans hgo.2
 have HO5 := Lib.hid hgo.1
 clear hgo HDO HO HRC HNM HKD
 have hd89j4 := Hd87j4.out
 have kx90j4 := hd89j4.c0
 have ky91j4 := hd89j4.c1
 have kp92j4 := hd89j4.f0
 have kq93j4 := hd89j4.f1
 clear hd89j4
 have hr94j4 := Hr88j4.out
 have kx95j4 := hr94j4.c0
 have ky96j4 := hr94j4.c1
 have kp97j4 := hr94j4.f0
 have kq98j4 := hr94j4.f1
 clear hr94j4
 have HRES : Hid (Bx11 ((w5.setCell ⟨w.heap.size + 2, 0, none⟩ (.slice A2 n2 c2)).setCell ⟨w.heap.size + 2, 1, none⟩ (.slice A3 n3 c3)) (w.heap.size + 2) (.slice A2 n2 c2) (.slice A3 n3 c3)) := (Hr88j4.out.set0 _).set1 _
 have HKF : Hid (KeepD11 w5 ((w5.setCell ⟨w.heap.size + 2, 0, none⟩ (.slice A2 n2 c2)).setCell ⟨w.heap.size + 2, 1, none⟩ (.slice A3 n3 c3))) := (Hr88j4.out.keep 0 _).trans ((Hr88j4.out.set0 _).keep 1 _)
 have HOF : Hid (Own11 w0 ((w5.setCell ⟨w.heap.size + 2, 0, none⟩ (.slice A2 n2 c2)).setCell ⟨w.heap.size + 2, 1, none⟩ (.slice A3 n3 c3)) D P M G A' L S) := (HO5.out.cell11 Hr88j4.out (Nat.le_trans HW0.out (by omega)) _).cell11 (Hr88j4.out.set0 _) (Nat.le_trans HW0.out (by omega)) _
 have HKP : Hid (Keeps11 w ((w5.setCell ⟨w.heap.size + 2, 0, none⟩ (.slice A2 n2 c2)).setCell ⟨w.heap.size + 2, 1, none⟩ (.slice A3 n3 c3))) := (HK5.out.cellN11 (by omega) _).cellN11 (by omega) _
 have HPOST : Hid (Did11 w0 D P M G k w (tell11 A L S) kd a.data.toList b.data.toList (.returned (.tuple #[.agg #[.slice A2 n2 c2, .slice A3 n3 c3], .bool true])) ((w5.setCell ⟨w.heap.size + 2, 0, none⟩ (.slice A2 n2 c2)).setCell ⟨w.heap.size + 2, 1, none⟩ (.slice A3 n3 c3))) := ⟨_, _, _, R2, _, _, rfl, HOF.out, HONE.out.1, HRC5.out.keepD11 HKF.out, by rw [HONE.out.2.2]; exact HNM5.out.keepD11 HKF.out, by rw [HPL.out, HONE.out.2.1], HKP.out, by rw [HONE.out.2.1]; exact HOTH.out⟩
 have z0 := HRES.out.c0
 have z1 := HRES.out.c1
 go_wp2
 refine bodyPost_ret (v := .tuple #[.agg #[.slice A2 n2 c2, .slice A3 n3 c3], .bool true]) ?_ rfl HPOST.out
 simp [results, Tryz.results10, go_sem, z0, z1]

set_option maxRecDepth 100000 in
set_option maxHeartbeats 8000000 in
theorem do11_5 (R : RowV W11) (v vg : Value) (kd : Nat) (a b : ByteArray) (z : Bool) (w : World) (ho : Own11 w0 w D P M G A L S) (hg : Good11 A L S k) (hk : k ≤ 90) (h5 : Len5 w0) (hR : Rc11 0 R w v) (hN : NmR w vg (names10 S)) (hp : plainR R = tell11 A L S) (ha : a.size ≤ 50) (hb5 : b.size ≤ 50) (hkd : kd % 11 = 5) :
  Calls Tryz.prog 10 #[.pointer (some ⟨D, 0, none⟩), .agg #[v, vg], .agg #[.int .u8 (kd : Int), .string a, .string b, .bool z]] w (Did11 w0 D P M G k w (tell11 A L S) kd a.data.toList b.data.toList) := by
 obtain ⟨f1, f2, f3, f4⟩ := rows_facts11 hg hp
 have HRF : Hid (∀ W', Below w.heap.size w W' → Calls Tryz.prog 39 #[.agg #[v, vg], .string a, .string b] W' (Doc11 (rnE11 A a.data.toList b.data.toList) (drnL (tell11 A L S) a.data.toList b.data.toList) (names10 S) W')) := fun W' hb => by
  have hR := hR.later hb
  have hN := hN.later hb
  have h := rrename11_calls _ _ R _ a b W' hR hN f1 f2 (by omega) (by omega)
  rw [hp] at h
  have e := (show _ = rnE11 A a.data.toList b.data.toList from rn_same (A := A) (L := L) (S := S) _ _)
  rwa [e] at h
 have HDO : Hid (∀ W', Own11 w0 W' D P M G A L S → Calls Tryz.prog 29 #[.pointer (some ⟨D, 0, none⟩), .string a, .string b] W' fun e w' => e = .returned (.int .i64 (rnE11 A a.data.toList b.data.toList)) ∧ Goes11 w0 W' D P M G (rnA11 A a.data.toList b.data.toList) (rnL11 A L a.data.toList b.data.toList) (rnS11 A S a.data.toList b.data.toList) w') := fun W' ho => rename11_calls a b ho hg (by omega) (by omega) (by omega)
 have HONE : Hid (One11 (rnA11 A a.data.toList b.data.toList) (rnL11 A L a.data.toList b.data.toList) (rnS11 A S a.data.toList b.data.toList) (drnL (tell11 A L S) a.data.toList b.data.toList) (names10 S) (k + 1)) := rn_one hg _ _
 have HRT : Hid (RiseV (tell11 A L S)) := tell_rise hg.rise
 have HOTH : Hid (Others11 kd a.data.toList b.data.toList (tell11 A L S) (drnL (tell11 A L S) a.data.toList b.data.toList)) := oth_rn HRT.out hkd
 have hrem : (kd : Int).tmod 11 = 5 := by
  have : (kd : Int).tmod 11 = ((kd % 11 : Nat) : Int) := rfl
  rw [this, hkd]; rfl
 have hzd : ∀ w : World, (zeroValue TD11).run Tryz.prog w = .ok (.agg #[.slice none 0 0, .slice none 0 0]) w := fun w => by kernel_rfl
 have HO := Lib.hid ho
 have HW0 : Hid (w0.heap.size ≤ w.heap.size) := ho.below.size
 obtain ⟨A0, c, rfl⟩ := hR.rw.us.shape
 obtain ⟨A1, c1, rfl⟩ := hN.shape
 clear ho hg hR hN hp h5 f1 f2 f3 f4 hkd
 generalize R.length = n at *
 generalize (names10 S).length = n1 at *
 generalize rnE11 A a.data.toList b.data.toList = E at HRF HDO HONE HOTH
 generalize rnA11 A a.data.toList b.data.toList = A' at HRF HDO HONE HOTH
 generalize rnL11 A L a.data.toList b.data.toList = L' at HRF HDO HONE HOTH
 generalize rnS11 A S a.data.toList b.data.toList = S' at HRF HDO HONE HOTH
 generalize drnL (tell11 A L S) a.data.toList b.data.toList = l' at HRF HDO HONE HOTH
 generalize hnx : names10 S = nx at HRF HONE
 have Hd1j5 : Hid (Bx11 (w.alloc (.cells #[.slice A0 n c, .slice A1 n1 c1] TD11)) (w.heap.size) (.slice A0 n c) (.slice A1 n1 c1)) := bx11_new w _ _
 have HLO2j5 : Hid (w.heap.size ≤ w.heap.size) := by show _ ≤ _; omega
 have HB3j5 : Hid (Below w.heap.size w (w.alloc (.cells #[.slice A0 n c, .slice A1 n1 c1] TD11))) := below_alloc (Below.refl _ _) _
 have Hd4j5 := Lib.hid (Hd1j5.out.later (below_alloc (Below.refl _ _) (.cells #[.int .u8 (kd : Int), .string a, .string b, .bool z] 32)))
 have Ha5j5 : Hid (Act11 ((w.alloc (.cells #[.slice A0 n c, .slice A1 n1 c1] TD11)).alloc (.cells #[.int .u8 (kd : Int), .string a, .string b, .bool z] 32)) (w.heap.size + 1) (kd) (a) (b) (z)) := by
  have hq : Act11 ((w.alloc (.cells #[.slice A0 n c, .slice A1 n1 c1] TD11)).alloc (.cells #[.int .u8 (kd : Int), .string a, .string b, .bool z] 32)) (w.alloc (.cells #[.slice A0 n c, .slice A1 n1 c1] TD11)).heap.size (kd) (a) (b) (z) := act11_new (w.alloc (.cells #[.slice A0 n c, .slice A1 n1 c1] TD11)) _ _ _ _
  simp only [World.size_alloc] at hq
  exact hq
 have HLO6j5 : Hid (w.heap.size ≤ w.heap.size + 1) := by show _ ≤ _; omega
 have HB7j5 := Lib.hid (below_next HB3j5.out (below_alloc (Below.refl _ _) (.cells #[.int .u8 (kd : Int), .string a, .string b, .bool z] 32)))
 have Hd8j5 := Lib.hid (Hd4j5.out.later (below_alloc (Below.refl _ _) (.cells #[.slice none 0 0, .slice none 0 0] TD11)))
 have Ha9j5 := Lib.hid (Ha5j5.out.later (below_alloc (Below.refl _ _) (.cells #[.slice none 0 0, .slice none 0 0] TD11)))
 have Hr10j5 : Hid (Bx11 (((w.alloc (.cells #[.slice A0 n c, .slice A1 n1 c1] TD11)).alloc (.cells #[.int .u8 (kd : Int), .string a, .string b, .bool z] 32)).alloc (.cells #[.slice none 0 0, .slice none 0 0] TD11)) (w.heap.size + 2) (.slice none 0 0) (.slice none 0 0)) := by
  have hq : Bx11 (((w.alloc (.cells #[.slice A0 n c, .slice A1 n1 c1] TD11)).alloc (.cells #[.int .u8 (kd : Int), .string a, .string b, .bool z] 32)).alloc (.cells #[.slice none 0 0, .slice none 0 0] TD11)) ((w.alloc (.cells #[.slice A0 n c, .slice A1 n1 c1] TD11)).alloc (.cells #[.int .u8 (kd : Int), .string a, .string b, .bool z] 32)).heap.size (.slice none 0 0) (.slice none 0 0) := bx11_new ((w.alloc (.cells #[.slice A0 n c, .slice A1 n1 c1] TD11)).alloc (.cells #[.int .u8 (kd : Int), .string a, .string b, .bool z] 32)) _ _
  simp only [World.size_alloc] at hq
  exact hq
 have HLO11j5 : Hid (w.heap.size ≤ w.heap.size + 2) := by show _ ≤ _; omega
 have HB12j5 := Lib.hid (below_next HB7j5.out (below_alloc (Below.refl _ _) (.cells #[.slice none 0 0, .slice none 0 0] TD11)))
 go_enter Tryz.func10, Tryz.ntmps10
 have hd13j5 := Hd8j5.out
 have kx14j5 := hd13j5.c0
 have ky15j5 := hd13j5.c1
 have kp16j5 := hd13j5.f0
 have kq17j5 := hd13j5.f1
 clear hd13j5
 have ha18j5 := Ha9j5.out
 have kx19j5 := ha18j5.c0
 have ky20j5 := ha18j5.c1
 have kz21j5 := ha18j5.c2
 have kw22j5 := ha18j5.c3
 clear ha18j5
 have hr23j5 := Hr10j5.out
 have kx24j5 := hr23j5.c0
 have ky25j5 := hr23j5.c1
 have kp26j5 := hr23j5.f0
 have kq27j5 := hr23j5.f1
 clear hr23j5
 go_wp2_with fail
 generalize ((w.alloc (.cells #[.slice A0 n c, .slice A1 n1 c1] TD11)).alloc (.cells #[.int .u8 (kd : Int), .string a, .string b, .bool z] 32)).alloc (.cells #[.slice none 0 0, .slice none 0 0] TD11) = wg28j5 at *
 with_reducible refine (HRF.out wg28j5 HB12j5.out).mono ?_
 rintro e w2 ⟨R2, u1, u2, rfl, hrc, hpl, hnm, hb⟩
 clear kx14j5 ky15j5 kp16j5 kq17j5 kx19j5 ky20j5 kz21j5 kw22j5 kx24j5 ky25j5 kp26j5 kq27j5
 have Hd29j5 := Lib.hid (Hd8j5.out.later hb)
 have Ha30j5 := Lib.hid (Ha9j5.out.later hb)
 have Hr31j5 := Lib.hid (Hr10j5.out.later hb)
 have HB32j5 := Lib.hid (below_next HB12j5.out hb)
 obtain ⟨A2, c2, rfl⟩ := hrc.rw.us.shape
 obtain ⟨A3, c3, rfl⟩ := hnm.shape
 have HRC := Lib.hid hrc
 have HPL := Lib.hid hpl
 have HNM := Lib.hid hnm
 clear hrc hpl hnm HRF
 obtain ⟨n2, hn2⟩ : ∃ m, m = R2.length := ⟨_, rfl⟩
 obtain ⟨n3, hn3⟩ : ∃ m, m = List.length nx := ⟨_, rfl⟩
 rw [← hn2] at HRC ⊢
 rw [← hn3] at HNM ⊢
 clear hn2 hn3
 clear hb
 have hd33j5 := Hd29j5.out
 have kx34j5 := hd33j5.c0
 have ky35j5 := hd33j5.c1
 have kp36j5 := hd33j5.f0
 have kq37j5 := hd33j5.f1
 clear hd33j5
 have ha38j5 := Ha30j5.out
 have kx39j5 := ha38j5.c0
 have ky40j5 := ha38j5.c1
 have kz41j5 := ha38j5.c2
 have kw42j5 := ha38j5.c3
 clear ha38j5
 have hr43j5 := Hr31j5.out
 have kx44j5 := hr43j5.c0
 have ky45j5 := hr43j5.c1
 have kp46j5 := hr43j5.f0
 have kq47j5 := hr43j5.f1
 clear hr43j5
 have Hd48j5 : Hid (Bx11 (w2.setCell ⟨w.heap.size, 0, none⟩ (.slice A2 n2 c2)) (w.heap.size) (.slice A2 n2 c2) (.slice A1 n1 c1)) := Hd29j5.out.set0 _
 have Ha49j5 : Hid (Act11 (w2.setCell ⟨w.heap.size, 0, none⟩ (.slice A2 n2 c2)) (w.heap.size + 1) (kd) (a) (b) (z)) := Ha30j5.out.other (by omega) _
 have Hr50j5 : Hid (Bx11 (w2.setCell ⟨w.heap.size, 0, none⟩ (.slice A2 n2 c2)) (w.heap.size + 2) (.slice none 0 0) (.slice none 0 0)) := Hr31j5.out.other (by omega) _
 have HB51j5 : Hid (Below w.heap.size w (w2.setCell ⟨w.heap.size, 0, none⟩ (.slice A2 n2 c2))) := HB32j5.out.setCell (p := ⟨w.heap.size, 0, none⟩) HLO2j5.out _
 have hd52j5 := Hd48j5.out
 have kx53j5 := hd52j5.c0
 have ky54j5 := hd52j5.c1
 have kp55j5 := hd52j5.f0
 have kq56j5 := hd52j5.f1
 clear hd52j5
 have ha57j5 := Ha49j5.out
 have kx58j5 := ha57j5.c0
 have ky59j5 := ha57j5.c1
 have kz60j5 := ha57j5.c2
 have kw61j5 := ha57j5.c3
 clear ha57j5
 have hr62j5 := Hr50j5.out
 have kx63j5 := hr62j5.c0
 have ky64j5 := hr62j5.c1
 have kp65j5 := hr62j5.f0
 have kq66j5 := hr62j5.f1
 clear hr62j5
 have Hd67j5 : Hid (Bx11 ((w2.setCell ⟨w.heap.size, 0, none⟩ (.slice A2 n2 c2)).setCell ⟨w.heap.size, 1, none⟩ (.slice A3 n3 c3)) (w.heap.size) (.slice A2 n2 c2) (.slice A3 n3 c3)) := Hd48j5.out.set1 _
 have Ha68j5 : Hid (Act11 ((w2.setCell ⟨w.heap.size, 0, none⟩ (.slice A2 n2 c2)).setCell ⟨w.heap.size, 1, none⟩ (.slice A3 n3 c3)) (w.heap.size + 1) (kd) (a) (b) (z)) := Ha49j5.out.other (by omega) _
 have Hr69j5 : Hid (Bx11 ((w2.setCell ⟨w.heap.size, 0, none⟩ (.slice A2 n2 c2)).setCell ⟨w.heap.size, 1, none⟩ (.slice A3 n3 c3)) (w.heap.size + 2) (.slice none 0 0) (.slice none 0 0)) := Hr50j5.out.other (by omega) _
 have HB70j5 : Hid (Below w.heap.size w ((w2.setCell ⟨w.heap.size, 0, none⟩ (.slice A2 n2 c2)).setCell ⟨w.heap.size, 1, none⟩ (.slice A3 n3 c3))) := HB51j5.out.setCell (p := ⟨w.heap.size, 1, none⟩) HLO2j5.out _
 have HKD : Hid (KeepD11 w2 ((w2.setCell ⟨w.heap.size, 0, none⟩ (.slice A2 n2 c2)).setCell ⟨w.heap.size, 1, none⟩ (.slice A3 n3 c3))) := (Hd29j5.out.keep 0 _).trans (Hd48j5.out.keep 1 _)
 have hd71j5 := Hd67j5.out
 have kx72j5 := hd71j5.c0
 have ky73j5 := hd71j5.c1
 have kp74j5 := hd71j5.f0
 have kq75j5 := hd71j5.f1
 clear hd71j5
 have ha76j5 := Ha68j5.out
 have kx77j5 := ha76j5.c0
 have ky78j5 := ha76j5.c1
 have kz79j5 := ha76j5.c2
 have kw80j5 := ha76j5.c3
 clear ha76j5
 have hr81j5 := Hr69j5.out
 have kx82j5 := hr81j5.c0
 have ky83j5 := hr81j5.c1
 have kp84j5 := hr81j5.f0
 have kq85j5 := hr81j5.f1
 clear hr81j5
 go_wp2_with fail
 generalize (w2.setCell ⟨w.heap.size, 0, none⟩ (.slice A2 n2 c2)).setCell ⟨w.heap.size, 1, none⟩ (.slice A3 n3 c3) = wg86j5 at *
 with_reducible refine (HDO.out wg86j5 (HO.out.later HB70j5.out)).mono ?_
 rintro e w5 ⟨rfl, hgo⟩
 clear kx34j5 ky35j5 kp36j5 kq37j5 kx39j5 ky40j5 kz41j5 kw42j5 kx44j5 ky45j5 kp46j5 kq47j5 kx53j5 ky54j5 kp55j5 kq56j5 kx58j5 ky59j5 kz60j5 kw61j5 kx63j5 ky64j5 kp65j5 kq66j5 kx72j5 ky73j5 kp74j5 kq75j5 kx77j5 ky78j5 kz79j5 kw80j5 kx82j5 ky83j5 kp84j5 kq85j5
 have Hd87j5 : Hid (Bx11 (w5) (w.heap.size) (.slice A2 n2 c2) (.slice A3 n3 c3)) := Hd67j5.out.keeps11 hgo.2
 have Hr88j5 : Hid (Bx11 (w5) (w.heap.size + 2) (.slice none 0 0) (.slice none 0 0)) := Hr69j5.out.keeps11 hgo.2
 have HRC5 : Hid (Rc11 0 R2 w5 (.slice A2 n2 c2)) := (HRC.out.keepD11 HKD.out).keeps hgo.2
 have HNM5 : Hid (NmR w5 (.slice A3 n3 c3) nx) := (HNM.out.keepD11 HKD.out).keeps11 hgo.2
 have HK5 : Hid (Keeps11 w w5) := (Keeps11.of_below HB70j5.out).trans hgo.2
 have HO5 := Lib.hid hgo.1
 clear hgo HDO HO HRC HNM HKD
 have hd89j5 := Hd87j5.out
 have kx90j5 := hd89j5.c0
 have ky91j5 := hd89j5.c1
 have kp92j5 := hd89j5.f0
 have kq93j5 := hd89j5.f1
 clear hd89j5
 have hr94j5 := Hr88j5.out
 have kx95j5 := hr94j5.c0
 have ky96j5 := hr94j5.c1
 have kp97j5 := hr94j5.f0
 have kq98j5 := hr94j5.f1
 clear hr94j5
 have HRES : Hid (Bx11 ((w5.setCell ⟨w.heap.size + 2, 0, none⟩ (.slice A2 n2 c2)).setCell ⟨w.heap.size + 2, 1, none⟩ (.slice A3 n3 c3)) (w.heap.size + 2) (.slice A2 n2 c2) (.slice A3 n3 c3)) := (Hr88j5.out.set0 _).set1 _
 have HKF : Hid (KeepD11 w5 ((w5.setCell ⟨w.heap.size + 2, 0, none⟩ (.slice A2 n2 c2)).setCell ⟨w.heap.size + 2, 1, none⟩ (.slice A3 n3 c3))) := (Hr88j5.out.keep 0 _).trans ((Hr88j5.out.set0 _).keep 1 _)
 have HOF : Hid (Own11 w0 ((w5.setCell ⟨w.heap.size + 2, 0, none⟩ (.slice A2 n2 c2)).setCell ⟨w.heap.size + 2, 1, none⟩ (.slice A3 n3 c3)) D P M G A' L' S') := (HO5.out.cell11 Hr88j5.out (Nat.le_trans HW0.out (by omega)) _).cell11 (Hr88j5.out.set0 _) (Nat.le_trans HW0.out (by omega)) _
 have HKP : Hid (Keeps11 w ((w5.setCell ⟨w.heap.size + 2, 0, none⟩ (.slice A2 n2 c2)).setCell ⟨w.heap.size + 2, 1, none⟩ (.slice A3 n3 c3))) := (HK5.out.cellN11 (by omega) _).cellN11 (by omega) _
 have HPOST : Hid (Did11 w0 D P M G k w (tell11 A L S) kd a.data.toList b.data.toList (.returned (.tuple #[.agg #[.slice A2 n2 c2, .slice A3 n3 c3], .bool true])) ((w5.setCell ⟨w.heap.size + 2, 0, none⟩ (.slice A2 n2 c2)).setCell ⟨w.heap.size + 2, 1, none⟩ (.slice A3 n3 c3))) := ⟨_, _, _, R2, _, _, rfl, HOF.out, HONE.out.1, HRC5.out.keepD11 HKF.out, by rw [HONE.out.2.2]; exact HNM5.out.keepD11 HKF.out, by rw [HPL.out, HONE.out.2.1], HKP.out, by rw [HONE.out.2.1]; exact HOTH.out⟩
 have z0 := HRES.out.c0
 have z1 := HRES.out.c1
 go_wp2
 refine bodyPost_ret (v := .tuple #[.agg #[.slice A2 n2 c2, .slice A3 n3 c3], .bool true]) ?_ rfl HPOST.out
 simp [results, Tryz.results10, go_sem, z0, z1]

set_option maxRecDepth 100000 in
set_option maxHeartbeats 8000000 in
theorem do11_6 (R : RowV W11) (v vg : Value) (kd : Nat) (a b : ByteArray) (z : Bool) (w : World) (ho : Own11 w0 w D P M G A L S) (hg : Good11 A L S k) (hk : k ≤ 90) (h5 : Len5 w0) (hR : Rc11 0 R w v) (hN : NmR w vg (names10 S)) (hp : plainR R = tell11 A L S) (ha : a.size ≤ 50) (hb5 : b.size ≤ 50) (hkd : kd % 11 = 6) :
  Calls Tryz.prog 10 #[.pointer (some ⟨D, 0, none⟩), .agg #[v, vg], .agg #[.int .u8 (kd : Int), .string a, .string b, .bool z]] w (Did11 w0 D P M G k w (tell11 A L S) kd a.data.toList b.data.toList) := by
 obtain ⟨f1, f2, f3, f4⟩ := rows_facts11 hg hp
 have HRF : Hid (∀ W', Below w.heap.size w W' → Calls Tryz.prog 40 #[.agg #[v, vg], .string a] W' (Doc11 (maE10 S a.data.toList) (tell11 A L S) (dmaN11 (names10 S) a.data.toList) W')) := fun W' hb => by
  have hR := hR.later hb
  have hN := hN.later hb
  have h := rmakeGroup11_calls _ _ R _ a W' hR hN f3 (by omega)
  rw [hp] at h
  have e := (show _ = maE10 S a.data.toList from ma_same (S := S) _)
  rwa [e] at h
 have HDO : Hid (∀ W', Own11 w0 W' D P M G A L S → Calls Tryz.prog 41 #[.pointer (some ⟨D, 0, none⟩), .string a] W' fun e w' => e = .returned (.int .i64 (maE10 S a.data.toList)) ∧ Goes11 w0 W' D P M G (A) (L) (maS10 S a.data.toList) w') := fun W' ho => makeGroup11_calls a ho hg (by omega)
 have HONE : Hid (One11 (A) (L) (maS10 S a.data.toList) (tell11 A L S) (dmaN11 (names10 S) a.data.toList) (k + 1)) := ma_one hg _
 have HRT : Hid (RiseV (tell11 A L S)) := tell_rise hg.rise
 have HOTH : Hid (∀ T0 T', Others11 kd a.data.toList b.data.toList T0 T') := fun T0 T' h6 h7 => absurd hkd (by assumption)
 have hrem : (kd : Int).tmod 11 = 6 := by
  have : (kd : Int).tmod 11 = ((kd % 11 : Nat) : Int) := rfl
  rw [this, hkd]; rfl
 have hzd : ∀ w : World, (zeroValue TD11).run Tryz.prog w = .ok (.agg #[.slice none 0 0, .slice none 0 0]) w := fun w => by kernel_rfl
 have HO := Lib.hid ho
 have HW0 : Hid (w0.heap.size ≤ w.heap.size) := ho.below.size
 obtain ⟨A0, c, rfl⟩ := hR.rw.us.shape
 obtain ⟨A1, c1, rfl⟩ := hN.shape
 clear ho hg hR hN hp h5 f1 f2 f3 f4 hkd
 generalize R.length = n at *
 generalize (names10 S).length = n1 at *
 generalize maE10 S a.data.toList = E at HRF HDO HONE
 generalize maS10 S a.data.toList = S' at HRF HDO HONE
 generalize dmaN11 (names10 S) a.data.toList = N' at HRF HDO HONE
 generalize hlx : tell11 A L S = lx at HRF HONE
 have Hd1j6 : Hid (Bx11 (w.alloc (.cells #[.slice A0 n c, .slice A1 n1 c1] TD11)) (w.heap.size) (.slice A0 n c) (.slice A1 n1 c1)) := bx11_new w _ _
 have HLO2j6 : Hid (w.heap.size ≤ w.heap.size) := by show _ ≤ _; omega
 have HB3j6 : Hid (Below w.heap.size w (w.alloc (.cells #[.slice A0 n c, .slice A1 n1 c1] TD11))) := below_alloc (Below.refl _ _) _
 have Hd4j6 := Lib.hid (Hd1j6.out.later (below_alloc (Below.refl _ _) (.cells #[.int .u8 (kd : Int), .string a, .string b, .bool z] 32)))
 have Ha5j6 : Hid (Act11 ((w.alloc (.cells #[.slice A0 n c, .slice A1 n1 c1] TD11)).alloc (.cells #[.int .u8 (kd : Int), .string a, .string b, .bool z] 32)) (w.heap.size + 1) (kd) (a) (b) (z)) := by
  have hq : Act11 ((w.alloc (.cells #[.slice A0 n c, .slice A1 n1 c1] TD11)).alloc (.cells #[.int .u8 (kd : Int), .string a, .string b, .bool z] 32)) (w.alloc (.cells #[.slice A0 n c, .slice A1 n1 c1] TD11)).heap.size (kd) (a) (b) (z) := act11_new (w.alloc (.cells #[.slice A0 n c, .slice A1 n1 c1] TD11)) _ _ _ _
  simp only [World.size_alloc] at hq
  exact hq
 have HLO6j6 : Hid (w.heap.size ≤ w.heap.size + 1) := by show _ ≤ _; omega
 have HB7j6 := Lib.hid (below_next HB3j6.out (below_alloc (Below.refl _ _) (.cells #[.int .u8 (kd : Int), .string a, .string b, .bool z] 32)))
 have Hd8j6 := Lib.hid (Hd4j6.out.later (below_alloc (Below.refl _ _) (.cells #[.slice none 0 0, .slice none 0 0] TD11)))
 have Ha9j6 := Lib.hid (Ha5j6.out.later (below_alloc (Below.refl _ _) (.cells #[.slice none 0 0, .slice none 0 0] TD11)))
 have Hr10j6 : Hid (Bx11 (((w.alloc (.cells #[.slice A0 n c, .slice A1 n1 c1] TD11)).alloc (.cells #[.int .u8 (kd : Int), .string a, .string b, .bool z] 32)).alloc (.cells #[.slice none 0 0, .slice none 0 0] TD11)) (w.heap.size + 2) (.slice none 0 0) (.slice none 0 0)) := by
  have hq : Bx11 (((w.alloc (.cells #[.slice A0 n c, .slice A1 n1 c1] TD11)).alloc (.cells #[.int .u8 (kd : Int), .string a, .string b, .bool z] 32)).alloc (.cells #[.slice none 0 0, .slice none 0 0] TD11)) ((w.alloc (.cells #[.slice A0 n c, .slice A1 n1 c1] TD11)).alloc (.cells #[.int .u8 (kd : Int), .string a, .string b, .bool z] 32)).heap.size (.slice none 0 0) (.slice none 0 0) := bx11_new ((w.alloc (.cells #[.slice A0 n c, .slice A1 n1 c1] TD11)).alloc (.cells #[.int .u8 (kd : Int), .string a, .string b, .bool z] 32)) _ _
  simp only [World.size_alloc] at hq
  exact hq
 have HLO11j6 : Hid (w.heap.size ≤ w.heap.size + 2) := by show _ ≤ _; omega
 have HB12j6 := Lib.hid (below_next HB7j6.out (below_alloc (Below.refl _ _) (.cells #[.slice none 0 0, .slice none 0 0] TD11)))
 go_enter Tryz.func10, Tryz.ntmps10
 have hd13j6 := Hd8j6.out
 have kx14j6 := hd13j6.c0
 have ky15j6 := hd13j6.c1
 have kp16j6 := hd13j6.f0
 have kq17j6 := hd13j6.f1
 clear hd13j6
 have ha18j6 := Ha9j6.out
 have kx19j6 := ha18j6.c0
 have ky20j6 := ha18j6.c1
 have kz21j6 := ha18j6.c2
 have kw22j6 := ha18j6.c3
 clear ha18j6
 have hr23j6 := Hr10j6.out
 have kx24j6 := hr23j6.c0
 have ky25j6 := hr23j6.c1
 have kp26j6 := hr23j6.f0
 have kq27j6 := hr23j6.f1
 clear hr23j6
 go_wp2_with fail
 generalize ((w.alloc (.cells #[.slice A0 n c, .slice A1 n1 c1] TD11)).alloc (.cells #[.int .u8 (kd : Int), .string a, .string b, .bool z] 32)).alloc (.cells #[.slice none 0 0, .slice none 0 0] TD11) = wg28j6 at *
 with_reducible refine (HRF.out wg28j6 HB12j6.out).mono ?_
 rintro e w2 ⟨R2, u1, u2, rfl, hrc, hpl, hnm, hb⟩
 clear kx14j6 ky15j6 kp16j6 kq17j6 kx19j6 ky20j6 kz21j6 kw22j6 kx24j6 ky25j6 kp26j6 kq27j6
 have Hd29j6 := Lib.hid (Hd8j6.out.later hb)
 have Ha30j6 := Lib.hid (Ha9j6.out.later hb)
 have Hr31j6 := Lib.hid (Hr10j6.out.later hb)
 have HB32j6 := Lib.hid (below_next HB12j6.out hb)
 obtain ⟨A2, c2, rfl⟩ := hrc.rw.us.shape
 obtain ⟨A3, c3, rfl⟩ := hnm.shape
 have HRC := Lib.hid hrc
 have HPL := Lib.hid hpl
 have HNM := Lib.hid hnm
 clear hrc hpl hnm HRF
 obtain ⟨n2, hn2⟩ : ∃ m, m = R2.length := ⟨_, rfl⟩
 obtain ⟨n3, hn3⟩ : ∃ m, m = List.length N' := ⟨_, rfl⟩
 rw [← hn2] at HRC ⊢
 rw [← hn3] at HNM ⊢
 clear hn2 hn3
 clear hb
 have hd33j6 := Hd29j6.out
 have kx34j6 := hd33j6.c0
 have ky35j6 := hd33j6.c1
 have kp36j6 := hd33j6.f0
 have kq37j6 := hd33j6.f1
 clear hd33j6
 have ha38j6 := Ha30j6.out
 have kx39j6 := ha38j6.c0
 have ky40j6 := ha38j6.c1
 have kz41j6 := ha38j6.c2
 have kw42j6 := ha38j6.c3
 clear ha38j6
 have hr43j6 := Hr31j6.out
 have kx44j6 := hr43j6.c0
 have ky45j6 := hr43j6.c1
 have kp46j6 := hr43j6.f0
 have kq47j6 := hr43j6.f1
 clear hr43j6
 have Hd48j6 : Hid (Bx11 (w2.setCell ⟨w.heap.size, 0, none⟩ (.slice A2 n2 c2)) (w.heap.size) (.slice A2 n2 c2) (.slice A1 n1 c1)) := Hd29j6.out.set0 _
 have Ha49j6 : Hid (Act11 (w2.setCell ⟨w.heap.size, 0, none⟩ (.slice A2 n2 c2)) (w.heap.size + 1) (kd) (a) (b) (z)) := Ha30j6.out.other (by omega) _
 have Hr50j6 : Hid (Bx11 (w2.setCell ⟨w.heap.size, 0, none⟩ (.slice A2 n2 c2)) (w.heap.size + 2) (.slice none 0 0) (.slice none 0 0)) := Hr31j6.out.other (by omega) _
 have HB51j6 : Hid (Below w.heap.size w (w2.setCell ⟨w.heap.size, 0, none⟩ (.slice A2 n2 c2))) := HB32j6.out.setCell (p := ⟨w.heap.size, 0, none⟩) HLO2j6.out _
 have hd52j6 := Hd48j6.out
 have kx53j6 := hd52j6.c0
 have ky54j6 := hd52j6.c1
 have kp55j6 := hd52j6.f0
 have kq56j6 := hd52j6.f1
 clear hd52j6
 have ha57j6 := Ha49j6.out
 have kx58j6 := ha57j6.c0
 have ky59j6 := ha57j6.c1
 have kz60j6 := ha57j6.c2
 have kw61j6 := ha57j6.c3
 clear ha57j6
 have hr62j6 := Hr50j6.out
 have kx63j6 := hr62j6.c0
 have ky64j6 := hr62j6.c1
 have kp65j6 := hr62j6.f0
 have kq66j6 := hr62j6.f1
 clear hr62j6
 have Hd67j6 : Hid (Bx11 ((w2.setCell ⟨w.heap.size, 0, none⟩ (.slice A2 n2 c2)).setCell ⟨w.heap.size, 1, none⟩ (.slice A3 n3 c3)) (w.heap.size) (.slice A2 n2 c2) (.slice A3 n3 c3)) := Hd48j6.out.set1 _
 have Ha68j6 : Hid (Act11 ((w2.setCell ⟨w.heap.size, 0, none⟩ (.slice A2 n2 c2)).setCell ⟨w.heap.size, 1, none⟩ (.slice A3 n3 c3)) (w.heap.size + 1) (kd) (a) (b) (z)) := Ha49j6.out.other (by omega) _
 have Hr69j6 : Hid (Bx11 ((w2.setCell ⟨w.heap.size, 0, none⟩ (.slice A2 n2 c2)).setCell ⟨w.heap.size, 1, none⟩ (.slice A3 n3 c3)) (w.heap.size + 2) (.slice none 0 0) (.slice none 0 0)) := Hr50j6.out.other (by omega) _
 have HB70j6 : Hid (Below w.heap.size w ((w2.setCell ⟨w.heap.size, 0, none⟩ (.slice A2 n2 c2)).setCell ⟨w.heap.size, 1, none⟩ (.slice A3 n3 c3))) := HB51j6.out.setCell (p := ⟨w.heap.size, 1, none⟩) HLO2j6.out _
 have HKD : Hid (KeepD11 w2 ((w2.setCell ⟨w.heap.size, 0, none⟩ (.slice A2 n2 c2)).setCell ⟨w.heap.size, 1, none⟩ (.slice A3 n3 c3))) := (Hd29j6.out.keep 0 _).trans (Hd48j6.out.keep 1 _)
 have hd71j6 := Hd67j6.out
 have kx72j6 := hd71j6.c0
 have ky73j6 := hd71j6.c1
 have kp74j6 := hd71j6.f0
 have kq75j6 := hd71j6.f1
 clear hd71j6
 have ha76j6 := Ha68j6.out
 have kx77j6 := ha76j6.c0
 have ky78j6 := ha76j6.c1
 have kz79j6 := ha76j6.c2
 have kw80j6 := ha76j6.c3
 clear ha76j6
 have hr81j6 := Hr69j6.out
 have kx82j6 := hr81j6.c0
 have ky83j6 := hr81j6.c1
 have kp84j6 := hr81j6.f0
 have kq85j6 := hr81j6.f1
 clear hr81j6
 go_wp2_with fail
 generalize (w2.setCell ⟨w.heap.size, 0, none⟩ (.slice A2 n2 c2)).setCell ⟨w.heap.size, 1, none⟩ (.slice A3 n3 c3) = wg86j6 at *
 with_reducible refine (HDO.out wg86j6 (HO.out.later HB70j6.out)).mono ?_
 rintro e w5 ⟨rfl, hgo⟩
 clear kx34j6 ky35j6 kp36j6 kq37j6 kx39j6 ky40j6 kz41j6 kw42j6 kx44j6 ky45j6 kp46j6 kq47j6 kx53j6 ky54j6 kp55j6 kq56j6 kx58j6 ky59j6 kz60j6 kw61j6 kx63j6 ky64j6 kp65j6 kq66j6 kx72j6 ky73j6 kp74j6 kq75j6 kx77j6 ky78j6 kz79j6 kw80j6 kx82j6 ky83j6 kp84j6 kq85j6
 have Hd87j6 : Hid (Bx11 (w5) (w.heap.size) (.slice A2 n2 c2) (.slice A3 n3 c3)) := Hd67j6.out.keeps11 hgo.2
 have Hr88j6 : Hid (Bx11 (w5) (w.heap.size + 2) (.slice none 0 0) (.slice none 0 0)) := Hr69j6.out.keeps11 hgo.2
 have HRC5 : Hid (Rc11 0 R2 w5 (.slice A2 n2 c2)) := (HRC.out.keepD11 HKD.out).keeps hgo.2
 have HNM5 : Hid (NmR w5 (.slice A3 n3 c3) N') := (HNM.out.keepD11 HKD.out).keeps11 hgo.2
 have HK5 : Hid (Keeps11 w w5) := (Keeps11.of_below HB70j6.out).trans hgo.2
 have HO5 := Lib.hid hgo.1
 clear hgo HDO HO HRC HNM HKD
 have hd89j6 := Hd87j6.out
 have kx90j6 := hd89j6.c0
 have ky91j6 := hd89j6.c1
 have kp92j6 := hd89j6.f0
 have kq93j6 := hd89j6.f1
 clear hd89j6
 have hr94j6 := Hr88j6.out
 have kx95j6 := hr94j6.c0
 have ky96j6 := hr94j6.c1
 have kp97j6 := hr94j6.f0
 have kq98j6 := hr94j6.f1
 clear hr94j6
 have HRES : Hid (Bx11 ((w5.setCell ⟨w.heap.size + 2, 0, none⟩ (.slice A2 n2 c2)).setCell ⟨w.heap.size + 2, 1, none⟩ (.slice A3 n3 c3)) (w.heap.size + 2) (.slice A2 n2 c2) (.slice A3 n3 c3)) := (Hr88j6.out.set0 _).set1 _
 have HKF : Hid (KeepD11 w5 ((w5.setCell ⟨w.heap.size + 2, 0, none⟩ (.slice A2 n2 c2)).setCell ⟨w.heap.size + 2, 1, none⟩ (.slice A3 n3 c3))) := (Hr88j6.out.keep 0 _).trans ((Hr88j6.out.set0 _).keep 1 _)
 have HOF : Hid (Own11 w0 ((w5.setCell ⟨w.heap.size + 2, 0, none⟩ (.slice A2 n2 c2)).setCell ⟨w.heap.size + 2, 1, none⟩ (.slice A3 n3 c3)) D P M G A L S') := (HO5.out.cell11 Hr88j6.out (Nat.le_trans HW0.out (by omega)) _).cell11 (Hr88j6.out.set0 _) (Nat.le_trans HW0.out (by omega)) _
 have HKP : Hid (Keeps11 w ((w5.setCell ⟨w.heap.size + 2, 0, none⟩ (.slice A2 n2 c2)).setCell ⟨w.heap.size + 2, 1, none⟩ (.slice A3 n3 c3))) := (HK5.out.cellN11 (by omega) _).cellN11 (by omega) _
 have HPOST : Hid (Did11 w0 D P M G k w (lx) kd a.data.toList b.data.toList (.returned (.tuple #[.agg #[.slice A2 n2 c2, .slice A3 n3 c3], .bool true])) ((w5.setCell ⟨w.heap.size + 2, 0, none⟩ (.slice A2 n2 c2)).setCell ⟨w.heap.size + 2, 1, none⟩ (.slice A3 n3 c3))) := ⟨_, _, _, R2, _, _, rfl, HOF.out, HONE.out.1, HRC5.out.keepD11 HKF.out, by rw [HONE.out.2.2]; exact HNM5.out.keepD11 HKF.out, by rw [HPL.out, HONE.out.2.1], HKP.out, HOTH.out _ _⟩
 have z0 := HRES.out.c0
 have z1 := HRES.out.c1
 go_wp2
 refine bodyPost_ret (v := .tuple #[.agg #[.slice A2 n2 c2, .slice A3 n3 c3], .bool true]) ?_ rfl HPOST.out
 simp [results, Tryz.results10, go_sem, z0, z1]

set_option maxRecDepth 100000 in
set_option maxHeartbeats 8000000 in
theorem do11_7 (R : RowV W11) (v vg : Value) (kd : Nat) (a b : ByteArray) (z : Bool) (w : World) (ho : Own11 w0 w D P M G A L S) (hg : Good11 A L S k) (hk : k ≤ 90) (h5 : Len5 w0) (hR : Rc11 0 R w v) (hN : NmR w vg (names10 S)) (hp : plainR R = tell11 A L S) (ha : a.size ≤ 50) (hb5 : b.size ≤ 50) (hkd : kd % 11 = 7) :
  Calls Tryz.prog 10 #[.pointer (some ⟨D, 0, none⟩), .agg #[v, vg], .agg #[.int .u8 (kd : Int), .string a, .string b, .bool z]] w (Did11 w0 D P M G k w (tell11 A L S) kd a.data.toList b.data.toList) := by
 obtain ⟨f1, f2, f3, f4⟩ := rows_facts11 hg hp
 have HRF : Hid (∀ W', Below w.heap.size w W' → Calls Tryz.prog 42 #[.agg #[v, vg], .string a] W' (Doc11 (drE10 S a.data.toList) (ddrL11 (tell11 A L S) (names10 S) a.data.toList) (ddrN11 (names10 S) a.data.toList) W')) := fun W' hb => by
  have hR := hR.later hb
  have hN := hN.later hb
  have h := rdropGroup11_calls _ _ R _ a W' hR hN f1 f4 f3 (by omega)
  rw [hp] at h
  have e := (show _ = drE10 S a.data.toList from dr_same (S := S) _)
  rwa [e] at h
 have HDO : Hid (∀ W', Own11 w0 W' D P M G A L S → Calls Tryz.prog 43 #[.pointer (some ⟨D, 0, none⟩), .string a] W' fun e w' => e = .returned (.int .i64 (drE10 S a.data.toList)) ∧ Goes11 w0 W' D P M G (A) (L) (drS10 S a.data.toList) w') := fun W' ho => dropGroup11_calls a ho (by omega)
 have HONE : Hid (One11 (A) (L) (drS10 S a.data.toList) (ddrL11 (tell11 A L S) (names10 S) a.data.toList) (ddrN11 (names10 S) a.data.toList) (k + 1)) := dr_one hg _
 have HRT : Hid (RiseV (tell11 A L S)) := tell_rise hg.rise
 have HOTH : Hid (∀ T0 T', Others11 kd a.data.toList b.data.toList T0 T') := fun T0 T' h6 h7 => absurd hkd (by assumption)
 have hrem : (kd : Int).tmod 11 = 7 := by
  have : (kd : Int).tmod 11 = ((kd % 11 : Nat) : Int) := rfl
  rw [this, hkd]; rfl
 have hzd : ∀ w : World, (zeroValue TD11).run Tryz.prog w = .ok (.agg #[.slice none 0 0, .slice none 0 0]) w := fun w => by kernel_rfl
 have HO := Lib.hid ho
 have HW0 : Hid (w0.heap.size ≤ w.heap.size) := ho.below.size
 obtain ⟨A0, c, rfl⟩ := hR.rw.us.shape
 obtain ⟨A1, c1, rfl⟩ := hN.shape
 clear ho hg hR hN hp h5 f1 f2 f3 f4 hkd
 generalize R.length = n at *
 generalize (names10 S).length = n1 at *
 generalize drE10 S a.data.toList = E at HRF HDO HONE
 generalize drS10 S a.data.toList = S' at HRF HDO HONE
 generalize ddrL11 (tell11 A L S) (names10 S) a.data.toList = l' at HRF HDO HONE
 generalize ddrN11 (names10 S) a.data.toList = N' at HRF HDO HONE
 have Hd1j7 : Hid (Bx11 (w.alloc (.cells #[.slice A0 n c, .slice A1 n1 c1] TD11)) (w.heap.size) (.slice A0 n c) (.slice A1 n1 c1)) := bx11_new w _ _
 have HLO2j7 : Hid (w.heap.size ≤ w.heap.size) := by show _ ≤ _; omega
 have HB3j7 : Hid (Below w.heap.size w (w.alloc (.cells #[.slice A0 n c, .slice A1 n1 c1] TD11))) := below_alloc (Below.refl _ _) _
 have Hd4j7 := Lib.hid (Hd1j7.out.later (below_alloc (Below.refl _ _) (.cells #[.int .u8 (kd : Int), .string a, .string b, .bool z] 32)))
 have Ha5j7 : Hid (Act11 ((w.alloc (.cells #[.slice A0 n c, .slice A1 n1 c1] TD11)).alloc (.cells #[.int .u8 (kd : Int), .string a, .string b, .bool z] 32)) (w.heap.size + 1) (kd) (a) (b) (z)) := by
  have hq : Act11 ((w.alloc (.cells #[.slice A0 n c, .slice A1 n1 c1] TD11)).alloc (.cells #[.int .u8 (kd : Int), .string a, .string b, .bool z] 32)) (w.alloc (.cells #[.slice A0 n c, .slice A1 n1 c1] TD11)).heap.size (kd) (a) (b) (z) := act11_new (w.alloc (.cells #[.slice A0 n c, .slice A1 n1 c1] TD11)) _ _ _ _
  simp only [World.size_alloc] at hq
  exact hq
 have HLO6j7 : Hid (w.heap.size ≤ w.heap.size + 1) := by show _ ≤ _; omega
 have HB7j7 := Lib.hid (below_next HB3j7.out (below_alloc (Below.refl _ _) (.cells #[.int .u8 (kd : Int), .string a, .string b, .bool z] 32)))
 have Hd8j7 := Lib.hid (Hd4j7.out.later (below_alloc (Below.refl _ _) (.cells #[.slice none 0 0, .slice none 0 0] TD11)))
 have Ha9j7 := Lib.hid (Ha5j7.out.later (below_alloc (Below.refl _ _) (.cells #[.slice none 0 0, .slice none 0 0] TD11)))
 have Hr10j7 : Hid (Bx11 (((w.alloc (.cells #[.slice A0 n c, .slice A1 n1 c1] TD11)).alloc (.cells #[.int .u8 (kd : Int), .string a, .string b, .bool z] 32)).alloc (.cells #[.slice none 0 0, .slice none 0 0] TD11)) (w.heap.size + 2) (.slice none 0 0) (.slice none 0 0)) := by
  have hq : Bx11 (((w.alloc (.cells #[.slice A0 n c, .slice A1 n1 c1] TD11)).alloc (.cells #[.int .u8 (kd : Int), .string a, .string b, .bool z] 32)).alloc (.cells #[.slice none 0 0, .slice none 0 0] TD11)) ((w.alloc (.cells #[.slice A0 n c, .slice A1 n1 c1] TD11)).alloc (.cells #[.int .u8 (kd : Int), .string a, .string b, .bool z] 32)).heap.size (.slice none 0 0) (.slice none 0 0) := bx11_new ((w.alloc (.cells #[.slice A0 n c, .slice A1 n1 c1] TD11)).alloc (.cells #[.int .u8 (kd : Int), .string a, .string b, .bool z] 32)) _ _
  simp only [World.size_alloc] at hq
  exact hq
 have HLO11j7 : Hid (w.heap.size ≤ w.heap.size + 2) := by show _ ≤ _; omega
 have HB12j7 := Lib.hid (below_next HB7j7.out (below_alloc (Below.refl _ _) (.cells #[.slice none 0 0, .slice none 0 0] TD11)))
 go_enter Tryz.func10, Tryz.ntmps10
 have hd13j7 := Hd8j7.out
 have kx14j7 := hd13j7.c0
 have ky15j7 := hd13j7.c1
 have kp16j7 := hd13j7.f0
 have kq17j7 := hd13j7.f1
 clear hd13j7
 have ha18j7 := Ha9j7.out
 have kx19j7 := ha18j7.c0
 have ky20j7 := ha18j7.c1
 have kz21j7 := ha18j7.c2
 have kw22j7 := ha18j7.c3
 clear ha18j7
 have hr23j7 := Hr10j7.out
 have kx24j7 := hr23j7.c0
 have ky25j7 := hr23j7.c1
 have kp26j7 := hr23j7.f0
 have kq27j7 := hr23j7.f1
 clear hr23j7
 go_wp2_with fail
 generalize ((w.alloc (.cells #[.slice A0 n c, .slice A1 n1 c1] TD11)).alloc (.cells #[.int .u8 (kd : Int), .string a, .string b, .bool z] 32)).alloc (.cells #[.slice none 0 0, .slice none 0 0] TD11) = wg28j7 at *
 with_reducible refine (HRF.out wg28j7 HB12j7.out).mono ?_
 rintro e w2 ⟨R2, u1, u2, rfl, hrc, hpl, hnm, hb⟩
 clear kx14j7 ky15j7 kp16j7 kq17j7 kx19j7 ky20j7 kz21j7 kw22j7 kx24j7 ky25j7 kp26j7 kq27j7
 have Hd29j7 := Lib.hid (Hd8j7.out.later hb)
 have Ha30j7 := Lib.hid (Ha9j7.out.later hb)
 have Hr31j7 := Lib.hid (Hr10j7.out.later hb)
 have HB32j7 := Lib.hid (below_next HB12j7.out hb)
 obtain ⟨A2, c2, rfl⟩ := hrc.rw.us.shape
 obtain ⟨A3, c3, rfl⟩ := hnm.shape
 have HRC := Lib.hid hrc
 have HPL := Lib.hid hpl
 have HNM := Lib.hid hnm
 clear hrc hpl hnm HRF
 obtain ⟨n2, hn2⟩ : ∃ m, m = R2.length := ⟨_, rfl⟩
 obtain ⟨n3, hn3⟩ : ∃ m, m = List.length N' := ⟨_, rfl⟩
 rw [← hn2] at HRC ⊢
 rw [← hn3] at HNM ⊢
 clear hn2 hn3
 clear hb
 have hd33j7 := Hd29j7.out
 have kx34j7 := hd33j7.c0
 have ky35j7 := hd33j7.c1
 have kp36j7 := hd33j7.f0
 have kq37j7 := hd33j7.f1
 clear hd33j7
 have ha38j7 := Ha30j7.out
 have kx39j7 := ha38j7.c0
 have ky40j7 := ha38j7.c1
 have kz41j7 := ha38j7.c2
 have kw42j7 := ha38j7.c3
 clear ha38j7
 have hr43j7 := Hr31j7.out
 have kx44j7 := hr43j7.c0
 have ky45j7 := hr43j7.c1
 have kp46j7 := hr43j7.f0
 have kq47j7 := hr43j7.f1
 clear hr43j7
 have Hd48j7 : Hid (Bx11 (w2.setCell ⟨w.heap.size, 0, none⟩ (.slice A2 n2 c2)) (w.heap.size) (.slice A2 n2 c2) (.slice A1 n1 c1)) := Hd29j7.out.set0 _
 have Ha49j7 : Hid (Act11 (w2.setCell ⟨w.heap.size, 0, none⟩ (.slice A2 n2 c2)) (w.heap.size + 1) (kd) (a) (b) (z)) := Ha30j7.out.other (by omega) _
 have Hr50j7 : Hid (Bx11 (w2.setCell ⟨w.heap.size, 0, none⟩ (.slice A2 n2 c2)) (w.heap.size + 2) (.slice none 0 0) (.slice none 0 0)) := Hr31j7.out.other (by omega) _
 have HB51j7 : Hid (Below w.heap.size w (w2.setCell ⟨w.heap.size, 0, none⟩ (.slice A2 n2 c2))) := HB32j7.out.setCell (p := ⟨w.heap.size, 0, none⟩) HLO2j7.out _
 have hd52j7 := Hd48j7.out
 have kx53j7 := hd52j7.c0
 have ky54j7 := hd52j7.c1
 have kp55j7 := hd52j7.f0
 have kq56j7 := hd52j7.f1
 clear hd52j7
 have ha57j7 := Ha49j7.out
 have kx58j7 := ha57j7.c0
 have ky59j7 := ha57j7.c1
 have kz60j7 := ha57j7.c2
 have kw61j7 := ha57j7.c3
 clear ha57j7
 have hr62j7 := Hr50j7.out
 have kx63j7 := hr62j7.c0
 have ky64j7 := hr62j7.c1
 have kp65j7 := hr62j7.f0
 have kq66j7 := hr62j7.f1
 clear hr62j7
 have Hd67j7 : Hid (Bx11 ((w2.setCell ⟨w.heap.size, 0, none⟩ (.slice A2 n2 c2)).setCell ⟨w.heap.size, 1, none⟩ (.slice A3 n3 c3)) (w.heap.size) (.slice A2 n2 c2) (.slice A3 n3 c3)) := Hd48j7.out.set1 _
 have Ha68j7 : Hid (Act11 ((w2.setCell ⟨w.heap.size, 0, none⟩ (.slice A2 n2 c2)).setCell ⟨w.heap.size, 1, none⟩ (.slice A3 n3 c3)) (w.heap.size + 1) (kd) (a) (b) (z)) := Ha49j7.out.other (by omega) _
 have Hr69j7 : Hid (Bx11 ((w2.setCell ⟨w.heap.size, 0, none⟩ (.slice A2 n2 c2)).setCell ⟨w.heap.size, 1, none⟩ (.slice A3 n3 c3)) (w.heap.size + 2) (.slice none 0 0) (.slice none 0 0)) := Hr50j7.out.other (by omega) _
 have HB70j7 : Hid (Below w.heap.size w ((w2.setCell ⟨w.heap.size, 0, none⟩ (.slice A2 n2 c2)).setCell ⟨w.heap.size, 1, none⟩ (.slice A3 n3 c3))) := HB51j7.out.setCell (p := ⟨w.heap.size, 1, none⟩) HLO2j7.out _
 have HKD : Hid (KeepD11 w2 ((w2.setCell ⟨w.heap.size, 0, none⟩ (.slice A2 n2 c2)).setCell ⟨w.heap.size, 1, none⟩ (.slice A3 n3 c3))) := (Hd29j7.out.keep 0 _).trans (Hd48j7.out.keep 1 _)
 have hd71j7 := Hd67j7.out
 have kx72j7 := hd71j7.c0
 have ky73j7 := hd71j7.c1
 have kp74j7 := hd71j7.f0
 have kq75j7 := hd71j7.f1
 clear hd71j7
 have ha76j7 := Ha68j7.out
 have kx77j7 := ha76j7.c0
 have ky78j7 := ha76j7.c1
 have kz79j7 := ha76j7.c2
 have kw80j7 := ha76j7.c3
 clear ha76j7
 have hr81j7 := Hr69j7.out
 have kx82j7 := hr81j7.c0
 have ky83j7 := hr81j7.c1
 have kp84j7 := hr81j7.f0
 have kq85j7 := hr81j7.f1
 clear hr81j7
 go_wp2_with fail
 generalize (w2.setCell ⟨w.heap.size, 0, none⟩ (.slice A2 n2 c2)).setCell ⟨w.heap.size, 1, none⟩ (.slice A3 n3 c3) = wg86j7 at *
 with_reducible refine (HDO.out wg86j7 (HO.out.later HB70j7.out)).mono ?_
 rintro e w5 ⟨rfl, hgo⟩
 clear kx34j7 ky35j7 kp36j7 kq37j7 kx39j7 ky40j7 kz41j7 kw42j7 kx44j7 ky45j7 kp46j7 kq47j7 kx53j7 ky54j7 kp55j7 kq56j7 kx58j7 ky59j7 kz60j7 kw61j7 kx63j7 ky64j7 kp65j7 kq66j7 kx72j7 ky73j7 kp74j7 kq75j7 kx77j7 ky78j7 kz79j7 kw80j7 kx82j7 ky83j7 kp84j7 kq85j7
 have Hd87j7 : Hid (Bx11 (w5) (w.heap.size) (.slice A2 n2 c2) (.slice A3 n3 c3)) := Hd67j7.out.keeps11 hgo.2
 have Hr88j7 : Hid (Bx11 (w5) (w.heap.size + 2) (.slice none 0 0) (.slice none 0 0)) := Hr69j7.out.keeps11 hgo.2
 have HRC5 : Hid (Rc11 0 R2 w5 (.slice A2 n2 c2)) := (HRC.out.keepD11 HKD.out).keeps hgo.2
 have HNM5 : Hid (NmR w5 (.slice A3 n3 c3) N') := (HNM.out.keepD11 HKD.out).keeps11 hgo.2
 have HK5 : Hid (Keeps11 w w5) := (Keeps11.of_below HB70j7.out).trans hgo.2
 have HO5 := Lib.hid hgo.1
 clear hgo HDO HO HRC HNM HKD
 have hd89j7 := Hd87j7.out
 have kx90j7 := hd89j7.c0
 have ky91j7 := hd89j7.c1
 have kp92j7 := hd89j7.f0
 have kq93j7 := hd89j7.f1
 clear hd89j7
 have hr94j7 := Hr88j7.out
 have kx95j7 := hr94j7.c0
 have ky96j7 := hr94j7.c1
 have kp97j7 := hr94j7.f0
 have kq98j7 := hr94j7.f1
 clear hr94j7
 have HRES : Hid (Bx11 ((w5.setCell ⟨w.heap.size + 2, 0, none⟩ (.slice A2 n2 c2)).setCell ⟨w.heap.size + 2, 1, none⟩ (.slice A3 n3 c3)) (w.heap.size + 2) (.slice A2 n2 c2) (.slice A3 n3 c3)) := (Hr88j7.out.set0 _).set1 _
 have HKF : Hid (KeepD11 w5 ((w5.setCell ⟨w.heap.size + 2, 0, none⟩ (.slice A2 n2 c2)).setCell ⟨w.heap.size + 2, 1, none⟩ (.slice A3 n3 c3))) := (Hr88j7.out.keep 0 _).trans ((Hr88j7.out.set0 _).keep 1 _)
 have HOF : Hid (Own11 w0 ((w5.setCell ⟨w.heap.size + 2, 0, none⟩ (.slice A2 n2 c2)).setCell ⟨w.heap.size + 2, 1, none⟩ (.slice A3 n3 c3)) D P M G A L S') := (HO5.out.cell11 Hr88j7.out (Nat.le_trans HW0.out (by omega)) _).cell11 (Hr88j7.out.set0 _) (Nat.le_trans HW0.out (by omega)) _
 have HKP : Hid (Keeps11 w ((w5.setCell ⟨w.heap.size + 2, 0, none⟩ (.slice A2 n2 c2)).setCell ⟨w.heap.size + 2, 1, none⟩ (.slice A3 n3 c3))) := (HK5.out.cellN11 (by omega) _).cellN11 (by omega) _
 have HPOST : Hid (Did11 w0 D P M G k w (tell11 A L S) kd a.data.toList b.data.toList (.returned (.tuple #[.agg #[.slice A2 n2 c2, .slice A3 n3 c3], .bool true])) ((w5.setCell ⟨w.heap.size + 2, 0, none⟩ (.slice A2 n2 c2)).setCell ⟨w.heap.size + 2, 1, none⟩ (.slice A3 n3 c3))) := ⟨_, _, _, R2, _, _, rfl, HOF.out, HONE.out.1, HRC5.out.keepD11 HKF.out, by rw [HONE.out.2.2]; exact HNM5.out.keepD11 HKF.out, by rw [HPL.out, HONE.out.2.1], HKP.out, HOTH.out _ _⟩
 have z0 := HRES.out.c0
 have z1 := HRES.out.c1
 go_wp2
 refine bodyPost_ret (v := .tuple #[.agg #[.slice A2 n2 c2, .slice A3 n3 c3], .bool true]) ?_ rfl HPOST.out
 simp [results, Tryz.results10, go_sem, z0, z1]

set_option maxRecDepth 100000 in
set_option maxHeartbeats 8000000 in
theorem do11_8 (R : RowV W11) (v vg : Value) (kd : Nat) (a b : ByteArray) (z : Bool) (w : World) (ho : Own11 w0 w D P M G A L S) (hg : Good11 A L S k) (hk : k ≤ 90) (h5 : Len5 w0) (hR : Rc11 0 R w v) (hN : NmR w vg (names10 S)) (hp : plainR R = tell11 A L S) (ha : a.size ≤ 50) (hb5 : b.size ≤ 50) (hkd : kd % 11 = 8) :
  Calls Tryz.prog 10 #[.pointer (some ⟨D, 0, none⟩), .agg #[v, vg], .agg #[.int .u8 (kd : Int), .string a, .string b, .bool z]] w (Did11 w0 D P M G k w (tell11 A L S) kd a.data.toList b.data.toList) := by
 obtain ⟨f1, f2, f3, f4⟩ := rows_facts11 hg hp
 have HRF : Hid (∀ W', Below w.heap.size w W' → Calls Tryz.prog 44 #[.agg #[v, vg], .string a, .string b] W' (Doc11 (joE11 A S a.data.toList b.data.toList) (djoL11 (tell11 A L S) (names10 S) a.data.toList b.data.toList) (names10 S) W')) := fun W' hb => by
  have hR := hR.later hb
  have hN := hN.later hb
  have h := rjoin11_calls _ _ R _ a b W' hR hN f1 f2 f3 f4 (by omega) (by omega)
  rw [hp] at h
  have e := (show _ = joE11 A S a.data.toList b.data.toList from jo_same hg _ _)
  rwa [e] at h
 have HDO : Hid (∀ W', Own11 w0 W' D P M G A L S → Calls Tryz.prog 45 #[.pointer (some ⟨D, 0, none⟩), .string a, .string b] W' fun e w' => e = .returned (.int .i64 (joE11 A S a.data.toList b.data.toList)) ∧ Goes11 w0 W' D P M G (A) (L) (joS11 A S a.data.toList b.data.toList) w') := fun W' ho => join11_calls a b ho hg (by omega) (by omega) (by omega)
 have HONE : Hid (One11 (A) (L) (joS11 A S a.data.toList b.data.toList) (djoL11 (tell11 A L S) (names10 S) a.data.toList b.data.toList) (names10 S) (k + 1)) := jo_one hg _ _
 have HRT : Hid (RiseV (tell11 A L S)) := tell_rise hg.rise
 have HOTH : Hid (Others11 kd a.data.toList b.data.toList (tell11 A L S) (djoL11 (tell11 A L S) (names10 S) a.data.toList b.data.toList)) := oth_jo HRT.out _ hkd
 have hrem : (kd : Int).tmod 11 = 8 := by
  have : (kd : Int).tmod 11 = ((kd % 11 : Nat) : Int) := rfl
  rw [this, hkd]; rfl
 have hzd : ∀ w : World, (zeroValue TD11).run Tryz.prog w = .ok (.agg #[.slice none 0 0, .slice none 0 0]) w := fun w => by kernel_rfl
 have HO := Lib.hid ho
 have HW0 : Hid (w0.heap.size ≤ w.heap.size) := ho.below.size
 obtain ⟨A0, c, rfl⟩ := hR.rw.us.shape
 obtain ⟨A1, c1, rfl⟩ := hN.shape
 clear ho hg hR hN hp h5 f1 f2 f3 f4 hkd
 generalize R.length = n at *
 generalize (names10 S).length = n1 at *
 generalize joE11 A S a.data.toList b.data.toList = E at HRF HDO HONE HOTH
 generalize joS11 A S a.data.toList b.data.toList = S' at HRF HDO HONE HOTH
 generalize djoL11 (tell11 A L S) (names10 S) a.data.toList b.data.toList = l' at HRF HDO HONE HOTH
 generalize hnx : names10 S = nx at HRF HONE
 have Hd1j8 : Hid (Bx11 (w.alloc (.cells #[.slice A0 n c, .slice A1 n1 c1] TD11)) (w.heap.size) (.slice A0 n c) (.slice A1 n1 c1)) := bx11_new w _ _
 have HLO2j8 : Hid (w.heap.size ≤ w.heap.size) := by show _ ≤ _; omega
 have HB3j8 : Hid (Below w.heap.size w (w.alloc (.cells #[.slice A0 n c, .slice A1 n1 c1] TD11))) := below_alloc (Below.refl _ _) _
 have Hd4j8 := Lib.hid (Hd1j8.out.later (below_alloc (Below.refl _ _) (.cells #[.int .u8 (kd : Int), .string a, .string b, .bool z] 32)))
 have Ha5j8 : Hid (Act11 ((w.alloc (.cells #[.slice A0 n c, .slice A1 n1 c1] TD11)).alloc (.cells #[.int .u8 (kd : Int), .string a, .string b, .bool z] 32)) (w.heap.size + 1) (kd) (a) (b) (z)) := by
  have hq : Act11 ((w.alloc (.cells #[.slice A0 n c, .slice A1 n1 c1] TD11)).alloc (.cells #[.int .u8 (kd : Int), .string a, .string b, .bool z] 32)) (w.alloc (.cells #[.slice A0 n c, .slice A1 n1 c1] TD11)).heap.size (kd) (a) (b) (z) := act11_new (w.alloc (.cells #[.slice A0 n c, .slice A1 n1 c1] TD11)) _ _ _ _
  simp only [World.size_alloc] at hq
  exact hq
 have HLO6j8 : Hid (w.heap.size ≤ w.heap.size + 1) := by show _ ≤ _; omega
 have HB7j8 := Lib.hid (below_next HB3j8.out (below_alloc (Below.refl _ _) (.cells #[.int .u8 (kd : Int), .string a, .string b, .bool z] 32)))
 have Hd8j8 := Lib.hid (Hd4j8.out.later (below_alloc (Below.refl _ _) (.cells #[.slice none 0 0, .slice none 0 0] TD11)))
 have Ha9j8 := Lib.hid (Ha5j8.out.later (below_alloc (Below.refl _ _) (.cells #[.slice none 0 0, .slice none 0 0] TD11)))
 have Hr10j8 : Hid (Bx11 (((w.alloc (.cells #[.slice A0 n c, .slice A1 n1 c1] TD11)).alloc (.cells #[.int .u8 (kd : Int), .string a, .string b, .bool z] 32)).alloc (.cells #[.slice none 0 0, .slice none 0 0] TD11)) (w.heap.size + 2) (.slice none 0 0) (.slice none 0 0)) := by
  have hq : Bx11 (((w.alloc (.cells #[.slice A0 n c, .slice A1 n1 c1] TD11)).alloc (.cells #[.int .u8 (kd : Int), .string a, .string b, .bool z] 32)).alloc (.cells #[.slice none 0 0, .slice none 0 0] TD11)) ((w.alloc (.cells #[.slice A0 n c, .slice A1 n1 c1] TD11)).alloc (.cells #[.int .u8 (kd : Int), .string a, .string b, .bool z] 32)).heap.size (.slice none 0 0) (.slice none 0 0) := bx11_new ((w.alloc (.cells #[.slice A0 n c, .slice A1 n1 c1] TD11)).alloc (.cells #[.int .u8 (kd : Int), .string a, .string b, .bool z] 32)) _ _
  simp only [World.size_alloc] at hq
  exact hq
 have HLO11j8 : Hid (w.heap.size ≤ w.heap.size + 2) := by show _ ≤ _; omega
 have HB12j8 := Lib.hid (below_next HB7j8.out (below_alloc (Below.refl _ _) (.cells #[.slice none 0 0, .slice none 0 0] TD11)))
 go_enter Tryz.func10, Tryz.ntmps10
 have hd13j8 := Hd8j8.out
 have kx14j8 := hd13j8.c0
 have ky15j8 := hd13j8.c1
 have kp16j8 := hd13j8.f0
 have kq17j8 := hd13j8.f1
 clear hd13j8
 have ha18j8 := Ha9j8.out
 have kx19j8 := ha18j8.c0
 have ky20j8 := ha18j8.c1
 have kz21j8 := ha18j8.c2
 have kw22j8 := ha18j8.c3
 clear ha18j8
 have hr23j8 := Hr10j8.out
 have kx24j8 := hr23j8.c0
 have ky25j8 := hr23j8.c1
 have kp26j8 := hr23j8.f0
 have kq27j8 := hr23j8.f1
 clear hr23j8
 go_wp2_with fail
 generalize ((w.alloc (.cells #[.slice A0 n c, .slice A1 n1 c1] TD11)).alloc (.cells #[.int .u8 (kd : Int), .string a, .string b, .bool z] 32)).alloc (.cells #[.slice none 0 0, .slice none 0 0] TD11) = wg28j8 at *
 with_reducible refine (HRF.out wg28j8 HB12j8.out).mono ?_
 rintro e w2 ⟨R2, u1, u2, rfl, hrc, hpl, hnm, hb⟩
 clear kx14j8 ky15j8 kp16j8 kq17j8 kx19j8 ky20j8 kz21j8 kw22j8 kx24j8 ky25j8 kp26j8 kq27j8
 have Hd29j8 := Lib.hid (Hd8j8.out.later hb)
 have Ha30j8 := Lib.hid (Ha9j8.out.later hb)
 have Hr31j8 := Lib.hid (Hr10j8.out.later hb)
 have HB32j8 := Lib.hid (below_next HB12j8.out hb)
 obtain ⟨A2, c2, rfl⟩ := hrc.rw.us.shape
 obtain ⟨A3, c3, rfl⟩ := hnm.shape
 have HRC := Lib.hid hrc
 have HPL := Lib.hid hpl
 have HNM := Lib.hid hnm
 clear hrc hpl hnm HRF
 obtain ⟨n2, hn2⟩ : ∃ m, m = R2.length := ⟨_, rfl⟩
 obtain ⟨n3, hn3⟩ : ∃ m, m = List.length nx := ⟨_, rfl⟩
 rw [← hn2] at HRC ⊢
 rw [← hn3] at HNM ⊢
 clear hn2 hn3
 clear hb
 have hd33j8 := Hd29j8.out
 have kx34j8 := hd33j8.c0
 have ky35j8 := hd33j8.c1
 have kp36j8 := hd33j8.f0
 have kq37j8 := hd33j8.f1
 clear hd33j8
 have ha38j8 := Ha30j8.out
 have kx39j8 := ha38j8.c0
 have ky40j8 := ha38j8.c1
 have kz41j8 := ha38j8.c2
 have kw42j8 := ha38j8.c3
 clear ha38j8
 have hr43j8 := Hr31j8.out
 have kx44j8 := hr43j8.c0
 have ky45j8 := hr43j8.c1
 have kp46j8 := hr43j8.f0
 have kq47j8 := hr43j8.f1
 clear hr43j8
 have Hd48j8 : Hid (Bx11 (w2.setCell ⟨w.heap.size, 0, none⟩ (.slice A2 n2 c2)) (w.heap.size) (.slice A2 n2 c2) (.slice A1 n1 c1)) := Hd29j8.out.set0 _
 have Ha49j8 : Hid (Act11 (w2.setCell ⟨w.heap.size, 0, none⟩ (.slice A2 n2 c2)) (w.heap.size + 1) (kd) (a) (b) (z)) := Ha30j8.out.other (by omega) _
 have Hr50j8 : Hid (Bx11 (w2.setCell ⟨w.heap.size, 0, none⟩ (.slice A2 n2 c2)) (w.heap.size + 2) (.slice none 0 0) (.slice none 0 0)) := Hr31j8.out.other (by omega) _
 have HB51j8 : Hid (Below w.heap.size w (w2.setCell ⟨w.heap.size, 0, none⟩ (.slice A2 n2 c2))) := HB32j8.out.setCell (p := ⟨w.heap.size, 0, none⟩) HLO2j8.out _
 have hd52j8 := Hd48j8.out
 have kx53j8 := hd52j8.c0
 have ky54j8 := hd52j8.c1
 have kp55j8 := hd52j8.f0
 have kq56j8 := hd52j8.f1
 clear hd52j8
 have ha57j8 := Ha49j8.out
 have kx58j8 := ha57j8.c0
 have ky59j8 := ha57j8.c1
 have kz60j8 := ha57j8.c2
 have kw61j8 := ha57j8.c3
 clear ha57j8
 have hr62j8 := Hr50j8.out
 have kx63j8 := hr62j8.c0
 have ky64j8 := hr62j8.c1
 have kp65j8 := hr62j8.f0
 have kq66j8 := hr62j8.f1
 clear hr62j8
 have Hd67j8 : Hid (Bx11 ((w2.setCell ⟨w.heap.size, 0, none⟩ (.slice A2 n2 c2)).setCell ⟨w.heap.size, 1, none⟩ (.slice A3 n3 c3)) (w.heap.size) (.slice A2 n2 c2) (.slice A3 n3 c3)) := Hd48j8.out.set1 _
 have Ha68j8 : Hid (Act11 ((w2.setCell ⟨w.heap.size, 0, none⟩ (.slice A2 n2 c2)).setCell ⟨w.heap.size, 1, none⟩ (.slice A3 n3 c3)) (w.heap.size + 1) (kd) (a) (b) (z)) := Ha49j8.out.other (by omega) _
 have Hr69j8 : Hid (Bx11 ((w2.setCell ⟨w.heap.size, 0, none⟩ (.slice A2 n2 c2)).setCell ⟨w.heap.size, 1, none⟩ (.slice A3 n3 c3)) (w.heap.size + 2) (.slice none 0 0) (.slice none 0 0)) := Hr50j8.out.other (by omega) _
 have HB70j8 : Hid (Below w.heap.size w ((w2.setCell ⟨w.heap.size, 0, none⟩ (.slice A2 n2 c2)).setCell ⟨w.heap.size, 1, none⟩ (.slice A3 n3 c3))) := HB51j8.out.setCell (p := ⟨w.heap.size, 1, none⟩) HLO2j8.out _
 have HKD : Hid (KeepD11 w2 ((w2.setCell ⟨w.heap.size, 0, none⟩ (.slice A2 n2 c2)).setCell ⟨w.heap.size, 1, none⟩ (.slice A3 n3 c3))) := (Hd29j8.out.keep 0 _).trans (Hd48j8.out.keep 1 _)
 have hd71j8 := Hd67j8.out
 have kx72j8 := hd71j8.c0
 have ky73j8 := hd71j8.c1
 have kp74j8 := hd71j8.f0
 have kq75j8 := hd71j8.f1
 clear hd71j8
 have ha76j8 := Ha68j8.out
 have kx77j8 := ha76j8.c0
 have ky78j8 := ha76j8.c1
 have kz79j8 := ha76j8.c2
 have kw80j8 := ha76j8.c3
 clear ha76j8
 have hr81j8 := Hr69j8.out
 have kx82j8 := hr81j8.c0
 have ky83j8 := hr81j8.c1
 have kp84j8 := hr81j8.f0
 have kq85j8 := hr81j8.f1
 clear hr81j8
 go_wp2_with fail
 generalize (w2.setCell ⟨w.heap.size, 0, none⟩ (.slice A2 n2 c2)).setCell ⟨w.heap.size, 1, none⟩ (.slice A3 n3 c3) = wg86j8 at *
 with_reducible refine (HDO.out wg86j8 (HO.out.later HB70j8.out)).mono ?_
 rintro e w5 ⟨rfl, hgo⟩
 clear kx34j8 ky35j8 kp36j8 kq37j8 kx39j8 ky40j8 kz41j8 kw42j8 kx44j8 ky45j8 kp46j8 kq47j8 kx53j8 ky54j8 kp55j8 kq56j8 kx58j8 ky59j8 kz60j8 kw61j8 kx63j8 ky64j8 kp65j8 kq66j8 kx72j8 ky73j8 kp74j8 kq75j8 kx77j8 ky78j8 kz79j8 kw80j8 kx82j8 ky83j8 kp84j8 kq85j8
 have Hd87j8 : Hid (Bx11 (w5) (w.heap.size) (.slice A2 n2 c2) (.slice A3 n3 c3)) := Hd67j8.out.keeps11 hgo.2
 have Hr88j8 : Hid (Bx11 (w5) (w.heap.size + 2) (.slice none 0 0) (.slice none 0 0)) := Hr69j8.out.keeps11 hgo.2
 have HRC5 : Hid (Rc11 0 R2 w5 (.slice A2 n2 c2)) := (HRC.out.keepD11 HKD.out).keeps hgo.2
 have HNM5 : Hid (NmR w5 (.slice A3 n3 c3) nx) := (HNM.out.keepD11 HKD.out).keeps11 hgo.2
 have HK5 : Hid (Keeps11 w w5) := (Keeps11.of_below HB70j8.out).trans hgo.2
 have HO5 := Lib.hid hgo.1
 clear hgo HDO HO HRC HNM HKD
 have hd89j8 := Hd87j8.out
 have kx90j8 := hd89j8.c0
 have ky91j8 := hd89j8.c1
 have kp92j8 := hd89j8.f0
 have kq93j8 := hd89j8.f1
 clear hd89j8
 have hr94j8 := Hr88j8.out
 have kx95j8 := hr94j8.c0
 have ky96j8 := hr94j8.c1
 have kp97j8 := hr94j8.f0
 have kq98j8 := hr94j8.f1
 clear hr94j8
 have HRES : Hid (Bx11 ((w5.setCell ⟨w.heap.size + 2, 0, none⟩ (.slice A2 n2 c2)).setCell ⟨w.heap.size + 2, 1, none⟩ (.slice A3 n3 c3)) (w.heap.size + 2) (.slice A2 n2 c2) (.slice A3 n3 c3)) := (Hr88j8.out.set0 _).set1 _
 have HKF : Hid (KeepD11 w5 ((w5.setCell ⟨w.heap.size + 2, 0, none⟩ (.slice A2 n2 c2)).setCell ⟨w.heap.size + 2, 1, none⟩ (.slice A3 n3 c3))) := (Hr88j8.out.keep 0 _).trans ((Hr88j8.out.set0 _).keep 1 _)
 have HOF : Hid (Own11 w0 ((w5.setCell ⟨w.heap.size + 2, 0, none⟩ (.slice A2 n2 c2)).setCell ⟨w.heap.size + 2, 1, none⟩ (.slice A3 n3 c3)) D P M G A L S') := (HO5.out.cell11 Hr88j8.out (Nat.le_trans HW0.out (by omega)) _).cell11 (Hr88j8.out.set0 _) (Nat.le_trans HW0.out (by omega)) _
 have HKP : Hid (Keeps11 w ((w5.setCell ⟨w.heap.size + 2, 0, none⟩ (.slice A2 n2 c2)).setCell ⟨w.heap.size + 2, 1, none⟩ (.slice A3 n3 c3))) := (HK5.out.cellN11 (by omega) _).cellN11 (by omega) _
 have HPOST : Hid (Did11 w0 D P M G k w (tell11 A L S) kd a.data.toList b.data.toList (.returned (.tuple #[.agg #[.slice A2 n2 c2, .slice A3 n3 c3], .bool true])) ((w5.setCell ⟨w.heap.size + 2, 0, none⟩ (.slice A2 n2 c2)).setCell ⟨w.heap.size + 2, 1, none⟩ (.slice A3 n3 c3))) := ⟨_, _, _, R2, _, _, rfl, HOF.out, HONE.out.1, HRC5.out.keepD11 HKF.out, by rw [HONE.out.2.2]; exact HNM5.out.keepD11 HKF.out, by rw [HPL.out, HONE.out.2.1], HKP.out, by rw [HONE.out.2.1]; exact HOTH.out⟩
 have z0 := HRES.out.c0
 have z1 := HRES.out.c1
 go_wp2
 refine bodyPost_ret (v := .tuple #[.agg #[.slice A2 n2 c2, .slice A3 n3 c3], .bool true]) ?_ rfl HPOST.out
 simp [results, Tryz.results10, go_sem, z0, z1]

set_option maxRecDepth 100000 in
set_option maxHeartbeats 8000000 in
theorem do11_9 (R : RowV W11) (v vg : Value) (kd : Nat) (a b : ByteArray) (z : Bool) (w : World) (ho : Own11 w0 w D P M G A L S) (hg : Good11 A L S k) (hk : k ≤ 90) (h5 : Len5 w0) (hR : Rc11 0 R w v) (hN : NmR w vg (names10 S)) (hp : plainR R = tell11 A L S) (ha : a.size ≤ 50) (hb5 : b.size ≤ 50) (hkd : kd % 11 = 9) :
  Calls Tryz.prog 10 #[.pointer (some ⟨D, 0, none⟩), .agg #[v, vg], .agg #[.int .u8 (kd : Int), .string a, .string b, .bool z]] w (Did11 w0 D P M G k w (tell11 A L S) kd a.data.toList b.data.toList) := by
 obtain ⟨f1, f2, f3, f4⟩ := rows_facts11 hg hp
 have HRF : Hid (∀ W', Below w.heap.size w W' → Calls Tryz.prog 46 #[.agg #[v, vg], .string a, .string b] W' (Doc11 (leE11 A S a.data.toList b.data.toList) (dleL11 (tell11 A L S) (names10 S) a.data.toList b.data.toList) (names10 S) W')) := fun W' hb => by
  have hR := hR.later hb
  have hN := hN.later hb
  have h := rleave11_calls _ _ R _ a b W' hR hN f1 f2 f3 f4 (by omega) (by omega)
  rw [hp] at h
  have e := (show _ = leE11 A S a.data.toList b.data.toList from le_same hg _ _)
  rwa [e] at h
 have HDO : Hid (∀ W', Own11 w0 W' D P M G A L S → Calls Tryz.prog 47 #[.pointer (some ⟨D, 0, none⟩), .string a, .string b] W' fun e w' => e = .returned (.int .i64 (leE11 A S a.data.toList b.data.toList)) ∧ Goes11 w0 W' D P M G (A) (L) (leS11 A S a.data.toList b.data.toList) w') := fun W' ho => leave11_calls a b ho (by omega) (by omega)
 have HONE : Hid (One11 (A) (L) (leS11 A S a.data.toList b.data.toList) (dleL11 (tell11 A L S) (names10 S) a.data.toList b.data.toList) (names10 S) (k + 1)) := le_one hg _ _
 have HRT : Hid (RiseV (tell11 A L S)) := tell_rise hg.rise
 have HOTH : Hid (Others11 kd a.data.toList b.data.toList (tell11 A L S) (dleL11 (tell11 A L S) (names10 S) a.data.toList b.data.toList)) := oth_le HRT.out _ hkd
 have hrem : (kd : Int).tmod 11 = 9 := by
  have : (kd : Int).tmod 11 = ((kd % 11 : Nat) : Int) := rfl
  rw [this, hkd]; rfl
 have hzd : ∀ w : World, (zeroValue TD11).run Tryz.prog w = .ok (.agg #[.slice none 0 0, .slice none 0 0]) w := fun w => by kernel_rfl
 have HO := Lib.hid ho
 have HW0 : Hid (w0.heap.size ≤ w.heap.size) := ho.below.size
 obtain ⟨A0, c, rfl⟩ := hR.rw.us.shape
 obtain ⟨A1, c1, rfl⟩ := hN.shape
 clear ho hg hR hN hp h5 f1 f2 f3 f4 hkd
 generalize R.length = n at *
 generalize (names10 S).length = n1 at *
 generalize leE11 A S a.data.toList b.data.toList = E at HRF HDO HONE HOTH
 generalize leS11 A S a.data.toList b.data.toList = S' at HRF HDO HONE HOTH
 generalize dleL11 (tell11 A L S) (names10 S) a.data.toList b.data.toList = l' at HRF HDO HONE HOTH
 generalize hnx : names10 S = nx at HRF HONE
 have Hd1j9 : Hid (Bx11 (w.alloc (.cells #[.slice A0 n c, .slice A1 n1 c1] TD11)) (w.heap.size) (.slice A0 n c) (.slice A1 n1 c1)) := bx11_new w _ _
 have HLO2j9 : Hid (w.heap.size ≤ w.heap.size) := by show _ ≤ _; omega
 have HB3j9 : Hid (Below w.heap.size w (w.alloc (.cells #[.slice A0 n c, .slice A1 n1 c1] TD11))) := below_alloc (Below.refl _ _) _
 have Hd4j9 := Lib.hid (Hd1j9.out.later (below_alloc (Below.refl _ _) (.cells #[.int .u8 (kd : Int), .string a, .string b, .bool z] 32)))
 have Ha5j9 : Hid (Act11 ((w.alloc (.cells #[.slice A0 n c, .slice A1 n1 c1] TD11)).alloc (.cells #[.int .u8 (kd : Int), .string a, .string b, .bool z] 32)) (w.heap.size + 1) (kd) (a) (b) (z)) := by
  have hq : Act11 ((w.alloc (.cells #[.slice A0 n c, .slice A1 n1 c1] TD11)).alloc (.cells #[.int .u8 (kd : Int), .string a, .string b, .bool z] 32)) (w.alloc (.cells #[.slice A0 n c, .slice A1 n1 c1] TD11)).heap.size (kd) (a) (b) (z) := act11_new (w.alloc (.cells #[.slice A0 n c, .slice A1 n1 c1] TD11)) _ _ _ _
  simp only [World.size_alloc] at hq
  exact hq
 have HLO6j9 : Hid (w.heap.size ≤ w.heap.size + 1) := by show _ ≤ _; omega
 have HB7j9 := Lib.hid (below_next HB3j9.out (below_alloc (Below.refl _ _) (.cells #[.int .u8 (kd : Int), .string a, .string b, .bool z] 32)))
 have Hd8j9 := Lib.hid (Hd4j9.out.later (below_alloc (Below.refl _ _) (.cells #[.slice none 0 0, .slice none 0 0] TD11)))
 have Ha9j9 := Lib.hid (Ha5j9.out.later (below_alloc (Below.refl _ _) (.cells #[.slice none 0 0, .slice none 0 0] TD11)))
 have Hr10j9 : Hid (Bx11 (((w.alloc (.cells #[.slice A0 n c, .slice A1 n1 c1] TD11)).alloc (.cells #[.int .u8 (kd : Int), .string a, .string b, .bool z] 32)).alloc (.cells #[.slice none 0 0, .slice none 0 0] TD11)) (w.heap.size + 2) (.slice none 0 0) (.slice none 0 0)) := by
  have hq : Bx11 (((w.alloc (.cells #[.slice A0 n c, .slice A1 n1 c1] TD11)).alloc (.cells #[.int .u8 (kd : Int), .string a, .string b, .bool z] 32)).alloc (.cells #[.slice none 0 0, .slice none 0 0] TD11)) ((w.alloc (.cells #[.slice A0 n c, .slice A1 n1 c1] TD11)).alloc (.cells #[.int .u8 (kd : Int), .string a, .string b, .bool z] 32)).heap.size (.slice none 0 0) (.slice none 0 0) := bx11_new ((w.alloc (.cells #[.slice A0 n c, .slice A1 n1 c1] TD11)).alloc (.cells #[.int .u8 (kd : Int), .string a, .string b, .bool z] 32)) _ _
  simp only [World.size_alloc] at hq
  exact hq
 have HLO11j9 : Hid (w.heap.size ≤ w.heap.size + 2) := by show _ ≤ _; omega
 have HB12j9 := Lib.hid (below_next HB7j9.out (below_alloc (Below.refl _ _) (.cells #[.slice none 0 0, .slice none 0 0] TD11)))
 go_enter Tryz.func10, Tryz.ntmps10
 have hd13j9 := Hd8j9.out
 have kx14j9 := hd13j9.c0
 have ky15j9 := hd13j9.c1
 have kp16j9 := hd13j9.f0
 have kq17j9 := hd13j9.f1
 clear hd13j9
 have ha18j9 := Ha9j9.out
 have kx19j9 := ha18j9.c0
 have ky20j9 := ha18j9.c1
 have kz21j9 := ha18j9.c2
 have kw22j9 := ha18j9.c3
 clear ha18j9
 have hr23j9 := Hr10j9.out
 have kx24j9 := hr23j9.c0
 have ky25j9 := hr23j9.c1
 have kp26j9 := hr23j9.f0
 have kq27j9 := hr23j9.f1
 clear hr23j9
 go_wp2_with fail
 generalize ((w.alloc (.cells #[.slice A0 n c, .slice A1 n1 c1] TD11)).alloc (.cells #[.int .u8 (kd : Int), .string a, .string b, .bool z] 32)).alloc (.cells #[.slice none 0 0, .slice none 0 0] TD11) = wg28j9 at *
 with_reducible refine (HRF.out wg28j9 HB12j9.out).mono ?_
 rintro e w2 ⟨R2, u1, u2, rfl, hrc, hpl, hnm, hb⟩
 clear kx14j9 ky15j9 kp16j9 kq17j9 kx19j9 ky20j9 kz21j9 kw22j9 kx24j9 ky25j9 kp26j9 kq27j9
 have Hd29j9 := Lib.hid (Hd8j9.out.later hb)
 have Ha30j9 := Lib.hid (Ha9j9.out.later hb)
 have Hr31j9 := Lib.hid (Hr10j9.out.later hb)
 have HB32j9 := Lib.hid (below_next HB12j9.out hb)
 obtain ⟨A2, c2, rfl⟩ := hrc.rw.us.shape
 obtain ⟨A3, c3, rfl⟩ := hnm.shape
 have HRC := Lib.hid hrc
 have HPL := Lib.hid hpl
 have HNM := Lib.hid hnm
 clear hrc hpl hnm HRF
 obtain ⟨n2, hn2⟩ : ∃ m, m = R2.length := ⟨_, rfl⟩
 obtain ⟨n3, hn3⟩ : ∃ m, m = List.length nx := ⟨_, rfl⟩
 rw [← hn2] at HRC ⊢
 rw [← hn3] at HNM ⊢
 clear hn2 hn3
 clear hb
 have hd33j9 := Hd29j9.out
 have kx34j9 := hd33j9.c0
 have ky35j9 := hd33j9.c1
 have kp36j9 := hd33j9.f0
 have kq37j9 := hd33j9.f1
 clear hd33j9
 have ha38j9 := Ha30j9.out
 have kx39j9 := ha38j9.c0
 have ky40j9 := ha38j9.c1
 have kz41j9 := ha38j9.c2
 have kw42j9 := ha38j9.c3
 clear ha38j9
 have hr43j9 := Hr31j9.out
 have kx44j9 := hr43j9.c0
 have ky45j9 := hr43j9.c1
 have kp46j9 := hr43j9.f0
 have kq47j9 := hr43j9.f1
 clear hr43j9
 have Hd48j9 : Hid (Bx11 (w2.setCell ⟨w.heap.size, 0, none⟩ (.slice A2 n2 c2)) (w.heap.size) (.slice A2 n2 c2) (.slice A1 n1 c1)) := Hd29j9.out.set0 _
 have Ha49j9 : Hid (Act11 (w2.setCell ⟨w.heap.size, 0, none⟩ (.slice A2 n2 c2)) (w.heap.size + 1) (kd) (a) (b) (z)) := Ha30j9.out.other (by omega) _
 have Hr50j9 : Hid (Bx11 (w2.setCell ⟨w.heap.size, 0, none⟩ (.slice A2 n2 c2)) (w.heap.size + 2) (.slice none 0 0) (.slice none 0 0)) := Hr31j9.out.other (by omega) _
 have HB51j9 : Hid (Below w.heap.size w (w2.setCell ⟨w.heap.size, 0, none⟩ (.slice A2 n2 c2))) := HB32j9.out.setCell (p := ⟨w.heap.size, 0, none⟩) HLO2j9.out _
 have hd52j9 := Hd48j9.out
 have kx53j9 := hd52j9.c0
 have ky54j9 := hd52j9.c1
 have kp55j9 := hd52j9.f0
 have kq56j9 := hd52j9.f1
 clear hd52j9
 have ha57j9 := Ha49j9.out
 have kx58j9 := ha57j9.c0
 have ky59j9 := ha57j9.c1
 have kz60j9 := ha57j9.c2
 have kw61j9 := ha57j9.c3
 clear ha57j9
 have hr62j9 := Hr50j9.out
 have kx63j9 := hr62j9.c0
 have ky64j9 := hr62j9.c1
 have kp65j9 := hr62j9.f0
 have kq66j9 := hr62j9.f1
 clear hr62j9
 have Hd67j9 : Hid (Bx11 ((w2.setCell ⟨w.heap.size, 0, none⟩ (.slice A2 n2 c2)).setCell ⟨w.heap.size, 1, none⟩ (.slice A3 n3 c3)) (w.heap.size) (.slice A2 n2 c2) (.slice A3 n3 c3)) := Hd48j9.out.set1 _
 have Ha68j9 : Hid (Act11 ((w2.setCell ⟨w.heap.size, 0, none⟩ (.slice A2 n2 c2)).setCell ⟨w.heap.size, 1, none⟩ (.slice A3 n3 c3)) (w.heap.size + 1) (kd) (a) (b) (z)) := Ha49j9.out.other (by omega) _
 have Hr69j9 : Hid (Bx11 ((w2.setCell ⟨w.heap.size, 0, none⟩ (.slice A2 n2 c2)).setCell ⟨w.heap.size, 1, none⟩ (.slice A3 n3 c3)) (w.heap.size + 2) (.slice none 0 0) (.slice none 0 0)) := Hr50j9.out.other (by omega) _
 have HB70j9 : Hid (Below w.heap.size w ((w2.setCell ⟨w.heap.size, 0, none⟩ (.slice A2 n2 c2)).setCell ⟨w.heap.size, 1, none⟩ (.slice A3 n3 c3))) := HB51j9.out.setCell (p := ⟨w.heap.size, 1, none⟩) HLO2j9.out _
 have HKD : Hid (KeepD11 w2 ((w2.setCell ⟨w.heap.size, 0, none⟩ (.slice A2 n2 c2)).setCell ⟨w.heap.size, 1, none⟩ (.slice A3 n3 c3))) := (Hd29j9.out.keep 0 _).trans (Hd48j9.out.keep 1 _)
 have hd71j9 := Hd67j9.out
 have kx72j9 := hd71j9.c0
 have ky73j9 := hd71j9.c1
 have kp74j9 := hd71j9.f0
 have kq75j9 := hd71j9.f1
 clear hd71j9
 have ha76j9 := Ha68j9.out
 have kx77j9 := ha76j9.c0
 have ky78j9 := ha76j9.c1
 have kz79j9 := ha76j9.c2
 have kw80j9 := ha76j9.c3
 clear ha76j9
 have hr81j9 := Hr69j9.out
 have kx82j9 := hr81j9.c0
 have ky83j9 := hr81j9.c1
 have kp84j9 := hr81j9.f0
 have kq85j9 := hr81j9.f1
 clear hr81j9
 go_wp2_with fail
 generalize (w2.setCell ⟨w.heap.size, 0, none⟩ (.slice A2 n2 c2)).setCell ⟨w.heap.size, 1, none⟩ (.slice A3 n3 c3) = wg86j9 at *
 with_reducible refine (HDO.out wg86j9 (HO.out.later HB70j9.out)).mono ?_
 rintro e w5 ⟨rfl, hgo⟩
 clear kx34j9 ky35j9 kp36j9 kq37j9 kx39j9 ky40j9 kz41j9 kw42j9 kx44j9 ky45j9 kp46j9 kq47j9 kx53j9 ky54j9 kp55j9 kq56j9 kx58j9 ky59j9 kz60j9 kw61j9 kx63j9 ky64j9 kp65j9 kq66j9 kx72j9 ky73j9 kp74j9 kq75j9 kx77j9 ky78j9 kz79j9 kw80j9 kx82j9 ky83j9 kp84j9 kq85j9
 have Hd87j9 : Hid (Bx11 (w5) (w.heap.size) (.slice A2 n2 c2) (.slice A3 n3 c3)) := Hd67j9.out.keeps11 hgo.2
 have Hr88j9 : Hid (Bx11 (w5) (w.heap.size + 2) (.slice none 0 0) (.slice none 0 0)) := Hr69j9.out.keeps11 hgo.2
 have HRC5 : Hid (Rc11 0 R2 w5 (.slice A2 n2 c2)) := (HRC.out.keepD11 HKD.out).keeps hgo.2
 have HNM5 : Hid (NmR w5 (.slice A3 n3 c3) nx) := (HNM.out.keepD11 HKD.out).keeps11 hgo.2
 have HK5 : Hid (Keeps11 w w5) := (Keeps11.of_below HB70j9.out).trans hgo.2
 have HO5 := Lib.hid hgo.1
 clear hgo HDO HO HRC HNM HKD
 have hd89j9 := Hd87j9.out
 have kx90j9 := hd89j9.c0
 have ky91j9 := hd89j9.c1
 have kp92j9 := hd89j9.f0
 have kq93j9 := hd89j9.f1
 clear hd89j9
 have hr94j9 := Hr88j9.out
 have kx95j9 := hr94j9.c0
 have ky96j9 := hr94j9.c1
 have kp97j9 := hr94j9.f0
 have kq98j9 := hr94j9.f1
 clear hr94j9
 have HRES : Hid (Bx11 ((w5.setCell ⟨w.heap.size + 2, 0, none⟩ (.slice A2 n2 c2)).setCell ⟨w.heap.size + 2, 1, none⟩ (.slice A3 n3 c3)) (w.heap.size + 2) (.slice A2 n2 c2) (.slice A3 n3 c3)) := (Hr88j9.out.set0 _).set1 _
 have HKF : Hid (KeepD11 w5 ((w5.setCell ⟨w.heap.size + 2, 0, none⟩ (.slice A2 n2 c2)).setCell ⟨w.heap.size + 2, 1, none⟩ (.slice A3 n3 c3))) := (Hr88j9.out.keep 0 _).trans ((Hr88j9.out.set0 _).keep 1 _)
 have HOF : Hid (Own11 w0 ((w5.setCell ⟨w.heap.size + 2, 0, none⟩ (.slice A2 n2 c2)).setCell ⟨w.heap.size + 2, 1, none⟩ (.slice A3 n3 c3)) D P M G A L S') := (HO5.out.cell11 Hr88j9.out (Nat.le_trans HW0.out (by omega)) _).cell11 (Hr88j9.out.set0 _) (Nat.le_trans HW0.out (by omega)) _
 have HKP : Hid (Keeps11 w ((w5.setCell ⟨w.heap.size + 2, 0, none⟩ (.slice A2 n2 c2)).setCell ⟨w.heap.size + 2, 1, none⟩ (.slice A3 n3 c3))) := (HK5.out.cellN11 (by omega) _).cellN11 (by omega) _
 have HPOST : Hid (Did11 w0 D P M G k w (tell11 A L S) kd a.data.toList b.data.toList (.returned (.tuple #[.agg #[.slice A2 n2 c2, .slice A3 n3 c3], .bool true])) ((w5.setCell ⟨w.heap.size + 2, 0, none⟩ (.slice A2 n2 c2)).setCell ⟨w.heap.size + 2, 1, none⟩ (.slice A3 n3 c3))) := ⟨_, _, _, R2, _, _, rfl, HOF.out, HONE.out.1, HRC5.out.keepD11 HKF.out, by rw [HONE.out.2.2]; exact HNM5.out.keepD11 HKF.out, by rw [HPL.out, HONE.out.2.1], HKP.out, by rw [HONE.out.2.1]; exact HOTH.out⟩
 have z0 := HRES.out.c0
 have z1 := HRES.out.c1
 go_wp2
 refine bodyPost_ret (v := .tuple #[.agg #[.slice A2 n2 c2, .slice A3 n3 c3], .bool true]) ?_ rfl HPOST.out
 simp [results, Tryz.results10, go_sem, z0, z1]

set_option maxRecDepth 100000 in
set_option maxHeartbeats 8000000 in
theorem do11_10 (R : RowV W11) (v vg : Value) (kd : Nat) (a b : ByteArray) (z : Bool) (w : World) (ho : Own11 w0 w D P M G A L S) (hg : Good11 A L S k) (hk : k ≤ 90) (h5 : Len5 w0) (hR : Rc11 0 R w v) (hN : NmR w vg (names10 S)) (hp : plainR R = tell11 A L S) (ha : a.size ≤ 50) (hb5 : b.size ≤ 50) (hkd : kd % 11 = 10) :
  Calls Tryz.prog 10 #[.pointer (some ⟨D, 0, none⟩), .agg #[v, vg], .agg #[.int .u8 (kd : Int), .string a, .string b, .bool z]] w (Did11 w0 D P M G k w (tell11 A L S) kd a.data.toList b.data.toList) := by
 have HCP : Hid (∀ W', Own11 w0 W' D P M G A L S → Calls Tryz.prog 48 #[.pointer (some ⟨D, 0, none⟩)] W' fun e w' => ∃ D' P' M' G', e = .returned (.pointer (some ⟨D', 0, none⟩)) ∧ Own11 W' w' D' P' M' G' A L S) := fun W' ho => ncopy11_calls ho hg.grp
 have HC1 : Hid (∀ wx W' D' P' M' G', Own11 wx W' D' P' M' G' A L S → Calls Tryz.prog 27 #[.pointer (some ⟨D', 0, none⟩), .string a, .string ⟨#[49]⟩] W' fun e w' => ∃ r A1, e = .returned (.int .i64 r) ∧ Own11 wx w' D' P' M' G' A1 L S ∧ Good11 A1 L S (k + 1)) := fun wx W' D' P' M' G' ho =>
  (create11_calls a ⟨#[49]⟩ ho hg (by omega) (by decide)).mono fun e w' ⟨he, hgo⟩ => ⟨_, _, he, hgo.1, (cr_one hg _ _).1⟩
 have HC2 : Hid (∀ wx W' D' P' M' G' A1, Own11 wx W' D' P' M' G' A1 L S → Good11 A1 L S (k + 1) → Calls Tryz.prog 26 #[.pointer (some ⟨D', 0, none⟩), .string ⟨#[97, 110, 110]⟩] W' fun e w' => ∃ r A2 L2 S2, e = .returned (.int .i64 r) ∧ Own11 wx w' D' P' M' G' A2 L2 S2 ∧ Good11 A2 L2 S2 (k + 2)) := fun wx W' D' P' M' G' A1 ho hg =>
  (delete11_calls ⟨#[97, 110, 110]⟩ ho hg (by decide)).mono fun e w' ⟨he, hgo⟩ => ⟨_, _, _, _, he, hgo.1, (de_one11 hg _).1⟩
 have HC3 : Hid (∀ wx W' D' P' M' G' A1 L1 S1, Own11 wx W' D' P' M' G' A1 L1 S1 → Good11 A1 L1 S1 (k + 2) → Calls Tryz.prog 43 #[.pointer (some ⟨D', 0, none⟩), .string ⟨#[100, 101, 118]⟩] W' fun e w' => ∃ r S2, e = .returned (.int .i64 r) ∧ Own11 wx w' D' P' M' G' A1 L1 S2 ∧ Good11 A1 L1 S2 (k + 3)) := fun wx W' D' P' M' G' A1 L1 S1 ho hg =>
  (dropGroup11_calls ⟨#[100, 101, 118]⟩ ho (by decide)).mono fun e w' ⟨he, hgo⟩ => ⟨_, _, he, hgo.1, (dr_one hg _).1⟩
 have HC4 : Hid (∀ wx W' D' P' M' G' A1 L1 S1, Len5 wx → Own11 wx W' D' P' M' G' A1 L1 S1 → Good11 A1 L1 S1 (k + 3) → Calls Tryz.prog 28 #[.pointer (some ⟨D', 0, none⟩), .string ⟨#[98, 111, 98]⟩, .string ⟨#[113, 64, 113, 46, 113]⟩] W' fun e w' => ∃ r L2, e = .returned (.int .i64 r) ∧ Own11 wx w' D' P' M' G' A1 L2 S1) := fun wx W' D' P' M' G' A1 L1 S1 h5 ho hg =>
  (setMail11_calls ⟨#[98, 111, 98]⟩ ⟨#[113, 64, 113, 46, 113]⟩ ho (by have := hg.lfew; omega) (h5.later ho.below) (by decide) (by decide)).mono fun e w' ⟨he, hgo⟩ => ⟨_, _, he, hgo.1⟩
 have hrem : (kd : Int).tmod 11 = 10 := by
  have : (kd : Int).tmod 11 = ((kd % 11 : Nat) : Int) := rfl
  rw [this, hkd]; rfl
 have hzd : ∀ w : World, (zeroValue TD11).run Tryz.prog w = .ok (.agg #[.slice none 0 0, .slice none 0 0]) w := fun w => by kernel_rfl
 have HOTH : Hid (Others11 kd a.data.toList b.data.toList (tell11 A L S) (tell11 A L S)) := fun _ _ _ _ _ => rfl
 have HO := Lib.hid ho
 have HG := Lib.hid hg
 have H5 := Lib.hid (h5.later ho.below)
 have HW0 : Hid (w0.heap.size ≤ w.heap.size) := ho.below.size
 have HPL := Lib.hid hp
 have HRC := Lib.hid hR
 have HNM := Lib.hid hN
 obtain ⟨A0, c, rfl⟩ := hR.rw.us.shape
 obtain ⟨A1, c1, rfl⟩ := hN.shape
 clear ho hg hR hN hp h5 hkd
 obtain ⟨n, hn2⟩ : ∃ m, m = R.length := ⟨_, rfl⟩
 obtain ⟨n1, hn3⟩ : ∃ m, m = (names10 S).length := ⟨_, rfl⟩
 rw [← hn2] at HRC ⊢
 rw [← hn3] at HNM ⊢
 clear hn2 hn3
 have Hd1q : Hid (Bx11 (w.alloc (.cells #[.slice A0 n c, .slice A1 n1 c1] TD11)) (w.heap.size) (.slice A0 n c) (.slice A1 n1 c1)) := bx11_new w _ _
 have HLO2q : Hid (w.heap.size ≤ w.heap.size) := by show _ ≤ _; omega
 have HB3q : Hid (Below w.heap.size w (w.alloc (.cells #[.slice A0 n c, .slice A1 n1 c1] TD11))) := below_alloc (Below.refl _ _) _
 have Hd4q := Lib.hid (Hd1q.out.later (below_alloc (Below.refl _ _) (.cells #[.int .u8 (kd : Int), .string a, .string b, .bool z] 32)))
 have Ha5q : Hid (Act11 ((w.alloc (.cells #[.slice A0 n c, .slice A1 n1 c1] TD11)).alloc (.cells #[.int .u8 (kd : Int), .string a, .string b, .bool z] 32)) (w.heap.size + 1) (kd) (a) (b) (z)) := by
  have hq : Act11 ((w.alloc (.cells #[.slice A0 n c, .slice A1 n1 c1] TD11)).alloc (.cells #[.int .u8 (kd : Int), .string a, .string b, .bool z] 32)) (w.alloc (.cells #[.slice A0 n c, .slice A1 n1 c1] TD11)).heap.size (kd) (a) (b) (z) := act11_new (w.alloc (.cells #[.slice A0 n c, .slice A1 n1 c1] TD11)) _ _ _ _
  simp only [World.size_alloc] at hq
  exact hq
 have HLO6q : Hid (w.heap.size ≤ w.heap.size + 1) := by show _ ≤ _; omega
 have HB7q := Lib.hid (below_next HB3q.out (below_alloc (Below.refl _ _) (.cells #[.int .u8 (kd : Int), .string a, .string b, .bool z] 32)))
 have Hd8q := Lib.hid (Hd4q.out.later (below_alloc (Below.refl _ _) (.cells #[.slice none 0 0, .slice none 0 0] TD11)))
 have Ha9q := Lib.hid (Ha5q.out.later (below_alloc (Below.refl _ _) (.cells #[.slice none 0 0, .slice none 0 0] TD11)))
 have Hr10q : Hid (Bx11 (((w.alloc (.cells #[.slice A0 n c, .slice A1 n1 c1] TD11)).alloc (.cells #[.int .u8 (kd : Int), .string a, .string b, .bool z] 32)).alloc (.cells #[.slice none 0 0, .slice none 0 0] TD11)) (w.heap.size + 2) (.slice none 0 0) (.slice none 0 0)) := by
  have hq : Bx11 (((w.alloc (.cells #[.slice A0 n c, .slice A1 n1 c1] TD11)).alloc (.cells #[.int .u8 (kd : Int), .string a, .string b, .bool z] 32)).alloc (.cells #[.slice none 0 0, .slice none 0 0] TD11)) ((w.alloc (.cells #[.slice A0 n c, .slice A1 n1 c1] TD11)).alloc (.cells #[.int .u8 (kd : Int), .string a, .string b, .bool z] 32)).heap.size (.slice none 0 0) (.slice none 0 0) := bx11_new ((w.alloc (.cells #[.slice A0 n c, .slice A1 n1 c1] TD11)).alloc (.cells #[.int .u8 (kd : Int), .string a, .string b, .bool z] 32)) _ _
  simp only [World.size_alloc] at hq
  exact hq
 have HLO11q : Hid (w.heap.size ≤ w.heap.size + 2) := by show _ ≤ _; omega
 have HB12q := Lib.hid (below_next HB7q.out (below_alloc (Below.refl _ _) (.cells #[.slice none 0 0, .slice none 0 0] TD11)))
 go_enter Tryz.func10, Tryz.ntmps10
 have hd13q := Hd8q.out
 have kx14q := hd13q.c0
 have ky15q := hd13q.c1
 have kp16q := hd13q.f0
 have kq17q := hd13q.f1
 clear hd13q
 have ha18q := Ha9q.out
 have kx19q := ha18q.c0
 have ky20q := ha18q.c1
 have kz21q := ha18q.c2
 have kw22q := ha18q.c3
 clear ha18q
 have hr23q := Hr10q.out
 have kx24q := hr23q.c0
 have ky25q := hr23q.c1
 have kp26q := hr23q.f0
 have kq27q := hr23q.f1
 clear hr23q
 go_wp2_with fail
 generalize ((w.alloc (.cells #[.slice A0 n c, .slice A1 n1 c1] TD11)).alloc (.cells #[.int .u8 (kd : Int), .string a, .string b, .bool z] 32)).alloc (.cells #[.slice none 0 0, .slice none 0 0] TD11) = wx at *
 have HOX := Lib.hid (HO.out.later HB12q.out)
 have H5X := Lib.hid (H5.out.later HB12q.out)
 with_reducible refine (HCP.out wx HOX.out).mono ?_
 rintro e w2 ⟨D', P', M', G', rfl, ho2⟩
 clear kx14q ky15q kp16q kq17q kx19q ky20q kz21q kw22q kx24q ky25q kp26q kq27q
 have HO2 := Lib.hid ho2
 clear ho2 HCP
 have HBXw2 := Lib.hid (HO2.out).below
 have Hd28q : Hid (Bx11 (w2) (w.heap.size) (.slice A0 n c) (.slice A1 n1 c1)) := Hd8q.out.later HBXw2.out
 have Ha29q : Hid (Act11 (w2) (w.heap.size + 1) (kd) (a) (b) (z)) := Ha9q.out.later HBXw2.out
 have Hr30q : Hid (Bx11 (w2) (w.heap.size + 2) (.slice none 0 0) (.slice none 0 0)) := Hr10q.out.later HBXw2.out
 have HB31q : Hid (Below w.heap.size w w2) := below_next HB12q.out HBXw2.out
 have hd32q := Hd28q.out
 have kx33q := hd32q.c0
 have ky34q := hd32q.c1
 have kp35q := hd32q.f0
 have kq36q := hd32q.f1
 clear hd32q
 have ha37q := Ha29q.out
 have kx38q := ha37q.c0
 have ky39q := ha37q.c1
 have kz40q := ha37q.c2
 have kw41q := ha37q.c3
 clear ha37q
 have hr42q := Hr30q.out
 have kx43q := hr42q.c0
 have ky44q := hr42q.c1
 have kp45q := hr42q.f0
 have kq46q := hr42q.f1
 clear hr42q
 go_wp2_with fail
 with_reducible refine (HC1.out wx w2 D' P' M' G' HO2.out).mono ?_
 rintro e w3 ⟨r3, A3, rfl, ho3, hg3⟩
 clear kx33q ky34q kp35q kq36q kx38q ky39q kz40q kw41q kx43q ky44q kp45q kq46q
 have HO3 := Lib.hid ho3
 have HG3 := Lib.hid hg3
 clear ho3 hg3 HC1
 have HBXw3 := Lib.hid (HO3.out).below
 have Hd47q : Hid (Bx11 (w3) (w.heap.size) (.slice A0 n c) (.slice A1 n1 c1)) := Hd8q.out.later HBXw3.out
 have Ha48q : Hid (Act11 (w3) (w.heap.size + 1) (kd) (a) (b) (z)) := Ha9q.out.later HBXw3.out
 have Hr49q : Hid (Bx11 (w3) (w.heap.size + 2) (.slice none 0 0) (.slice none 0 0)) := Hr10q.out.later HBXw3.out
 have HB50q : Hid (Below w.heap.size w w3) := below_next HB12q.out HBXw3.out
 have hd51q := Hd47q.out
 have kx52q := hd51q.c0
 have ky53q := hd51q.c1
 have kp54q := hd51q.f0
 have kq55q := hd51q.f1
 clear hd51q
 have ha56q := Ha48q.out
 have kx57q := ha56q.c0
 have ky58q := ha56q.c1
 have kz59q := ha56q.c2
 have kw60q := ha56q.c3
 clear ha56q
 have hr61q := Hr49q.out
 have kx62q := hr61q.c0
 have ky63q := hr61q.c1
 have kp64q := hr61q.f0
 have kq65q := hr61q.f1
 clear hr61q
 go_wp2_with fail
 with_reducible refine (HC2.out wx w3 D' P' M' G' A3 HO3.out HG3.out).mono ?_
 rintro e w4 ⟨r4, A4, L4, S4, rfl, ho4, hg4⟩
 clear kx52q ky53q kp54q kq55q kx57q ky58q kz59q kw60q kx62q ky63q kp64q kq65q
 have HO4 := Lib.hid ho4
 have HG4 := Lib.hid hg4
 clear ho4 hg4 HC2
 have HBXw4 := Lib.hid (HO4.out).below
 have Hd66q : Hid (Bx11 (w4) (w.heap.size) (.slice A0 n c) (.slice A1 n1 c1)) := Hd8q.out.later HBXw4.out
 have Ha67q : Hid (Act11 (w4) (w.heap.size + 1) (kd) (a) (b) (z)) := Ha9q.out.later HBXw4.out
 have Hr68q : Hid (Bx11 (w4) (w.heap.size + 2) (.slice none 0 0) (.slice none 0 0)) := Hr10q.out.later HBXw4.out
 have HB69q : Hid (Below w.heap.size w w4) := below_next HB12q.out HBXw4.out
 have hd70q := Hd66q.out
 have kx71q := hd70q.c0
 have ky72q := hd70q.c1
 have kp73q := hd70q.f0
 have kq74q := hd70q.f1
 clear hd70q
 have ha75q := Ha67q.out
 have kx76q := ha75q.c0
 have ky77q := ha75q.c1
 have kz78q := ha75q.c2
 have kw79q := ha75q.c3
 clear ha75q
 have hr80q := Hr68q.out
 have kx81q := hr80q.c0
 have ky82q := hr80q.c1
 have kp83q := hr80q.f0
 have kq84q := hr80q.f1
 clear hr80q
 go_wp2_with fail
 with_reducible refine (HC3.out wx w4 D' P' M' G' A4 L4 S4 HO4.out HG4.out).mono ?_
 rintro e w5 ⟨r5, S5, rfl, ho5, hg5⟩
 clear kx71q ky72q kp73q kq74q kx76q ky77q kz78q kw79q kx81q ky82q kp83q kq84q
 have HO5 := Lib.hid ho5
 have HG5 := Lib.hid hg5
 clear ho5 hg5 HC3
 have HBXw5 := Lib.hid (HO5.out).below
 have Hd85q : Hid (Bx11 (w5) (w.heap.size) (.slice A0 n c) (.slice A1 n1 c1)) := Hd8q.out.later HBXw5.out
 have Ha86q : Hid (Act11 (w5) (w.heap.size + 1) (kd) (a) (b) (z)) := Ha9q.out.later HBXw5.out
 have Hr87q : Hid (Bx11 (w5) (w.heap.size + 2) (.slice none 0 0) (.slice none 0 0)) := Hr10q.out.later HBXw5.out
 have HB88q : Hid (Below w.heap.size w w5) := below_next HB12q.out HBXw5.out
 have hd89q := Hd85q.out
 have kx90q := hd89q.c0
 have ky91q := hd89q.c1
 have kp92q := hd89q.f0
 have kq93q := hd89q.f1
 clear hd89q
 have ha94q := Ha86q.out
 have kx95q := ha94q.c0
 have ky96q := ha94q.c1
 have kz97q := ha94q.c2
 have kw98q := ha94q.c3
 clear ha94q
 have hr99q := Hr87q.out
 have kx100q := hr99q.c0
 have ky101q := hr99q.c1
 have kp102q := hr99q.f0
 have kq103q := hr99q.f1
 clear hr99q
 go_wp2_with fail
 with_reducible refine (HC4.out wx w5 D' P' M' G' A4 L4 S5 H5X.out HO5.out HG5.out).mono ?_
 rintro e w6 ⟨r6, L6, rfl, ho6⟩
 clear kx90q ky91q kp92q kq93q kx95q ky96q kz97q kw98q kx100q ky101q kp102q kq103q
 have HO6 := Lib.hid ho6
 clear ho6 HC4
 have HBXw6 := Lib.hid (HO6.out).below
 have Hd104q : Hid (Bx11 (w6) (w.heap.size) (.slice A0 n c) (.slice A1 n1 c1)) := Hd8q.out.later HBXw6.out
 have Ha105q : Hid (Act11 (w6) (w.heap.size + 1) (kd) (a) (b) (z)) := Ha9q.out.later HBXw6.out
 have Hr106q : Hid (Bx11 (w6) (w.heap.size + 2) (.slice none 0 0) (.slice none 0 0)) := Hr10q.out.later HBXw6.out
 have HB107q : Hid (Below w.heap.size w w6) := below_next HB12q.out HBXw6.out
 have hd108q := Hd104q.out
 have kx109q := hd108q.c0
 have ky110q := hd108q.c1
 have kp111q := hd108q.f0
 have kq112q := hd108q.f1
 clear hd108q
 have ha113q := Ha105q.out
 have kx114q := ha113q.c0
 have ky115q := ha113q.c1
 have kz116q := ha113q.c2
 have kw117q := ha113q.c3
 clear ha113q
 have hr118q := Hr106q.out
 have kx119q := hr118q.c0
 have ky120q := hr118q.c1
 have kp121q := hr118q.f0
 have kq122q := hr118q.f1
 clear hr118q
 have HRES : Hid (Bx11 ((w6.setCell ⟨w.heap.size + 2, 0, none⟩ (.slice A0 n c)).setCell ⟨w.heap.size + 2, 1, none⟩ (.slice A1 n1 c1)) (w.heap.size + 2) (.slice A0 n c) (.slice A1 n1 c1)) := (Hr106q.out.set0 _).set1 _
 have HKF : Hid (KeepD11 w6 ((w6.setCell ⟨w.heap.size + 2, 0, none⟩ (.slice A0 n c)).setCell ⟨w.heap.size + 2, 1, none⟩ (.slice A1 n1 c1))) := (Hr106q.out.keep 0 _).trans ((Hr106q.out.set0 _).keep 1 _)
 have HOF : Hid (Own11 w0 ((w6.setCell ⟨w.heap.size + 2, 0, none⟩ (.slice A0 n c)).setCell ⟨w.heap.size + 2, 1, none⟩ (.slice A1 n1 c1)) D P M G A L S) := ((HO.out.later HB107q.out).cell11 Hr106q.out (Nat.le_trans HW0.out (by omega)) _).cell11 (Hr106q.out.set0 _) (Nat.le_trans HW0.out (by omega)) _
 have HKP : Hid (Keeps11 w ((w6.setCell ⟨w.heap.size + 2, 0, none⟩ (.slice A0 n c)).setCell ⟨w.heap.size + 2, 1, none⟩ (.slice A1 n1 c1))) := ((Keeps11.of_below HB107q.out).cellN11 (by omega) _).cellN11 (by omega) _
 have HPOST : Hid (Did11 w0 D P M G k w (tell11 A L S) kd a.data.toList b.data.toList (.returned (.tuple #[.agg #[.slice A0 n c, .slice A1 n1 c1], .bool true])) ((w6.setCell ⟨w.heap.size + 2, 0, none⟩ (.slice A0 n c)).setCell ⟨w.heap.size + 2, 1, none⟩ (.slice A1 n1 c1))) := ⟨A, L, S, R, _, _, rfl, HOF.out, HG.out.mono (Nat.le_succ _), (HRC.out.later HB107q.out).keepD11 HKF.out, (HNM.out.later HB107q.out).keepD11 HKF.out, HPL.out, HKP.out, HOTH.out⟩
 have z0 := HRES.out.c0
 have z1 := HRES.out.c1
 go_wp2
 refine bodyPost_ret (v := .tuple #[.agg #[.slice A0 n c, .slice A1 n1 c1], .bool true]) ?_ rfl HPOST.out
 simp [results, Tryz.results10, go_sem, z0, z1]

theorem do11_calls (R : RowV W11) (v vg : Value) (kd : Nat) (a b : ByteArray) (z : Bool) (w : World) (ho : Own11 w0 w D P M G A L S) (hg : Good11 A L S k) (hk : k ≤ 90) (h5 : Len5 w0) (hR : Rc11 0 R w v) (hN : NmR w vg (names10 S)) (hp : plainR R = tell11 A L S) (ha : a.size ≤ 50) (hb5 : b.size ≤ 50) :
  Calls Tryz.prog 10 #[.pointer (some ⟨D, 0, none⟩), .agg #[v, vg], .agg #[.int .u8 (kd : Int), .string a, .string b, .bool z]] w (Did11 w0 D P M G k w (tell11 A L S) kd a.data.toList b.data.toList) := by
 have h11 : kd % 11 = 0 ∨ kd % 11 = 1 ∨ kd % 11 = 2 ∨ kd % 11 = 3 ∨ kd % 11 = 4 ∨ kd % 11 = 5 ∨ kd % 11 = 6 ∨ kd % 11 = 7 ∨ kd % 11 = 8 ∨ kd % 11 = 9 ∨ kd % 11 = 10 := by omega
 rcases h11 with h | h | h | h | h | h | h | h | h | h | h
 ·
  exact do11_0 R v vg kd a b z w ho hg hk h5 hR hN hp ha hb5 h
 ·
  exact do11_1 R v vg kd a b z w ho hg hk h5 hR hN hp ha hb5 h
 ·
  exact do11_2 R v vg kd a b z w ho hg hk h5 hR hN hp ha hb5 h
 ·
  exact do11_3 R v vg kd a b z w ho hg hk h5 hR hN hp ha hb5 h
 ·
  exact do11_4 R v vg kd a b z w ho hg hk h5 hR hN hp ha hb5 h
 ·
  exact do11_5 R v vg kd a b z w ho hg hk h5 hR hN hp ha hb5 h
 ·
  exact do11_6 R v vg kd a b z w ho hg hk h5 hR hN hp ha hb5 h
 ·
  exact do11_7 R v vg kd a b z w ho hg hk h5 hR hN hp ha hb5 h
 ·
  exact do11_8 R v vg kd a b z w ho hg hk h5 hR hN hp ha hb5 h
 ·
  exact do11_9 R v vg kd a b z w ho hg hk h5 hR hN hp ha hb5 h
 ·
  exact do11_10 R v vg kd a b z w ho hg hk h5 hR hN hp ha hb5 h
end
end Go.Proofs.YthlgmkfofebbfaaGreatDoor


namespace Go.Proofs.YthlgmkfofebbfaaGreatDoor
open Go.RowKit

set_option maxRecDepth 100000 in
set_option maxHeartbeats 2000000 in
theorem rsame6_calls (a b : Us) (w : World) (ha : a.Ok w) (hb : b.Ok w) : Calls Tryz.prog 58 #[a.v, b.v] w (Tells5 (sameU a b) w) := by
 have HB0 := Lib.hid (below_alloc (below_alloc (Below.refl w.heap.size w) (.cells a.cells 37)) (.cells b.cells 37))
 have HUA : Hid (UsAt ((w.alloc (.cells a.cells 37)).alloc (.cells b.cells 37)) w.heap.size a) := (UsAt.new w a _).below (below_alloc (Below.refl _ _) _)
 have HUB : Hid (UsAt ((w.alloc (.cells a.cells 37)).alloc (.cells b.cells 37)) (w.heap.size + 1) b) := by
  have h := UsAt.new (w.alloc (.cells a.cells 37)) b 37
  rw [show (w.alloc (.cells a.cells 37)).heap.size = w.heap.size + 1 by simp] at h
  exact Lib.hid h
 have HRA := Lib.hid (ha.rd.below HB0.out)
 have HRB := Lib.hid (hb.rd.below HB0.out)
 have hla := Nat.le_trans ha.len ha.cap
 have hlb := Nat.le_trans hb.len hb.cap
 clear ha hb
 unfold sameU Us.v
 unfold Us.cells at *
 obtain ⟨nm, hs, ml, dis, A, gs, c⟩ := a
 obtain ⟨nm', hs', ml', dis', A', gs', c'⟩ := b
 dsimp only at *
 obtain ⟨n, hn⟩ : ∃ n, n = gs.length := ⟨_, rfl⟩
 obtain ⟨m, hm⟩ : ∃ m, m = gs'.length := ⟨_, rfl⟩
 have HN := Lib.hid hn
 have HM := Lib.hid hm
 have hu4 : _ = some (.slice A gs.length c : Value) := HUA.out.c4
 have hv4 : _ = some (.slice A' gs'.length c' : Value) := HUB.out.c4
 rw [← hn] at HB0 HRA HRB hla hu4 hv4 ⊢
 rw [← hm] at HB0 HRA HRB hlb hu4 hv4 ⊢
 clear hn hm HUA HUB
 obtain ⟨r, hr⟩ : ∃ r, r = (decide (nm = nm') && decide (hs = hs') && decide (ml = ml') && decide (dis = dis') && decide (gs = gs')) := ⟨_, rfl⟩
 rw [← hr]
 have HR := Lib.hid hr
 clear hr
 by_cases h1 : nm = nm'
 ·
  by_cases h2 : hs = hs'
  ·
   by_cases h3 : ml = ml'
   ·
    by_cases h4 : dis = dis'
    ·
     have HR2 : Hid (r = decide (gs = gs')) := by rw [HR.out]; simp [h1, h2, h3, h4, Hid]
     subst h1; subst h2; subst h3; subst h4
     clear HR
     have h4d : (dis != dis) = false := by simp
     by_cases hnm : n = m
     ·
      subst hnm
      have hnn : ((n : Int) != (n : Int)) = false := by simp
      go_enter Tryz.func58, Tryz.ntmps58
      go_wp2
      generalize (w.alloc (.cells #[.string nm, .string hs, .string ml, .bool dis, .slice A n c] 37)).alloc (.cells #[.string nm, .string hs, .string ml, .bool dis, .slice A' n c'] 37) = w1 at *
      go_loopg [5, 44] n (fun gg _ s44 wr => ∃ k : Nat, k ≤ n ∧ n - k ≤ gg ∧ s44 = .int .i64 k ∧ (∃ q, wr = w1.drewN q) ∧ Hid (gs.take k = gs'.take k))
      case atStart => exact ⟨0, Nat.zero_le _, by omega, rfl, ⟨0, rfl⟩, rfl⟩
      case round =>
       obtain ⟨k, hk, hg, rfl, ⟨q, hq⟩, HT⟩ := hrel
       have HQ := Lib.hid hq
       have HW : Hid (RdS wr A gs ∧ RdS wr A' gs') := by
        rw [hq]
        exact ⟨HRA.out.below (below_drewN (Below.refl _ _) q), HRB.out.below (below_drewN (Below.refl _ _) q)⟩
       have x4 : ∀ i, (wr.drewN i).cell? ⟨w.heap.size, 4, none⟩ = some (.slice A n c) := fun i => by rw [hq]; exact hu4
       have y4 : ∀ i, (wr.drewN i).cell? ⟨w.heap.size + 1, 4, none⟩ = some (.slice A' n c') := fun i => by rw [hq]; exact hv4
       clear hq
       by_cases hlt : k < n
       ·
        have hltz : (k : Int) < (n : Int) := by omega
        have hk1 : k < gs.length := by have := HN.out; omega
        have hk2 : k < gs'.length := by have := HM.out; omega
        obtain ⟨b1, o1, rfl, hc1⟩ := HW.out.1.at6 k hk1
        obtain ⟨b2, o2, rfl, hc2⟩ := HW.out.2.at6 k hk2
        have hd1 : ∀ i, (wr.drewN i).cell? ⟨b1, o1 + k, none⟩ = some (.string gs[k]) := fun i => hc1
        have hd2 : ∀ i, (wr.drewN i).cell? ⟨b2, o2 + k, none⟩ = some (.string gs'[k]) := fun i => hc2
        have HX : Hid (gs[k] = gs'[k] → gs.take (k + 1) = gs'.take (k + 1)) := fun e => by
         rw [List.take_succ_eq_append_getElem hk1, List.take_succ_eq_append_getElem hk2, HT.out, e]
        have HF : Hid (gs[k] ≠ gs'[k] → r = false) := fun e => by
         rw [HR2.out, decide_eq_false_iff_not]
         intro e2
         subst e2
         exact e rfl
        clear hc1 hc2 HT HW
        generalize gs[k] = x at *
        generalize gs'[k] = y at *
        by_cases hxy : x = y
        ·
         have HX2 := Lib.hid (HX.out hxy)
         clear HX HF
         subst hxy
         go_wp2_with fail
         go_quiet (fail)
         go_wp2
         go_roundg (n - (k + 1))
         case measure => omega
         case rel => exact ⟨k + 1, by omega, by omega, by go_num, ⟨q + nq, by rw [HQ.out, World.drewN_drewN]⟩, HX2⟩
        ·
         have hr : r = false := HF.out hxy
         subst hr
         have hne := toList_ne6 hxy
         have hne2 : (x.toList != y.toList) = true := by simpa using hne
         have hne3 : (x.toList == y.toList) = false := by simpa using hne
         have hne4 : ¬ x.toList = y.toList := hne
         have hne5 : decide (x.toList = y.toList) = false := decide_eq_false hne
         clear HX HF HR2
         go_wp2_with fail
         go_quiet (fail)
         go_wp2
         go_ret
         exact ⟨rfl, by rw [HQ.out, World.drewN_drewN]; exact below_drewN HB0.out _⟩
       ·
        have hltz : ¬ (k : Int) < (n : Int) := by omega
        obtain rfl : k = n := by omega
        have hr : r = true := by
         rw [HR2.out, decide_eq_true_eq]
         have h1 := HT.out
         rw [HN.out, List.take_length] at h1
         have h2 : gs'.take gs.length = gs' := List.take_of_length_le (by have := HN.out; have := HM.out; omega)
         rw [h2] at h1
         exact h1
        subst hr
        clear HT HR2 HW
        go_wp2
        go_ret
        exact ⟨rfl, by rw [HQ.out]; exact below_drewN HB0.out _⟩
     ·
      have hr : r = false := by
       rw [HR2.out, decide_eq_false_iff_not]
       intro e
       exact hnm (by rw [HN.out, HM.out, e])
      subst hr
      have hnn : ((n : Int) != (m : Int)) = true := by simp; omega
      clear HR2
      go_enter Tryz.func58, Tryz.ntmps58
      go_wp2
      go_ret
      exact ⟨rfl, HB0.out⟩
    ·
     have hr : r = false := by rw [HR.out]; simp [h4]
     subst hr
     subst h1; subst h2; subst h3
     clear HR
     have h4d : (dis != dis') = true := by simpa using h4
     go_enter Tryz.func58, Tryz.ntmps58
     go_wp2
     go_ret
     exact ⟨rfl, HB0.out⟩
   ·
    have hr : r = false := by rw [HR.out]; simp [h3]
    subst hr
    subst h1; subst h2
    have hne := toList_ne6 h3
    have hne2 : (ml.toList != ml'.toList) = true := by simpa using hne
    clear HR h3
    go_enter Tryz.func58, Tryz.ntmps58
    go_wp2
    go_ret
    exact ⟨rfl, HB0.out⟩
  ·
   have hr : r = false := by rw [HR.out]; simp [h2]
   subst hr
   subst h1
   have hne := toList_ne6 h2
   have hne2 : (hs.toList != hs'.toList) = true := by simpa using hne
   clear HR h2
   go_enter Tryz.func58, Tryz.ntmps58
   go_wp2
   go_ret
   exact ⟨rfl, HB0.out⟩
 ·
  have hr : r = false := by rw [HR.out]; simp [h1]
  subst hr
  have hne := toList_ne6 h1
  have hne2 : (nm.toList != nm'.toList) = true := by simpa using hne
  clear HR h1
  go_enter Tryz.func58, Tryz.ntmps58
  go_wp2
  go_ret
  exact ⟨rfl, HB0.out⟩
end Go.Proofs.YthlgmkfofebbfaaGreatDoor


namespace Go.Proofs.YthlgmkfofebbfaaGreatDoor
open Go

theorem returns_laid {H : Type} {enc : TypeId × Value → H} {a : Assume} {C : Checked} {os : Os} {f : FuncId} {fn : Func} {s : ChangeSpec} {conds : List PathCond} {apart fresh handsOn again : Bool} {X : World → Array Value → Prop}
  (own : ownKnob C.prog.godebug = none) (started : os.Started) (noInit : C.prog.inits.idxOf? f = none) (hfn : C.prog.funcs[f]? = some fn)
  (witness : ∃ (w : World) (tape : Tape) (i : Input), w.os = os ∧ (w.forCall tape i).Shaped C.prog ∧ i.vars = [] ∧ Input.okWide C.prog (w.forCall tape i) .any w.heap.size f i ∧
   ((s.pre enc C.prog fn conds apart (w.forCall tape i).memory i.args ∧ X (w.forCall tape i).memory i.args) ∧ sizedMet enc C.prog fn (OpenSpec.ofChange s) apart (w.forCall tape i).memory i.args) ∧ a.holds C.prog (lone (Frame.enter C.prog f i.args .normal) [] (w.forCall tape i)))
  (contract : ∀ (W : World) (base : Nat) (args : Array Value) (ds gs : List (DataW H)) (before : List MemPlace),
   (∀ (j : Nat) t v, fn.params[j]? = some t → args[j]? = some v → Value.okWide C.prog W .any base t v) →
   DataW.Whole enc C.prog fn.params.toList s.vars apart W args.toList ds gs before →
   W.ShapedOpen C.prog →
   Calls C.prog f args W fun e W' => ∃ v, e = .returned v ∧ s.post enc C.prog fn apart fresh handsOn again W args v W') :
  ReturnsInHanded a C os f .any (fun w args => (s.pre enc C.prog fn conds apart w args ∧ X w args) ∧ sizedMet enc C.prog fn (OpenSpec.ofChange s) apart w args) (s.post enc C.prog fn apart fresh handsOn again) := by
 refine returnsInHanded_of_calls own started noInit witness ?_
 intro w tape i _ hsh _ hok hpre _
 obtain ⟨_, _, _, fn', hfn', _, _, _, _, hval⟩ := hok
 have e : fn' = fn := Option.some.inj (hfn'.symm.trans hfn)
 subst e
 obtain ⟨⟨⟨ds, gs, before, hw, _⟩, _⟩, _⟩ := hpre
 have hw' := DataW.Whole.of_heap (w' := w.forCall tape i) (by rfl) hw
 refine (contract (w.forCall tape i) w.heap.size i.args ds gs before hval hw' hsh).mono fun e W' ⟨v, he, hp⟩ => ?_
 subst he
 exact ChangeSpec.post_blind hp

theorem len5_of {W : World} (h : W.ShapedOpen Tryz.prog) : Len5 W := by
 obtain ⟨m, hm⟩ := cell_of_shapedOpen_int (P := Tryz.prog) (g := 0) (t := 3) (zero := #[.int .i64 0]) (k := .i64) h (of_decide_eq_true (by kernel_rfl)) (by kernel_rfl) rfl (by kernel_rfl) (by kernel_rfl) Tryz.underlying3
 refine ⟨?_, m, hm⟩
 by_cases hl : 0 < W.heap.size
 ·
  exact hl
 ·
  exfalso
  have hn : W.heap[0]? = none := Array.getElem?_eq_none (by omega)
  simp [World.cell?, hn] at hm
end Go.Proofs.YthlgmkfofebbfaaGreatDoor


namespace Go.Proofs.YthlgmkfofebbfaaGreatDoor
open Go.ChangeShapes Go.WideShapes Go.ChangeAt Go.RowKit Go.Deep



section
variable {H : Type} {enc : TypeId × Value → H} {W : World} {base b0 : Nat} {sp : Nat → Bool} {hd : Bool} {fuel : Nat}


end
end Go.Proofs.YthlgmkfofebbfaaGreatDoor


namespace Go.Proofs.YthlgmkfofebbfaaGreatDoor
open Go.ChangeShapes Go.WideShapes Go.ChangeAt Go.RowKit Go.Deep

def RdU7 (w : World) (A : Option Addr) (l : List Us) : Prop :=
 l ≠ [] → ∃ b off, A = some ⟨b, off, none⟩ ∧ b < w.heap.size ∧ ∀ i (hi : i < l.length) j u, l[i].cells[j]? = some u → w.cell? ⟨b, off + i * 5 + j, none⟩ = some u
theorem RdU7.later {w w' : World} {A : Option Addr} {l : List Us} (h : RdU7 w A l) (hb : Below w.heap.size w w') : RdU7 w' A l := fun hl => by
 obtain ⟨b, off, rfl, hlt, hc⟩ := h hl
 exact ⟨b, off, rfl, Nat.lt_of_lt_of_le hlt hb.size, fun i hi j u hu => (hb.cell (p := ⟨b, off + i * 5 + j, none⟩) hlt).trans (hc i hi j u hu)⟩


section
variable {H : Type} {enc : TypeId × Value → H} {W : World} {base : Nat} {sp : Nat → Bool} {hd : Bool}
end
end Go.Proofs.YthlgmkfofebbfaaGreatDoor

