/-
  The texts that the laws of this seat share, part 6: what the code and the document's own answers tell, walked function by function.
  Conditions: each theorem's own.
-/
import Derived.Test.YthlgmkfofebbfaaGreatDoorNwrApBA
import Derived.Test.YthlgmkfofebbfaaGreatDoorNwrApBB
import Derived.Test.YthlgmkfofebbfaaGreatDoorNwrApBC
import Derived.Test.YthlgmkfofebbfaaGreatDoorNwrApBD
import Derived.Test.YthlgmkfofebbfaaGreatDoorNwrApBE
namespace Go.Proofs.YthlgmkfofebbfaaGreatDoor
open Go.RowKit Go.Maps

def new11 (h : ByteArray) : W11 := ⟨h, ⟨#[]⟩, false, none, [], 0⟩
def rcE11 {V : Type} (L : RowV V) (n h : List UInt8) : Int := crF11 (name5 n) (hash5 h) (hasV L n) (decide (12 ≤ L.length))
def rcL11 (L : RowV W11) (n h : List UInt8) : RowV W11 := if rcE11 L n h = 0 then putV L n (new11 (tx10 h)) else L
def rdE11 {V : Type} (L : RowV V) (n : List UInt8) : Int := deF11 (name5 n) (hasV L n)
def rdL11 {V : Type} (L : RowV V) (n : List UInt8) : RowV V := if rdE11 L n = 0 then delV L n else L
def Gives11 (x : Int) (L' : RowV W11) (w : World) (e : Ending) (w' : World) : Prop := ∃ v, e = .returned (.tuple #[v, .int .i64 x]) ∧ Rw11 L' w' v ∧ Below w.heap.size w w'
section
variable {L : RowV W11} {n h : List UInt8}
theorem rcE11_10 (e : name5 n = false) : rcE11 L n h = 10 := by simp [rcE11, crF11, e]
theorem rcE11_4 (e : name5 n = true) (e2 : hash5 h = false) : rcE11 L n h = 4 := by simp [rcE11, crF11, e, e2]
theorem rcE11_9 (e : name5 n = true) (e2 : hash5 h = true) (e3 : hasV L n = true) : rcE11 L n h = 9 := by simp [rcE11, crF11, e, e2, e3]
theorem rcE11_7 (e : name5 n = true) (e2 : hash5 h = true) (e3 : hasV L n = false) (e4 : 12 ≤ L.length) : rcE11 L n h = 7 := by simp [rcE11, crF11, e, e2, e3, e4]
theorem rcE11_0 (e : name5 n = true) (e2 : hash5 h = true) (e3 : hasV L n = false) (e4 : ¬ 12 ≤ L.length) : rcE11 L n h = 0 := by simp [rcE11, crF11, e, e2, e3]; omega
theorem rcL11_no (e : rcE11 L n h ≠ 0) : rcL11 L n h = L := if_neg e
theorem rcL11_yes {h : ByteArray} (e : rcE11 L n h.data.toList = 0) : rcL11 L n h.data.toList = putV L n (new11 h) := by unfold rcL11; rw [if_pos e, tx10_back]
theorem rdE11_10 (e : name5 n = false) : rdE11 L n = 10 := by simp [rdE11, deF11, e]
theorem rdE11_8 (e : name5 n = true) (e3 : hasV L n = false) : rdE11 L n = 8 := by simp [rdE11, deF11, e, e3]
theorem rdE11_0 (e : name5 n = true) (e3 : hasV L n = true) : rdE11 L n = 0 := by simp [rdE11, deF11, e, e3]
end
set_option maxRecDepth 100000 in
set_option maxHeartbeats 1000000 in
theorem rcreate11_calls (v : Value) (L : RowV W11) (n h : ByteArray) (w : World) (hv : Rw11 L w v) (hr : RiseV L) (h12 : L.length ≤ 12) (hn : n.size ≤ 1000) (hh : h.size ≤ 1000) :
  Calls Tryz.prog 87 #[v, .string n, .string h] w (Gives11 (rcE11 L n.data.toList h.data.toList) (rcL11 L n.data.toList h.data.toList) w) := by
 have hnot : ∀ (x : Bool) (w : World), (Op.unary .not (.bool x)).run Tryz.prog w = .ok (.bool (!x)) w := fun _ _ => rfl
 have HN := Lib.hid (rname_calls n w hn)
 have HH := Lib.hid (rhash_calls h w hh)
 obtain ⟨A, c, rfl⟩ := hv.us.shape
 have HF := Lib.hid (rfind11_calls A c L.length L n w rfl h12 hv.us)
 have HP : Hid (∀ W, Below w.heap.size w W → Calls Tryz.prog 93 #[.slice A L.length c, .agg #[.string n, .string h, .string ⟨#[]⟩, .bool false, .slice none 0 0]] W fun e w' => ∃ v, e = .returned v ∧ Rw11 (putV L n.data.toList (new11 h)) w' v ∧ Below W.heap.size W w') := fun W hb => rput11_calls A c L.length L n (new11 h) W rfl h12 hr (hv.us.later hb)
 have HV := Lib.hid hv
 clear hv hr
 have H10 : Hid (name5 n.data.toList = false → rcE11 L n.data.toList h.data.toList = 10) := rcE11_10
 have H4 : Hid (name5 n.data.toList = true → hash5 h.data.toList = false → rcE11 L n.data.toList h.data.toList = 4) := rcE11_4
 have H9 : Hid (name5 n.data.toList = true → hash5 h.data.toList = true → hasV L n.data.toList = true → rcE11 L n.data.toList h.data.toList = 9) := rcE11_9
 have H7 : Hid (name5 n.data.toList = true → hash5 h.data.toList = true → hasV L n.data.toList = false → 12 ≤ L.length → rcE11 L n.data.toList h.data.toList = 7) := rcE11_7
 have H0 : Hid (name5 n.data.toList = true → hash5 h.data.toList = true → hasV L n.data.toList = false → ¬ 12 ≤ L.length → rcE11 L n.data.toList h.data.toList = 0) := rcE11_0
 have HNO : Hid (rcE11 L n.data.toList h.data.toList ≠ 0 → rcL11 L n.data.toList h.data.toList = L) := rcL11_no
 have HYE : Hid (rcE11 L n.data.toList h.data.toList = 0 → rcL11 L n.data.toList h.data.toList = putV L n.data.toList (new11 h)) := rcL11_yes
 unfold Found11 at HF
 generalize rcE11 L n.data.toList h.data.toList = x at *
 generalize rcL11 L n.data.toList h.data.toList = L' at *
 generalize putV L n.data.toList (new11 h) = LP at *
 generalize name5 n.data.toList = bn at *
 generalize hash5 h.data.toList = bh at *
 go_enter Tryz.func87, Tryz.ntmps87
 go_wp2_with fail
 with_reducible refine HN.out.mono ?_
 rintro e w1 ⟨rfl, rfl⟩
 cases bn with
 | false =>
  obtain rfl := H10.out (by first | rfl | trivial)
  obtain rfl := HNO.out (by decide)
  go_wp2
  go_ret2
  exact ⟨_, rfl, HV.out, Below.refl _ _⟩
 | true =>
 go_wp2_with fail
 with_reducible refine HH.out.mono ?_
 rintro e w1 ⟨rfl, rfl⟩
 cases bh with
 | false =>
  obtain rfl := H4.out (by first | rfl | trivial) (by first | rfl | trivial)
  obtain rfl := HNO.out (by decide)
  go_wp2
  go_ret2
  exact ⟨_, rfl, HV.out, Below.refl _ _⟩
 | true =>
 go_wp2_with fail
 with_reducible refine HF.out.mono ?_
 rintro e w2 ⟨r, rfl, hr, hb⟩
 have HB := Lib.hid hb
 have HV2 := Lib.hid (HV.out.later hb)
 clear hb
 rcases hr with ⟨hno, rfl⟩ | ⟨hyes, i, hil, rfl, _⟩
 ·
  have HNOE := Lib.hid hno
  clear hno
  by_cases h12b : 12 ≤ L.length
  ·
   obtain rfl := H7.out (by first | rfl | trivial) (by first | rfl | trivial) HNOE.out h12b
   have z : (L.length : Int) ≥ 12 := by omega
   have z' : (12 : Int) ≤ (L.length : Int) := by omega
   obtain rfl := HNO.out (by decide)
   go_wp2
   go_ret2
   exact ⟨_, rfl, HV2.out, HB.out⟩
  ·
   obtain rfl := H0.out (by first | rfl | trivial) (by first | rfl | trivial) HNOE.out h12b
   obtain rfl := HYE.out rfl
   have z : ¬ (L.length : Int) ≥ 12 := by omega
   have z' : ¬ (12 : Int) ≤ (L.length : Int) := by omega
   have HPP := Lib.hid (HP.out w2 HB.out)
   go_wp2_with fail
   with_reducible refine HPP.out.mono ?_
   rintro e w3 ⟨v3, rfl, hv3, hb⟩
   have HV3 := Lib.hid hv3
   have HB3 := Lib.hid (below_next HB.out hb)
   clear hv3 hb
   go_wp2
   go_ret2
   exact ⟨_, rfl, HV3.out, HB3.out⟩
 ·
  obtain rfl := H9.out (by first | rfl | trivial) (by first | rfl | trivial) hyes
  obtain rfl := HNO.out (by decide)
  have z : (i : Int) ≥ 0 := by omega
  have z' : (0 : Int) ≤ (i : Int) := by omega
  clear hyes
  go_wp2
  go_ret2
  exact ⟨_, rfl, HV2.out, HB.out⟩

set_option maxRecDepth 100000 in
set_option maxHeartbeats 1000000 in
theorem rdelete11_calls (v : Value) (L : RowV W11) (n : ByteArray) (w : World) (hv : Rw11 L w v) (h12 : L.length ≤ 12) (hn : n.size ≤ 1000) :
  Calls Tryz.prog 88 #[v, .string n] w (Gives11 (rdE11 L n.data.toList) (rdL11 L n.data.toList) w) := by
 have hnot : ∀ (x : Bool) (w : World), (Op.unary .not (.bool x)).run Tryz.prog w = .ok (.bool (!x)) w := fun _ _ => rfl
 have HN := Lib.hid (rname_calls n w hn)
 obtain ⟨A, c, rfl⟩ := hv.us.shape
 have HF := Lib.hid (rfind11_calls A c L.length L n w rfl h12 hv.us)
 have HP : Hid (∀ W, Below w.heap.size w W → Calls Tryz.prog 94 #[.slice A L.length c, .string n] W fun e w' => ∃ v, e = .returned v ∧ Rw11 (delV L n.data.toList) w' v ∧ Below W.heap.size W w') := fun W hb => rdrop11_calls A c L.length L n W rfl h12 (hv.us.later hb)
 have HV := Lib.hid hv
 clear hv
 have H10 : Hid (name5 n.data.toList = false → rdE11 L n.data.toList = 10) := rdE11_10
 have H8 : Hid (name5 n.data.toList = true → hasV L n.data.toList = false → rdE11 L n.data.toList = 8) := rdE11_8
 have H0 : Hid (name5 n.data.toList = true → hasV L n.data.toList = true → rdE11 L n.data.toList = 0) := rdE11_0
 have HNO : Hid (rdE11 L n.data.toList ≠ 0 → rdL11 L n.data.toList = L) := fun e => if_neg e
 have HYE : Hid (rdE11 L n.data.toList = 0 → rdL11 L n.data.toList = delV L n.data.toList) := fun e => if_pos e
 unfold Found11 at HF
 generalize rdE11 L n.data.toList = x at *
 generalize rdL11 L n.data.toList = L' at *
 generalize delV L n.data.toList = LP at *
 generalize name5 n.data.toList = bn at *
 go_enter Tryz.func88, Tryz.ntmps88
 go_wp2_with fail
 with_reducible refine HN.out.mono ?_
 rintro e w1 ⟨rfl, rfl⟩
 cases bn with
 | false =>
  obtain rfl := H10.out (by first | rfl | trivial)
  obtain rfl := HNO.out (by decide)
  go_wp2
  go_ret2
  exact ⟨_, rfl, HV.out, Below.refl _ _⟩
 | true =>
 go_wp2_with fail
 with_reducible refine HF.out.mono ?_
 rintro e w2 ⟨r, rfl, hr, hb⟩
 have HB := Lib.hid hb
 have HV2 := Lib.hid (HV.out.later hb)
 clear hb
 rcases hr with ⟨hno, rfl⟩ | ⟨hyes, i, hil, rfl, _⟩
 ·
  obtain rfl := H8.out (by first | rfl | trivial) hno
  obtain rfl := HNO.out (by decide)
  clear hno
  go_wp2
  go_ret2
  exact ⟨_, rfl, HV2.out, HB.out⟩
 ·
  obtain rfl := H0.out (by first | rfl | trivial) hyes
  obtain rfl := HYE.out rfl
  have z : ¬ (i : Int) < 0 := by omega
  have HPP := Lib.hid (HP.out w2 HB.out)
  clear hyes
  go_wp2_with fail
  with_reducible refine HPP.out.mono ?_
  rintro e w3 ⟨v3, rfl, hv3, hb⟩
  have HV3 := Lib.hid hv3
  have HB3 := Lib.hid (below_next HB.out hb)
  clear hv3 hb
  go_wp2
  go_ret2
  exact ⟨_, rfl, HV3.out, HB3.out⟩


theorem rc_plain (R : RowV W11) (n h : List UInt8) : plainR (rcL11 R n h) = dcrL (plainR R) n h ∧ rcE11 R n h = dcrE (plainR R) n h := by
 have e : rcE11 R n h = dcrE (plainR R) n h := by unfold rcE11 dcrE; rw [plainR_has, plainR_len]
 refine ⟨?_, e⟩
 unfold rcL11 dcrL
 rw [← e]
 by_cases h0 : rcE11 R n h = 0
 ·
  rw [if_pos h0, if_pos h0, plainR_put]
  show putV _ n (W11.u (new11 (tx10 h))) = _
  unfold new11 W11.u
  dsimp only
  rw [tx10_list]
 ·
  rw [if_neg h0, if_neg h0]
theorem rd_plain (R : RowV W11) (n : List UInt8) : plainR (rdL11 R n) = ddeL (plainR R) n ∧ rdE11 R n = ddeE (plainR R) n := by
 have e : rdE11 R n = ddeE (plainR R) n := by unfold rdE11 ddeE; rw [plainR_has]
 refine ⟨?_, e⟩
 unfold rdL11 ddeL
 rw [← e]
 by_cases h0 : rdE11 R n = 0
 ·
  rw [if_pos h0, if_pos h0, plainR_del]
 ·
  rw [if_neg h0, if_neg h0]
theorem rc_gs {w : World} {R : RowV W11} (hg : Gs11 0 w R) (n h : List UInt8) : Gs11 0 w (rcL11 R n h) := by
 unfold rcL11
 split
 ·
  exact hg.put n _ (World.ownsRow_nil _ _ _ _)
 ·
  exact hg
theorem rd_gs {w : World} {R : RowV W11} (hg : Gs11 0 w R) (n : List UInt8) : Gs11 0 w (rdL11 R n) := by
 unfold rdL11
 split
 ·
  exact hg.del n
 ·
  exact hg

set_option maxRecDepth 100000 in
set_option maxHeartbeats 2000000 in
theorem rcreated11_calls (v vg : Value) (R : RowV W11) (N' : List (List UInt8)) (n' h : ByteArray) (w : World) (hR : Rc11 0 R w v) (hN : NmR w vg N') (h12 : R.length ≤ 12) (hr : RiseV R) (hz : n'.size ≤ 1000) (hh : h.size ≤ 1000) :
  Calls Tryz.prog 32 #[.agg #[v, vg], .string n', .string h] w (Doc11 (dcrE (plainR R) n'.data.toList h.data.toList) (dcrL (plainR R) n'.data.toList h.data.toList) N' w) := by
 obtain ⟨A, c, rfl⟩ := hR.rw.us.shape
 obtain ⟨A1, c1, rfl⟩ := hN.shape
 have HC : Hid (∀ W, Below w.heap.size w W → Calls Tryz.prog 87 #[.slice A R.length c, .string n', .string h] W (Gives11 (rcE11 R n'.data.toList h.data.toList) (rcL11 R n'.data.toList h.data.toList) W)) := fun W hb => rcreate11_calls _ R n' h W (hR.rw.later hb) hr h12 hz hh
 have HNN := Lib.hid hN
 have HPL := Lib.hid (rc_plain R n'.data.toList h.data.toList).1
 have HGS : Hid (∀ W, Below w.heap.size w W → Gs11 0 W (rcL11 R n'.data.toList h.data.toList)) := fun W hb => rc_gs (hR.2.later hb) _ _
 rw [← (rc_plain R n'.data.toList h.data.toList).2]
 clear hN hR
 generalize rcL11 R n'.data.toList h.data.toList = R' at *
 generalize dcrL (plainR R) n'.data.toList h.data.toList = L' at *
 generalize rcE11 R n'.data.toList h.data.toList = E at *
 generalize R.length = n at *
 generalize N'.length = n1 at *
 have Hd1q : Hid (Bx11 (w.alloc (.cells #[.slice A n c, .slice A1 n1 c1] TD11)) (w.heap.size) (.slice A n c) (.slice A1 n1 c1)) := bx11_new w _ _
 have HLO2q : Hid (w.heap.size ≤ w.heap.size) := Nat.le_refl _
 have HB3q : Hid (Below w.heap.size w (w.alloc (.cells #[.slice A n c, .slice A1 n1 c1] TD11))) := below_alloc (Below.refl _ _) _
 have Hd4q := Lib.hid (Hd1q.out.later (below_alloc (Below.refl _ _) (.cells #[.slice none 0 0, .slice none 0 0] TD11)))
 have Hr5q : Hid (Bx11 ((w.alloc (.cells #[.slice A n c, .slice A1 n1 c1] TD11)).alloc (.cells #[.slice none 0 0, .slice none 0 0] TD11)) (w.heap.size + 1) (.slice none 0 0) (.slice none 0 0)) := by
  have hq : Bx11 ((w.alloc (.cells #[.slice A n c, .slice A1 n1 c1] TD11)).alloc (.cells #[.slice none 0 0, .slice none 0 0] TD11)) (w.alloc (.cells #[.slice A n c, .slice A1 n1 c1] TD11)).heap.size (.slice none 0 0) (.slice none 0 0) := bx11_new (w.alloc (.cells #[.slice A n c, .slice A1 n1 c1] TD11)) _ _
  simp only [World.size_alloc] at hq
  exact hq
 have HLO6q : Hid (w.heap.size ≤ w.heap.size + 1) := by have := HB3q.out.size; show _ ≤ _; simp at this; omega
 have HB7q := Lib.hid (below_next HB3q.out (below_alloc (Below.refl _ _) (.cells #[.slice none 0 0, .slice none 0 0] TD11)))
 go_enter Tryz.func32, Tryz.ntmps32
 have hd8q := Hd4q.out
 have kx9q := hd8q.c0
 have ky10q := hd8q.c1
 have kp11q := hd8q.f0
 have kq12q := hd8q.f1
 clear hd8q
 have hr13q := Hr5q.out
 have kx14q := hr13q.c0
 have ky15q := hr13q.c1
 have kp16q := hr13q.f0
 have kq17q := hr13q.f1
 clear hr13q
 go_wp2_with fail
 generalize (w.alloc (.cells #[.slice A n c, .slice A1 n1 c1] TD11)).alloc (.cells #[.slice none 0 0, .slice none 0 0] TD11) = wg18q at *
 with_reducible refine (HC.out wg18q HB7q.out).mono ?_
 rintro e w3 ⟨v3, rfl, hv3, hb⟩
 clear kx9q ky10q kp11q kq12q kx14q ky15q kp16q kq17q
 have Hd19q := Lib.hid (Hd4q.out.later hb)
 have Hr20q := Lib.hid (Hr5q.out.later hb)
 have HB21q := Lib.hid (below_next HB7q.out hb)
 obtain ⟨A3, c3, rfl⟩ := hv3.us.shape
 have HV := Lib.hid hv3
 have HG := Lib.hid (HGS.out w3 HB21q.out)
 clear hv3 HGS
 obtain ⟨n3, hn3⟩ : ∃ n, n = R'.length := ⟨_, rfl⟩
 rw [← hn3] at HV ⊢
 clear hn3
 clear hb
 have hd22q := Hd19q.out
 have kx23q := hd22q.c0
 have ky24q := hd22q.c1
 have kp25q := hd22q.f0
 have kq26q := hd22q.f1
 clear hd22q
 have hr27q := Hr20q.out
 have kx28q := hr27q.c0
 have ky29q := hr27q.c1
 have kp30q := hr27q.f0
 have kq31q := hr27q.f1
 clear hr27q
 have Hd32q : Hid (Bx11 (w3.setCell ⟨w.heap.size, 0, none⟩ (.slice A3 n3 c3)) (w.heap.size) (.slice A3 n3 c3) (.slice A1 n1 c1)) := Hd19q.out.set0 _
 have Hr33q : Hid (Bx11 (w3.setCell ⟨w.heap.size, 0, none⟩ (.slice A3 n3 c3)) (w.heap.size + 1) (.slice none 0 0) (.slice none 0 0)) := Hr20q.out.other (by omega) _
 have HB34q : Hid (Below w.heap.size w (w3.setCell ⟨w.heap.size, 0, none⟩ (.slice A3 n3 c3))) := HB21q.out.setCell (p := ⟨w.heap.size, 0, none⟩) HLO2q.out _
 have hd35q := Hd32q.out
 have kx36q := hd35q.c0
 have ky37q := hd35q.c1
 have kp38q := hd35q.f0
 have kq39q := hd35q.f1
 clear hd35q
 have hr40q := Hr33q.out
 have kx41q := hr40q.c0
 have ky42q := hr40q.c1
 have kp43q := hr40q.f0
 have kq44q := hr40q.f1
 clear hr40q
 have HS := fin211 HB34q.out Hr33q.out HLO6q.out (.slice A3 n3 c3) (.slice A1 n1 c1)
 have z0 := HS.1.c0
 have z1 := HS.1.c1
 have HKD2 : Hid (KeepD11 w3 _) := (Hd19q.out.keep 0 _).trans HS.2.2
 have HPOST := Lib.hid (show Doc11 E L' N' w (.returned (.tuple #[.agg #[.slice A3 n3 c3, .slice A1 n1 c1], .int .i64 E])) _ from ⟨R', _, _, rfl, ⟨(HV.out.keepD11 HKD2.out), HG.out.keepD11 HKD2.out⟩, HPL.out, HNN.out.later HS.2.1, HS.2.1⟩)
 clear HS
 go_wp2
 refine bodyPost_ret (v := .tuple #[.agg #[.slice A3 n3 c3, .slice A1 n1 c1], .int .i64 E]) ?_ rfl HPOST.out
 simp [results, Tryz.results32, go_sem, z0, z1]

set_option maxRecDepth 100000 in
set_option maxHeartbeats 2000000 in
theorem rdeleted11_calls (v vg : Value) (R : RowV W11) (N' : List (List UInt8)) (n' : ByteArray) (w : World) (hR : Rc11 0 R w v) (hN : NmR w vg N') (h12 : R.length ≤ 12) (hz : n'.size ≤ 1000) :
  Calls Tryz.prog 33 #[.agg #[v, vg], .string n'] w (Doc11 (ddeE (plainR R) n'.data.toList) (ddeL (plainR R) n'.data.toList) N' w) := by
 obtain ⟨A, c, rfl⟩ := hR.rw.us.shape
 obtain ⟨A1, c1, rfl⟩ := hN.shape
 have HC : Hid (∀ W, Below w.heap.size w W → Calls Tryz.prog 88 #[.slice A R.length c, .string n'] W (Gives11 (rdE11 R n'.data.toList) (rdL11 R n'.data.toList) W)) := fun W hb => rdelete11_calls _ R n' W (hR.rw.later hb) h12 hz
 have HNN := Lib.hid hN
 have HPL := Lib.hid (rd_plain R n'.data.toList).1
 have HGS : Hid (∀ W, Below w.heap.size w W → Gs11 0 W (rdL11 R n'.data.toList)) := fun W hb => rd_gs (hR.2.later hb) _
 rw [← (rd_plain R n'.data.toList).2]
 clear hN hR
 generalize rdL11 R n'.data.toList = R' at *
 generalize ddeL (plainR R) n'.data.toList = L' at *
 generalize rdE11 R n'.data.toList = E at *
 generalize R.length = n at *
 generalize N'.length = n1 at *
 have Hd1r : Hid (Bx11 (w.alloc (.cells #[.slice A n c, .slice A1 n1 c1] TD11)) (w.heap.size) (.slice A n c) (.slice A1 n1 c1)) := bx11_new w _ _
 have HLO2r : Hid (w.heap.size ≤ w.heap.size) := Nat.le_refl _
 have HB3r : Hid (Below w.heap.size w (w.alloc (.cells #[.slice A n c, .slice A1 n1 c1] TD11))) := below_alloc (Below.refl _ _) _
 have Hd4r := Lib.hid (Hd1r.out.later (below_alloc (Below.refl _ _) (.cells #[.slice none 0 0, .slice none 0 0] TD11)))
 have Hr5r : Hid (Bx11 ((w.alloc (.cells #[.slice A n c, .slice A1 n1 c1] TD11)).alloc (.cells #[.slice none 0 0, .slice none 0 0] TD11)) (w.heap.size + 1) (.slice none 0 0) (.slice none 0 0)) := by
  have hq : Bx11 ((w.alloc (.cells #[.slice A n c, .slice A1 n1 c1] TD11)).alloc (.cells #[.slice none 0 0, .slice none 0 0] TD11)) (w.alloc (.cells #[.slice A n c, .slice A1 n1 c1] TD11)).heap.size (.slice none 0 0) (.slice none 0 0) := bx11_new (w.alloc (.cells #[.slice A n c, .slice A1 n1 c1] TD11)) _ _
  simp only [World.size_alloc] at hq
  exact hq
 have HLO6r : Hid (w.heap.size ≤ w.heap.size + 1) := by have := HB3r.out.size; show _ ≤ _; simp at this; omega
 have HB7r := Lib.hid (below_next HB3r.out (below_alloc (Below.refl _ _) (.cells #[.slice none 0 0, .slice none 0 0] TD11)))
 go_enter Tryz.func33, Tryz.ntmps33
 have hd8r := Hd4r.out
 have kx9r := hd8r.c0
 have ky10r := hd8r.c1
 have kp11r := hd8r.f0
 have kq12r := hd8r.f1
 clear hd8r
 have hr13r := Hr5r.out
 have kx14r := hr13r.c0
 have ky15r := hr13r.c1
 have kp16r := hr13r.f0
 have kq17r := hr13r.f1
 clear hr13r
 go_wp2_with fail
 generalize (w.alloc (.cells #[.slice A n c, .slice A1 n1 c1] TD11)).alloc (.cells #[.slice none 0 0, .slice none 0 0] TD11) = wg18r at *
 with_reducible refine (HC.out wg18r HB7r.out).mono ?_
 rintro e w3 ⟨v3, rfl, hv3, hb⟩
 clear kx9r ky10r kp11r kq12r kx14r ky15r kp16r kq17r
 have Hd19r := Lib.hid (Hd4r.out.later hb)
 have Hr20r := Lib.hid (Hr5r.out.later hb)
 have HB21r := Lib.hid (below_next HB7r.out hb)
 obtain ⟨A3, c3, rfl⟩ := hv3.us.shape
 have HV := Lib.hid hv3
 have HG := Lib.hid (HGS.out w3 HB21r.out)
 clear hv3 HGS
 obtain ⟨n3, hn3⟩ : ∃ n, n = R'.length := ⟨_, rfl⟩
 rw [← hn3] at HV ⊢
 clear hn3
 clear hb
 have hd22r := Hd19r.out
 have kx23r := hd22r.c0
 have ky24r := hd22r.c1
 have kp25r := hd22r.f0
 have kq26r := hd22r.f1
 clear hd22r
 have hr27r := Hr20r.out
 have kx28r := hr27r.c0
 have ky29r := hr27r.c1
 have kp30r := hr27r.f0
 have kq31r := hr27r.f1
 clear hr27r
 have Hd32r : Hid (Bx11 (w3.setCell ⟨w.heap.size, 0, none⟩ (.slice A3 n3 c3)) (w.heap.size) (.slice A3 n3 c3) (.slice A1 n1 c1)) := Hd19r.out.set0 _
 have Hr33r : Hid (Bx11 (w3.setCell ⟨w.heap.size, 0, none⟩ (.slice A3 n3 c3)) (w.heap.size + 1) (.slice none 0 0) (.slice none 0 0)) := Hr20r.out.other (by omega) _
 have HB34r : Hid (Below w.heap.size w (w3.setCell ⟨w.heap.size, 0, none⟩ (.slice A3 n3 c3))) := HB21r.out.setCell (p := ⟨w.heap.size, 0, none⟩) HLO2r.out _
 have hd35r := Hd32r.out
 have kx36r := hd35r.c0
 have ky37r := hd35r.c1
 have kp38r := hd35r.f0
 have kq39r := hd35r.f1
 clear hd35r
 have hr40r := Hr33r.out
 have kx41r := hr40r.c0
 have ky42r := hr40r.c1
 have kp43r := hr40r.f0
 have kq44r := hr40r.f1
 clear hr40r
 have HS := fin211 HB34r.out Hr33r.out HLO6r.out (.slice A3 n3 c3) (.slice A1 n1 c1)
 have z0 := HS.1.c0
 have z1 := HS.1.c1
 have HKD2 : Hid (KeepD11 w3 _) := (Hd19r.out.keep 0 _).trans HS.2.2
 have HPOST := Lib.hid (show Doc11 E L' N' w (.returned (.tuple #[.agg #[.slice A3 n3 c3, .slice A1 n1 c1], .int .i64 E])) _ from ⟨R', _, _, rfl, ⟨(HV.out.keepD11 HKD2.out), HG.out.keepD11 HKD2.out⟩, HPL.out, HNN.out.later HS.2.1, HS.2.1⟩)
 clear HS
 go_wp2
 refine bodyPost_ret (v := .tuple #[.agg #[.slice A3 n3 c3, .slice A1 n1 c1], .int .i64 E]) ?_ rfl HPOST.out
 simp [results, Tryz.results33, go_sem, z0, z1]

set_option maxRecDepth 100000 in
set_option maxHeartbeats 4000000 in
theorem rsetHash11_calls (v vg : Value) (R : RowV W11) (N : List (List UInt8)) (s h : ByteArray) (w : World) (hR : Rc11 0 R w v) (hN : NmR w vg N) (h12 : R.length ≤ 12) (hr : RiseV R) (hn : s.size ≤ 1000) (hh : h.size ≤ 1000) :
  Calls Tryz.prog 34 #[.agg #[v, vg], .string s, .string h] w (Doc11 (dshE (plainR R) s.data.toList h.data.toList) (dshL (plainR R) s.data.toList h.data.toList) N w) := by
 have hnot : ∀ (x : Bool) (w : World), (Op.unary .not (.bool x)).run Tryz.prog w = .ok (.bool (!x)) w := fun _ _ => rfl
 have hzu := zerou11
 obtain ⟨A, c, rfl⟩ := hR.rw.us.shape
 obtain ⟨A1, c1, rfl⟩ := hN.shape
 have HU0 : Hid (∀ W, Below w.heap.size w W → Calls Tryz.prog 55 #[.agg #[.slice A R.length c, .slice A1 N.length c1], .string s] W (User11 R s W)) := fun W hb => ruser11_calls _ _ R N s W (hR.later hb) (hN.later hb) h12 hr hn
 have HH0 := Lib.hid (fun W => rhash_calls h W hh)
 have HPT0 : Hid (∀ (x : W11) W, Below w.heap.size w W → Calls Tryz.prog 90 #[.agg #[.slice A R.length c, .slice A1 N.length c1], uval11 s x] W fun e w' => ∃ v', e = .returned (.agg #[v', .slice A1 N.length c1]) ∧ Rw11 (putV R s.data.toList x) w' v' ∧ Below W.heap.size W w') := fun x W hb => rputd11_calls _ _ R N s x W (hR.rw.later hb) (hN.later hb) h12 hr
 have HRC := Lib.hid hR
 have HNN := Lib.hid hN
 have HRI := Lib.hid hr
 clear hR hN
 obtain ⟨n, hlen⟩ : ∃ n, n = R.length := ⟨_, rfl⟩
 obtain ⟨n1, hlen1⟩ : ∃ n, n = N.length := ⟨_, rfl⟩
 have HLR := Lib.hid hlen
 have HLN := Lib.hid hlen1
 unfold User11 at HU0
 rw [← hlen] at HU0 HPT0 HRC ⊢
 rw [← hlen1] at HU0 HPT0 HNN ⊢
 clear hlen hlen1
 have HE : Hid (dshE (plainR R) s.data.toList h.data.toList = shF11 (name5 s.data.toList) (hash5 h.data.toList) (hasV R s.data.toList) (disU (plainR R) s.data.toList)) := by
  show _ = _
  unfold dshE; rw [plainR_has]
 have HL2 : Hid (dshL (plainR R) s.data.toList h.data.toList = if shF11 (name5 s.data.toList) (hash5 h.data.toList) (hasV R s.data.toList) (disU (plainR R) s.data.toList) = 0 then setU (plainR R) s.data.toList (fun u => { u with hs := h.data.toList }) else plainR R) := by
  show _ = _
  unfold dshL; rw [HE.out]
 generalize dshE (plainR R) s.data.toList h.data.toList = E at *
 generalize dshL (plainR R) s.data.toList h.data.toList = L' at *
 cases hname : name5 s.data.toList with
 | false =>
  rw [hname] at HU0
  have e1 : E = 10 := by
   have := HE.out
   rw [hname] at this
   exact this
  have e2 : L' = plainR R := by
   have := HL2.out
   rw [hname] at this
   exact this
  rw [e1]
  clear e1
  clear HE HL2 HPT0
  have Hd1a : Hid (Bx11 (w.alloc (.cells #[.slice A n c, .slice A1 n1 c1] TD11)) (w.heap.size) (.slice A n c) (.slice A1 n1 c1)) := bx11_new w _ _
  have HLO2a : Hid (w.heap.size ≤ w.heap.size) := Nat.le_refl _
  have HB3a : Hid (Below w.heap.size w (w.alloc (.cells #[.slice A n c, .slice A1 n1 c1] TD11))) := below_alloc (Below.refl _ _) _
  have Hd4a := Lib.hid (Hd1a.out.later (below_alloc (Below.refl _ _) (.cells #[.slice none 0 0, .slice none 0 0] TD11)))
  have Hr5a : Hid (Bx11 ((w.alloc (.cells #[.slice A n c, .slice A1 n1 c1] TD11)).alloc (.cells #[.slice none 0 0, .slice none 0 0] TD11)) (w.heap.size + 1) (.slice none 0 0) (.slice none 0 0)) := by
   have hq : Bx11 ((w.alloc (.cells #[.slice A n c, .slice A1 n1 c1] TD11)).alloc (.cells #[.slice none 0 0, .slice none 0 0] TD11)) (w.alloc (.cells #[.slice A n c, .slice A1 n1 c1] TD11)).heap.size (.slice none 0 0) (.slice none 0 0) := bx11_new (w.alloc (.cells #[.slice A n c, .slice A1 n1 c1] TD11)) _ _
   simp only [World.size_alloc] at hq
   exact hq
  have HLO6a : Hid (w.heap.size ≤ w.heap.size + 1) := by have := HB3a.out.size; show _ ≤ _; simp at this; omega
  have HB7a := Lib.hid (below_next HB3a.out (below_alloc (Below.refl _ _) (.cells #[.slice none 0 0, .slice none 0 0] TD11)))
  go_enter Tryz.func34, Tryz.ntmps34
  have hd8a := Hd4a.out
  have kx9a := hd8a.c0
  have ky10a := hd8a.c1
  have kp11a := hd8a.f0
  have kq12a := hd8a.f1
  clear hd8a
  have hr13a := Hr5a.out
  have kx14a := hr13a.c0
  have ky15a := hr13a.c1
  have kp16a := hr13a.f0
  have kq17a := hr13a.f1
  clear hr13a
  go_wp2_with fail
  generalize (w.alloc (.cells #[.slice A n c, .slice A1 n1 c1] TD11)).alloc (.cells #[.slice none 0 0, .slice none 0 0] TD11) = wg18a at *
  with_reducible refine (HU0.out wg18a HB7a.out).mono ?_
  rintro e w3 ⟨t, x, he, hyes, hno, hb⟩
  clear kx9a ky10a kp11a kq12a kx14a ky15a kp16a kq17a
  have Hd19a := Lib.hid (Hd4a.out.later hb)
  have Hr20a := Lib.hid (Hr5a.out.later hb)
  have HB21a := Lib.hid (below_next HB7a.out hb)
  clear hb
  have he' : e = .returned (.tuple #[.agg #[.string ⟨#[]⟩, .string ⟨#[]⟩, .string ⟨#[]⟩, .bool false, .slice none 0 0], .int .i64 10]) := by
   obtain ⟨h1, h2⟩ := hno (by show (10 : Int) ≠ 0; decide)
   rw [he, h1, h2]; rfl
  subst he'
  clear he hyes hno
  have HLT22a := Lib.hid (Hd19a.out.lt)
  have HLT23a := Lib.hid (Hr20a.out.lt)
  have Hd24a := Lib.hid (Hd19a.out.later (below_alloc (Below.refl _ _) (.cells #[.string ⟨#[]⟩, .string ⟨#[]⟩, .string ⟨#[]⟩, .bool false, .slice none 0 0] 37)))
  have Hr25a := Lib.hid (Hr20a.out.later (below_alloc (Below.refl _ _) (.cells #[.string ⟨#[]⟩, .string ⟨#[]⟩, .string ⟨#[]⟩, .bool false, .slice none 0 0] 37)))
  have Hu26a : Hid (Blk5 (w3.alloc (.cells #[.string ⟨#[]⟩, .string ⟨#[]⟩, .string ⟨#[]⟩, .bool false, .slice none 0 0] 37)) (w3.heap.size) (.string ⟨#[]⟩) (.string ⟨#[]⟩) (.string ⟨#[]⟩) (.bool false) (.slice none 0 0)) := heap_alloc_new w3 _
  have HLO27a : Hid (w.heap.size ≤ w3.heap.size) := by have := HB21a.out.size; show _ ≤ _; exact this
  have HB28a := Lib.hid (below_next HB21a.out (below_alloc (Below.refl _ _) (.cells #[.string ⟨#[]⟩, .string ⟨#[]⟩, .string ⟨#[]⟩, .bool false, .slice none 0 0] 37)))
  have hd29a := Hd24a.out
  have kx30a := hd29a.c0
  have ky31a := hd29a.c1
  have kp32a := hd29a.f0
  have kq33a := hd29a.f1
  clear hd29a
  have hr34a := Hr25a.out
  have kx35a := hr34a.c0
  have ky36a := hr34a.c1
  have kp37a := hr34a.f0
  have kq38a := hr34a.f1
  clear hr34a
  have hu39a := Hu26a.out
  have kf40a := hu39a.free
  have kc41a : _ = some (.string ⟨#[]⟩ : Value) := hu39a.at_ 0
  have kc42a : _ = some (.string ⟨#[]⟩ : Value) := hu39a.at_ 1
  have kc43a : _ = some (.string ⟨#[]⟩ : Value) := hu39a.at_ 2
  have kc44a : _ = some (.bool false : Value) := hu39a.at_ 3
  have kc45a : _ = some (.slice none 0 0 : Value) := hu39a.at_ 4
  clear hu39a
  have HS := fin211 HB28a.out Hr25a.out HLO6a.out (.slice A n c) (.slice A1 n1 c1)
  have z0 := HS.1.c0
  have z1 := HS.1.c1
  have HPOST := Lib.hid (show Doc11 10 L' N w (.returned (.tuple #[.agg #[.slice A n c, .slice A1 n1 c1], .int .i64 10])) _ from ⟨R, _, _, rfl, HRC.out.later HS.2.1, e2.symm, HNN.out.later HS.2.1, HS.2.1⟩)
  clear HS
  go_wp2
  refine bodyPost_ret (v := .tuple #[.agg #[.slice A n c, .slice A1 n1 c1], .int .i64 10]) ?_ rfl HPOST.out
  simp [results, Tryz.results34, go_sem, z0, z1]
 | true =>
  rw [hname] at HU0
  cases hhash : hash5 h.data.toList with
  | false =>
   rw [hhash] at HH0
   cases hh : hasV R s.data.toList with
   | false =>
    rw [hh] at HU0
    have e1 : E = 4 := by
     have := HE.out
     rw [hname] at this
     rw [hhash] at this
     exact this
    have e2 : L' = plainR R := by
     have := HL2.out
     rw [hname] at this
     rw [hhash] at this
     exact this
    rw [e1]
    clear e1
    clear HE HL2 HPT0
    have Hd1bf : Hid (Bx11 (w.alloc (.cells #[.slice A n c, .slice A1 n1 c1] TD11)) (w.heap.size) (.slice A n c) (.slice A1 n1 c1)) := bx11_new w _ _
    have HLO2bf : Hid (w.heap.size ≤ w.heap.size) := Nat.le_refl _
    have HB3bf : Hid (Below w.heap.size w (w.alloc (.cells #[.slice A n c, .slice A1 n1 c1] TD11))) := below_alloc (Below.refl _ _) _
    have Hd4bf := Lib.hid (Hd1bf.out.later (below_alloc (Below.refl _ _) (.cells #[.slice none 0 0, .slice none 0 0] TD11)))
    have Hr5bf : Hid (Bx11 ((w.alloc (.cells #[.slice A n c, .slice A1 n1 c1] TD11)).alloc (.cells #[.slice none 0 0, .slice none 0 0] TD11)) (w.heap.size + 1) (.slice none 0 0) (.slice none 0 0)) := by
     have hq : Bx11 ((w.alloc (.cells #[.slice A n c, .slice A1 n1 c1] TD11)).alloc (.cells #[.slice none 0 0, .slice none 0 0] TD11)) (w.alloc (.cells #[.slice A n c, .slice A1 n1 c1] TD11)).heap.size (.slice none 0 0) (.slice none 0 0) := bx11_new (w.alloc (.cells #[.slice A n c, .slice A1 n1 c1] TD11)) _ _
     simp only [World.size_alloc] at hq
     exact hq
    have HLO6bf : Hid (w.heap.size ≤ w.heap.size + 1) := by have := HB3bf.out.size; show _ ≤ _; simp at this; omega
    have HB7bf := Lib.hid (below_next HB3bf.out (below_alloc (Below.refl _ _) (.cells #[.slice none 0 0, .slice none 0 0] TD11)))
    go_enter Tryz.func34, Tryz.ntmps34
    have hd8bf := Hd4bf.out
    have kx9bf := hd8bf.c0
    have ky10bf := hd8bf.c1
    have kp11bf := hd8bf.f0
    have kq12bf := hd8bf.f1
    clear hd8bf
    have hr13bf := Hr5bf.out
    have kx14bf := hr13bf.c0
    have ky15bf := hr13bf.c1
    have kp16bf := hr13bf.f0
    have kq17bf := hr13bf.f1
    clear hr13bf
    go_wp2_with fail
    generalize (w.alloc (.cells #[.slice A n c, .slice A1 n1 c1] TD11)).alloc (.cells #[.slice none 0 0, .slice none 0 0] TD11) = wg18bf at *
    with_reducible refine (HU0.out wg18bf HB7bf.out).mono ?_
    rintro e w3 ⟨t, x, he, hyes, hno, hb⟩
    clear kx9bf ky10bf kp11bf kq12bf kx14bf ky15bf kp16bf kq17bf
    have Hd19bf := Lib.hid (Hd4bf.out.later hb)
    have Hr20bf := Lib.hid (Hr5bf.out.later hb)
    have HB21bf := Lib.hid (below_next HB7bf.out hb)
    clear hb
    have he' : e = .returned (.tuple #[.agg #[.string ⟨#[]⟩, .string ⟨#[]⟩, .string ⟨#[]⟩, .bool false, .slice none 0 0], .int .i64 8]) := by
     obtain ⟨h1, h2⟩ := hno (by show (8 : Int) ≠ 0; decide)
     rw [he, h1, h2]; rfl
    subst he'
    clear he hyes hno
    have HLT22bf := Lib.hid (Hd19bf.out.lt)
    have HLT23bf := Lib.hid (Hr20bf.out.lt)
    have Hd24bf := Lib.hid (Hd19bf.out.later (below_alloc (Below.refl _ _) (.cells #[.string ⟨#[]⟩, .string ⟨#[]⟩, .string ⟨#[]⟩, .bool false, .slice none 0 0] 37)))
    have Hr25bf := Lib.hid (Hr20bf.out.later (below_alloc (Below.refl _ _) (.cells #[.string ⟨#[]⟩, .string ⟨#[]⟩, .string ⟨#[]⟩, .bool false, .slice none 0 0] 37)))
    have Hu26bf : Hid (Blk5 (w3.alloc (.cells #[.string ⟨#[]⟩, .string ⟨#[]⟩, .string ⟨#[]⟩, .bool false, .slice none 0 0] 37)) (w3.heap.size) (.string ⟨#[]⟩) (.string ⟨#[]⟩) (.string ⟨#[]⟩) (.bool false) (.slice none 0 0)) := heap_alloc_new w3 _
    have HLO27bf : Hid (w.heap.size ≤ w3.heap.size) := by have := HB21bf.out.size; show _ ≤ _; exact this
    have HB28bf := Lib.hid (below_next HB21bf.out (below_alloc (Below.refl _ _) (.cells #[.string ⟨#[]⟩, .string ⟨#[]⟩, .string ⟨#[]⟩, .bool false, .slice none 0 0] 37)))
    have hd29bf := Hd24bf.out
    have kx30bf := hd29bf.c0
    have ky31bf := hd29bf.c1
    have kp32bf := hd29bf.f0
    have kq33bf := hd29bf.f1
    clear hd29bf
    have hr34bf := Hr25bf.out
    have kx35bf := hr34bf.c0
    have ky36bf := hr34bf.c1
    have kp37bf := hr34bf.f0
    have kq38bf := hr34bf.f1
    clear hr34bf
    have hu39bf := Hu26bf.out
    have kf40bf := hu39bf.free
    have kc41bf : _ = some (.string ⟨#[]⟩ : Value) := hu39bf.at_ 0
    have kc42bf : _ = some (.string ⟨#[]⟩ : Value) := hu39bf.at_ 1
    have kc43bf : _ = some (.string ⟨#[]⟩ : Value) := hu39bf.at_ 2
    have kc44bf : _ = some (.bool false : Value) := hu39bf.at_ 3
    have kc45bf : _ = some (.slice none 0 0 : Value) := hu39bf.at_ 4
    clear hu39bf
    go_wp2_with fail
    generalize w3.alloc (.cells #[.string ⟨#[]⟩, .string ⟨#[]⟩, .string ⟨#[]⟩, .bool false, .slice none 0 0] 37) = wg46bf at *
    with_reducible refine (HH0.out _).mono ?_
    rintro e wn ⟨rfl, hw⟩
    replace hw := hw.symm
    subst hw
    clear kx30bf ky31bf kp32bf kq33bf kx35bf ky36bf kp37bf kq38bf kf40bf kc41bf kc42bf kc43bf kc44bf kc45bf
    have hd47bf := Hd24bf.out
    have kx48bf := hd47bf.c0
    have ky49bf := hd47bf.c1
    have kp50bf := hd47bf.f0
    have kq51bf := hd47bf.f1
    clear hd47bf
    have hr52bf := Hr25bf.out
    have kx53bf := hr52bf.c0
    have ky54bf := hr52bf.c1
    have kp55bf := hr52bf.f0
    have kq56bf := hr52bf.f1
    clear hr52bf
    have hu57bf := Hu26bf.out
    have kf58bf := hu57bf.free
    have kc59bf : _ = some (.string ⟨#[]⟩ : Value) := hu57bf.at_ 0
    have kc60bf : _ = some (.string ⟨#[]⟩ : Value) := hu57bf.at_ 1
    have kc61bf : _ = some (.string ⟨#[]⟩ : Value) := hu57bf.at_ 2
    have kc62bf : _ = some (.bool false : Value) := hu57bf.at_ 3
    have kc63bf : _ = some (.slice none 0 0 : Value) := hu57bf.at_ 4
    clear hu57bf
    have HS := fin211 HB28bf.out Hr25bf.out HLO6bf.out (.slice A n c) (.slice A1 n1 c1)
    have z0 := HS.1.c0
    have z1 := HS.1.c1
    have HPOST := Lib.hid (show Doc11 4 L' N w (.returned (.tuple #[.agg #[.slice A n c, .slice A1 n1 c1], .int .i64 4])) _ from ⟨R, _, _, rfl, HRC.out.later HS.2.1, e2.symm, HNN.out.later HS.2.1, HS.2.1⟩)
    clear HS
    go_wp2
    refine bodyPost_ret (v := .tuple #[.agg #[.slice A n c, .slice A1 n1 c1], .int .i64 4]) ?_ rfl HPOST.out
    simp [results, Tryz.results34, go_sem, z0, z1]
   | true =>
    rw [hh] at HU0
    have e1 : E = 4 := by
     have := HE.out
     rw [hname] at this
     rw [hhash] at this
     exact this
    have e2 : L' = plainR R := by
     have := HL2.out
     rw [hname] at this
     rw [hhash] at this
     exact this
    rw [e1]
    clear e1
    clear HE HL2 HPT0
    have Hd1bt : Hid (Bx11 (w.alloc (.cells #[.slice A n c, .slice A1 n1 c1] TD11)) (w.heap.size) (.slice A n c) (.slice A1 n1 c1)) := bx11_new w _ _
    have HLO2bt : Hid (w.heap.size ≤ w.heap.size) := Nat.le_refl _
    have HB3bt : Hid (Below w.heap.size w (w.alloc (.cells #[.slice A n c, .slice A1 n1 c1] TD11))) := below_alloc (Below.refl _ _) _
    have Hd4bt := Lib.hid (Hd1bt.out.later (below_alloc (Below.refl _ _) (.cells #[.slice none 0 0, .slice none 0 0] TD11)))
    have Hr5bt : Hid (Bx11 ((w.alloc (.cells #[.slice A n c, .slice A1 n1 c1] TD11)).alloc (.cells #[.slice none 0 0, .slice none 0 0] TD11)) (w.heap.size + 1) (.slice none 0 0) (.slice none 0 0)) := by
     have hq : Bx11 ((w.alloc (.cells #[.slice A n c, .slice A1 n1 c1] TD11)).alloc (.cells #[.slice none 0 0, .slice none 0 0] TD11)) (w.alloc (.cells #[.slice A n c, .slice A1 n1 c1] TD11)).heap.size (.slice none 0 0) (.slice none 0 0) := bx11_new (w.alloc (.cells #[.slice A n c, .slice A1 n1 c1] TD11)) _ _
     simp only [World.size_alloc] at hq
     exact hq
    have HLO6bt : Hid (w.heap.size ≤ w.heap.size + 1) := by have := HB3bt.out.size; show _ ≤ _; simp at this; omega
    have HB7bt := Lib.hid (below_next HB3bt.out (below_alloc (Below.refl _ _) (.cells #[.slice none 0 0, .slice none 0 0] TD11)))
    go_enter Tryz.func34, Tryz.ntmps34
    have hd8bt := Hd4bt.out
    have kx9bt := hd8bt.c0
    have ky10bt := hd8bt.c1
    have kp11bt := hd8bt.f0
    have kq12bt := hd8bt.f1
    clear hd8bt
    have hr13bt := Hr5bt.out
    have kx14bt := hr13bt.c0
    have ky15bt := hr13bt.c1
    have kp16bt := hr13bt.f0
    have kq17bt := hr13bt.f1
    clear hr13bt
    go_wp2_with fail
    generalize (w.alloc (.cells #[.slice A n c, .slice A1 n1 c1] TD11)).alloc (.cells #[.slice none 0 0, .slice none 0 0] TD11) = wg18bt at *
    with_reducible refine (HU0.out wg18bt HB7bt.out).mono ?_
    rintro e w3 ⟨t, x, he, hyes, hno, hb⟩
    clear kx9bt ky10bt kp11bt kq12bt kx14bt ky15bt kp16bt kq17bt
    have Hd19bt := Lib.hid (Hd4bt.out.later hb)
    have Hr20bt := Lib.hid (Hr5bt.out.later hb)
    have HB21bt := Lib.hid (below_next HB7bt.out hb)
    clear hb
    obtain ⟨ht, hx⟩ := hyes rfl
    obtain ⟨xh, xm, xd, xa, xg, xc⟩ := x
    obtain ⟨xl, hxl⟩ : ∃ l, l = xg.length := ⟨_, rfl⟩
    have he' : e = .returned (.tuple #[.agg #[.string s, .string xh, .string xm, .bool xd, .slice xa xl xc], .int .i64 0]) := by
     rw [he, ht, hxl]; rfl
    subst he'
    have HXx := Lib.hid hx
    have HLx := Lib.hid hxl
    clear he hyes hno ht hx hxl
    have HLT22bt := Lib.hid (Hd19bt.out.lt)
    have HLT23bt := Lib.hid (Hr20bt.out.lt)
    have Hd24bt := Lib.hid (Hd19bt.out.later (below_alloc (Below.refl _ _) (.cells #[.string s, .string xh, .string xm, .bool xd, .slice xa xl xc] 37)))
    have Hr25bt := Lib.hid (Hr20bt.out.later (below_alloc (Below.refl _ _) (.cells #[.string s, .string xh, .string xm, .bool xd, .slice xa xl xc] 37)))
    have Hu26bt : Hid (Blk5 (w3.alloc (.cells #[.string s, .string xh, .string xm, .bool xd, .slice xa xl xc] 37)) (w3.heap.size) (.string s) (.string xh) (.string xm) (.bool xd) (.slice xa xl xc)) := heap_alloc_new w3 _
    have HLO27bt : Hid (w.heap.size ≤ w3.heap.size) := by have := HB21bt.out.size; show _ ≤ _; exact this
    have HB28bt := Lib.hid (below_next HB21bt.out (below_alloc (Below.refl _ _) (.cells #[.string s, .string xh, .string xm, .bool xd, .slice xa xl xc] 37)))
    have hd29bt := Hd24bt.out
    have kx30bt := hd29bt.c0
    have ky31bt := hd29bt.c1
    have kp32bt := hd29bt.f0
    have kq33bt := hd29bt.f1
    clear hd29bt
    have hr34bt := Hr25bt.out
    have kx35bt := hr34bt.c0
    have ky36bt := hr34bt.c1
    have kp37bt := hr34bt.f0
    have kq38bt := hr34bt.f1
    clear hr34bt
    have hu39bt := Hu26bt.out
    have kf40bt := hu39bt.free
    have kc41bt : _ = some (.string s : Value) := hu39bt.at_ 0
    have kc42bt : _ = some (.string xh : Value) := hu39bt.at_ 1
    have kc43bt : _ = some (.string xm : Value) := hu39bt.at_ 2
    have kc44bt : _ = some (.bool xd : Value) := hu39bt.at_ 3
    have kc45bt : _ = some (.slice xa xl xc : Value) := hu39bt.at_ 4
    clear hu39bt
    go_wp2_with fail
    generalize w3.alloc (.cells #[.string s, .string xh, .string xm, .bool xd, .slice xa xl xc] 37) = wg46bt at *
    with_reducible refine (HH0.out _).mono ?_
    rintro e wn ⟨rfl, hw⟩
    replace hw := hw.symm
    subst hw
    clear kx30bt ky31bt kp32bt kq33bt kx35bt ky36bt kp37bt kq38bt kf40bt kc41bt kc42bt kc43bt kc44bt kc45bt
    have hd47bt := Hd24bt.out
    have kx48bt := hd47bt.c0
    have ky49bt := hd47bt.c1
    have kp50bt := hd47bt.f0
    have kq51bt := hd47bt.f1
    clear hd47bt
    have hr52bt := Hr25bt.out
    have kx53bt := hr52bt.c0
    have ky54bt := hr52bt.c1
    have kp55bt := hr52bt.f0
    have kq56bt := hr52bt.f1
    clear hr52bt
    have hu57bt := Hu26bt.out
    have kf58bt := hu57bt.free
    have kc59bt : _ = some (.string s : Value) := hu57bt.at_ 0
    have kc60bt : _ = some (.string xh : Value) := hu57bt.at_ 1
    have kc61bt : _ = some (.string xm : Value) := hu57bt.at_ 2
    have kc62bt : _ = some (.bool xd : Value) := hu57bt.at_ 3
    have kc63bt : _ = some (.slice xa xl xc : Value) := hu57bt.at_ 4
    clear hu57bt
    have HS := fin211 HB28bt.out Hr25bt.out HLO6bt.out (.slice A n c) (.slice A1 n1 c1)
    have z0 := HS.1.c0
    have z1 := HS.1.c1
    have HPOST := Lib.hid (show Doc11 4 L' N w (.returned (.tuple #[.agg #[.slice A n c, .slice A1 n1 c1], .int .i64 4])) _ from ⟨R, _, _, rfl, HRC.out.later HS.2.1, e2.symm, HNN.out.later HS.2.1, HS.2.1⟩)
    clear HS
    go_wp2
    refine bodyPost_ret (v := .tuple #[.agg #[.slice A n c, .slice A1 n1 c1], .int .i64 4]) ?_ rfl HPOST.out
    simp [results, Tryz.results34, go_sem, z0, z1]
  | true =>
   rw [hhash] at HH0
   cases hh : hasV R s.data.toList with
   | false =>
    rw [hh] at HU0
    have e1 : E = 8 := by
     have := HE.out
     rw [hname] at this
     rw [hhash] at this
     rw [hh] at this
     exact this
    have e2 : L' = plainR R := by
     have := HL2.out
     rw [hname] at this
     rw [hhash] at this
     rw [hh] at this
     exact this
    rw [e1]
    clear e1
    clear HE HL2 HPT0
    have Hd1c : Hid (Bx11 (w.alloc (.cells #[.slice A n c, .slice A1 n1 c1] TD11)) (w.heap.size) (.slice A n c) (.slice A1 n1 c1)) := bx11_new w _ _
    have HLO2c : Hid (w.heap.size ≤ w.heap.size) := Nat.le_refl _
    have HB3c : Hid (Below w.heap.size w (w.alloc (.cells #[.slice A n c, .slice A1 n1 c1] TD11))) := below_alloc (Below.refl _ _) _
    have Hd4c := Lib.hid (Hd1c.out.later (below_alloc (Below.refl _ _) (.cells #[.slice none 0 0, .slice none 0 0] TD11)))
    have Hr5c : Hid (Bx11 ((w.alloc (.cells #[.slice A n c, .slice A1 n1 c1] TD11)).alloc (.cells #[.slice none 0 0, .slice none 0 0] TD11)) (w.heap.size + 1) (.slice none 0 0) (.slice none 0 0)) := by
     have hq : Bx11 ((w.alloc (.cells #[.slice A n c, .slice A1 n1 c1] TD11)).alloc (.cells #[.slice none 0 0, .slice none 0 0] TD11)) (w.alloc (.cells #[.slice A n c, .slice A1 n1 c1] TD11)).heap.size (.slice none 0 0) (.slice none 0 0) := bx11_new (w.alloc (.cells #[.slice A n c, .slice A1 n1 c1] TD11)) _ _
     simp only [World.size_alloc] at hq
     exact hq
    have HLO6c : Hid (w.heap.size ≤ w.heap.size + 1) := by have := HB3c.out.size; show _ ≤ _; simp at this; omega
    have HB7c := Lib.hid (below_next HB3c.out (below_alloc (Below.refl _ _) (.cells #[.slice none 0 0, .slice none 0 0] TD11)))
    go_enter Tryz.func34, Tryz.ntmps34
    have hd8c := Hd4c.out
    have kx9c := hd8c.c0
    have ky10c := hd8c.c1
    have kp11c := hd8c.f0
    have kq12c := hd8c.f1
    clear hd8c
    have hr13c := Hr5c.out
    have kx14c := hr13c.c0
    have ky15c := hr13c.c1
    have kp16c := hr13c.f0
    have kq17c := hr13c.f1
    clear hr13c
    go_wp2_with fail
    generalize (w.alloc (.cells #[.slice A n c, .slice A1 n1 c1] TD11)).alloc (.cells #[.slice none 0 0, .slice none 0 0] TD11) = wg18c at *
    with_reducible refine (HU0.out wg18c HB7c.out).mono ?_
    rintro e w3 ⟨t, x, he, hyes, hno, hb⟩
    clear kx9c ky10c kp11c kq12c kx14c ky15c kp16c kq17c
    have Hd19c := Lib.hid (Hd4c.out.later hb)
    have Hr20c := Lib.hid (Hr5c.out.later hb)
    have HB21c := Lib.hid (below_next HB7c.out hb)
    clear hb
    have he' : e = .returned (.tuple #[.agg #[.string ⟨#[]⟩, .string ⟨#[]⟩, .string ⟨#[]⟩, .bool false, .slice none 0 0], .int .i64 8]) := by
     obtain ⟨h1, h2⟩ := hno (by show (8 : Int) ≠ 0; decide)
     rw [he, h1, h2]; rfl
    subst he'
    clear he hyes hno
    have HLT22c := Lib.hid (Hd19c.out.lt)
    have HLT23c := Lib.hid (Hr20c.out.lt)
    have Hd24c := Lib.hid (Hd19c.out.later (below_alloc (Below.refl _ _) (.cells #[.string ⟨#[]⟩, .string ⟨#[]⟩, .string ⟨#[]⟩, .bool false, .slice none 0 0] 37)))
    have Hr25c := Lib.hid (Hr20c.out.later (below_alloc (Below.refl _ _) (.cells #[.string ⟨#[]⟩, .string ⟨#[]⟩, .string ⟨#[]⟩, .bool false, .slice none 0 0] 37)))
    have Hu26c : Hid (Blk5 (w3.alloc (.cells #[.string ⟨#[]⟩, .string ⟨#[]⟩, .string ⟨#[]⟩, .bool false, .slice none 0 0] 37)) (w3.heap.size) (.string ⟨#[]⟩) (.string ⟨#[]⟩) (.string ⟨#[]⟩) (.bool false) (.slice none 0 0)) := heap_alloc_new w3 _
    have HLO27c : Hid (w.heap.size ≤ w3.heap.size) := by have := HB21c.out.size; show _ ≤ _; exact this
    have HB28c := Lib.hid (below_next HB21c.out (below_alloc (Below.refl _ _) (.cells #[.string ⟨#[]⟩, .string ⟨#[]⟩, .string ⟨#[]⟩, .bool false, .slice none 0 0] 37)))
    have hd29c := Hd24c.out
    have kx30c := hd29c.c0
    have ky31c := hd29c.c1
    have kp32c := hd29c.f0
    have kq33c := hd29c.f1
    clear hd29c
    have hr34c := Hr25c.out
    have kx35c := hr34c.c0
    have ky36c := hr34c.c1
    have kp37c := hr34c.f0
    have kq38c := hr34c.f1
    clear hr34c
    have hu39c := Hu26c.out
    have kf40c := hu39c.free
    have kc41c : _ = some (.string ⟨#[]⟩ : Value) := hu39c.at_ 0
    have kc42c : _ = some (.string ⟨#[]⟩ : Value) := hu39c.at_ 1
    have kc43c : _ = some (.string ⟨#[]⟩ : Value) := hu39c.at_ 2
    have kc44c : _ = some (.bool false : Value) := hu39c.at_ 3
    have kc45c : _ = some (.slice none 0 0 : Value) := hu39c.at_ 4
    clear hu39c
    go_wp2_with fail
    generalize w3.alloc (.cells #[.string ⟨#[]⟩, .string ⟨#[]⟩, .string ⟨#[]⟩, .bool false, .slice none 0 0] 37) = wg46c at *
    with_reducible refine (HH0.out _).mono ?_
    rintro e wn ⟨rfl, hw⟩
    replace hw := hw.symm
    subst hw
    clear kx30c ky31c kp32c kq33c kx35c ky36c kp37c kq38c kf40c kc41c kc42c kc43c kc44c kc45c
    have hd47c := Hd24c.out
    have kx48c := hd47c.c0
    have ky49c := hd47c.c1
    have kp50c := hd47c.f0
    have kq51c := hd47c.f1
    clear hd47c
    have hr52c := Hr25c.out
    have kx53c := hr52c.c0
    have ky54c := hr52c.c1
    have kp55c := hr52c.f0
    have kq56c := hr52c.f1
    clear hr52c
    have hu57c := Hu26c.out
    have kf58c := hu57c.free
    have kc59c : _ = some (.string ⟨#[]⟩ : Value) := hu57c.at_ 0
    have kc60c : _ = some (.string ⟨#[]⟩ : Value) := hu57c.at_ 1
    have kc61c : _ = some (.string ⟨#[]⟩ : Value) := hu57c.at_ 2
    have kc62c : _ = some (.bool false : Value) := hu57c.at_ 3
    have kc63c : _ = some (.slice none 0 0 : Value) := hu57c.at_ 4
    clear hu57c
    have HS := fin211 HB28c.out Hr25c.out HLO6c.out (.slice A n c) (.slice A1 n1 c1)
    have z0 := HS.1.c0
    have z1 := HS.1.c1
    have HPOST := Lib.hid (show Doc11 8 L' N w (.returned (.tuple #[.agg #[.slice A n c, .slice A1 n1 c1], .int .i64 8])) _ from ⟨R, _, _, rfl, HRC.out.later HS.2.1, e2.symm, HNN.out.later HS.2.1, HS.2.1⟩)
    clear HS
    go_wp2
    refine bodyPost_ret (v := .tuple #[.agg #[.slice A n c, .slice A1 n1 c1], .int .i64 8]) ?_ rfl HPOST.out
    simp [results, Tryz.results34, go_sem, z0, z1]
   | true =>
    rw [hh] at HU0
    obtain ⟨xx, hxx⟩ := getV_has hh
    have hdis : disU (plainR R) s.data.toList = xx.dis := by
     unfold disU; rw [plainR_get, hxx]; rfl
    have HXX : Hid (∀ x, getV R s.data.toList = some x → x = xx) := fun x h => by rw [hxx] at h; injection h with h; exact h.symm
    have hset : setU (plainR R) s.data.toList (fun u => { u with hs := h.data.toList }) = putV (plainR R) s.data.toList ((fun u => { u with hs := h.data.toList }) xx.u) := by
     unfold setU; rw [plainR_get, hxx]; rfl
    cases hd : xx.dis with
    | true =>
     have e1 : E = 12 := by
      have := HE.out
      rw [hname] at this
      rw [hhash] at this
      rw [hh] at this
      rw [hdis] at this
      rw [hd] at this
      exact this
     have e2 : L' = plainR R := by
      have := HL2.out
      rw [hname] at this
      rw [hhash] at this
      rw [hh] at this
      rw [hdis] at this
      rw [hd] at this
      exact this
     rw [e1]
     clear e1
     clear HE HL2 HPT0
     have Hd1dt : Hid (Bx11 (w.alloc (.cells #[.slice A n c, .slice A1 n1 c1] TD11)) (w.heap.size) (.slice A n c) (.slice A1 n1 c1)) := bx11_new w _ _
     have HLO2dt : Hid (w.heap.size ≤ w.heap.size) := Nat.le_refl _
     have HB3dt : Hid (Below w.heap.size w (w.alloc (.cells #[.slice A n c, .slice A1 n1 c1] TD11))) := below_alloc (Below.refl _ _) _
     have Hd4dt := Lib.hid (Hd1dt.out.later (below_alloc (Below.refl _ _) (.cells #[.slice none 0 0, .slice none 0 0] TD11)))
     have Hr5dt : Hid (Bx11 ((w.alloc (.cells #[.slice A n c, .slice A1 n1 c1] TD11)).alloc (.cells #[.slice none 0 0, .slice none 0 0] TD11)) (w.heap.size + 1) (.slice none 0 0) (.slice none 0 0)) := by
      have hq : Bx11 ((w.alloc (.cells #[.slice A n c, .slice A1 n1 c1] TD11)).alloc (.cells #[.slice none 0 0, .slice none 0 0] TD11)) (w.alloc (.cells #[.slice A n c, .slice A1 n1 c1] TD11)).heap.size (.slice none 0 0) (.slice none 0 0) := bx11_new (w.alloc (.cells #[.slice A n c, .slice A1 n1 c1] TD11)) _ _
      simp only [World.size_alloc] at hq
      exact hq
     have HLO6dt : Hid (w.heap.size ≤ w.heap.size + 1) := by have := HB3dt.out.size; show _ ≤ _; simp at this; omega
     have HB7dt := Lib.hid (below_next HB3dt.out (below_alloc (Below.refl _ _) (.cells #[.slice none 0 0, .slice none 0 0] TD11)))
     go_enter Tryz.func34, Tryz.ntmps34
     have hd8dt := Hd4dt.out
     have kx9dt := hd8dt.c0
     have ky10dt := hd8dt.c1
     have kp11dt := hd8dt.f0
     have kq12dt := hd8dt.f1
     clear hd8dt
     have hr13dt := Hr5dt.out
     have kx14dt := hr13dt.c0
     have ky15dt := hr13dt.c1
     have kp16dt := hr13dt.f0
     have kq17dt := hr13dt.f1
     clear hr13dt
     go_wp2_with fail
     generalize (w.alloc (.cells #[.slice A n c, .slice A1 n1 c1] TD11)).alloc (.cells #[.slice none 0 0, .slice none 0 0] TD11) = wg18dt at *
     with_reducible refine (HU0.out wg18dt HB7dt.out).mono ?_
     rintro e w3 ⟨t, x, he, hyes, hno, hb⟩
     clear kx9dt ky10dt kp11dt kq12dt kx14dt ky15dt kp16dt kq17dt
     have Hd19dt := Lib.hid (Hd4dt.out.later hb)
     have Hr20dt := Lib.hid (Hr5dt.out.later hb)
     have HB21dt := Lib.hid (below_next HB7dt.out hb)
     clear hb
     obtain ⟨ht, hx⟩ := hyes rfl
     obtain ⟨xh, xm, xd, xa, xg, xc⟩ := x
     obtain ⟨xl, hxl⟩ : ∃ l, l = xg.length := ⟨_, rfl⟩
     have he' : e = .returned (.tuple #[.agg #[.string s, .string xh, .string xm, .bool xd, .slice xa xl xc], .int .i64 0]) := by
      rw [he, ht, hxl]; rfl
     subst he'
     have HXx := Lib.hid hx
     have HLx := Lib.hid hxl
     clear he hyes hno ht hx hxl
     obtain rfl : xd = true := by have := HXX.out _ HXx.out; rw [← hd, ← this]
     have HLT22dt := Lib.hid (Hd19dt.out.lt)
     have HLT23dt := Lib.hid (Hr20dt.out.lt)
     have Hd24dt := Lib.hid (Hd19dt.out.later (below_alloc (Below.refl _ _) (.cells #[.string s, .string xh, .string xm, .bool true, .slice xa xl xc] 37)))
     have Hr25dt := Lib.hid (Hr20dt.out.later (below_alloc (Below.refl _ _) (.cells #[.string s, .string xh, .string xm, .bool true, .slice xa xl xc] 37)))
     have Hu26dt : Hid (Blk5 (w3.alloc (.cells #[.string s, .string xh, .string xm, .bool true, .slice xa xl xc] 37)) (w3.heap.size) (.string s) (.string xh) (.string xm) (.bool true) (.slice xa xl xc)) := heap_alloc_new w3 _
     have HLO27dt : Hid (w.heap.size ≤ w3.heap.size) := by have := HB21dt.out.size; show _ ≤ _; exact this
     have HB28dt := Lib.hid (below_next HB21dt.out (below_alloc (Below.refl _ _) (.cells #[.string s, .string xh, .string xm, .bool true, .slice xa xl xc] 37)))
     have hd29dt := Hd24dt.out
     have kx30dt := hd29dt.c0
     have ky31dt := hd29dt.c1
     have kp32dt := hd29dt.f0
     have kq33dt := hd29dt.f1
     clear hd29dt
     have hr34dt := Hr25dt.out
     have kx35dt := hr34dt.c0
     have ky36dt := hr34dt.c1
     have kp37dt := hr34dt.f0
     have kq38dt := hr34dt.f1
     clear hr34dt
     have hu39dt := Hu26dt.out
     have kf40dt := hu39dt.free
     have kc41dt : _ = some (.string s : Value) := hu39dt.at_ 0
     have kc42dt : _ = some (.string xh : Value) := hu39dt.at_ 1
     have kc43dt : _ = some (.string xm : Value) := hu39dt.at_ 2
     have kc44dt : _ = some (.bool true : Value) := hu39dt.at_ 3
     have kc45dt : _ = some (.slice xa xl xc : Value) := hu39dt.at_ 4
     clear hu39dt
     go_wp2_with fail
     generalize w3.alloc (.cells #[.string s, .string xh, .string xm, .bool true, .slice xa xl xc] 37) = wg46dt at *
     with_reducible refine (HH0.out _).mono ?_
     rintro e wn ⟨rfl, hw⟩
     replace hw := hw.symm
     subst hw
     clear kx30dt ky31dt kp32dt kq33dt kx35dt ky36dt kp37dt kq38dt kf40dt kc41dt kc42dt kc43dt kc44dt kc45dt
     have hd47dt := Hd24dt.out
     have kx48dt := hd47dt.c0
     have ky49dt := hd47dt.c1
     have kp50dt := hd47dt.f0
     have kq51dt := hd47dt.f1
     clear hd47dt
     have hr52dt := Hr25dt.out
     have kx53dt := hr52dt.c0
     have ky54dt := hr52dt.c1
     have kp55dt := hr52dt.f0
     have kq56dt := hr52dt.f1
     clear hr52dt
     have hu57dt := Hu26dt.out
     have kf58dt := hu57dt.free
     have kc59dt : _ = some (.string s : Value) := hu57dt.at_ 0
     have kc60dt : _ = some (.string xh : Value) := hu57dt.at_ 1
     have kc61dt : _ = some (.string xm : Value) := hu57dt.at_ 2
     have kc62dt : _ = some (.bool true : Value) := hu57dt.at_ 3
     have kc63dt : _ = some (.slice xa xl xc : Value) := hu57dt.at_ 4
     clear hu57dt
     have HS := fin211 HB28dt.out Hr25dt.out HLO6dt.out (.slice A n c) (.slice A1 n1 c1)
     have z0 := HS.1.c0
     have z1 := HS.1.c1
     have HPOST := Lib.hid (show Doc11 12 L' N w (.returned (.tuple #[.agg #[.slice A n c, .slice A1 n1 c1], .int .i64 12])) _ from ⟨R, _, _, rfl, HRC.out.later HS.2.1, e2.symm, HNN.out.later HS.2.1, HS.2.1⟩)
     clear HS
     go_wp2
     refine bodyPost_ret (v := .tuple #[.agg #[.slice A n c, .slice A1 n1 c1], .int .i64 12]) ?_ rfl HPOST.out
     simp [results, Tryz.results34, go_sem, z0, z1]
    | false =>
     have e1 : E = 0 := by
      have := HE.out
      rw [hname] at this
      rw [hhash] at this
      rw [hh] at this
      rw [hdis] at this
      rw [hd] at this
      exact this
     have e2 : L' = putV (plainR R) s.data.toList ((fun u => { u with hs := h.data.toList }) xx.u) := by
      have := HL2.out
      rw [hname] at this
      rw [hhash] at this
      rw [hh] at this
      rw [hdis] at this
      rw [hd] at this
      rw [← hset]
      exact this
     rw [e1]
     clear e1 HE HL2
     have HE2 := Lib.hid e2
     clear e2
     have Hd1df : Hid (Bx11 (w.alloc (.cells #[.slice A n c, .slice A1 n1 c1] TD11)) (w.heap.size) (.slice A n c) (.slice A1 n1 c1)) := bx11_new w _ _
     have HLO2df : Hid (w.heap.size ≤ w.heap.size) := Nat.le_refl _
     have HB3df : Hid (Below w.heap.size w (w.alloc (.cells #[.slice A n c, .slice A1 n1 c1] TD11))) := below_alloc (Below.refl _ _) _
     have Hd4df := Lib.hid (Hd1df.out.later (below_alloc (Below.refl _ _) (.cells #[.slice none 0 0, .slice none 0 0] TD11)))
     have Hr5df : Hid (Bx11 ((w.alloc (.cells #[.slice A n c, .slice A1 n1 c1] TD11)).alloc (.cells #[.slice none 0 0, .slice none 0 0] TD11)) (w.heap.size + 1) (.slice none 0 0) (.slice none 0 0)) := by
      have hq : Bx11 ((w.alloc (.cells #[.slice A n c, .slice A1 n1 c1] TD11)).alloc (.cells #[.slice none 0 0, .slice none 0 0] TD11)) (w.alloc (.cells #[.slice A n c, .slice A1 n1 c1] TD11)).heap.size (.slice none 0 0) (.slice none 0 0) := bx11_new (w.alloc (.cells #[.slice A n c, .slice A1 n1 c1] TD11)) _ _
      simp only [World.size_alloc] at hq
      exact hq
     have HLO6df : Hid (w.heap.size ≤ w.heap.size + 1) := by have := HB3df.out.size; show _ ≤ _; simp at this; omega
     have HB7df := Lib.hid (below_next HB3df.out (below_alloc (Below.refl _ _) (.cells #[.slice none 0 0, .slice none 0 0] TD11)))
     go_enter Tryz.func34, Tryz.ntmps34
     have hd8df := Hd4df.out
     have kx9df := hd8df.c0
     have ky10df := hd8df.c1
     have kp11df := hd8df.f0
     have kq12df := hd8df.f1
     clear hd8df
     have hr13df := Hr5df.out
     have kx14df := hr13df.c0
     have ky15df := hr13df.c1
     have kp16df := hr13df.f0
     have kq17df := hr13df.f1
     clear hr13df
     go_wp2_with fail
     generalize (w.alloc (.cells #[.slice A n c, .slice A1 n1 c1] TD11)).alloc (.cells #[.slice none 0 0, .slice none 0 0] TD11) = wg18df at *
     with_reducible refine (HU0.out wg18df HB7df.out).mono ?_
     rintro e w3 ⟨t, x, he, hyes, hno, hb⟩
     clear kx9df ky10df kp11df kq12df kx14df ky15df kp16df kq17df
     have Hd19df := Lib.hid (Hd4df.out.later hb)
     have Hr20df := Lib.hid (Hr5df.out.later hb)
     have HB21df := Lib.hid (below_next HB7df.out hb)
     clear hb
     obtain ⟨ht, hx⟩ := hyes rfl
     obtain ⟨xh, xm, xd, xa, xg, xc⟩ := x
     obtain ⟨xl, hxl⟩ : ∃ l, l = xg.length := ⟨_, rfl⟩
     have he' : e = .returned (.tuple #[.agg #[.string s, .string xh, .string xm, .bool xd, .slice xa xl xc], .int .i64 0]) := by
      rw [he, ht, hxl]; rfl
     subst he'
     have HXx := Lib.hid hx
     have HLx := Lib.hid hxl
     clear he hyes hno ht hx hxl
     obtain rfl : xd = false := by have := HXX.out _ HXx.out; rw [← hd, ← this]
     have HLT22df := Lib.hid (Hd19df.out.lt)
     have HLT23df := Lib.hid (Hr20df.out.lt)
     have Hd24df := Lib.hid (Hd19df.out.later (below_alloc (Below.refl _ _) (.cells #[.string s, .string xh, .string xm, .bool false, .slice xa xl xc] 37)))
     have Hr25df := Lib.hid (Hr20df.out.later (below_alloc (Below.refl _ _) (.cells #[.string s, .string xh, .string xm, .bool false, .slice xa xl xc] 37)))
     have Hu26df : Hid (Blk5 (w3.alloc (.cells #[.string s, .string xh, .string xm, .bool false, .slice xa xl xc] 37)) (w3.heap.size) (.string s) (.string xh) (.string xm) (.bool false) (.slice xa xl xc)) := heap_alloc_new w3 _
     have HLO27df : Hid (w.heap.size ≤ w3.heap.size) := by have := HB21df.out.size; show _ ≤ _; exact this
     have HB28df := Lib.hid (below_next HB21df.out (below_alloc (Below.refl _ _) (.cells #[.string s, .string xh, .string xm, .bool false, .slice xa xl xc] 37)))
     have hd29df := Hd24df.out
     have kx30df := hd29df.c0
     have ky31df := hd29df.c1
     have kp32df := hd29df.f0
     have kq33df := hd29df.f1
     clear hd29df
     have hr34df := Hr25df.out
     have kx35df := hr34df.c0
     have ky36df := hr34df.c1
     have kp37df := hr34df.f0
     have kq38df := hr34df.f1
     clear hr34df
     have hu39df := Hu26df.out
     have kf40df := hu39df.free
     have kc41df : _ = some (.string s : Value) := hu39df.at_ 0
     have kc42df : _ = some (.string xh : Value) := hu39df.at_ 1
     have kc43df : _ = some (.string xm : Value) := hu39df.at_ 2
     have kc44df : _ = some (.bool false : Value) := hu39df.at_ 3
     have kc45df : _ = some (.slice xa xl xc : Value) := hu39df.at_ 4
     clear hu39df
     go_wp2_with fail
     generalize w3.alloc (.cells #[.string s, .string xh, .string xm, .bool false, .slice xa xl xc] 37) = wg46df at *
     with_reducible refine (HH0.out _).mono ?_
     rintro e wn ⟨rfl, hw⟩
     replace hw := hw.symm
     subst hw
     clear kx30df ky31df kp32df kq33df kx35df ky36df kp37df kq38df kf40df kc41df kc42df kc43df kc44df kc45df
     have hd47df := Hd24df.out
     have kx48df := hd47df.c0
     have ky49df := hd47df.c1
     have kp50df := hd47df.f0
     have kq51df := hd47df.f1
     clear hd47df
     have hr52df := Hr25df.out
     have kx53df := hr52df.c0
     have ky54df := hr52df.c1
     have kp55df := hr52df.f0
     have kq56df := hr52df.f1
     clear hr52df
     have hu57df := Hu26df.out
     have kf58df := hu57df.free
     have kc59df : _ = some (.string s : Value) := hu57df.at_ 0
     have kc60df : _ = some (.string xh : Value) := hu57df.at_ 1
     have kc61df : _ = some (.string xm : Value) := hu57df.at_ 2
     have kc62df : _ = some (.bool false : Value) := hu57df.at_ 3
     have kc63df : _ = some (.slice xa xl xc : Value) := hu57df.at_ 4
     clear hu57df
     have Hd64df : Hid (Bx11 (wg46df.setCell ⟨w3.heap.size, 1, none⟩ (.string h)) (w.heap.size) (.slice A n c) (.slice A1 n1 c1)) := Hd24df.out.other (by have := HLT22df.out; omega) _
     have Hr65df : Hid (Bx11 (wg46df.setCell ⟨w3.heap.size, 1, none⟩ (.string h)) (w.heap.size + 1) (.slice none 0 0) (.slice none 0 0)) := Hr25df.out.other (by have := HLT23df.out; omega) _
     have Hu66df : Hid (Blk5 (wg46df.setCell ⟨w3.heap.size, 1, none⟩ (.string h)) (w3.heap.size) (.string s) (.string h) (.string xm) (.bool false) (.slice xa xl xc)) := Hu26df.out.put111 _
     have HB67df : Hid (Below w.heap.size w (wg46df.setCell ⟨w3.heap.size, 1, none⟩ (.string h))) := HB28df.out.setCell (p := ⟨w3.heap.size, 1, none⟩) HLO27df.out _
     have HPT : Hid (∀ W, Below w.heap.size w W → Calls Tryz.prog 90 #[.agg #[.slice A n c, .slice A1 n1 c1], .agg #[.string s, .string h, .string xm, .bool false, .slice xa xl xc]] W fun e w' => ∃ v', e = .returned (.agg #[v', .slice A1 n1 c1]) ∧ Rw11 (putV R s.data.toList ⟨h, xm, false, xa, xg, xc⟩) w' v' ∧ Below W.heap.size W w') := fun W hb => by
      have := HPT0.out ⟨h, xm, false, xa, xg, xc⟩ W hb
      unfold uval11 at this
      dsimp only at this
      rw [← HLx.out] at this
      exact this
     clear HPT0
     have hd68df := Hd64df.out
     have kx69df := hd68df.c0
     have ky70df := hd68df.c1
     have kp71df := hd68df.f0
     have kq72df := hd68df.f1
     clear hd68df
     have hr73df := Hr65df.out
     have kx74df := hr73df.c0
     have ky75df := hr73df.c1
     have kp76df := hr73df.f0
     have kq77df := hr73df.f1
     clear hr73df
     have hu78df := Hu66df.out
     have kf79df := hu78df.free
     have kc80df : _ = some (.string s : Value) := hu78df.at_ 0
     have kc81df : _ = some (.string h : Value) := hu78df.at_ 1
     have kc82df : _ = some (.string xm : Value) := hu78df.at_ 2
     have kc83df : _ = some (.bool false : Value) := hu78df.at_ 3
     have kc84df : _ = some (.slice xa xl xc : Value) := hu78df.at_ 4
     clear hu78df
     go_wp2_with fail
     generalize wg46df.setCell ⟨w3.heap.size, 1, none⟩ (.string h) = wg85df at *
     with_reducible refine (HPT.out wg85df HB67df.out).mono ?_
     rintro e w6 ⟨v5, rfl, hp, hb⟩
     clear kx48df ky49df kp50df kq51df kx53df ky54df kp55df kq56df kf58df kc59df kc60df kc61df kc62df kc63df kx69df ky70df kp71df kq72df kx74df ky75df kp76df kq77df kf79df kc80df kc81df kc82df kc83df kc84df
     have Hd86df := Lib.hid (Hd64df.out.later hb)
     have Hr87df := Lib.hid (Hr65df.out.later hb)
     have Hu88df := Lib.hid (blk_later11 Hu66df.out hb)
     have HB89df := Lib.hid (below_next HB67df.out hb)
     obtain ⟨A5, c5, rfl⟩ := hp.us.shape
     have HP := Lib.hid hp
     clear hp
     obtain ⟨n5, hn5⟩ : ∃ m, m = (putV R s.data.toList (⟨h, xm, false, xa, xg, xc⟩ : W11)).length := ⟨_, rfl⟩
     rw [← hn5] at HP ⊢
     clear hn5
     clear hb
     have HG5 : Hid (Gs11 0 w6 (putV R s.data.toList ⟨h, xm, false, xa, xg, xc⟩)) := ((HRC.out.later HB89df.out).2).put _ _ ((HRC.out.later HB89df.out).2 (s.data.toList, ⟨xh, xm, false, xa, xg, xc⟩) ((getV_some HRI.out).1 HXx.out))
     have HPL : Hid (plainR (putV R s.data.toList ⟨h, xm, false, xa, xg, xc⟩) = L') := by
      show _ = _
      rw [HE2.out, plainR_put, ← HXX.out _ HXx.out]
      rfl
     have hd90df := Hd86df.out
     have kx91df := hd90df.c0
     have ky92df := hd90df.c1
     have kp93df := hd90df.f0
     have kq94df := hd90df.f1
     clear hd90df
     have hr95df := Hr87df.out
     have kx96df := hr95df.c0
     have ky97df := hr95df.c1
     have kp98df := hr95df.f0
     have kq99df := hr95df.f1
     clear hr95df
     have hu100df := Hu88df.out
     have kf101df := hu100df.free
     have kc102df : _ = some (.string s : Value) := hu100df.at_ 0
     have kc103df : _ = some (.string h : Value) := hu100df.at_ 1
     have kc104df : _ = some (.string xm : Value) := hu100df.at_ 2
     have kc105df : _ = some (.bool false : Value) := hu100df.at_ 3
     have kc106df : _ = some (.slice xa xl xc : Value) := hu100df.at_ 4
     clear hu100df
     have HS := fin211 HB89df.out Hr87df.out HLO6df.out (.slice A5 n5 c5) (.slice A1 n1 c1)
     have z0 := HS.1.c0
     have z1 := HS.1.c1
     have HPOST := Lib.hid (show Doc11 0 L' N w (.returned (.tuple #[.agg #[.slice A5 n5 c5, .slice A1 n1 c1], .int .i64 0])) _ from ⟨_, _, _, rfl, ⟨HP.out.keepD11 HS.2.2, HG5.out.keepD11 HS.2.2⟩, HPL.out, HNN.out.later HS.2.1, HS.2.1⟩)
     clear HS
     go_wp2
     refine bodyPost_ret (v := .tuple #[.agg #[.slice A5 n5 c5, .slice A1 n1 c1], .int .i64 0]) ?_ rfl HPOST.out
     simp [results, Tryz.results34, go_sem, z0, z1]

set_option maxRecDepth 100000 in
set_option maxHeartbeats 4000000 in
theorem rdisable11_calls (v vg : Value) (R : RowV W11) (N : List (List UInt8)) (s : ByteArray) (is_ : Bool) (w : World) (hR : Rc11 0 R w v) (hN : NmR w vg N) (h12 : R.length ≤ 12) (hr : RiseV R) (hn : s.size ≤ 1000) :
  Calls Tryz.prog 37 #[.agg #[v, vg], .string s, .bool is_] w (Doc11 (ddiE (plainR R) s.data.toList is_) (ddiL (plainR R) s.data.toList is_) N w) := by
 have hnot : ∀ (x : Bool) (w : World), (Op.unary .not (.bool x)).run Tryz.prog w = .ok (.bool (!x)) w := fun _ _ => rfl
 have hzu := zerou11
 obtain ⟨A, c, rfl⟩ := hR.rw.us.shape
 obtain ⟨A1, c1, rfl⟩ := hN.shape
 have HU0 : Hid (∀ W, Below w.heap.size w W → Calls Tryz.prog 55 #[.agg #[.slice A R.length c, .slice A1 N.length c1], .string s] W (User11 R s W)) := fun W hb => ruser11_calls _ _ R N s W (hR.later hb) (hN.later hb) h12 hr hn
 have HPT0 : Hid (∀ (x : W11) W, Below w.heap.size w W → Calls Tryz.prog 90 #[.agg #[.slice A R.length c, .slice A1 N.length c1], uval11 s x] W fun e w' => ∃ v', e = .returned (.agg #[v', .slice A1 N.length c1]) ∧ Rw11 (putV R s.data.toList x) w' v' ∧ Below W.heap.size W w') := fun x W hb => rputd11_calls _ _ R N s x W (hR.rw.later hb) (hN.later hb) h12 hr
 have HRC := Lib.hid hR
 have HNN := Lib.hid hN
 have HRI := Lib.hid hr
 clear hR hN
 obtain ⟨n, hlen⟩ : ∃ n, n = R.length := ⟨_, rfl⟩
 obtain ⟨n1, hlen1⟩ : ∃ n, n = N.length := ⟨_, rfl⟩
 have HLR := Lib.hid hlen
 have HLN := Lib.hid hlen1
 unfold User11 at HU0
 rw [← hlen] at HU0 HPT0 HRC ⊢
 rw [← hlen1] at HU0 HPT0 HNN ⊢
 clear hlen hlen1
 have HE : Hid (ddiE (plainR R) s.data.toList is_ = diF11 (name5 s.data.toList) (hasV R s.data.toList) (disU (plainR R) s.data.toList == is_)) := by
  show _ = _
  unfold ddiE; rw [plainR_has]
 have HL2 : Hid (ddiL (plainR R) s.data.toList is_ = if diF11 (name5 s.data.toList) (hasV R s.data.toList) (disU (plainR R) s.data.toList == is_) = 0 then setU (plainR R) s.data.toList (fun u => { u with dis := is_ }) else plainR R) := by
  show _ = _
  unfold ddiL; rw [HE.out]
 generalize ddiE (plainR R) s.data.toList is_ = E at *
 generalize ddiL (plainR R) s.data.toList is_ = L' at *
 cases hname : name5 s.data.toList with
 | false =>
  rw [hname] at HU0
  have e1 : E = 10 := by
   have := HE.out
   rw [hname] at this
   exact this
  have e2 : L' = plainR R := by
   have := HL2.out
   rw [hname] at this
   exact this
  rw [e1]
  clear e1
  clear HE HL2 HPT0
  have Hd1a : Hid (Bx11 (w.alloc (.cells #[.slice A n c, .slice A1 n1 c1] TD11)) (w.heap.size) (.slice A n c) (.slice A1 n1 c1)) := bx11_new w _ _
  have HLO2a : Hid (w.heap.size ≤ w.heap.size) := Nat.le_refl _
  have HB3a : Hid (Below w.heap.size w (w.alloc (.cells #[.slice A n c, .slice A1 n1 c1] TD11))) := below_alloc (Below.refl _ _) _
  have Hd4a := Lib.hid (Hd1a.out.later (below_alloc (Below.refl _ _) (.cells #[.slice none 0 0, .slice none 0 0] TD11)))
  have Hr5a : Hid (Bx11 ((w.alloc (.cells #[.slice A n c, .slice A1 n1 c1] TD11)).alloc (.cells #[.slice none 0 0, .slice none 0 0] TD11)) (w.heap.size + 1) (.slice none 0 0) (.slice none 0 0)) := by
   have hq : Bx11 ((w.alloc (.cells #[.slice A n c, .slice A1 n1 c1] TD11)).alloc (.cells #[.slice none 0 0, .slice none 0 0] TD11)) (w.alloc (.cells #[.slice A n c, .slice A1 n1 c1] TD11)).heap.size (.slice none 0 0) (.slice none 0 0) := bx11_new (w.alloc (.cells #[.slice A n c, .slice A1 n1 c1] TD11)) _ _
   simp only [World.size_alloc] at hq
   exact hq
  have HLO6a : Hid (w.heap.size ≤ w.heap.size + 1) := by have := HB3a.out.size; show _ ≤ _; simp at this; omega
  have HB7a := Lib.hid (below_next HB3a.out (below_alloc (Below.refl _ _) (.cells #[.slice none 0 0, .slice none 0 0] TD11)))
  go_enter Tryz.func37, Tryz.ntmps37
  have hd8a := Hd4a.out
  have kx9a := hd8a.c0
  have ky10a := hd8a.c1
  have kp11a := hd8a.f0
  have kq12a := hd8a.f1
  clear hd8a
  have hr13a := Hr5a.out
  have kx14a := hr13a.c0
  have ky15a := hr13a.c1
  have kp16a := hr13a.f0
  have kq17a := hr13a.f1
  clear hr13a
  go_wp2_with fail
  generalize (w.alloc (.cells #[.slice A n c, .slice A1 n1 c1] TD11)).alloc (.cells #[.slice none 0 0, .slice none 0 0] TD11) = wg18a at *
  with_reducible refine (HU0.out wg18a HB7a.out).mono ?_
  rintro e w3 ⟨t, x, he, hyes, hno, hb⟩
  clear kx9a ky10a kp11a kq12a kx14a ky15a kp16a kq17a
  have Hd19a := Lib.hid (Hd4a.out.later hb)
  have Hr20a := Lib.hid (Hr5a.out.later hb)
  have HB21a := Lib.hid (below_next HB7a.out hb)
  clear hb
  have he' : e = .returned (.tuple #[.agg #[.string ⟨#[]⟩, .string ⟨#[]⟩, .string ⟨#[]⟩, .bool false, .slice none 0 0], .int .i64 10]) := by
   obtain ⟨h1, h2⟩ := hno (by show (10 : Int) ≠ 0; decide)
   rw [he, h1, h2]; rfl
  subst he'
  clear he hyes hno
  have HLT22a := Lib.hid (Hd19a.out.lt)
  have HLT23a := Lib.hid (Hr20a.out.lt)
  have Hd24a := Lib.hid (Hd19a.out.later (below_alloc (Below.refl _ _) (.cells #[.string ⟨#[]⟩, .string ⟨#[]⟩, .string ⟨#[]⟩, .bool false, .slice none 0 0] 37)))
  have Hr25a := Lib.hid (Hr20a.out.later (below_alloc (Below.refl _ _) (.cells #[.string ⟨#[]⟩, .string ⟨#[]⟩, .string ⟨#[]⟩, .bool false, .slice none 0 0] 37)))
  have Hu26a : Hid (Blk5 (w3.alloc (.cells #[.string ⟨#[]⟩, .string ⟨#[]⟩, .string ⟨#[]⟩, .bool false, .slice none 0 0] 37)) (w3.heap.size) (.string ⟨#[]⟩) (.string ⟨#[]⟩) (.string ⟨#[]⟩) (.bool false) (.slice none 0 0)) := heap_alloc_new w3 _
  have HLO27a : Hid (w.heap.size ≤ w3.heap.size) := by have := HB21a.out.size; show _ ≤ _; exact this
  have HB28a := Lib.hid (below_next HB21a.out (below_alloc (Below.refl _ _) (.cells #[.string ⟨#[]⟩, .string ⟨#[]⟩, .string ⟨#[]⟩, .bool false, .slice none 0 0] 37)))
  have hd29a := Hd24a.out
  have kx30a := hd29a.c0
  have ky31a := hd29a.c1
  have kp32a := hd29a.f0
  have kq33a := hd29a.f1
  clear hd29a
  have hr34a := Hr25a.out
  have kx35a := hr34a.c0
  have ky36a := hr34a.c1
  have kp37a := hr34a.f0
  have kq38a := hr34a.f1
  clear hr34a
  have hu39a := Hu26a.out
  have kf40a := hu39a.free
  have kc41a : _ = some (.string ⟨#[]⟩ : Value) := hu39a.at_ 0
  have kc42a : _ = some (.string ⟨#[]⟩ : Value) := hu39a.at_ 1
  have kc43a : _ = some (.string ⟨#[]⟩ : Value) := hu39a.at_ 2
  have kc44a : _ = some (.bool false : Value) := hu39a.at_ 3
  have kc45a : _ = some (.slice none 0 0 : Value) := hu39a.at_ 4
  clear hu39a
  have HS := fin211 HB28a.out Hr25a.out HLO6a.out (.slice A n c) (.slice A1 n1 c1)
  have z0 := HS.1.c0
  have z1 := HS.1.c1
  have HPOST := Lib.hid (show Doc11 10 L' N w (.returned (.tuple #[.agg #[.slice A n c, .slice A1 n1 c1], .int .i64 10])) _ from ⟨R, _, _, rfl, HRC.out.later HS.2.1, e2.symm, HNN.out.later HS.2.1, HS.2.1⟩)
  clear HS
  go_wp2
  refine bodyPost_ret (v := .tuple #[.agg #[.slice A n c, .slice A1 n1 c1], .int .i64 10]) ?_ rfl HPOST.out
  simp [results, Tryz.results37, go_sem, z0, z1]
 | true =>
  rw [hname] at HU0
  cases hh : hasV R s.data.toList with
  | false =>
   rw [hh] at HU0
   have e1 : E = 8 := by
    have := HE.out
    rw [hname] at this
    rw [hh] at this
    exact this
   have e2 : L' = plainR R := by
    have := HL2.out
    rw [hname] at this
    rw [hh] at this
    exact this
   rw [e1]
   clear e1
   clear HE HL2 HPT0
   have Hd1c : Hid (Bx11 (w.alloc (.cells #[.slice A n c, .slice A1 n1 c1] TD11)) (w.heap.size) (.slice A n c) (.slice A1 n1 c1)) := bx11_new w _ _
   have HLO2c : Hid (w.heap.size ≤ w.heap.size) := Nat.le_refl _
   have HB3c : Hid (Below w.heap.size w (w.alloc (.cells #[.slice A n c, .slice A1 n1 c1] TD11))) := below_alloc (Below.refl _ _) _
   have Hd4c := Lib.hid (Hd1c.out.later (below_alloc (Below.refl _ _) (.cells #[.slice none 0 0, .slice none 0 0] TD11)))
   have Hr5c : Hid (Bx11 ((w.alloc (.cells #[.slice A n c, .slice A1 n1 c1] TD11)).alloc (.cells #[.slice none 0 0, .slice none 0 0] TD11)) (w.heap.size + 1) (.slice none 0 0) (.slice none 0 0)) := by
    have hq : Bx11 ((w.alloc (.cells #[.slice A n c, .slice A1 n1 c1] TD11)).alloc (.cells #[.slice none 0 0, .slice none 0 0] TD11)) (w.alloc (.cells #[.slice A n c, .slice A1 n1 c1] TD11)).heap.size (.slice none 0 0) (.slice none 0 0) := bx11_new (w.alloc (.cells #[.slice A n c, .slice A1 n1 c1] TD11)) _ _
    simp only [World.size_alloc] at hq
    exact hq
   have HLO6c : Hid (w.heap.size ≤ w.heap.size + 1) := by have := HB3c.out.size; show _ ≤ _; simp at this; omega
   have HB7c := Lib.hid (below_next HB3c.out (below_alloc (Below.refl _ _) (.cells #[.slice none 0 0, .slice none 0 0] TD11)))
   go_enter Tryz.func37, Tryz.ntmps37
   have hd8c := Hd4c.out
   have kx9c := hd8c.c0
   have ky10c := hd8c.c1
   have kp11c := hd8c.f0
   have kq12c := hd8c.f1
   clear hd8c
   have hr13c := Hr5c.out
   have kx14c := hr13c.c0
   have ky15c := hr13c.c1
   have kp16c := hr13c.f0
   have kq17c := hr13c.f1
   clear hr13c
   go_wp2_with fail
   generalize (w.alloc (.cells #[.slice A n c, .slice A1 n1 c1] TD11)).alloc (.cells #[.slice none 0 0, .slice none 0 0] TD11) = wg18c at *
   with_reducible refine (HU0.out wg18c HB7c.out).mono ?_
   rintro e w3 ⟨t, x, he, hyes, hno, hb⟩
   clear kx9c ky10c kp11c kq12c kx14c ky15c kp16c kq17c
   have Hd19c := Lib.hid (Hd4c.out.later hb)
   have Hr20c := Lib.hid (Hr5c.out.later hb)
   have HB21c := Lib.hid (below_next HB7c.out hb)
   clear hb
   have he' : e = .returned (.tuple #[.agg #[.string ⟨#[]⟩, .string ⟨#[]⟩, .string ⟨#[]⟩, .bool false, .slice none 0 0], .int .i64 8]) := by
    obtain ⟨h1, h2⟩ := hno (by show (8 : Int) ≠ 0; decide)
    rw [he, h1, h2]; rfl
   subst he'
   clear he hyes hno
   have HLT22c := Lib.hid (Hd19c.out.lt)
   have HLT23c := Lib.hid (Hr20c.out.lt)
   have Hd24c := Lib.hid (Hd19c.out.later (below_alloc (Below.refl _ _) (.cells #[.string ⟨#[]⟩, .string ⟨#[]⟩, .string ⟨#[]⟩, .bool false, .slice none 0 0] 37)))
   have Hr25c := Lib.hid (Hr20c.out.later (below_alloc (Below.refl _ _) (.cells #[.string ⟨#[]⟩, .string ⟨#[]⟩, .string ⟨#[]⟩, .bool false, .slice none 0 0] 37)))
   have Hu26c : Hid (Blk5 (w3.alloc (.cells #[.string ⟨#[]⟩, .string ⟨#[]⟩, .string ⟨#[]⟩, .bool false, .slice none 0 0] 37)) (w3.heap.size) (.string ⟨#[]⟩) (.string ⟨#[]⟩) (.string ⟨#[]⟩) (.bool false) (.slice none 0 0)) := heap_alloc_new w3 _
   have HLO27c : Hid (w.heap.size ≤ w3.heap.size) := by have := HB21c.out.size; show _ ≤ _; exact this
   have HB28c := Lib.hid (below_next HB21c.out (below_alloc (Below.refl _ _) (.cells #[.string ⟨#[]⟩, .string ⟨#[]⟩, .string ⟨#[]⟩, .bool false, .slice none 0 0] 37)))
   have hd29c := Hd24c.out
   have kx30c := hd29c.c0
   have ky31c := hd29c.c1
   have kp32c := hd29c.f0
   have kq33c := hd29c.f1
   clear hd29c
   have hr34c := Hr25c.out
   have kx35c := hr34c.c0
   have ky36c := hr34c.c1
   have kp37c := hr34c.f0
   have kq38c := hr34c.f1
   clear hr34c
   have hu39c := Hu26c.out
   have kf40c := hu39c.free
   have kc41c : _ = some (.string ⟨#[]⟩ : Value) := hu39c.at_ 0
   have kc42c : _ = some (.string ⟨#[]⟩ : Value) := hu39c.at_ 1
   have kc43c : _ = some (.string ⟨#[]⟩ : Value) := hu39c.at_ 2
   have kc44c : _ = some (.bool false : Value) := hu39c.at_ 3
   have kc45c : _ = some (.slice none 0 0 : Value) := hu39c.at_ 4
   clear hu39c
   have HS := fin211 HB28c.out Hr25c.out HLO6c.out (.slice A n c) (.slice A1 n1 c1)
   have z0 := HS.1.c0
   have z1 := HS.1.c1
   have HPOST := Lib.hid (show Doc11 8 L' N w (.returned (.tuple #[.agg #[.slice A n c, .slice A1 n1 c1], .int .i64 8])) _ from ⟨R, _, _, rfl, HRC.out.later HS.2.1, e2.symm, HNN.out.later HS.2.1, HS.2.1⟩)
   clear HS
   go_wp2
   refine bodyPost_ret (v := .tuple #[.agg #[.slice A n c, .slice A1 n1 c1], .int .i64 8]) ?_ rfl HPOST.out
   simp [results, Tryz.results37, go_sem, z0, z1]
  | true =>
   rw [hh] at HU0
   obtain ⟨xx, hxx⟩ := getV_has hh
   have hdis : disU (plainR R) s.data.toList = xx.dis := by
    unfold disU; rw [plainR_get, hxx]; rfl
   have HXX : Hid (∀ x, getV R s.data.toList = some x → x = xx) := fun x h => by rw [hxx] at h; injection h with h; exact h.symm
   have hset : setU (plainR R) s.data.toList (fun u => { u with dis := is_ }) = putV (plainR R) s.data.toList ((fun u => { u with dis := is_ }) xx.u) := by
    unfold setU; rw [plainR_get, hxx]; rfl
   cases is_ with
   | true =>
    cases hd : xx.dis with
    | true =>
     have e1 : E = 12 := by
      have := HE.out
      rw [hname] at this
      rw [hh] at this
      rw [hdis] at this
      rw [hd] at this
      exact this
     have e2 : L' = plainR R := by
      have := HL2.out
      rw [hname] at this
      rw [hh] at this
      rw [hdis] at this
      rw [hd] at this
      exact this
     rw [e1]
     clear e1
     clear HE HL2 HPT0
     have Hd1dtt : Hid (Bx11 (w.alloc (.cells #[.slice A n c, .slice A1 n1 c1] TD11)) (w.heap.size) (.slice A n c) (.slice A1 n1 c1)) := bx11_new w _ _
     have HLO2dtt : Hid (w.heap.size ≤ w.heap.size) := Nat.le_refl _
     have HB3dtt : Hid (Below w.heap.size w (w.alloc (.cells #[.slice A n c, .slice A1 n1 c1] TD11))) := below_alloc (Below.refl _ _) _
     have Hd4dtt := Lib.hid (Hd1dtt.out.later (below_alloc (Below.refl _ _) (.cells #[.slice none 0 0, .slice none 0 0] TD11)))
     have Hr5dtt : Hid (Bx11 ((w.alloc (.cells #[.slice A n c, .slice A1 n1 c1] TD11)).alloc (.cells #[.slice none 0 0, .slice none 0 0] TD11)) (w.heap.size + 1) (.slice none 0 0) (.slice none 0 0)) := by
      have hq : Bx11 ((w.alloc (.cells #[.slice A n c, .slice A1 n1 c1] TD11)).alloc (.cells #[.slice none 0 0, .slice none 0 0] TD11)) (w.alloc (.cells #[.slice A n c, .slice A1 n1 c1] TD11)).heap.size (.slice none 0 0) (.slice none 0 0) := bx11_new (w.alloc (.cells #[.slice A n c, .slice A1 n1 c1] TD11)) _ _
      simp only [World.size_alloc] at hq
      exact hq
     have HLO6dtt : Hid (w.heap.size ≤ w.heap.size + 1) := by have := HB3dtt.out.size; show _ ≤ _; simp at this; omega
     have HB7dtt := Lib.hid (below_next HB3dtt.out (below_alloc (Below.refl _ _) (.cells #[.slice none 0 0, .slice none 0 0] TD11)))
     go_enter Tryz.func37, Tryz.ntmps37
     have hd8dtt := Hd4dtt.out
     have kx9dtt := hd8dtt.c0
     have ky10dtt := hd8dtt.c1
     have kp11dtt := hd8dtt.f0
     have kq12dtt := hd8dtt.f1
     clear hd8dtt
     have hr13dtt := Hr5dtt.out
     have kx14dtt := hr13dtt.c0
     have ky15dtt := hr13dtt.c1
     have kp16dtt := hr13dtt.f0
     have kq17dtt := hr13dtt.f1
     clear hr13dtt
     go_wp2_with fail
     generalize (w.alloc (.cells #[.slice A n c, .slice A1 n1 c1] TD11)).alloc (.cells #[.slice none 0 0, .slice none 0 0] TD11) = wg18dtt at *
     with_reducible refine (HU0.out wg18dtt HB7dtt.out).mono ?_
     rintro e w3 ⟨t, x, he, hyes, hno, hb⟩
     clear kx9dtt ky10dtt kp11dtt kq12dtt kx14dtt ky15dtt kp16dtt kq17dtt
     have Hd19dtt := Lib.hid (Hd4dtt.out.later hb)
     have Hr20dtt := Lib.hid (Hr5dtt.out.later hb)
     have HB21dtt := Lib.hid (below_next HB7dtt.out hb)
     clear hb
     obtain ⟨ht, hx⟩ := hyes rfl
     obtain ⟨xh, xm, xd, xa, xg, xc⟩ := x
     obtain ⟨xl, hxl⟩ : ∃ l, l = xg.length := ⟨_, rfl⟩
     have he' : e = .returned (.tuple #[.agg #[.string s, .string xh, .string xm, .bool xd, .slice xa xl xc], .int .i64 0]) := by
      rw [he, ht, hxl]; rfl
     subst he'
     have HXx := Lib.hid hx
     have HLx := Lib.hid hxl
     clear he hyes hno ht hx hxl
     obtain rfl : xd = true := by have := HXX.out _ HXx.out; rw [← hd, ← this]
     have HLT22dtt := Lib.hid (Hd19dtt.out.lt)
     have HLT23dtt := Lib.hid (Hr20dtt.out.lt)
     have Hd24dtt := Lib.hid (Hd19dtt.out.later (below_alloc (Below.refl _ _) (.cells #[.string s, .string xh, .string xm, .bool true, .slice xa xl xc] 37)))
     have Hr25dtt := Lib.hid (Hr20dtt.out.later (below_alloc (Below.refl _ _) (.cells #[.string s, .string xh, .string xm, .bool true, .slice xa xl xc] 37)))
     have Hu26dtt : Hid (Blk5 (w3.alloc (.cells #[.string s, .string xh, .string xm, .bool true, .slice xa xl xc] 37)) (w3.heap.size) (.string s) (.string xh) (.string xm) (.bool true) (.slice xa xl xc)) := heap_alloc_new w3 _
     have HLO27dtt : Hid (w.heap.size ≤ w3.heap.size) := by have := HB21dtt.out.size; show _ ≤ _; exact this
     have HB28dtt := Lib.hid (below_next HB21dtt.out (below_alloc (Below.refl _ _) (.cells #[.string s, .string xh, .string xm, .bool true, .slice xa xl xc] 37)))
     have hd29dtt := Hd24dtt.out
     have kx30dtt := hd29dtt.c0
     have ky31dtt := hd29dtt.c1
     have kp32dtt := hd29dtt.f0
     have kq33dtt := hd29dtt.f1
     clear hd29dtt
     have hr34dtt := Hr25dtt.out
     have kx35dtt := hr34dtt.c0
     have ky36dtt := hr34dtt.c1
     have kp37dtt := hr34dtt.f0
     have kq38dtt := hr34dtt.f1
     clear hr34dtt
     have hu39dtt := Hu26dtt.out
     have kf40dtt := hu39dtt.free
     have kc41dtt : _ = some (.string s : Value) := hu39dtt.at_ 0
     have kc42dtt : _ = some (.string xh : Value) := hu39dtt.at_ 1
     have kc43dtt : _ = some (.string xm : Value) := hu39dtt.at_ 2
     have kc44dtt : _ = some (.bool true : Value) := hu39dtt.at_ 3
     have kc45dtt : _ = some (.slice xa xl xc : Value) := hu39dtt.at_ 4
     clear hu39dtt
     have HS := fin211 HB28dtt.out Hr25dtt.out HLO6dtt.out (.slice A n c) (.slice A1 n1 c1)
     have z0 := HS.1.c0
     have z1 := HS.1.c1
     have HPOST := Lib.hid (show Doc11 12 L' N w (.returned (.tuple #[.agg #[.slice A n c, .slice A1 n1 c1], .int .i64 12])) _ from ⟨R, _, _, rfl, HRC.out.later HS.2.1, e2.symm, HNN.out.later HS.2.1, HS.2.1⟩)
     clear HS
     go_wp2
     refine bodyPost_ret (v := .tuple #[.agg #[.slice A n c, .slice A1 n1 c1], .int .i64 12]) ?_ rfl HPOST.out
     simp [results, Tryz.results37, go_sem, z0, z1]
    | false =>
     have e1 : E = 0 := by
      have := HE.out
      rw [hname] at this
      rw [hh] at this
      rw [hdis] at this
      rw [hd] at this
      exact this
     have e2 : L' = putV (plainR R) s.data.toList ((fun u => { u with dis := true }) xx.u) := by
      have := HL2.out
      rw [hname] at this
      rw [hh] at this
      rw [hdis] at this
      rw [hd] at this
      rw [← hset]
      exact this
     rw [e1]
     clear e1 HE HL2
     have HE2 := Lib.hid e2
     clear e2
     have Hd1dft : Hid (Bx11 (w.alloc (.cells #[.slice A n c, .slice A1 n1 c1] TD11)) (w.heap.size) (.slice A n c) (.slice A1 n1 c1)) := bx11_new w _ _
     have HLO2dft : Hid (w.heap.size ≤ w.heap.size) := Nat.le_refl _
     have HB3dft : Hid (Below w.heap.size w (w.alloc (.cells #[.slice A n c, .slice A1 n1 c1] TD11))) := below_alloc (Below.refl _ _) _
     have Hd4dft := Lib.hid (Hd1dft.out.later (below_alloc (Below.refl _ _) (.cells #[.slice none 0 0, .slice none 0 0] TD11)))
     have Hr5dft : Hid (Bx11 ((w.alloc (.cells #[.slice A n c, .slice A1 n1 c1] TD11)).alloc (.cells #[.slice none 0 0, .slice none 0 0] TD11)) (w.heap.size + 1) (.slice none 0 0) (.slice none 0 0)) := by
      have hq : Bx11 ((w.alloc (.cells #[.slice A n c, .slice A1 n1 c1] TD11)).alloc (.cells #[.slice none 0 0, .slice none 0 0] TD11)) (w.alloc (.cells #[.slice A n c, .slice A1 n1 c1] TD11)).heap.size (.slice none 0 0) (.slice none 0 0) := bx11_new (w.alloc (.cells #[.slice A n c, .slice A1 n1 c1] TD11)) _ _
      simp only [World.size_alloc] at hq
      exact hq
     have HLO6dft : Hid (w.heap.size ≤ w.heap.size + 1) := by have := HB3dft.out.size; show _ ≤ _; simp at this; omega
     have HB7dft := Lib.hid (below_next HB3dft.out (below_alloc (Below.refl _ _) (.cells #[.slice none 0 0, .slice none 0 0] TD11)))
     go_enter Tryz.func37, Tryz.ntmps37
     have hd8dft := Hd4dft.out
     have kx9dft := hd8dft.c0
     have ky10dft := hd8dft.c1
     have kp11dft := hd8dft.f0
     have kq12dft := hd8dft.f1
     clear hd8dft
     have hr13dft := Hr5dft.out
     have kx14dft := hr13dft.c0
     have ky15dft := hr13dft.c1
     have kp16dft := hr13dft.f0
     have kq17dft := hr13dft.f1
     clear hr13dft
     go_wp2_with fail
     generalize (w.alloc (.cells #[.slice A n c, .slice A1 n1 c1] TD11)).alloc (.cells #[.slice none 0 0, .slice none 0 0] TD11) = wg18dft at *
     with_reducible refine (HU0.out wg18dft HB7dft.out).mono ?_
     rintro e w3 ⟨t, x, he, hyes, hno, hb⟩
     clear kx9dft ky10dft kp11dft kq12dft kx14dft ky15dft kp16dft kq17dft
     have Hd19dft := Lib.hid (Hd4dft.out.later hb)
     have Hr20dft := Lib.hid (Hr5dft.out.later hb)
     have HB21dft := Lib.hid (below_next HB7dft.out hb)
     clear hb
     obtain ⟨ht, hx⟩ := hyes rfl
     obtain ⟨xh, xm, xd, xa, xg, xc⟩ := x
     obtain ⟨xl, hxl⟩ : ∃ l, l = xg.length := ⟨_, rfl⟩
     have he' : e = .returned (.tuple #[.agg #[.string s, .string xh, .string xm, .bool xd, .slice xa xl xc], .int .i64 0]) := by
      rw [he, ht, hxl]; rfl
     subst he'
     have HXx := Lib.hid hx
     have HLx := Lib.hid hxl
     clear he hyes hno ht hx hxl
     obtain rfl : xd = false := by have := HXX.out _ HXx.out; rw [← hd, ← this]
     have HLT22dft := Lib.hid (Hd19dft.out.lt)
     have HLT23dft := Lib.hid (Hr20dft.out.lt)
     have Hd24dft := Lib.hid (Hd19dft.out.later (below_alloc (Below.refl _ _) (.cells #[.string s, .string xh, .string xm, .bool false, .slice xa xl xc] 37)))
     have Hr25dft := Lib.hid (Hr20dft.out.later (below_alloc (Below.refl _ _) (.cells #[.string s, .string xh, .string xm, .bool false, .slice xa xl xc] 37)))
     have Hu26dft : Hid (Blk5 (w3.alloc (.cells #[.string s, .string xh, .string xm, .bool false, .slice xa xl xc] 37)) (w3.heap.size) (.string s) (.string xh) (.string xm) (.bool false) (.slice xa xl xc)) := heap_alloc_new w3 _
     have HLO27dft : Hid (w.heap.size ≤ w3.heap.size) := by have := HB21dft.out.size; show _ ≤ _; exact this
     have HB28dft := Lib.hid (below_next HB21dft.out (below_alloc (Below.refl _ _) (.cells #[.string s, .string xh, .string xm, .bool false, .slice xa xl xc] 37)))
     have hd29dft := Hd24dft.out
     have kx30dft := hd29dft.c0
     have ky31dft := hd29dft.c1
     have kp32dft := hd29dft.f0
     have kq33dft := hd29dft.f1
     clear hd29dft
     have hr34dft := Hr25dft.out
     have kx35dft := hr34dft.c0
     have ky36dft := hr34dft.c1
     have kp37dft := hr34dft.f0
     have kq38dft := hr34dft.f1
     clear hr34dft
     have hu39dft := Hu26dft.out
     have kf40dft := hu39dft.free
     have kc41dft : _ = some (.string s : Value) := hu39dft.at_ 0
     have kc42dft : _ = some (.string xh : Value) := hu39dft.at_ 1
     have kc43dft : _ = some (.string xm : Value) := hu39dft.at_ 2
     have kc44dft : _ = some (.bool false : Value) := hu39dft.at_ 3
     have kc45dft : _ = some (.slice xa xl xc : Value) := hu39dft.at_ 4
     clear hu39dft
     have HLT46dft := Lib.hid (Hd19dft.out.lt)
     have HLT47dft := Lib.hid (Hr20dft.out.lt)
     have Hd48dft := Lib.hid (Hd19dft.out.later (below_alloc (Below.refl _ _) (.cells #[.string s, .string xh, .string xm, .bool true, .slice xa xl xc] 37)))
     have Hr49dft := Lib.hid (Hr20dft.out.later (below_alloc (Below.refl _ _) (.cells #[.string s, .string xh, .string xm, .bool true, .slice xa xl xc] 37)))
     have Hu50dft : Hid (Blk5 (w3.alloc (.cells #[.string s, .string xh, .string xm, .bool true, .slice xa xl xc] 37)) (w3.heap.size) (.string s) (.string xh) (.string xm) (.bool true) (.slice xa xl xc)) := heap_alloc_new w3 _
     have HLO51dft : Hid (w.heap.size ≤ w3.heap.size) := by have := HB21dft.out.size; show _ ≤ _; exact this
     have HB52dft := Lib.hid (below_next HB21dft.out (below_alloc (Below.refl _ _) (.cells #[.string s, .string xh, .string xm, .bool true, .slice xa xl xc] 37)))
     have HPT : Hid (∀ W, Below w.heap.size w W → Calls Tryz.prog 90 #[.agg #[.slice A n c, .slice A1 n1 c1], .agg #[.string s, .string xh, .string xm, .bool true, .slice xa xl xc]] W fun e w' => ∃ v', e = .returned (.agg #[v', .slice A1 n1 c1]) ∧ Rw11 (putV R s.data.toList ⟨xh, xm, true, xa, xg, xc⟩) w' v' ∧ Below W.heap.size W w') := fun W hb => by
      have := HPT0.out ⟨xh, xm, true, xa, xg, xc⟩ W hb
      unfold uval11 at this
      dsimp only at this
      rw [← HLx.out] at this
      exact this
     clear HPT0
     have hd53dft := Hd48dft.out
     have kx54dft := hd53dft.c0
     have ky55dft := hd53dft.c1
     have kp56dft := hd53dft.f0
     have kq57dft := hd53dft.f1
     clear hd53dft
     have hr58dft := Hr49dft.out
     have kx59dft := hr58dft.c0
     have ky60dft := hr58dft.c1
     have kp61dft := hr58dft.f0
     have kq62dft := hr58dft.f1
     clear hr58dft
     have hu63dft := Hu50dft.out
     have kf64dft := hu63dft.free
     have kc65dft : _ = some (.string s : Value) := hu63dft.at_ 0
     have kc66dft : _ = some (.string xh : Value) := hu63dft.at_ 1
     have kc67dft : _ = some (.string xm : Value) := hu63dft.at_ 2
     have kc68dft : _ = some (.bool true : Value) := hu63dft.at_ 3
     have kc69dft : _ = some (.slice xa xl xc : Value) := hu63dft.at_ 4
     clear hu63dft
     go_wp2_with fail
     generalize w3.alloc (.cells #[.string s, .string xh, .string xm, .bool true, .slice xa xl xc] 37) = wg70dft at *
     with_reducible refine (HPT.out wg70dft HB52dft.out).mono ?_
     rintro e w6 ⟨v5, rfl, hp, hb⟩
     clear kx30dft ky31dft kp32dft kq33dft kx35dft ky36dft kp37dft kq38dft kf40dft kc41dft kc42dft kc43dft kc44dft kc45dft kx54dft ky55dft kp56dft kq57dft kx59dft ky60dft kp61dft kq62dft kf64dft kc65dft kc66dft kc67dft kc68dft kc69dft
     have Hd71dft := Lib.hid (Hd48dft.out.later hb)
     have Hr72dft := Lib.hid (Hr49dft.out.later hb)
     have Hu73dft := Lib.hid (blk_later11 Hu50dft.out hb)
     have HB74dft := Lib.hid (below_next HB52dft.out hb)
     obtain ⟨A5, c5, rfl⟩ := hp.us.shape
     have HP := Lib.hid hp
     clear hp
     obtain ⟨n5, hn5⟩ : ∃ m, m = (putV R s.data.toList (⟨xh, xm, true, xa, xg, xc⟩ : W11)).length := ⟨_, rfl⟩
     rw [← hn5] at HP ⊢
     clear hn5
     clear hb
     have HG5 : Hid (Gs11 0 w6 (putV R s.data.toList ⟨xh, xm, true, xa, xg, xc⟩)) := ((HRC.out.later HB74dft.out).2).put _ _ ((HRC.out.later HB74dft.out).2 (s.data.toList, ⟨xh, xm, false, xa, xg, xc⟩) ((getV_some HRI.out).1 HXx.out))
     have HPL : Hid (plainR (putV R s.data.toList ⟨xh, xm, true, xa, xg, xc⟩) = L') := by
      show _ = _
      rw [HE2.out, plainR_put, ← HXX.out _ HXx.out]
      rfl
     have hd75dft := Hd71dft.out
     have kx76dft := hd75dft.c0
     have ky77dft := hd75dft.c1
     have kp78dft := hd75dft.f0
     have kq79dft := hd75dft.f1
     clear hd75dft
     have hr80dft := Hr72dft.out
     have kx81dft := hr80dft.c0
     have ky82dft := hr80dft.c1
     have kp83dft := hr80dft.f0
     have kq84dft := hr80dft.f1
     clear hr80dft
     have hu85dft := Hu73dft.out
     have kf86dft := hu85dft.free
     have kc87dft : _ = some (.string s : Value) := hu85dft.at_ 0
     have kc88dft : _ = some (.string xh : Value) := hu85dft.at_ 1
     have kc89dft : _ = some (.string xm : Value) := hu85dft.at_ 2
     have kc90dft : _ = some (.bool true : Value) := hu85dft.at_ 3
     have kc91dft : _ = some (.slice xa xl xc : Value) := hu85dft.at_ 4
     clear hu85dft
     have HS := fin211 HB74dft.out Hr72dft.out HLO6dft.out (.slice A5 n5 c5) (.slice A1 n1 c1)
     have z0 := HS.1.c0
     have z1 := HS.1.c1
     have HPOST := Lib.hid (show Doc11 0 L' N w (.returned (.tuple #[.agg #[.slice A5 n5 c5, .slice A1 n1 c1], .int .i64 0])) _ from ⟨_, _, _, rfl, ⟨HP.out.keepD11 HS.2.2, HG5.out.keepD11 HS.2.2⟩, HPL.out, HNN.out.later HS.2.1, HS.2.1⟩)
     clear HS
     go_wp2
     refine bodyPost_ret (v := .tuple #[.agg #[.slice A5 n5 c5, .slice A1 n1 c1], .int .i64 0]) ?_ rfl HPOST.out
     simp [results, Tryz.results37, go_sem, z0, z1]
   | false =>
    cases hd : xx.dis with
    | true =>
     have e1 : E = 0 := by
      have := HE.out
      rw [hname] at this
      rw [hh] at this
      rw [hdis] at this
      rw [hd] at this
      exact this
     have e2 : L' = putV (plainR R) s.data.toList ((fun u => { u with dis := false }) xx.u) := by
      have := HL2.out
      rw [hname] at this
      rw [hh] at this
      rw [hdis] at this
      rw [hd] at this
      rw [← hset]
      exact this
     rw [e1]
     clear e1 HE HL2
     have HE2 := Lib.hid e2
     clear e2
     have Hd1dtf : Hid (Bx11 (w.alloc (.cells #[.slice A n c, .slice A1 n1 c1] TD11)) (w.heap.size) (.slice A n c) (.slice A1 n1 c1)) := bx11_new w _ _
     have HLO2dtf : Hid (w.heap.size ≤ w.heap.size) := Nat.le_refl _
     have HB3dtf : Hid (Below w.heap.size w (w.alloc (.cells #[.slice A n c, .slice A1 n1 c1] TD11))) := below_alloc (Below.refl _ _) _
     have Hd4dtf := Lib.hid (Hd1dtf.out.later (below_alloc (Below.refl _ _) (.cells #[.slice none 0 0, .slice none 0 0] TD11)))
     have Hr5dtf : Hid (Bx11 ((w.alloc (.cells #[.slice A n c, .slice A1 n1 c1] TD11)).alloc (.cells #[.slice none 0 0, .slice none 0 0] TD11)) (w.heap.size + 1) (.slice none 0 0) (.slice none 0 0)) := by
      have hq : Bx11 ((w.alloc (.cells #[.slice A n c, .slice A1 n1 c1] TD11)).alloc (.cells #[.slice none 0 0, .slice none 0 0] TD11)) (w.alloc (.cells #[.slice A n c, .slice A1 n1 c1] TD11)).heap.size (.slice none 0 0) (.slice none 0 0) := bx11_new (w.alloc (.cells #[.slice A n c, .slice A1 n1 c1] TD11)) _ _
      simp only [World.size_alloc] at hq
      exact hq
     have HLO6dtf : Hid (w.heap.size ≤ w.heap.size + 1) := by have := HB3dtf.out.size; show _ ≤ _; simp at this; omega
     have HB7dtf := Lib.hid (below_next HB3dtf.out (below_alloc (Below.refl _ _) (.cells #[.slice none 0 0, .slice none 0 0] TD11)))
     go_enter Tryz.func37, Tryz.ntmps37
     have hd8dtf := Hd4dtf.out
     have kx9dtf := hd8dtf.c0
     have ky10dtf := hd8dtf.c1
     have kp11dtf := hd8dtf.f0
     have kq12dtf := hd8dtf.f1
     clear hd8dtf
     have hr13dtf := Hr5dtf.out
     have kx14dtf := hr13dtf.c0
     have ky15dtf := hr13dtf.c1
     have kp16dtf := hr13dtf.f0
     have kq17dtf := hr13dtf.f1
     clear hr13dtf
     go_wp2_with fail
     generalize (w.alloc (.cells #[.slice A n c, .slice A1 n1 c1] TD11)).alloc (.cells #[.slice none 0 0, .slice none 0 0] TD11) = wg18dtf at *
     with_reducible refine (HU0.out wg18dtf HB7dtf.out).mono ?_
     rintro e w3 ⟨t, x, he, hyes, hno, hb⟩
     clear kx9dtf ky10dtf kp11dtf kq12dtf kx14dtf ky15dtf kp16dtf kq17dtf
     have Hd19dtf := Lib.hid (Hd4dtf.out.later hb)
     have Hr20dtf := Lib.hid (Hr5dtf.out.later hb)
     have HB21dtf := Lib.hid (below_next HB7dtf.out hb)
     clear hb
     obtain ⟨ht, hx⟩ := hyes rfl
     obtain ⟨xh, xm, xd, xa, xg, xc⟩ := x
     obtain ⟨xl, hxl⟩ : ∃ l, l = xg.length := ⟨_, rfl⟩
     have he' : e = .returned (.tuple #[.agg #[.string s, .string xh, .string xm, .bool xd, .slice xa xl xc], .int .i64 0]) := by
      rw [he, ht, hxl]; rfl
     subst he'
     have HXx := Lib.hid hx
     have HLx := Lib.hid hxl
     clear he hyes hno ht hx hxl
     obtain rfl : xd = true := by have := HXX.out _ HXx.out; rw [← hd, ← this]
     have HLT22dtf := Lib.hid (Hd19dtf.out.lt)
     have HLT23dtf := Lib.hid (Hr20dtf.out.lt)
     have Hd24dtf := Lib.hid (Hd19dtf.out.later (below_alloc (Below.refl _ _) (.cells #[.string s, .string xh, .string xm, .bool true, .slice xa xl xc] 37)))
     have Hr25dtf := Lib.hid (Hr20dtf.out.later (below_alloc (Below.refl _ _) (.cells #[.string s, .string xh, .string xm, .bool true, .slice xa xl xc] 37)))
     have Hu26dtf : Hid (Blk5 (w3.alloc (.cells #[.string s, .string xh, .string xm, .bool true, .slice xa xl xc] 37)) (w3.heap.size) (.string s) (.string xh) (.string xm) (.bool true) (.slice xa xl xc)) := heap_alloc_new w3 _
     have HLO27dtf : Hid (w.heap.size ≤ w3.heap.size) := by have := HB21dtf.out.size; show _ ≤ _; exact this
     have HB28dtf := Lib.hid (below_next HB21dtf.out (below_alloc (Below.refl _ _) (.cells #[.string s, .string xh, .string xm, .bool true, .slice xa xl xc] 37)))
     have hd29dtf := Hd24dtf.out
     have kx30dtf := hd29dtf.c0
     have ky31dtf := hd29dtf.c1
     have kp32dtf := hd29dtf.f0
     have kq33dtf := hd29dtf.f1
     clear hd29dtf
     have hr34dtf := Hr25dtf.out
     have kx35dtf := hr34dtf.c0
     have ky36dtf := hr34dtf.c1
     have kp37dtf := hr34dtf.f0
     have kq38dtf := hr34dtf.f1
     clear hr34dtf
     have hu39dtf := Hu26dtf.out
     have kf40dtf := hu39dtf.free
     have kc41dtf : _ = some (.string s : Value) := hu39dtf.at_ 0
     have kc42dtf : _ = some (.string xh : Value) := hu39dtf.at_ 1
     have kc43dtf : _ = some (.string xm : Value) := hu39dtf.at_ 2
     have kc44dtf : _ = some (.bool true : Value) := hu39dtf.at_ 3
     have kc45dtf : _ = some (.slice xa xl xc : Value) := hu39dtf.at_ 4
     clear hu39dtf
     have HLT46dtf := Lib.hid (Hd19dtf.out.lt)
     have HLT47dtf := Lib.hid (Hr20dtf.out.lt)
     have Hd48dtf := Lib.hid (Hd19dtf.out.later (below_alloc (Below.refl _ _) (.cells #[.string s, .string xh, .string xm, .bool false, .slice xa xl xc] 37)))
     have Hr49dtf := Lib.hid (Hr20dtf.out.later (below_alloc (Below.refl _ _) (.cells #[.string s, .string xh, .string xm, .bool false, .slice xa xl xc] 37)))
     have Hu50dtf : Hid (Blk5 (w3.alloc (.cells #[.string s, .string xh, .string xm, .bool false, .slice xa xl xc] 37)) (w3.heap.size) (.string s) (.string xh) (.string xm) (.bool false) (.slice xa xl xc)) := heap_alloc_new w3 _
     have HLO51dtf : Hid (w.heap.size ≤ w3.heap.size) := by have := HB21dtf.out.size; show _ ≤ _; exact this
     have HB52dtf := Lib.hid (below_next HB21dtf.out (below_alloc (Below.refl _ _) (.cells #[.string s, .string xh, .string xm, .bool false, .slice xa xl xc] 37)))
     have HPT : Hid (∀ W, Below w.heap.size w W → Calls Tryz.prog 90 #[.agg #[.slice A n c, .slice A1 n1 c1], .agg #[.string s, .string xh, .string xm, .bool false, .slice xa xl xc]] W fun e w' => ∃ v', e = .returned (.agg #[v', .slice A1 n1 c1]) ∧ Rw11 (putV R s.data.toList ⟨xh, xm, false, xa, xg, xc⟩) w' v' ∧ Below W.heap.size W w') := fun W hb => by
      have := HPT0.out ⟨xh, xm, false, xa, xg, xc⟩ W hb
      unfold uval11 at this
      dsimp only at this
      rw [← HLx.out] at this
      exact this
     clear HPT0
     have hd53dtf := Hd48dtf.out
     have kx54dtf := hd53dtf.c0
     have ky55dtf := hd53dtf.c1
     have kp56dtf := hd53dtf.f0
     have kq57dtf := hd53dtf.f1
     clear hd53dtf
     have hr58dtf := Hr49dtf.out
     have kx59dtf := hr58dtf.c0
     have ky60dtf := hr58dtf.c1
     have kp61dtf := hr58dtf.f0
     have kq62dtf := hr58dtf.f1
     clear hr58dtf
     have hu63dtf := Hu50dtf.out
     have kf64dtf := hu63dtf.free
     have kc65dtf : _ = some (.string s : Value) := hu63dtf.at_ 0
     have kc66dtf : _ = some (.string xh : Value) := hu63dtf.at_ 1
     have kc67dtf : _ = some (.string xm : Value) := hu63dtf.at_ 2
     have kc68dtf : _ = some (.bool false : Value) := hu63dtf.at_ 3
     have kc69dtf : _ = some (.slice xa xl xc : Value) := hu63dtf.at_ 4
     clear hu63dtf
     go_wp2_with fail
     generalize w3.alloc (.cells #[.string s, .string xh, .string xm, .bool false, .slice xa xl xc] 37) = wg70dtf at *
     with_reducible refine (HPT.out wg70dtf HB52dtf.out).mono ?_
     rintro e w6 ⟨v5, rfl, hp, hb⟩
     clear kx30dtf ky31dtf kp32dtf kq33dtf kx35dtf ky36dtf kp37dtf kq38dtf kf40dtf kc41dtf kc42dtf kc43dtf kc44dtf kc45dtf kx54dtf ky55dtf kp56dtf kq57dtf kx59dtf ky60dtf kp61dtf kq62dtf kf64dtf kc65dtf kc66dtf kc67dtf kc68dtf kc69dtf
     have Hd71dtf := Lib.hid (Hd48dtf.out.later hb)
     have Hr72dtf := Lib.hid (Hr49dtf.out.later hb)
     have Hu73dtf := Lib.hid (blk_later11 Hu50dtf.out hb)
     have HB74dtf := Lib.hid (below_next HB52dtf.out hb)
     obtain ⟨A5, c5, rfl⟩ := hp.us.shape
     have HP := Lib.hid hp
     clear hp
     obtain ⟨n5, hn5⟩ : ∃ m, m = (putV R s.data.toList (⟨xh, xm, false, xa, xg, xc⟩ : W11)).length := ⟨_, rfl⟩
     rw [← hn5] at HP ⊢
     clear hn5
     clear hb
     have HG5 : Hid (Gs11 0 w6 (putV R s.data.toList ⟨xh, xm, false, xa, xg, xc⟩)) := ((HRC.out.later HB74dtf.out).2).put _ _ ((HRC.out.later HB74dtf.out).2 (s.data.toList, ⟨xh, xm, true, xa, xg, xc⟩) ((getV_some HRI.out).1 HXx.out))
     have HPL : Hid (plainR (putV R s.data.toList ⟨xh, xm, false, xa, xg, xc⟩) = L') := by
      show _ = _
      rw [HE2.out, plainR_put, ← HXX.out _ HXx.out]
      rfl
     have hd75dtf := Hd71dtf.out
     have kx76dtf := hd75dtf.c0
     have ky77dtf := hd75dtf.c1
     have kp78dtf := hd75dtf.f0
     have kq79dtf := hd75dtf.f1
     clear hd75dtf
     have hr80dtf := Hr72dtf.out
     have kx81dtf := hr80dtf.c0
     have ky82dtf := hr80dtf.c1
     have kp83dtf := hr80dtf.f0
     have kq84dtf := hr80dtf.f1
     clear hr80dtf
     have hu85dtf := Hu73dtf.out
     have kf86dtf := hu85dtf.free
     have kc87dtf : _ = some (.string s : Value) := hu85dtf.at_ 0
     have kc88dtf : _ = some (.string xh : Value) := hu85dtf.at_ 1
     have kc89dtf : _ = some (.string xm : Value) := hu85dtf.at_ 2
     have kc90dtf : _ = some (.bool false : Value) := hu85dtf.at_ 3
     have kc91dtf : _ = some (.slice xa xl xc : Value) := hu85dtf.at_ 4
     clear hu85dtf
     have HS := fin211 HB74dtf.out Hr72dtf.out HLO6dtf.out (.slice A5 n5 c5) (.slice A1 n1 c1)
     have z0 := HS.1.c0
     have z1 := HS.1.c1
     have HPOST := Lib.hid (show Doc11 0 L' N w (.returned (.tuple #[.agg #[.slice A5 n5 c5, .slice A1 n1 c1], .int .i64 0])) _ from ⟨_, _, _, rfl, ⟨HP.out.keepD11 HS.2.2, HG5.out.keepD11 HS.2.2⟩, HPL.out, HNN.out.later HS.2.1, HS.2.1⟩)
     clear HS
     go_wp2
     refine bodyPost_ret (v := .tuple #[.agg #[.slice A5 n5 c5, .slice A1 n1 c1], .int .i64 0]) ?_ rfl HPOST.out
     simp [results, Tryz.results37, go_sem, z0, z1]
    | false =>
     have e1 : E = 12 := by
      have := HE.out
      rw [hname] at this
      rw [hh] at this
      rw [hdis] at this
      rw [hd] at this
      exact this
     have e2 : L' = plainR R := by
      have := HL2.out
      rw [hname] at this
      rw [hh] at this
      rw [hdis] at this
      rw [hd] at this
      exact this
     rw [e1]
     clear e1
     clear HE HL2 HPT0
     have Hd1dff : Hid (Bx11 (w.alloc (.cells #[.slice A n c, .slice A1 n1 c1] TD11)) (w.heap.size) (.slice A n c) (.slice A1 n1 c1)) := bx11_new w _ _
     have HLO2dff : Hid (w.heap.size ≤ w.heap.size) := Nat.le_refl _
     have HB3dff : Hid (Below w.heap.size w (w.alloc (.cells #[.slice A n c, .slice A1 n1 c1] TD11))) := below_alloc (Below.refl _ _) _
     have Hd4dff := Lib.hid (Hd1dff.out.later (below_alloc (Below.refl _ _) (.cells #[.slice none 0 0, .slice none 0 0] TD11)))
     have Hr5dff : Hid (Bx11 ((w.alloc (.cells #[.slice A n c, .slice A1 n1 c1] TD11)).alloc (.cells #[.slice none 0 0, .slice none 0 0] TD11)) (w.heap.size + 1) (.slice none 0 0) (.slice none 0 0)) := by
      have hq : Bx11 ((w.alloc (.cells #[.slice A n c, .slice A1 n1 c1] TD11)).alloc (.cells #[.slice none 0 0, .slice none 0 0] TD11)) (w.alloc (.cells #[.slice A n c, .slice A1 n1 c1] TD11)).heap.size (.slice none 0 0) (.slice none 0 0) := bx11_new (w.alloc (.cells #[.slice A n c, .slice A1 n1 c1] TD11)) _ _
      simp only [World.size_alloc] at hq
      exact hq
     have HLO6dff : Hid (w.heap.size ≤ w.heap.size + 1) := by have := HB3dff.out.size; show _ ≤ _; simp at this; omega
     have HB7dff := Lib.hid (below_next HB3dff.out (below_alloc (Below.refl _ _) (.cells #[.slice none 0 0, .slice none 0 0] TD11)))
     go_enter Tryz.func37, Tryz.ntmps37
     have hd8dff := Hd4dff.out
     have kx9dff := hd8dff.c0
     have ky10dff := hd8dff.c1
     have kp11dff := hd8dff.f0
     have kq12dff := hd8dff.f1
     clear hd8dff
     have hr13dff := Hr5dff.out
     have kx14dff := hr13dff.c0
     have ky15dff := hr13dff.c1
     have kp16dff := hr13dff.f0
     have kq17dff := hr13dff.f1
     clear hr13dff
     go_wp2_with fail
     generalize (w.alloc (.cells #[.slice A n c, .slice A1 n1 c1] TD11)).alloc (.cells #[.slice none 0 0, .slice none 0 0] TD11) = wg18dff at *
     with_reducible refine (HU0.out wg18dff HB7dff.out).mono ?_
     rintro e w3 ⟨t, x, he, hyes, hno, hb⟩
     clear kx9dff ky10dff kp11dff kq12dff kx14dff ky15dff kp16dff kq17dff
     have Hd19dff := Lib.hid (Hd4dff.out.later hb)
     have Hr20dff := Lib.hid (Hr5dff.out.later hb)
     have HB21dff := Lib.hid (below_next HB7dff.out hb)
     clear hb
     obtain ⟨ht, hx⟩ := hyes rfl
     obtain ⟨xh, xm, xd, xa, xg, xc⟩ := x
     obtain ⟨xl, hxl⟩ : ∃ l, l = xg.length := ⟨_, rfl⟩
     have he' : e = .returned (.tuple #[.agg #[.string s, .string xh, .string xm, .bool xd, .slice xa xl xc], .int .i64 0]) := by
      rw [he, ht, hxl]; rfl
     subst he'
     have HXx := Lib.hid hx
     have HLx := Lib.hid hxl
     clear he hyes hno ht hx hxl
     obtain rfl : xd = false := by have := HXX.out _ HXx.out; rw [← hd, ← this]
     have HLT22dff := Lib.hid (Hd19dff.out.lt)
     have HLT23dff := Lib.hid (Hr20dff.out.lt)
     have Hd24dff := Lib.hid (Hd19dff.out.later (below_alloc (Below.refl _ _) (.cells #[.string s, .string xh, .string xm, .bool false, .slice xa xl xc] 37)))
     have Hr25dff := Lib.hid (Hr20dff.out.later (below_alloc (Below.refl _ _) (.cells #[.string s, .string xh, .string xm, .bool false, .slice xa xl xc] 37)))
     have Hu26dff : Hid (Blk5 (w3.alloc (.cells #[.string s, .string xh, .string xm, .bool false, .slice xa xl xc] 37)) (w3.heap.size) (.string s) (.string xh) (.string xm) (.bool false) (.slice xa xl xc)) := heap_alloc_new w3 _
     have HLO27dff : Hid (w.heap.size ≤ w3.heap.size) := by have := HB21dff.out.size; show _ ≤ _; exact this
     have HB28dff := Lib.hid (below_next HB21dff.out (below_alloc (Below.refl _ _) (.cells #[.string s, .string xh, .string xm, .bool false, .slice xa xl xc] 37)))
     have hd29dff := Hd24dff.out
     have kx30dff := hd29dff.c0
     have ky31dff := hd29dff.c1
     have kp32dff := hd29dff.f0
     have kq33dff := hd29dff.f1
     clear hd29dff
     have hr34dff := Hr25dff.out
     have kx35dff := hr34dff.c0
     have ky36dff := hr34dff.c1
     have kp37dff := hr34dff.f0
     have kq38dff := hr34dff.f1
     clear hr34dff
     have hu39dff := Hu26dff.out
     have kf40dff := hu39dff.free
     have kc41dff : _ = some (.string s : Value) := hu39dff.at_ 0
     have kc42dff : _ = some (.string xh : Value) := hu39dff.at_ 1
     have kc43dff : _ = some (.string xm : Value) := hu39dff.at_ 2
     have kc44dff : _ = some (.bool false : Value) := hu39dff.at_ 3
     have kc45dff : _ = some (.slice xa xl xc : Value) := hu39dff.at_ 4
     clear hu39dff
     have HS := fin211 HB28dff.out Hr25dff.out HLO6dff.out (.slice A n c) (.slice A1 n1 c1)
     have z0 := HS.1.c0
     have z1 := HS.1.c1
     have HPOST := Lib.hid (show Doc11 12 L' N w (.returned (.tuple #[.agg #[.slice A n c, .slice A1 n1 c1], .int .i64 12])) _ from ⟨R, _, _, rfl, HRC.out.later HS.2.1, e2.symm, HNN.out.later HS.2.1, HS.2.1⟩)
     clear HS
     go_wp2
     refine bodyPost_ret (v := .tuple #[.agg #[.slice A n c, .slice A1 n1 c1], .int .i64 12]) ?_ rfl HPOST.out
     simp [results, Tryz.results37, go_sem, z0, z1]
end Go.Proofs.YthlgmkfofebbfaaGreatDoor

