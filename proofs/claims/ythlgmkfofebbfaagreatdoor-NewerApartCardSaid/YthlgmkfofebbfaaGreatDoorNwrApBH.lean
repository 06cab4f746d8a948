/-
  The texts that the laws of this seat share, part 8: what the code and the document's own answers tell, walked function by function.
  Conditions: each theorem's own.
-/
import Derived.Test.YthlgmkfofebbfaaGreatDoorNwrApBA
import Derived.Test.YthlgmkfofebbfaaGreatDoorNwrApBB
import Derived.Test.YthlgmkfofebbfaaGreatDoorNwrApBC
import Derived.Test.YthlgmkfofebbfaaGreatDoorNwrApBD
import Derived.Test.YthlgmkfofebbfaaGreatDoorNwrApBE
import Derived.Test.YthlgmkfofebbfaaGreatDoorNwrApBF
import Derived.Test.YthlgmkfofebbfaaGreatDoorNwrApBG
namespace Go.Proofs.YthlgmkfofebbfaaGreatDoor
open Go.RowKit Go.Maps

theorem mailT_fold (l : List UInt8) : mailT l = tx10 (foldM11 l) := by
 unfold mailT foldM11
 cases mail5 l <;> rfl
set_option maxRecDepth 100000 in
set_option maxHeartbeats 8000000 in
theorem rsetMail11_calls (v vg : Value) (R : RowV W11) (N : List (List UInt8)) (s m : ByteArray) (w : World) (hR : Rc11 0 R w v) (hN : NmR w vg N) (h12 : R.length ≤ 12) (hr : RiseV R) (hm : m.size ≤ 1000) (hn : s.size ≤ 1000) :
  Calls Tryz.prog 36 #[.agg #[v, vg], .string s, .string m] w (Doc11 (dsmE (plainR R) s.data.toList m.data.toList) (dsmL (plainR R) s.data.toList m.data.toList) N w) := by
 have hnot : ∀ (x : Bool) (w : World), (Op.unary .not (.bool x)).run Tryz.prog w = .ok (.bool (!x)) w := fun _ _ => rfl
 have hzu := zerou11
 obtain ⟨A, c, rfl⟩ := hR.rw.us.shape
 obtain ⟨A1, c1, rfl⟩ := hN.shape
 have HU0 : Hid (∀ W, Below w.heap.size w W → Calls Tryz.prog 55 #[.agg #[.slice A R.length c, .slice A1 N.length c1], .string s] W (User11 R s W)) := fun W hb => ruser11_calls _ _ R N s W (hR.later hb) (hN.later hb) h12 hr hn
 have HM0 : Hid (∀ W, Calls Tryz.prog 57 #[.string m] W (RMails5 (mail5 m.data.toList) (mailT m.data.toList) W)) := fun W => rmail_calls m W hm
 have HPT0 : Hid (∀ (x : W11) W, Below w.heap.size w W → Calls Tryz.prog 90 #[.agg #[.slice A R.length c, .slice A1 N.length c1], uval11 s x] W fun e w' => ∃ v', e = .returned (.agg #[v', .slice A1 N.length c1]) ∧ Rw11 (putV R s.data.toList x) w' v' ∧ Below W.heap.size W w') := fun x W hb => rputd11_calls _ _ R N s x W (hR.rw.later hb) (hN.later hb) h12 hr
 have HRC := Lib.hid hR
 have HNN := Lib.hid hN
 have HRI := Lib.hid hr
 clear hR hN
 obtain ⟨n, hlen⟩ : ∃ n, n = R.length := ⟨_, rfl⟩
 obtain ⟨n1, hlen1⟩ : ∃ n, n = N.length := ⟨_, rfl⟩
 have HLR := Lib.hid hlen
 have HLN := Lib.hid hlen1
 unfold User11 at HU0
 unfold RMails5 at HM0
 rw [mailT_fold] at HM0
 rw [← hlen] at HU0 HPT0 HRC ⊢
 rw [← hlen1] at HU0 HPT0 HNN ⊢
 clear hlen hlen1
 have HE : Hid (dsmE (plainR R) s.data.toList m.data.toList = smF11 (name5 s.data.toList) (isM11 m.data.toList) (hasV R s.data.toList) (badU (plainR R) s.data.toList (foldM11 m.data.toList))) := by
  show _ = _
  unfold dsmE; rw [plainR_has]
 have HL2 : Hid (dsmL (plainR R) s.data.toList m.data.toList = if smF11 (name5 s.data.toList) (isM11 m.data.toList) (hasV R s.data.toList) (badU (plainR R) s.data.toList (foldM11 m.data.toList)) = 0 then setU (plainR R) s.data.toList (fun u => { u with ml := foldM11 m.data.toList }) else plainR R) := by
  show _ = _
  unfold dsmL; rw [HE.out]
 have HMT : Hid ((tx10 (foldM11 m.data.toList)).data.toList = foldM11 m.data.toList) := tx10_list _
 have HM1 : Hid (m.toList ≠ [] → isM11 m.data.toList = mail5 m.data.toList) := fun h => by
  unfold isM11
  rw [decide_eq_false (fun e => h (by rw [ByteArray.toList_eq]; exact e)), Bool.false_or]
 have HM2 : Hid (m.toList = [] → isM11 m.data.toList = true ∧ mail5 m.data.toList = false) := fun h => by
  rw [ByteArray.toList_eq] at h
  rw [h]
  exact ⟨rfl, mail5_nil⟩
 generalize dsmE (plainR R) s.data.toList m.data.toList = E at *
 generalize dsmL (plainR R) s.data.toList m.data.toList = L' at *
 cases hname : name5 s.data.toList with
 | false =>
  rw [hname] at HU0
  generalize mail5 m.data.toList = mb at HM0
  generalize tx10 (foldM11 m.data.toList) = mt at HM0
  have e1 : E = 10 := by
   have := HE.out
   rw [hname] at this
   exact this
  have e2 : L' = plainR R := by
   have := HL2.out
   rw [hname] at this
   exact this
  rw [e1]
  clear e1
  clear HE HL2 HPT0 HM1 HM2 HMT
  have Hd1a : Hid (Bx11 (w.alloc (.cells #[.slice A n c, .slice A1 n1 c1] TD11)) (w.heap.size) (.slice A n c) (.slice A1 n1 c1)) := bx11_new w _ _
  have HLO2a : Hid (w.heap.size ≤ w.heap.size) := Nat.le_refl _
  have HB3a : Hid (Below w.heap.size w (w.alloc (.cells #[.slice A n c, .slice A1 n1 c1] TD11))) := below_alloc (Below.refl _ _) _
  have Hd4a := Lib.hid (Hd1a.out.later (below_alloc (Below.refl _ _) (.cells #[.slice none 0 0, .slice none 0 0] TD11)))
  have Hr5a : Hid (Bx11 ((w.alloc (.cells #[.slice A n c, .slice A1 n1 c1] TD11)).alloc (.cells #[.slice none 0 0, .slice none 0 0] TD11)) (w.heap.size + 1) (.slice none 0 0) (.slice none 0 0)) := by
   have hq : Bx11 ((w.alloc (.cells #[.slice A n c, .slice A1 n1 c1] TD11)).alloc (.cells #[.slice none 0 0, .slice none 0 0] TD11)) (w.alloc (.cells #[.slice A n c, .slice A1 n1 c1] TD11)).heap.size (.slice none 0 0) (.slice none 0 0) := bx11_new (w.alloc (.cells #[.slice A n c, .slice A1 n1 c1] TD11)) _ _
   simp only [World.size_alloc] at hq
   exact hq
  have HLO6a : Hid (w.heap.size ≤ w.heap.size + 1) := by have := HB3a.out.size; show _ ≤ _; simp at this; omega
  have HB7a := Lib.hid (below_next HB3a.out (below_alloc (Below.refl _ _) (.cells #[.slice none 0 0, .slice none 0 0] TD11)))
  go_enter Tryz.func36, Tryz.ntmps36
  have hd8a := Hd4a.out
  have kx9a := hd8a.c0
  have ky10a := hd8a.c1
  have kp11a := hd8a.f0
  have kq12a := hd8a.f1
  clear hd8a
  have hr13a := Hr5a.out
  have kx14a := hr13a.c0
  have ky15a := hr13a.c1
  have kp16a := hr13a.f0
  have kq17a := hr13a.f1
  clear hr13a
  go_wp2_with fail
  generalize (w.alloc (.cells #[.slice A n c, .slice A1 n1 c1] TD11)).alloc (.cells #[.slice none 0 0, .slice none 0 0] TD11) = wg18a at *
  with_reducible refine (HU0.out wg18a HB7a.out).mono ?_
  rintro e w3 ⟨t, x, he, hyes, hno, hb⟩
  clear kx9a ky10a kp11a kq12a kx14a ky15a kp16a kq17a
  have Hd19a := Lib.hid (Hd4a.out.later hb)
  have Hr20a := Lib.hid (Hr5a.out.later hb)
  have HB21a := Lib.hid (below_next HB7a.out hb)
  clear hb
  have he' : e = .returned (.tuple #[.agg #[.string ⟨#[]⟩, .string ⟨#[]⟩, .string ⟨#[]⟩, .bool false, .slice none 0 0], .int .i64 10]) := by
   obtain ⟨h1, h2⟩ := hno (by show (10 : Int) ≠ 0; decide)
   rw [he, h1, h2]; rfl
  subst he'
  clear he hyes hno
  have HLT22a := Lib.hid (Hd19a.out.lt)
  have HLT23a := Lib.hid (Hr20a.out.lt)
  have Hd24a := Lib.hid (Hd19a.out.later (below_alloc (Below.refl _ _) (.cells #[.string ⟨#[]⟩, .string ⟨#[]⟩, .string ⟨#[]⟩, .bool false, .slice none 0 0] 37)))
  have Hr25a := Lib.hid (Hr20a.out.later (below_alloc (Below.refl _ _) (.cells #[.string ⟨#[]⟩, .string ⟨#[]⟩, .string ⟨#[]⟩, .bool false, .slice none 0 0] 37)))
  have Hu26a : Hid (Blk5 (w3.alloc (.cells #[.string ⟨#[]⟩, .string ⟨#[]⟩, .string ⟨#[]⟩, .bool false, .slice none 0 0] 37)) (w3.heap.size) (.string ⟨#[]⟩) (.string ⟨#[]⟩) (.string ⟨#[]⟩) (.bool false) (.slice none 0 0)) := heap_alloc_new w3 _
  have HLO27a : Hid (w.heap.size ≤ w3.heap.size) := by have := HB21a.out.size; show _ ≤ _; exact this
  have HB28a := Lib.hid (below_next HB21a.out (below_alloc (Below.refl _ _) (.cells #[.string ⟨#[]⟩, .string ⟨#[]⟩, .string ⟨#[]⟩, .bool false, .slice none 0 0] 37)))
  have hd29a := Hd24a.out
  have kx30a := hd29a.c0
  have ky31a := hd29a.c1
  have kp32a := hd29a.f0
  have kq33a := hd29a.f1
  clear hd29a
  have hr34a := Hr25a.out
  have kx35a := hr34a.c0
  have ky36a := hr34a.c1
  have kp37a := hr34a.f0
  have kq38a := hr34a.f1
  clear hr34a
  have hu39a := Hu26a.out
  have kf40a := hu39a.free
  have kc41a : _ = some (.string ⟨#[]⟩ : Value) := hu39a.at_ 0
  have kc42a : _ = some (.string ⟨#[]⟩ : Value) := hu39a.at_ 1
  have kc43a : _ = some (.string ⟨#[]⟩ : Value) := hu39a.at_ 2
  have kc44a : _ = some (.bool false : Value) := hu39a.at_ 3
  have kc45a : _ = some (.slice none 0 0 : Value) := hu39a.at_ 4
  clear hu39a
  go_wp2_with fail
  generalize w3.alloc (.cells #[.string ⟨#[]⟩, .string ⟨#[]⟩, .string ⟨#[]⟩, .bool false, .slice none 0 0] 37) = wg46a at *
  with_reducible refine (HM0.out _).mono ?_
  rintro e w4 ⟨rfl, qd, hwd⟩
  have hb : Below wg46a.heap.size wg46a w4 := by rw [hwd]; exact below_drewN (Below.refl _ _) _
  clear hwd
  clear kx30a ky31a kp32a kq33a kx35a ky36a kp37a kq38a kf40a kc41a kc42a kc43a kc44a kc45a
  have Hd47a := Lib.hid (Hd24a.out.later hb)
  have Hr48a := Lib.hid (Hr25a.out.later hb)
  have Hu49a := Lib.hid (blk_later11 Hu26a.out hb)
  have HB50a := Lib.hid (below_next HB28a.out hb)
  clear hb
  have hd51a := Hd47a.out
  have kx52a := hd51a.c0
  have ky53a := hd51a.c1
  have kp54a := hd51a.f0
  have kq55a := hd51a.f1
  clear hd51a
  have hr56a := Hr48a.out
  have kx57a := hr56a.c0
  have ky58a := hr56a.c1
  have kp59a := hr56a.f0
  have kq60a := hr56a.f1
  clear hr56a
  have hu61a := Hu49a.out
  have kf62a := hu61a.free
  have kc63a : _ = some (.string ⟨#[]⟩ : Value) := hu61a.at_ 0
  have kc64a : _ = some (.string ⟨#[]⟩ : Value) := hu61a.at_ 1
  have kc65a : _ = some (.string ⟨#[]⟩ : Value) := hu61a.at_ 2
  have kc66a : _ = some (.bool false : Value) := hu61a.at_ 3
  have kc67a : _ = some (.slice none 0 0 : Value) := hu61a.at_ 4
  clear hu61a
  have HS := fin211 HB50a.out Hr48a.out HLO6a.out (.slice A n c) (.slice A1 n1 c1)
  have z0 := HS.1.c0
  have z1 := HS.1.c1
  have HPOST := Lib.hid (show Doc11 10 L' N w (.returned (.tuple #[.agg #[.slice A n c, .slice A1 n1 c1], .int .i64 10])) _ from ⟨R, _, _, rfl, HRC.out.later HS.2.1, e2.symm, HNN.out.later HS.2.1, HS.2.1⟩)
  clear HS
  go_wp2
  refine bodyPost_ret (v := .tuple #[.agg #[.slice A n c, .slice A1 n1 c1], .int .i64 10]) ?_ rfl HPOST.out
  simp [results, Tryz.results36, go_sem, z0, z1]
 | true =>
  rw [hname] at HU0
  by_cases hbm : isM11 m.data.toList = true
  case neg =>
   have hbm2 : isM11 m.data.toList = false := by simpa using hbm
   have hme : ¬ m.toList = [] := fun h => hbm (HM2.out h).1
   have hmb : mail5 m.data.toList = false := by rw [← HM1.out hme]; exact hbm2
   have hme2 : m.toList.isEmpty = false := by simpa using hme
   rw [hmb] at HM0
   have HMB2 := Lib.hid hbm2
   clear hbm hmb hbm2
   generalize tx10 (foldM11 m.data.toList) = mt at HM0
   have e1 : E = 11 := by
    have := HE.out
    rw [hname] at this
    rw [HMB2.out] at this
    exact this
   have e2 : L' = plainR R := by
    have := HL2.out
    rw [hname] at this
    rw [HMB2.out] at this
    exact this
   rw [e1]
   clear e1
   clear HE HL2 HPT0 HM1 HM2 HMT
   cases hh : hasV R s.data.toList with
   | false =>
    rw [hh] at HU0
    have Hd1bf : Hid (Bx11 (w.alloc (.cells #[.slice A n c, .slice A1 n1 c1] TD11)) (w.heap.size) (.slice A n c) (.slice A1 n1 c1)) := bx11_new w _ _
    have HLO2bf : Hid (w.heap.size ≤ w.heap.size) := Nat.le_refl _
    have HB3bf : Hid (Below w.heap.size w (w.alloc (.cells #[.slice A n c, .slice A1 n1 c1] TD11))) := below_alloc (Below.refl _ _) _
    have Hd4bf := Lib.hid (Hd1bf.out.later (below_alloc (Below.refl _ _) (.cells #[.slice none 0 0, .slice none 0 0] TD11)))
    have Hr5bf : Hid (Bx11 ((w.alloc (.cells #[.slice A n c, .slice A1 n1 c1] TD11)).alloc (.cells #[.slice none 0 0, .slice none 0 0] TD11)) (w.heap.size + 1) (.slice none 0 0) (.slice none 0 0)) := by
     have hq : Bx11 ((w.alloc (.cells #[.slice A n c, .slice A1 n1 c1] TD11)).alloc (.cells #[.slice none 0 0, .slice none 0 0] TD11)) (w.alloc (.cells #[.slice A n c, .slice A1 n1 c1] TD11)).heap.size (.slice none 0 0) (.slice none 0 0) := bx11_new (w.alloc (.cells #[.slice A n c, .slice A1 n1 c1] TD11)) _ _
     simp only [World.size_alloc] at hq
     exact hq
    have HLO6bf : Hid (w.heap.size ≤ w.heap.size + 1) := by have := HB3bf.out.size; show _ ≤ _; simp at this; omega
    have HB7bf := Lib.hid (below_next HB3bf.out (below_alloc (Below.refl _ _) (.cells #[.slice none 0 0, .slice none 0 0] TD11)))
    go_enter Tryz.func36, Tryz.ntmps36
    have hd8bf := Hd4bf.out
    have kx9bf := hd8bf.c0
    have ky10bf := hd8bf.c1
    have kp11bf := hd8bf.f0
    have kq12bf := hd8bf.f1
    clear hd8bf
    have hr13bf := Hr5bf.out
    have kx14bf := hr13bf.c0
    have ky15bf := hr13bf.c1
    have kp16bf := hr13bf.f0
    have kq17bf := hr13bf.f1
    clear hr13bf
    go_wp2_with fail
    generalize (w.alloc (.cells #[.slice A n c, .slice A1 n1 c1] TD11)).alloc (.cells #[.slice none 0 0, .slice none 0 0] TD11) = wg18bf at *
    with_reducible refine (HU0.out wg18bf HB7bf.out).mono ?_
    rintro e w3 ⟨t, x, he, hyes, hno, hb⟩
    clear kx9bf ky10bf kp11bf kq12bf kx14bf ky15bf kp16bf kq17bf
    have Hd19bf := Lib.hid (Hd4bf.out.later hb)
    have Hr20bf := Lib.hid (Hr5bf.out.later hb)
    have HB21bf := Lib.hid (below_next HB7bf.out hb)
    clear hb
    have he' : e = .returned (.tuple #[.agg #[.string ⟨#[]⟩, .string ⟨#[]⟩, .string ⟨#[]⟩, .bool false, .slice none 0 0], .int .i64 8]) := by
     obtain ⟨h1, h2⟩ := hno (by show (8 : Int) ≠ 0; decide)
     rw [he, h1, h2]; rfl
    subst he'
    clear he hyes hno
    have HLT22bf := Lib.hid (Hd19bf.out.lt)
    have HLT23bf := Lib.hid (Hr20bf.out.lt)
    have Hd24bf := Lib.hid (Hd19bf.out.later (below_alloc (Below.refl _ _) (.cells #[.string ⟨#[]⟩, .string ⟨#[]⟩, .string ⟨#[]⟩, .bool false, .slice none 0 0] 37)))
    have Hr25bf := Lib.hid (Hr20bf.out.later (below_alloc (Below.refl _ _) (.cells #[.string ⟨#[]⟩, .string ⟨#[]⟩, .string ⟨#[]⟩, .bool false, .slice none 0 0] 37)))
    have Hu26bf : Hid (Blk5 (w3.alloc (.cells #[.string ⟨#[]⟩, .string ⟨#[]⟩, .string ⟨#[]⟩, .bool false, .slice none 0 0] 37)) (w3.heap.size) (.string ⟨#[]⟩) (.string ⟨#[]⟩) (.string ⟨#[]⟩) (.bool false) (.slice none 0 0)) := heap_alloc_new w3 _
    have HLO27bf : Hid (w.heap.size ≤ w3.heap.size) := by have := HB21bf.out.size; show _ ≤ _; exact this
    have HB28bf := Lib.hid (below_next HB21bf.out (below_alloc (Below.refl _ _) (.cells #[.string ⟨#[]⟩, .string ⟨#[]⟩, .string ⟨#[]⟩, .bool false, .slice none 0 0] 37)))
    have hd29bf := Hd24bf.out
    have kx30bf := hd29bf.c0
    have ky31bf := hd29bf.c1
    have kp32bf := hd29bf.f0
    have kq33bf := hd29bf.f1
    clear hd29bf
    have hr34bf := Hr25bf.out
    have kx35bf := hr34bf.c0
    have ky36bf := hr34bf.c1
    have kp37bf := hr34bf.f0
    have kq38bf := hr34bf.f1
    clear hr34bf
    have hu39bf := Hu26bf.out
    have kf40bf := hu39bf.free
    have kc41bf : _ = some (.string ⟨#[]⟩ : Value) := hu39bf.at_ 0
    have kc42bf : _ = some (.string ⟨#[]⟩ : Value) := hu39bf.at_ 1
    have kc43bf : _ = some (.string ⟨#[]⟩ : Value) := hu39bf.at_ 2
    have kc44bf : _ = some (.bool false : Value) := hu39bf.at_ 3
    have kc45bf : _ = some (.slice none 0 0 : Value) := hu39bf.at_ 4
    clear hu39bf
    go_wp2_with fail
    generalize w3.alloc (.cells #[.string ⟨#[]⟩, .string ⟨#[]⟩, .string ⟨#[]⟩, .bool false, .slice none 0 0] 37) = wg46bf at *
    with_reducible refine (HM0.out _).mono ?_
    rintro e w4 ⟨rfl, qd, hwd⟩
    have hb : Below wg46bf.heap.size wg46bf w4 := by rw [hwd]; exact below_drewN (Below.refl _ _) _
    clear hwd
    clear kx30bf ky31bf kp32bf kq33bf kx35bf ky36bf kp37bf kq38bf kf40bf kc41bf kc42bf kc43bf kc44bf kc45bf
    have Hd47bf := Lib.hid (Hd24bf.out.later hb)
    have Hr48bf := Lib.hid (Hr25bf.out.later hb)
    have Hu49bf := Lib.hid (blk_later11 Hu26bf.out hb)
    have HB50bf := Lib.hid (below_next HB28bf.out hb)
    clear hb
    have hd51bf := Hd47bf.out
    have kx52bf := hd51bf.c0
    have ky53bf := hd51bf.c1
    have kp54bf := hd51bf.f0
    have kq55bf := hd51bf.f1
    clear hd51bf
    have hr56bf := Hr48bf.out
    have kx57bf := hr56bf.c0
    have ky58bf := hr56bf.c1
    have kp59bf := hr56bf.f0
    have kq60bf := hr56bf.f1
    clear hr56bf
    have hu61bf := Hu49bf.out
    have kf62bf := hu61bf.free
    have kc63bf : _ = some (.string ⟨#[]⟩ : Value) := hu61bf.at_ 0
    have kc64bf : _ = some (.string ⟨#[]⟩ : Value) := hu61bf.at_ 1
    have kc65bf : _ = some (.string ⟨#[]⟩ : Value) := hu61bf.at_ 2
    have kc66bf : _ = some (.bool false : Value) := hu61bf.at_ 3
    have kc67bf : _ = some (.slice none 0 0 : Value) := hu61bf.at_ 4
    clear hu61bf
    have HS := fin211 HB50bf.out Hr48bf.out HLO6bf.out (.slice A n c) (.slice A1 n1 c1)
    have z0 := HS.1.c0
    have z1 := HS.1.c1
    have HPOST := Lib.hid (show Doc11 11 L' N w (.returned (.tuple #[.agg #[.slice A n c, .slice A1 n1 c1], .int .i64 11])) _ from ⟨R, _, _, rfl, HRC.out.later HS.2.1, e2.symm, HNN.out.later HS.2.1, HS.2.1⟩)
    clear HS
    go_wp2
    refine bodyPost_ret (v := .tuple #[.agg #[.slice A n c, .slice A1 n1 c1], .int .i64 11]) ?_ rfl HPOST.out
    simp [results, Tryz.results36, go_sem, z0, z1]
   | true =>
    rw [hh] at HU0
    have Hd1bt : Hid (Bx11 (w.alloc (.cells #[.slice A n c, .slice A1 n1 c1] TD11)) (w.heap.size) (.slice A n c) (.slice A1 n1 c1)) := bx11_new w _ _
    have HLO2bt : Hid (w.heap.size ≤ w.heap.size) := Nat.le_refl _
    have HB3bt : Hid (Below w.heap.size w (w.alloc (.cells #[.slice A n c, .slice A1 n1 c1] TD11))) := below_alloc (Below.refl _ _) _
    have Hd4bt := Lib.hid (Hd1bt.out.later (below_alloc (Below.refl _ _) (.cells #[.slice none 0 0, .slice none 0 0] TD11)))
    have Hr5bt : Hid (Bx11 ((w.alloc (.cells #[.slice A n c, .slice A1 n1 c1] TD11)).alloc (.cells #[.slice none 0 0, .slice none 0 0] TD11)) (w.heap.size + 1) (.slice none 0 0) (.slice none 0 0)) := by
     have hq : Bx11 ((w.alloc (.cells #[.slice A n c, .slice A1 n1 c1] TD11)).alloc (.cells #[.slice none 0 0, .slice none 0 0] TD11)) (w.alloc (.cells #[.slice A n c, .slice A1 n1 c1] TD11)).heap.size (.slice none 0 0) (.slice none 0 0) := bx11_new (w.alloc (.cells #[.slice A n c, .slice A1 n1 c1] TD11)) _ _
     simp only [World.size_alloc] at hq
     exact hq
    have HLO6bt : Hid (w.heap.size ≤ w.heap.size + 1) := by have := HB3bt.out.size; show _ ≤ _; simp at this; omega
    have HB7bt := Lib.hid (below_next HB3bt.out (below_alloc (Below.refl _ _) (.cells #[.slice none 0 0, .slice none 0 0] TD11)))
    go_enter Tryz.func36, Tryz.ntmps36
    have hd8bt := Hd4bt.out
    have kx9bt := hd8bt.c0
    have ky10bt := hd8bt.c1
    have kp11bt := hd8bt.f0
    have kq12bt := hd8bt.f1
    clear hd8bt
    have hr13bt := Hr5bt.out
    have kx14bt := hr13bt.c0
    have ky15bt := hr13bt.c1
    have kp16bt := hr13bt.f0
    have kq17bt := hr13bt.f1
    clear hr13bt
    go_wp2_with fail
    generalize (w.alloc (.cells #[.slice A n c, .slice A1 n1 c1] TD11)).alloc (.cells #[.slice none 0 0, .slice none 0 0] TD11) = wg18bt at *
    with_reducible refine (HU0.out wg18bt HB7bt.out).mono ?_
    rintro e w3 ⟨t, x, he, hyes, hno, hb⟩
    clear kx9bt ky10bt kp11bt kq12bt kx14bt ky15bt kp16bt kq17bt
    have Hd19bt := Lib.hid (Hd4bt.out.later hb)
    have Hr20bt := Lib.hid (Hr5bt.out.later hb)
    have HB21bt := Lib.hid (below_next HB7bt.out hb)
    clear hb
    obtain ⟨ht, hx⟩ := hyes rfl
    obtain ⟨xh, xm, xd, xa, xg, xc⟩ := x
    obtain ⟨xl, hxl⟩ : ∃ l, l = xg.length := ⟨_, rfl⟩
    have he' : e = .returned (.tuple #[.agg #[.string s, .string xh, .string xm, .bool xd, .slice xa xl xc], .int .i64 0]) := by
     rw [he, ht, hxl]; rfl
    subst he'
    have HXx := Lib.hid hx
    have HLx := Lib.hid hxl
    clear he hyes hno ht hx hxl
    have HLT22bt := Lib.hid (Hd19bt.out.lt)
    have HLT23bt := Lib.hid (Hr20bt.out.lt)
    have Hd24bt := Lib.hid (Hd19bt.out.later (below_alloc (Below.refl _ _) (.cells #[.string s, .string xh, .string xm, .bool xd, .slice xa xl xc] 37)))
    have Hr25bt := Lib.hid (Hr20bt.out.later (below_alloc (Below.refl _ _) (.cells #[.string s, .string xh, .string xm, .bool xd, .slice xa xl xc] 37)))
    have Hu26bt : Hid (Blk5 (w3.alloc (.cells #[.string s, .string xh, .string xm, .bool xd, .slice xa xl xc] 37)) (w3.heap.size) (.string s) (.string xh) (.string xm) (.bool xd) (.slice xa xl xc)) := heap_alloc_new w3 _
    have HLO27bt : Hid (w.heap.size ≤ w3.heap.size) := by have := HB21bt.out.size; show _ ≤ _; exact this
    have HB28bt := Lib.hid (below_next HB21bt.out (below_alloc (Below.refl _ _) (.cells #[.string s, .string xh, .string xm, .bool xd, .slice xa xl xc] 37)))
    have hd29bt := Hd24bt.out
    have kx30bt := hd29bt.c0
    have ky31bt := hd29bt.c1
    have kp32bt := hd29bt.f0
    have kq33bt := hd29bt.f1
    clear hd29bt
    have hr34bt := Hr25bt.out
    have kx35bt := hr34bt.c0
    have ky36bt := hr34bt.c1
    have kp37bt := hr34bt.f0
    have kq38bt := hr34bt.f1
    clear hr34bt
    have hu39bt := Hu26bt.out
    have kf40bt := hu39bt.free
    have kc41bt : _ = some (.string s : Value) := hu39bt.at_ 0
    have kc42bt : _ = some (.string xh : Value) := hu39bt.at_ 1
    have kc43bt : _ = some (.string xm : Value) := hu39bt.at_ 2
    have kc44bt : _ = some (.bool xd : Value) := hu39bt.at_ 3
    have kc45bt : _ = some (.slice xa xl xc : Value) := hu39bt.at_ 4
    clear hu39bt
    go_wp2_with fail
    generalize w3.alloc (.cells #[.string s, .string xh, .string xm, .bool xd, .slice xa xl xc] 37) = wg46bt at *
    with_reducible refine (HM0.out _).mono ?_
    rintro e w4 ⟨rfl, qd, hwd⟩
    have hb : Below wg46bt.heap.size wg46bt w4 := by rw [hwd]; exact below_drewN (Below.refl _ _) _
    clear hwd
    clear kx30bt ky31bt kp32bt kq33bt kx35bt ky36bt kp37bt kq38bt kf40bt kc41bt kc42bt kc43bt kc44bt kc45bt
    have Hd47bt := Lib.hid (Hd24bt.out.later hb)
    have Hr48bt := Lib.hid (Hr25bt.out.later hb)
    have Hu49bt := Lib.hid (blk_later11 Hu26bt.out hb)
    have HB50bt := Lib.hid (below_next HB28bt.out hb)
    clear hb
    have hd51bt := Hd47bt.out
    have kx52bt := hd51bt.c0
    have ky53bt := hd51bt.c1
    have kp54bt := hd51bt.f0
    have kq55bt := hd51bt.f1
    clear hd51bt
    have hr56bt := Hr48bt.out
    have kx57bt := hr56bt.c0
    have ky58bt := hr56bt.c1
    have kp59bt := hr56bt.f0
    have kq60bt := hr56bt.f1
    clear hr56bt
    have hu61bt := Hu49bt.out
    have kf62bt := hu61bt.free
    have kc63bt : _ = some (.string s : Value) := hu61bt.at_ 0
    have kc64bt : _ = some (.string xh : Value) := hu61bt.at_ 1
    have kc65bt : _ = some (.string xm : Value) := hu61bt.at_ 2
    have kc66bt : _ = some (.bool xd : Value) := hu61bt.at_ 3
    have kc67bt : _ = some (.slice xa xl xc : Value) := hu61bt.at_ 4
    clear hu61bt
    have HS := fin211 HB50bt.out Hr48bt.out HLO6bt.out (.slice A n c) (.slice A1 n1 c1)
    have z0 := HS.1.c0
    have z1 := HS.1.c1
    have HPOST := Lib.hid (show Doc11 11 L' N w (.returned (.tuple #[.agg #[.slice A n c, .slice A1 n1 c1], .int .i64 11])) _ from ⟨R, _, _, rfl, HRC.out.later HS.2.1, e2.symm, HNN.out.later HS.2.1, HS.2.1⟩)
    clear HS
    go_wp2
    refine bodyPost_ret (v := .tuple #[.agg #[.slice A n c, .slice A1 n1 c1], .int .i64 11]) ?_ rfl HPOST.out
    simp [results, Tryz.results36, go_sem, z0, z1]
  have HOK : Hid (m.toList = [] ∨ (¬ m.toList = [] ∧ mail5 m.data.toList = true)) := by
   by_cases h : m.toList = []
   ·
    exact .inl h
   ·
    exact .inr ⟨h, by rw [← HM1.out h]; exact hbm⟩
  have HBM := Lib.hid hbm
  clear hbm HM1 HM2
  cases hh : hasV R s.data.toList with
  | false =>
   rw [hh] at HU0
   have e1 : E = 8 := by
    have := HE.out
    rw [hname] at this
    rw [HBM.out] at this
    rw [hh] at this
    exact this
   have e2 : L' = plainR R := by
    have := HL2.out
    rw [hname] at this
    rw [HBM.out] at this
    rw [hh] at this
    exact this
   rw [e1]
   clear e1
   clear HE HL2 HPT0 HMT
   generalize tx10 (foldM11 m.data.toList) = mt at HM0
   rcases HOK.out with hme | ⟨hme, hmb⟩
   ·
    have hme2 : m.toList.isEmpty = true := by simpa using hme
    generalize mail5 m.data.toList = mb at HM0
    clear HOK
    have Hd1cx : Hid (Bx11 (w.alloc (.cells #[.slice A n c, .slice A1 n1 c1] TD11)) (w.heap.size) (.slice A n c) (.slice A1 n1 c1)) := bx11_new w _ _
    have HLO2cx : Hid (w.heap.size ≤ w.heap.size) := Nat.le_refl _
    have HB3cx : Hid (Below w.heap.size w (w.alloc (.cells #[.slice A n c, .slice A1 n1 c1] TD11))) := below_alloc (Below.refl _ _) _
    have Hd4cx := Lib.hid (Hd1cx.out.later (below_alloc (Below.refl _ _) (.cells #[.slice none 0 0, .slice none 0 0] TD11)))
    have Hr5cx : Hid (Bx11 ((w.alloc (.cells #[.slice A n c, .slice A1 n1 c1] TD11)).alloc (.cells #[.slice none 0 0, .slice none 0 0] TD11)) (w.heap.size + 1) (.slice none 0 0) (.slice none 0 0)) := by
     have hq : Bx11 ((w.alloc (.cells #[.slice A n c, .slice A1 n1 c1] TD11)).alloc (.cells #[.slice none 0 0, .slice none 0 0] TD11)) (w.alloc (.cells #[.slice A n c, .slice A1 n1 c1] TD11)).heap.size (.slice none 0 0) (.slice none 0 0) := bx11_new (w.alloc (.cells #[.slice A n c, .slice A1 n1 c1] TD11)) _ _
     simp only [World.size_alloc] at hq
     exact hq
    have HLO6cx : Hid (w.heap.size ≤ w.heap.size + 1) := by have := HB3cx.out.size; show _ ≤ _; simp at this; omega
    have HB7cx := Lib.hid (below_next HB3cx.out (below_alloc (Below.refl _ _) (.cells #[.slice none 0 0, .slice none 0 0] TD11)))
    go_enter Tryz.func36, Tryz.ntmps36
    have hd8cx := Hd4cx.out
    have kx9cx := hd8cx.c0
    have ky10cx := hd8cx.c1
    have kp11cx := hd8cx.f0
    have kq12cx := hd8cx.f1
    clear hd8cx
    have hr13cx := Hr5cx.out
    have kx14cx := hr13cx.c0
    have ky15cx := hr13cx.c1
    have kp16cx := hr13cx.f0
    have kq17cx := hr13cx.f1
    clear hr13cx
    go_wp2_with fail
    generalize (w.alloc (.cells #[.slice A n c, .slice A1 n1 c1] TD11)).alloc (.cells #[.slice none 0 0, .slice none 0 0] TD11) = wg18cx at *
    with_reducible refine (HU0.out wg18cx HB7cx.out).mono ?_
    rintro e w3 ⟨t, x, he, hyes, hno, hb⟩
    clear kx9cx ky10cx kp11cx kq12cx kx14cx ky15cx kp16cx kq17cx
    have Hd19cx := Lib.hid (Hd4cx.out.later hb)
    have Hr20cx := Lib.hid (Hr5cx.out.later hb)
    have HB21cx := Lib.hid (below_next HB7cx.out hb)
    clear hb
    have he' : e = .returned (.tuple #[.agg #[.string ⟨#[]⟩, .string ⟨#[]⟩, .string ⟨#[]⟩, .bool false, .slice none 0 0], .int .i64 8]) := by
     obtain ⟨h1, h2⟩ := hno (by show (8 : Int) ≠ 0; decide)
     rw [he, h1, h2]; rfl
    subst he'
    clear he hyes hno
    have HLT22cx := Lib.hid (Hd19cx.out.lt)
    have HLT23cx := Lib.hid (Hr20cx.out.lt)
    have Hd24cx := Lib.hid (Hd19cx.out.later (below_alloc (Below.refl _ _) (.cells #[.string ⟨#[]⟩, .string ⟨#[]⟩, .string ⟨#[]⟩, .bool false, .slice none 0 0] 37)))
    have Hr25cx := Lib.hid (Hr20cx.out.later (below_alloc (Below.refl _ _) (.cells #[.string ⟨#[]⟩, .string ⟨#[]⟩, .string ⟨#[]⟩, .bool false, .slice none 0 0] 37)))
    have Hu26cx : Hid (Blk5 (w3.alloc (.cells #[.string ⟨#[]⟩, .string ⟨#[]⟩, .string ⟨#[]⟩, .bool false, .slice none 0 0] 37)) (w3.heap.size) (.string ⟨#[]⟩) (.string ⟨#[]⟩) (.string ⟨#[]⟩) (.bool false) (.slice none 0 0)) := heap_alloc_new w3 _
    have HLO27cx : Hid (w.heap.size ≤ w3.heap.size) := by have := HB21cx.out.size; show _ ≤ _; exact this
    have HB28cx := Lib.hid (below_next HB21cx.out (below_alloc (Below.refl _ _) (.cells #[.string ⟨#[]⟩, .string ⟨#[]⟩, .string ⟨#[]⟩, .bool false, .slice none 0 0] 37)))
    have hd29cx := Hd24cx.out
    have kx30cx := hd29cx.c0
    have ky31cx := hd29cx.c1
    have kp32cx := hd29cx.f0
    have kq33cx := hd29cx.f1
    clear hd29cx
    have hr34cx := Hr25cx.out
    have kx35cx := hr34cx.c0
    have ky36cx := hr34cx.c1
    have kp37cx := hr34cx.f0
    have kq38cx := hr34cx.f1
    clear hr34cx
    have hu39cx := Hu26cx.out
    have kf40cx := hu39cx.free
    have kc41cx : _ = some (.string ⟨#[]⟩ : Value) := hu39cx.at_ 0
    have kc42cx : _ = some (.string ⟨#[]⟩ : Value) := hu39cx.at_ 1
    have kc43cx : _ = some (.string ⟨#[]⟩ : Value) := hu39cx.at_ 2
    have kc44cx : _ = some (.bool false : Value) := hu39cx.at_ 3
    have kc45cx : _ = some (.slice none 0 0 : Value) := hu39cx.at_ 4
    clear hu39cx
    go_wp2_with fail
    generalize w3.alloc (.cells #[.string ⟨#[]⟩, .string ⟨#[]⟩, .string ⟨#[]⟩, .bool false, .slice none 0 0] 37) = wg46cx at *
    with_reducible refine (HM0.out _).mono ?_
    rintro e w4 ⟨rfl, qd, hwd⟩
    have hb : Below wg46cx.heap.size wg46cx w4 := by rw [hwd]; exact below_drewN (Below.refl _ _) _
    clear hwd
    clear kx30cx ky31cx kp32cx kq33cx kx35cx ky36cx kp37cx kq38cx kf40cx kc41cx kc42cx kc43cx kc44cx kc45cx
    have Hd47cx := Lib.hid (Hd24cx.out.later hb)
    have Hr48cx := Lib.hid (Hr25cx.out.later hb)
    have Hu49cx := Lib.hid (blk_later11 Hu26cx.out hb)
    have HB50cx := Lib.hid (below_next HB28cx.out hb)
    clear hb
    have hd51cx := Hd47cx.out
    have kx52cx := hd51cx.c0
    have ky53cx := hd51cx.c1
    have kp54cx := hd51cx.f0
    have kq55cx := hd51cx.f1
    clear hd51cx
    have hr56cx := Hr48cx.out
    have kx57cx := hr56cx.c0
    have ky58cx := hr56cx.c1
    have kp59cx := hr56cx.f0
    have kq60cx := hr56cx.f1
    clear hr56cx
    have hu61cx := Hu49cx.out
    have kf62cx := hu61cx.free
    have kc63cx : _ = some (.string ⟨#[]⟩ : Value) := hu61cx.at_ 0
    have kc64cx : _ = some (.string ⟨#[]⟩ : Value) := hu61cx.at_ 1
    have kc65cx : _ = some (.string ⟨#[]⟩ : Value) := hu61cx.at_ 2
    have kc66cx : _ = some (.bool false : Value) := hu61cx.at_ 3
    have kc67cx : _ = some (.slice none 0 0 : Value) := hu61cx.at_ 4
    clear hu61cx
    have HS := fin211 HB50cx.out Hr48cx.out HLO6cx.out (.slice A n c) (.slice A1 n1 c1)
    have z0 := HS.1.c0
    have z1 := HS.1.c1
    have HPOST := Lib.hid (show Doc11 8 L' N w (.returned (.tuple #[.agg #[.slice A n c, .slice A1 n1 c1], .int .i64 8])) _ from ⟨R, _, _, rfl, HRC.out.later HS.2.1, e2.symm, HNN.out.later HS.2.1, HS.2.1⟩)
    clear HS
    go_wp2
    refine bodyPost_ret (v := .tuple #[.agg #[.slice A n c, .slice A1 n1 c1], .int .i64 8]) ?_ rfl HPOST.out
    simp [results, Tryz.results36, go_sem, z0, z1]
   ·
    have hme2 : m.toList.isEmpty = false := by simpa using hme
    rw [hmb] at HM0
    clear hmb
    clear HOK
    have Hd1cy : Hid (Bx11 (w.alloc (.cells #[.slice A n c, .slice A1 n1 c1] TD11)) (w.heap.size) (.slice A n c) (.slice A1 n1 c1)) := bx11_new w _ _
    have HLO2cy : Hid (w.heap.size ≤ w.heap.size) := Nat.le_refl _
    have HB3cy : Hid (Below w.heap.size w (w.alloc (.cells #[.slice A n c, .slice A1 n1 c1] TD11))) := below_alloc (Below.refl _ _) _
    have Hd4cy := Lib.hid (Hd1cy.out.later (below_alloc (Below.refl _ _) (.cells #[.slice none 0 0, .slice none 0 0] TD11)))
    have Hr5cy : Hid (Bx11 ((w.alloc (.cells #[.slice A n c, .slice A1 n1 c1] TD11)).alloc (.cells #[.slice none 0 0, .slice none 0 0] TD11)) (w.heap.size + 1) (.slice none 0 0) (.slice none 0 0)) := by
     have hq : Bx11 ((w.alloc (.cells #[.slice A n c, .slice A1 n1 c1] TD11)).alloc (.cells #[.slice none 0 0, .slice none 0 0] TD11)) (w.alloc (.cells #[.slice A n c, .slice A1 n1 c1] TD11)).heap.size (.slice none 0 0) (.slice none 0 0) := bx11_new (w.alloc (.cells #[.slice A n c, .slice A1 n1 c1] TD11)) _ _
     simp only [World.size_alloc] at hq
     exact hq
    have HLO6cy : Hid (w.heap.size ≤ w.heap.size + 1) := by have := HB3cy.out.size; show _ ≤ _; simp at this; omega
    have HB7cy := Lib.hid (below_next HB3cy.out (below_alloc (Below.refl _ _) (.cells #[.slice none 0 0, .slice none 0 0] TD11)))
    go_enter Tryz.func36, Tryz.ntmps36
    have hd8cy := Hd4cy.out
    have kx9cy := hd8cy.c0
    have ky10cy := hd8cy.c1
    have kp11cy := hd8cy.f0
    have kq12cy := hd8cy.f1
    clear hd8cy
    have hr13cy := Hr5cy.out
    have kx14cy := hr13cy.c0
    have ky15cy := hr13cy.c1
    have kp16cy := hr13cy.f0
    have kq17cy := hr13cy.f1
    clear hr13cy
    go_wp2_with fail
    generalize (w.alloc (.cells #[.slice A n c, .slice A1 n1 c1] TD11)).alloc (.cells #[.slice none 0 0, .slice none 0 0] TD11) = wg18cy at *
    with_reducible refine (HU0.out wg18cy HB7cy.out).mono ?_
    rintro e w3 ⟨t, x, he, hyes, hno, hb⟩
    clear kx9cy ky10cy kp11cy kq12cy kx14cy ky15cy kp16cy kq17cy
    have Hd19cy := Lib.hid (Hd4cy.out.later hb)
    have Hr20cy := Lib.hid (Hr5cy.out.later hb)
    have HB21cy := Lib.hid (below_next HB7cy.out hb)
    clear hb
    have he' : e = .returned (.tuple #[.agg #[.string ⟨#[]⟩, .string ⟨#[]⟩, .string ⟨#[]⟩, .bool false, .slice none 0 0], .int .i64 8]) := by
     obtain ⟨h1, h2⟩ := hno (by show (8 : Int) ≠ 0; decide)
     rw [he, h1, h2]; rfl
    subst he'
    clear he hyes hno
    have HLT22cy := Lib.hid (Hd19cy.out.lt)
    have HLT23cy := Lib.hid (Hr20cy.out.lt)
    have Hd24cy := Lib.hid (Hd19cy.out.later (below_alloc (Below.refl _ _) (.cells #[.string ⟨#[]⟩, .string ⟨#[]⟩, .string ⟨#[]⟩, .bool false, .slice none 0 0] 37)))
    have Hr25cy := Lib.hid (Hr20cy.out.later (below_alloc (Below.refl _ _) (.cells #[.string ⟨#[]⟩, .string ⟨#[]⟩, .string ⟨#[]⟩, .bool false, .slice none 0 0] 37)))
    have Hu26cy : Hid (Blk5 (w3.alloc (.cells #[.string ⟨#[]⟩, .string ⟨#[]⟩, .string ⟨#[]⟩, .bool false, .slice none 0 0] 37)) (w3.heap.size) (.string ⟨#[]⟩) (.string ⟨#[]⟩) (.string ⟨#[]⟩) (.bool false) (.slice none 0 0)) := heap_alloc_new w3 _
    have HLO27cy : Hid (w.heap.size ≤ w3.heap.size) := by have := HB21cy.out.size; show _ ≤ _; exact this
    have HB28cy := Lib.hid (below_next HB21cy.out (below_alloc (Below.refl _ _) (.cells #[.string ⟨#[]⟩, .string ⟨#[]⟩, .string ⟨#[]⟩, .bool false, .slice none 0 0] 37)))
    have hd29cy := Hd24cy.out
    have kx30cy := hd29cy.c0
    have ky31cy := hd29cy.c1
    have kp32cy := hd29cy.f0
    have kq33cy := hd29cy.f1
    clear hd29cy
    have hr34cy := Hr25cy.out
    have kx35cy := hr34cy.c0
    have ky36cy := hr34cy.c1
    have kp37cy := hr34cy.f0
    have kq38cy := hr34cy.f1
    clear hr34cy
    have hu39cy := Hu26cy.out
    have kf40cy := hu39cy.free
    have kc41cy : _ = some (.string ⟨#[]⟩ : Value) := hu39cy.at_ 0
    have kc42cy : _ = some (.string ⟨#[]⟩ : Value) := hu39cy.at_ 1
    have kc43cy : _ = some (.string ⟨#[]⟩ : Value) := hu39cy.at_ 2
    have kc44cy : _ = some (.bool false : Value) := hu39cy.at_ 3
    have kc45cy : _ = some (.slice none 0 0 : Value) := hu39cy.at_ 4
    clear hu39cy
    go_wp2_with fail
    generalize w3.alloc (.cells #[.string ⟨#[]⟩, .string ⟨#[]⟩, .string ⟨#[]⟩, .bool false, .slice none 0 0] 37) = wg46cy at *
    with_reducible refine (HM0.out _).mono ?_
    rintro e w4 ⟨rfl, qd, hwd⟩
    have hb : Below wg46cy.heap.size wg46cy w4 := by rw [hwd]; exact below_drewN (Below.refl _ _) _
    clear hwd
    clear kx30cy ky31cy kp32cy kq33cy kx35cy ky36cy kp37cy kq38cy kf40cy kc41cy kc42cy kc43cy kc44cy kc45cy
    have Hd47cy := Lib.hid (Hd24cy.out.later hb)
    have Hr48cy := Lib.hid (Hr25cy.out.later hb)
    have Hu49cy := Lib.hid (blk_later11 Hu26cy.out hb)
    have HB50cy := Lib.hid (below_next HB28cy.out hb)
    clear hb
    have hd51cy := Hd47cy.out
    have kx52cy := hd51cy.c0
    have ky53cy := hd51cy.c1
    have kp54cy := hd51cy.f0
    have kq55cy := hd51cy.f1
    clear hd51cy
    have hr56cy := Hr48cy.out
    have kx57cy := hr56cy.c0
    have ky58cy := hr56cy.c1
    have kp59cy := hr56cy.f0
    have kq60cy := hr56cy.f1
    clear hr56cy
    have hu61cy := Hu49cy.out
    have kf62cy := hu61cy.free
    have kc63cy : _ = some (.string ⟨#[]⟩ : Value) := hu61cy.at_ 0
    have kc64cy : _ = some (.string ⟨#[]⟩ : Value) := hu61cy.at_ 1
    have kc65cy : _ = some (.string ⟨#[]⟩ : Value) := hu61cy.at_ 2
    have kc66cy : _ = some (.bool false : Value) := hu61cy.at_ 3
    have kc67cy : _ = some (.slice none 0 0 : Value) := hu61cy.at_ 4
    clear hu61cy
    have HS := fin211 HB50cy.out Hr48cy.out HLO6cy.out (.slice A n c) (.slice A1 n1 c1)
    have z0 := HS.1.c0
    have z1 := HS.1.c1
    have HPOST := Lib.hid (show Doc11 8 L' N w (.returned (.tuple #[.agg #[.slice A n c, .slice A1 n1 c1], .int .i64 8])) _ from ⟨R, _, _, rfl, HRC.out.later HS.2.1, e2.symm, HNN.out.later HS.2.1, HS.2.1⟩)
    clear HS
    go_wp2
    refine bodyPost_ret (v := .tuple #[.agg #[.slice A n c, .slice A1 n1 c1], .int .i64 8]) ?_ rfl HPOST.out
    simp [results, Tryz.results36, go_sem, z0, z1]
  | true =>
   rw [hh] at HU0
   have HE3 : Hid (E = if badU (plainR R) s.data.toList (foldM11 m.data.toList) then 9 else 0) := by
    have := HE.out
    rw [hname, HBM.out, hh] at this
    exact this
   have HL3 : Hid (L' = if badU (plainR R) s.data.toList (foldM11 m.data.toList) then plainR R else setU (plainR R) s.data.toList (fun u => { u with ml := foldM11 m.data.toList })) := by
    have := HL2.out
    rw [hname, HBM.out, hh] at this
    rw [this]
    cases badU (plainR R) s.data.toList (foldM11 m.data.toList) <;> rfl
   clear HE HL2
   rw [← HMT.out] at HE3 HL3
   generalize hfm : foldM11 m.data.toList = fm at *
   generalize hmt : tx10 fm = mt at *
   have HFM := Lib.hid hfm
   clear hfm hmt
   have HBAD : Hid (∀ j (h : j < R.length), badU (plainR R) s.data.toList mt.data.toList = false → ¬ (mt.data.toList ≠ [] ∧ R[j].2.ml.data.toList = mt.data.toList ∧ R[j].1 ≠ s.data.toList)) := fun j h hb => by
    rintro ⟨h1, h2, h3⟩
    unfold badU at hb
    have := List.any_eq_false.1 hb (R[j].1, R[j].2.u) (List.mem_map.2 ⟨R[j], List.getElem_mem h, rfl⟩)
    have hn : mt.data ≠ #[] := fun e => h1 (by rw [e])
    simp [W11.u, h2, h3, hn] at this
   have HGOOD : Hid ((∀ j (h : j < R.length), ¬ (mt.data.toList ≠ [] ∧ R[j].2.ml.data.toList = mt.data.toList ∧ R[j].1 ≠ s.data.toList)) → badU (plainR R) s.data.toList mt.data.toList = false) := fun h => by
    unfold badU
    refine List.any_eq_false.2 fun p hp => ?_
    obtain ⟨q, hq, rfl⟩ := List.mem_map.1 hp
    obtain ⟨j, hj, rfl⟩ := List.getElem_of_mem hq
    have := h j hj
    simp [W11.u] at this ⊢
    exact this
   have HUS := Lib.hid HRC.out.rw.us
   rcases HOK.out with hme | ⟨hme, hmb⟩
   ·
    have hme2 : m.toList.isEmpty = true := by simpa using hme
    generalize mail5 m.data.toList = mb at HM0
    clear HOK
    have Hd1ex : Hid (Bx11 (w.alloc (.cells #[.slice A n c, .slice A1 n1 c1] TD11)) (w.heap.size) (.slice A n c) (.slice A1 n1 c1)) := bx11_new w _ _
    have HLO2ex : Hid (w.heap.size ≤ w.heap.size) := Nat.le_refl _
    have HB3ex : Hid (Below w.heap.size w (w.alloc (.cells #[.slice A n c, .slice A1 n1 c1] TD11))) := below_alloc (Below.refl _ _) _
    have Hd4ex := Lib.hid (Hd1ex.out.later (below_alloc (Below.refl _ _) (.cells #[.slice none 0 0, .slice none 0 0] TD11)))
    have Hr5ex : Hid (Bx11 ((w.alloc (.cells #[.slice A n c, .slice A1 n1 c1] TD11)).alloc (.cells #[.slice none 0 0, .slice none 0 0] TD11)) (w.heap.size + 1) (.slice none 0 0) (.slice none 0 0)) := by
     have hq : Bx11 ((w.alloc (.cells #[.slice A n c, .slice A1 n1 c1] TD11)).alloc (.cells #[.slice none 0 0, .slice none 0 0] TD11)) (w.alloc (.cells #[.slice A n c, .slice A1 n1 c1] TD11)).heap.size (.slice none 0 0) (.slice none 0 0) := bx11_new (w.alloc (.cells #[.slice A n c, .slice A1 n1 c1] TD11)) _ _
     simp only [World.size_alloc] at hq
     exact hq
    have HLO6ex : Hid (w.heap.size ≤ w.heap.size + 1) := by have := HB3ex.out.size; show _ ≤ _; simp at this; omega
    have HB7ex := Lib.hid (below_next HB3ex.out (below_alloc (Below.refl _ _) (.cells #[.slice none 0 0, .slice none 0 0] TD11)))
    go_enter Tryz.func36, Tryz.ntmps36
    have hd8ex := Hd4ex.out
    have kx9ex := hd8ex.c0
    have ky10ex := hd8ex.c1
    have kp11ex := hd8ex.f0
    have kq12ex := hd8ex.f1
    clear hd8ex
    have hr13ex := Hr5ex.out
    have kx14ex := hr13ex.c0
    have ky15ex := hr13ex.c1
    have kp16ex := hr13ex.f0
    have kq17ex := hr13ex.f1
    clear hr13ex
    go_wp2_with fail
    generalize (w.alloc (.cells #[.slice A n c, .slice A1 n1 c1] TD11)).alloc (.cells #[.slice none 0 0, .slice none 0 0] TD11) = wg18ex at *
    with_reducible refine (HU0.out wg18ex HB7ex.out).mono ?_
    rintro e w3 ⟨t, x, he, hyes, hno, hb⟩
    clear kx9ex ky10ex kp11ex kq12ex kx14ex ky15ex kp16ex kq17ex
    have Hd19ex := Lib.hid (Hd4ex.out.later hb)
    have Hr20ex := Lib.hid (Hr5ex.out.later hb)
    have HB21ex := Lib.hid (below_next HB7ex.out hb)
    clear hb
    obtain ⟨ht, hx⟩ := hyes rfl
    obtain ⟨xh, xm, xd, xa, xg, xc⟩ := x
    obtain ⟨xl, hxl⟩ : ∃ l, l = xg.length := ⟨_, rfl⟩
    have he' : e = .returned (.tuple #[.agg #[.string s, .string xh, .string xm, .bool xd, .slice xa xl xc], .int .i64 0]) := by
     rw [he, ht, hxl]; rfl
    subst he'
    have HXx := Lib.hid hx
    have HLx := Lib.hid hxl
    clear he hyes hno ht hx hxl
    have HLT22ex := Lib.hid (Hd19ex.out.lt)
    have HLT23ex := Lib.hid (Hr20ex.out.lt)
    have Hd24ex := Lib.hid (Hd19ex.out.later (below_alloc (Below.refl _ _) (.cells #[.string s, .string xh, .string xm, .bool xd, .slice xa xl xc] 37)))
    have Hr25ex := Lib.hid (Hr20ex.out.later (below_alloc (Below.refl _ _) (.cells #[.string s, .string xh, .string xm, .bool xd, .slice xa xl xc] 37)))
    have Hu26ex : Hid (Blk5 (w3.alloc (.cells #[.string s, .string xh, .string xm, .bool xd, .slice xa xl xc] 37)) (w3.heap.size) (.string s) (.string xh) (.string xm) (.bool xd) (.slice xa xl xc)) := heap_alloc_new w3 _
    have HLO27ex : Hid (w.heap.size ≤ w3.heap.size) := by have := HB21ex.out.size; show _ ≤ _; exact this
    have HB28ex := Lib.hid (below_next HB21ex.out (below_alloc (Below.refl _ _) (.cells #[.string s, .string xh, .string xm, .bool xd, .slice xa xl xc] 37)))
    have hd29ex := Hd24ex.out
    have kx30ex := hd29ex.c0
    have ky31ex := hd29ex.c1
    have kp32ex := hd29ex.f0
    have kq33ex := hd29ex.f1
    clear hd29ex
    have hr34ex := Hr25ex.out
    have kx35ex := hr34ex.c0
    have ky36ex := hr34ex.c1
    have kp37ex := hr34ex.f0
    have kq38ex := hr34ex.f1
    clear hr34ex
    have hu39ex := Hu26ex.out
    have kf40ex := hu39ex.free
    have kc41ex : _ = some (.string s : Value) := hu39ex.at_ 0
    have kc42ex : _ = some (.string xh : Value) := hu39ex.at_ 1
    have kc43ex : _ = some (.string xm : Value) := hu39ex.at_ 2
    have kc44ex : _ = some (.bool xd : Value) := hu39ex.at_ 3
    have kc45ex : _ = some (.slice xa xl xc : Value) := hu39ex.at_ 4
    clear hu39ex
    go_wp2_with fail
    generalize w3.alloc (.cells #[.string s, .string xh, .string xm, .bool xd, .slice xa xl xc] 37) = wg46ex at *
    with_reducible refine (HM0.out _).mono ?_
    rintro e w4 ⟨rfl, qd, hwd⟩
    have hb : Below wg46ex.heap.size wg46ex w4 := by rw [hwd]; exact below_drewN (Below.refl _ _) _
    clear hwd
    clear kx30ex ky31ex kp32ex kq33ex kx35ex ky36ex kp37ex kq38ex kf40ex kc41ex kc42ex kc43ex kc44ex kc45ex
    have Hd47ex := Lib.hid (Hd24ex.out.later hb)
    have Hr48ex := Lib.hid (Hr25ex.out.later hb)
    have Hu49ex := Lib.hid (blk_later11 Hu26ex.out hb)
    have HB50ex := Lib.hid (below_next HB28ex.out hb)
    clear hb
    have hd51ex := Hd47ex.out
    have kx52ex := hd51ex.c0
    have ky53ex := hd51ex.c1
    have kp54ex := hd51ex.f0
    have kq55ex := hd51ex.f1
    clear hd51ex
    have hr56ex := Hr48ex.out
    have kx57ex := hr56ex.c0
    have ky58ex := hr56ex.c1
    have kp59ex := hr56ex.f0
    have kq60ex := hr56ex.f1
    clear hr56ex
    have hu61ex := Hu49ex.out
    have kf62ex := hu61ex.free
    have kc63ex : _ = some (.string s : Value) := hu61ex.at_ 0
    have kc64ex : _ = some (.string xh : Value) := hu61ex.at_ 1
    have kc65ex : _ = some (.string xm : Value) := hu61ex.at_ 2
    have kc66ex : _ = some (.bool xd : Value) := hu61ex.at_ 3
    have kc67ex : _ = some (.slice xa xl xc : Value) := hu61ex.at_ 4
    clear hu61ex
    go_wp2
    clear kx52ex ky53ex kp54ex kq55ex kx57ex ky58ex kp59ex kq60ex kf62ex kc63ex kc64ex kc65ex kc66ex kc67ex
    go_loopg [13, 43] n (fun gg _ s43 wr => ∃ k : Nat, k ≤ n ∧ n - k ≤ gg ∧ s43 = .int .i64 k ∧ Hid (Below w4.heap.size w4 wr) ∧ Hid (∀ j (h : j < R.length), j < k → ¬ (mt.data.toList ≠ [] ∧ R[j].2.ml.data.toList = mt.data.toList ∧ R[j].1 ≠ s.data.toList)))
    case atStart => exact ⟨0, Nat.zero_le _, by omega, rfl, Below.refl _ _, fun j _ hj => absurd hj (Nat.not_lt_zero _)⟩
    case round =>
     obtain ⟨k, hk, hg, rfl, HW, A0⟩ := hrel
     by_cases hlt : k < n
     ·
      have Hd68ex : Hid (Bx11 (wr) (w.heap.size) (.slice A n c) (.slice A1 n1 c1)) := Hd47ex.out.later HW.out
      have Hr69ex : Hid (Bx11 (wr) (w.heap.size + 1) (.slice none 0 0) (.slice none 0 0)) := Hr48ex.out.later HW.out
      have Hu70ex : Hid (Blk5 (wr) (w3.heap.size) (.string s) (.string xh) (.string xm) (.bool xd) (.slice xa xl xc)) := blk_later11 Hu49ex.out HW.out
      have HB71ex : Hid (Below w.heap.size w wr) := below_next HB50ex.out HW.out
      have hltz : (k : Int) < (n : Int) := by omega
      have hkl : k < R.length := by have := HLR.out; omega
      obtain ⟨g, rfl, kd0, kd1, kd2, kd3, kd4⟩ := (HUS.out.later HB71ex.out).at_ k hkl
      have HSTEP : Hid (¬ (mt.data.toList ≠ [] ∧ R[k].2.ml.data.toList = mt.data.toList ∧ R[k].1 ≠ s.data.toList) → ∀ j (h : j < R.length), j < k + 1 → ¬ (mt.data.toList ≠ [] ∧ R[j].2.ml.data.toList = mt.data.toList ∧ R[j].1 ≠ s.data.toList)) := fun hq j h hj => by
       by_cases e : j = k
       ·
        subst e; exact hq
       ·
        exact A0.out j h (by omega)
      have HNM : Hid ((tx10 R[k].1).data.toList = R[k].1) := tx10_list _
      have HBD : Hid (badU (plainR R) s.data.toList mt.data.toList = false → ¬ (mt.data.toList ≠ [] ∧ R[k].2.ml.data.toList = mt.data.toList ∧ R[k].1 ≠ s.data.toList)) := HBAD.out k hkl
      rw [← HNM.out] at HSTEP HBD
      generalize tx10 R[k].1 = kn at *
      generalize R[k].2 = kx at *
      obtain ⟨yh, ym, yd, ya, yg, yc⟩ := kx
      dsimp only at kd1 kd2 kd3 kd4 HSTEP HBD
      generalize yg.length = yl at *
      clear HNM A0
      have HLT72ex := Lib.hid (Hd68ex.out.lt)
      have HLT73ex := Lib.hid (Hr69ex.out.lt)
      have HLT74ex := Lib.hid (Hu70ex.out.lt)
      have Hd75ex := Lib.hid (Hd68ex.out.later (below_alloc (Below.refl _ _) (.cells #[.string kn, .string yh, .string ym, .bool yd, .slice ya yl yc] 37)))
      have Hr76ex := Lib.hid (Hr69ex.out.later (below_alloc (Below.refl _ _) (.cells #[.string kn, .string yh, .string ym, .bool yd, .slice ya yl yc] 37)))
      have Hu77ex := Lib.hid (blk_later11 Hu70ex.out (below_alloc (Below.refl _ _) (.cells #[.string kn, .string yh, .string ym, .bool yd, .slice ya yl yc] 37)))
      have Ht78ex : Hid (Blk5 (wr.alloc (.cells #[.string kn, .string yh, .string ym, .bool yd, .slice ya yl yc] 37)) (wr.heap.size) (.string kn) (.string yh) (.string ym) (.bool yd) (.slice ya yl yc)) := heap_alloc_new wr _
      have HLO79ex : Hid (w.heap.size ≤ wr.heap.size) := by have := HB71ex.out.size; show _ ≤ _; exact this
      have HB80ex := Lib.hid (below_next HB71ex.out (below_alloc (Below.refl _ _) (.cells #[.string kn, .string yh, .string ym, .bool yd, .slice ya yl yc] 37)))
      have hd81ex := Hd75ex.out
      have kx82ex := hd81ex.c0
      have ky83ex := hd81ex.c1
      have kp84ex := hd81ex.f0
      have kq85ex := hd81ex.f1
      clear hd81ex
      have hr86ex := Hr76ex.out
      have kx87ex := hr86ex.c0
      have ky88ex := hr86ex.c1
      have kp89ex := hr86ex.f0
      have kq90ex := hr86ex.f1
      clear hr86ex
      have hu91ex := Hu77ex.out
      have kf92ex := hu91ex.free
      have kc93ex : _ = some (.string s : Value) := hu91ex.at_ 0
      have kc94ex : _ = some (.string xh : Value) := hu91ex.at_ 1
      have kc95ex : _ = some (.string xm : Value) := hu91ex.at_ 2
      have kc96ex : _ = some (.bool xd : Value) := hu91ex.at_ 3
      have kc97ex : _ = some (.slice xa xl xc : Value) := hu91ex.at_ 4
      clear hu91ex
      have ht98ex := Ht78ex.out
      have kf99ex := ht98ex.free
      have kc100ex : _ = some (.string kn : Value) := ht98ex.at_ 0
      have kc101ex : _ = some (.string yh : Value) := ht98ex.at_ 1
      have kc102ex : _ = some (.string ym : Value) := ht98ex.at_ 2
      have kc103ex : _ = some (.bool yd : Value) := ht98ex.at_ 3
      have kc104ex : _ = some (.slice ya yl yc : Value) := ht98ex.at_ 4
      clear ht98ex
      by_cases q1 : mt.toList = []
      ·
       have q1b : mt.toList.isEmpty = true := by simpa using q1
       have HX := Lib.hid (HSTEP.out (fun h => h.1 (by rw [← ByteArray.toList_eq]; exact q1)))
       clear HSTEP HBD
       go_wp2
       go_roundg (n - (k + 1))
       case measure => omega
       case rel => exact ⟨k + 1, by omega, by omega, by go_num, below_next HW.out (below_alloc (Below.refl _ _) _), HX⟩
      have q1b : mt.toList.isEmpty = false := by simpa using q1
      by_cases q2 : ym.toList = mt.toList
      case neg =>
       have q2b : (ym.toList == mt.toList) = false := by simpa using q2
       have HX := Lib.hid (HSTEP.out (fun h => q2 (by rw [ByteArray.toList_eq, ByteArray.toList_eq]; exact h.2.1)))
       clear HSTEP HBD
       go_wp2
       go_roundg (n - (k + 1))
       case measure => omega
       case rel => exact ⟨k + 1, by omega, by omega, by go_num, below_next HW.out (below_alloc (Below.refl _ _) _), HX⟩
      have q2b : (ym.toList == mt.toList) = true := by simpa using q2
      by_cases q3 : kn.toList = s.toList
      ·
       have q3b : (kn.toList != s.toList) = false := by simpa using q3
       have q3c : (kn.toList == s.toList) = true := by simpa using q3
       have HX := Lib.hid (HSTEP.out (fun h => h.2.2 (by rw [← ByteArray.toList_eq, ← ByteArray.toList_eq]; exact q3)))
       clear HSTEP HBD
       go_wp2
       go_roundg (n - (k + 1))
       case measure => omega
       case rel => exact ⟨k + 1, by omega, by omega, by go_num, below_next HW.out (below_alloc (Below.refl _ _) _), HX⟩
      have q3b : (kn.toList != s.toList) = true := by simpa using q3
      have q3c : (kn.toList == s.toList) = false := by simpa using q3
      have hbad : badU (plainR R) s.data.toList mt.data.toList = true := by
       cases hq : badU (plainR R) s.data.toList mt.data.toList with
       | true => rfl
       | false => exact absurd ⟨(fun h => q1 (by rw [ByteArray.toList_eq]; exact h)), (by rw [← ByteArray.toList_eq, ← ByteArray.toList_eq]; exact q2), (fun h => q3 (by rw [ByteArray.toList_eq, ByteArray.toList_eq]; exact h))⟩ (HBD.out hq)
      have e1 : E = 9 := by have := HE3.out; rw [hbad] at this; exact this
      have e2 : L' = plainR R := by have := HL3.out; rw [hbad] at this; exact this
      replace e1 := e1.symm
      subst e1
      clear HE3 HL3 hbad HBD HSTEP HPT0 HBAD HGOOD
      have hd105ex := Hd75ex.out
      have kx106ex := hd105ex.c0
      have ky107ex := hd105ex.c1
      have kp108ex := hd105ex.f0
      have kq109ex := hd105ex.f1
      clear hd105ex
      have hr110ex := Hr76ex.out
      have kx111ex := hr110ex.c0
      have ky112ex := hr110ex.c1
      have kp113ex := hr110ex.f0
      have kq114ex := hr110ex.f1
      clear hr110ex
      have hu115ex := Hu77ex.out
      have kf116ex := hu115ex.free
      have kc117ex : _ = some (.string s : Value) := hu115ex.at_ 0
      have kc118ex : _ = some (.string xh : Value) := hu115ex.at_ 1
      have kc119ex : _ = some (.string xm : Value) := hu115ex.at_ 2
      have kc120ex : _ = some (.bool xd : Value) := hu115ex.at_ 3
      have kc121ex : _ = some (.slice xa xl xc : Value) := hu115ex.at_ 4
      clear hu115ex
      have ht122ex := Ht78ex.out
      have kf123ex := ht122ex.free
      have kc124ex : _ = some (.string kn : Value) := ht122ex.at_ 0
      have kc125ex : _ = some (.string yh : Value) := ht122ex.at_ 1
      have kc126ex : _ = some (.string ym : Value) := ht122ex.at_ 2
      have kc127ex : _ = some (.bool yd : Value) := ht122ex.at_ 3
      have kc128ex : _ = some (.slice ya yl yc : Value) := ht122ex.at_ 4
      clear ht122ex
      have HS := fin211 HB80ex.out Hr76ex.out HLO6ex.out (.slice (some ⟨g, 0, none⟩) n c) (.slice A1 n1 c1)
      have z0 := HS.1.c0
      have z1 := HS.1.c1
      have HPOST := Lib.hid (show Doc11 9 L' N w (.returned (.tuple #[.agg #[.slice (some ⟨g, 0, none⟩) n c, .slice A1 n1 c1], .int .i64 9])) _ from ⟨R, _, _, rfl, HRC.out.later HS.2.1, e2.symm, HNN.out.later HS.2.1, HS.2.1⟩)
      clear HS
      go_wp2
      refine bodyPost_ret (v := .tuple #[.agg #[.slice (some ⟨g, 0, none⟩) n c, .slice A1 n1 c1], .int .i64 9]) ?_ rfl HPOST.out
      simp [results, Tryz.results36, go_sem, z0, z1]
     ·
      have hltz : ¬ (k : Int) < (n : Int) := by omega
      obtain rfl : k = n := by omega
      have Hd129ex : Hid (Bx11 (wr) (w.heap.size) (.slice A k c) (.slice A1 n1 c1)) := Hd47ex.out.later HW.out
      have Hr130ex : Hid (Bx11 (wr) (w.heap.size + 1) (.slice none 0 0) (.slice none 0 0)) := Hr48ex.out.later HW.out
      have Hu131ex : Hid (Blk5 (wr) (w3.heap.size) (.string s) (.string xh) (.string xm) (.bool xd) (.slice xa xl xc)) := blk_later11 Hu49ex.out HW.out
      have HB132ex : Hid (Below w.heap.size w wr) := below_next HB50ex.out HW.out
      have hbad : badU (plainR R) s.data.toList mt.data.toList = false := HGOOD.out (fun j h => A0.out j h (by have := HLR.out; omega))
      have e1 : E = 0 := by have := HE3.out; rw [hbad] at this; exact this
      have e2 : L' = putV (plainR R) s.data.toList (W11.u ⟨xh, mt, xd, xa, xg, xc⟩) := by
       have := HL3.out
       rw [hbad] at this
       rw [this]
       show setU _ _ _ = _
       unfold setU
       rw [plainR_get, HXx.out]
       rfl
      replace e1 := e1.symm
      subst e1
      have HE2 := Lib.hid e2
      clear HE3 HL3 hbad HBAD HGOOD A0 e2
      have hd133ex := Hd129ex.out
      have kx134ex := hd133ex.c0
      have ky135ex := hd133ex.c1
      have kp136ex := hd133ex.f0
      have kq137ex := hd133ex.f1
      clear hd133ex
      have hr138ex := Hr130ex.out
      have kx139ex := hr138ex.c0
      have ky140ex := hr138ex.c1
      have kp141ex := hr138ex.f0
      have kq142ex := hr138ex.f1
      clear hr138ex
      have hu143ex := Hu131ex.out
      have kf144ex := hu143ex.free
      have kc145ex : _ = some (.string s : Value) := hu143ex.at_ 0
      have kc146ex : _ = some (.string xh : Value) := hu143ex.at_ 1
      have kc147ex : _ = some (.string xm : Value) := hu143ex.at_ 2
      have kc148ex : _ = some (.bool xd : Value) := hu143ex.at_ 3
      have kc149ex : _ = some (.slice xa xl xc : Value) := hu143ex.at_ 4
      clear hu143ex
      have Hd150ex : Hid (Bx11 (wr.setCell ⟨w3.heap.size, 2, none⟩ (.string mt)) (w.heap.size) (.slice A k c) (.slice A1 n1 c1)) := Hd129ex.out.other (by have := HLT22ex.out; omega) _
      have Hr151ex : Hid (Bx11 (wr.setCell ⟨w3.heap.size, 2, none⟩ (.string mt)) (w.heap.size + 1) (.slice none 0 0) (.slice none 0 0)) := Hr130ex.out.other (by have := HLT23ex.out; omega) _
      have Hu152ex : Hid (Blk5 (wr.setCell ⟨w3.heap.size, 2, none⟩ (.string mt)) (w3.heap.size) (.string s) (.string xh) (.string mt) (.bool xd) (.slice xa xl xc)) := Hu131ex.out.put211 _
      have HB153ex : Hid (Below w.heap.size w (wr.setCell ⟨w3.heap.size, 2, none⟩ (.string mt))) := HB132ex.out.setCell (p := ⟨w3.heap.size, 2, none⟩) HLO27ex.out _
      have HPT : Hid (∀ W, Below w.heap.size w W → Calls Tryz.prog 90 #[.agg #[.slice A k c, .slice A1 n1 c1], .agg #[.string s, .string xh, .string mt, .bool xd, .slice xa xl xc]] W fun e w' => ∃ v', e = .returned (.agg #[v', .slice A1 n1 c1]) ∧ Rw11 (putV R s.data.toList ⟨xh, mt, xd, xa, xg, xc⟩) w' v' ∧ Below W.heap.size W w') := fun W hb => by
       have := HPT0.out ⟨xh, mt, xd, xa, xg, xc⟩ W hb
       unfold uval11 at this
       dsimp only at this
       rw [← HLx.out] at this
       exact this
      clear HPT0
      have hd154ex := Hd150ex.out
      have kx155ex := hd154ex.c0
      have ky156ex := hd154ex.c1
      have kp157ex := hd154ex.f0
      have kq158ex := hd154ex.f1
      clear hd154ex
      have hr159ex := Hr151ex.out
      have kx160ex := hr159ex.c0
      have ky161ex := hr159ex.c1
      have kp162ex := hr159ex.f0
      have kq163ex := hr159ex.f1
      clear hr159ex
      have hu164ex := Hu152ex.out
      have kf165ex := hu164ex.free
      have kc166ex : _ = some (.string s : Value) := hu164ex.at_ 0
      have kc167ex : _ = some (.string xh : Value) := hu164ex.at_ 1
      have kc168ex : _ = some (.string mt : Value) := hu164ex.at_ 2
      have kc169ex : _ = some (.bool xd : Value) := hu164ex.at_ 3
      have kc170ex : _ = some (.slice xa xl xc : Value) := hu164ex.at_ 4
      clear hu164ex
      go_wp2_with fail
      generalize wr.setCell ⟨w3.heap.size, 2, none⟩ (.string mt) = wg171ex at *
      with_reducible refine (HPT.out wg171ex HB153ex.out).mono ?_
      rintro e w6 ⟨v5, rfl, hp, hb⟩
      clear kx134ex ky135ex kp136ex kq137ex kx139ex ky140ex kp141ex kq142ex kf144ex kc145ex kc146ex kc147ex kc148ex kc149ex kx155ex ky156ex kp157ex kq158ex kx160ex ky161ex kp162ex kq163ex kf165ex kc166ex kc167ex kc168ex kc169ex kc170ex
      have Hd172ex := Lib.hid (Hd150ex.out.later hb)
      have Hr173ex := Lib.hid (Hr151ex.out.later hb)
      have Hu174ex := Lib.hid (blk_later11 Hu152ex.out hb)
      have HB175ex := Lib.hid (below_next HB153ex.out hb)
      obtain ⟨A5, c5, rfl⟩ := hp.us.shape
      have HP := Lib.hid hp
      clear hp
      obtain ⟨n5, hn5⟩ : ∃ m, m = (putV R s.data.toList (⟨xh, mt, xd, xa, xg, xc⟩ : W11)).length := ⟨_, rfl⟩
      rw [← hn5] at HP ⊢
      clear hn5
      clear hb
      have HG5 : Hid (Gs11 0 w6 (putV R s.data.toList ⟨xh, mt, xd, xa, xg, xc⟩)) := ((HRC.out.later HB175ex.out).2).put _ _ ((HRC.out.later HB175ex.out).2 (s.data.toList, ⟨xh, xm, xd, xa, xg, xc⟩) ((getV_some HRI.out).1 HXx.out))
      have HPL : Hid (plainR (putV R s.data.toList ⟨xh, mt, xd, xa, xg, xc⟩) = L') := by
       show _ = _
       rw [HE2.out, plainR_put]
      have hd176ex := Hd172ex.out
      have kx177ex := hd176ex.c0
      have ky178ex := hd176ex.c1
      have kp179ex := hd176ex.f0
      have kq180ex := hd176ex.f1
      clear hd176ex
      have hr181ex := Hr173ex.out
      have kx182ex := hr181ex.c0
      have ky183ex := hr181ex.c1
      have kp184ex := hr181ex.f0
      have kq185ex := hr181ex.f1
      clear hr181ex
      have hu186ex := Hu174ex.out
      have kf187ex := hu186ex.free
      have kc188ex : _ = some (.string s : Value) := hu186ex.at_ 0
      have kc189ex : _ = some (.string xh : Value) := hu186ex.at_ 1
      have kc190ex : _ = some (.string mt : Value) := hu186ex.at_ 2
      have kc191ex : _ = some (.bool xd : Value) := hu186ex.at_ 3
      have kc192ex : _ = some (.slice xa xl xc : Value) := hu186ex.at_ 4
      clear hu186ex
      have HS := fin211 HB175ex.out Hr173ex.out HLO6ex.out (.slice A5 n5 c5) (.slice A1 n1 c1)
      have z0 := HS.1.c0
      have z1 := HS.1.c1
      have HPOST := Lib.hid (show Doc11 0 L' N w (.returned (.tuple #[.agg #[.slice A5 n5 c5, .slice A1 n1 c1], .int .i64 0])) _ from ⟨_, _, _, rfl, ⟨HP.out.keepD11 HS.2.2, HG5.out.keepD11 HS.2.2⟩, HPL.out, HNN.out.later HS.2.1, HS.2.1⟩)
      clear HS
      go_wp2
      refine bodyPost_ret (v := .tuple #[.agg #[.slice A5 n5 c5, .slice A1 n1 c1], .int .i64 0]) ?_ rfl HPOST.out
      simp [results, Tryz.results36, go_sem, z0, z1]
   ·
    have hme2 : m.toList.isEmpty = false := by simpa using hme
    rw [hmb] at HM0
    clear hmb
    clear HOK
    have Hd1ey : Hid (Bx11 (w.alloc (.cells #[.slice A n c, .slice A1 n1 c1] TD11)) (w.heap.size) (.slice A n c) (.slice A1 n1 c1)) := bx11_new w _ _
    have HLO2ey : Hid (w.heap.size ≤ w.heap.size) := Nat.le_refl _
    have HB3ey : Hid (Below w.heap.size w (w.alloc (.cells #[.slice A n c, .slice A1 n1 c1] TD11))) := below_alloc (Below.refl _ _) _
    have Hd4ey := Lib.hid (Hd1ey.out.later (below_alloc (Below.refl _ _) (.cells #[.slice none 0 0, .slice none 0 0] TD11)))
    have Hr5ey : Hid (Bx11 ((w.alloc (.cells #[.slice A n c, .slice A1 n1 c1] TD11)).alloc (.cells #[.slice none 0 0, .slice none 0 0] TD11)) (w.heap.size + 1) (.slice none 0 0) (.slice none 0 0)) := by
     have hq : Bx11 ((w.alloc (.cells #[.slice A n c, .slice A1 n1 c1] TD11)).alloc (.cells #[.slice none 0 0, .slice none 0 0] TD11)) (w.alloc (.cells #[.slice A n c, .slice A1 n1 c1] TD11)).heap.size (.slice none 0 0) (.slice none 0 0) := bx11_new (w.alloc (.cells #[.slice A n c, .slice A1 n1 c1] TD11)) _ _
     simp only [World.size_alloc] at hq
     exact hq
    have HLO6ey : Hid (w.heap.size ≤ w.heap.size + 1) := by have := HB3ey.out.size; show _ ≤ _; simp at this; omega
    have HB7ey := Lib.hid (below_next HB3ey.out (below_alloc (Below.refl _ _) (.cells #[.slice none 0 0, .slice none 0 0] TD11)))
    go_enter Tryz.func36, Tryz.ntmps36
    have hd8ey := Hd4ey.out
    have kx9ey := hd8ey.c0
    have ky10ey := hd8ey.c1
    have kp11ey := hd8ey.f0
    have kq12ey := hd8ey.f1
    clear hd8ey
    have hr13ey := Hr5ey.out
    have kx14ey := hr13ey.c0
    have ky15ey := hr13ey.c1
    have kp16ey := hr13ey.f0
    have kq17ey := hr13ey.f1
    clear hr13ey
    go_wp2_with fail
    generalize (w.alloc (.cells #[.slice A n c, .slice A1 n1 c1] TD11)).alloc (.cells #[.slice none 0 0, .slice none 0 0] TD11) = wg18ey at *
    with_reducible refine (HU0.out wg18ey HB7ey.out).mono ?_
    rintro e w3 ⟨t, x, he, hyes, hno, hb⟩
    clear kx9ey ky10ey kp11ey kq12ey kx14ey ky15ey kp16ey kq17ey
    have Hd19ey := Lib.hid (Hd4ey.out.later hb)
    have Hr20ey := Lib.hid (Hr5ey.out.later hb)
    have HB21ey := Lib.hid (below_next HB7ey.out hb)
    clear hb
    obtain ⟨ht, hx⟩ := hyes rfl
    obtain ⟨xh, xm, xd, xa, xg, xc⟩ := x
    obtain ⟨xl, hxl⟩ : ∃ l, l = xg.length := ⟨_, rfl⟩
    have he' : e = .returned (.tuple #[.agg #[.string s, .string xh, .string xm, .bool xd, .slice xa xl xc], .int .i64 0]) := by
     rw [he, ht, hxl]; rfl
    subst he'
    have HXx := Lib.hid hx
    have HLx := Lib.hid hxl
    clear he hyes hno ht hx hxl
    have HLT22ey := Lib.hid (Hd19ey.out.lt)
    have HLT23ey := Lib.hid (Hr20ey.out.lt)
    have Hd24ey := Lib.hid (Hd19ey.out.later (below_alloc (Below.refl _ _) (.cells #[.string s, .string xh, .string xm, .bool xd, .slice xa xl xc] 37)))
    have Hr25ey := Lib.hid (Hr20ey.out.later (below_alloc (Below.refl _ _) (.cells #[.string s, .string xh, .string xm, .bool xd, .slice xa xl xc] 37)))
    have Hu26ey : Hid (Blk5 (w3.alloc (.cells #[.string s, .string xh, .string xm, .bool xd, .slice xa xl xc] 37)) (w3.heap.size) (.string s) (.string xh) (.string xm) (.bool xd) (.slice xa xl xc)) := heap_alloc_new w3 _
    have HLO27ey : Hid (w.heap.size ≤ w3.heap.size) := by have := HB21ey.out.size; show _ ≤ _; exact this
    have HB28ey := Lib.hid (below_next HB21ey.out (below_alloc (Below.refl _ _) (.cells #[.string s, .string xh, .string xm, .bool xd, .slice xa xl xc] 37)))
    have hd29ey := Hd24ey.out
    have kx30ey := hd29ey.c0
    have ky31ey := hd29ey.c1
    have kp32ey := hd29ey.f0
    have kq33ey := hd29ey.f1
    clear hd29ey
    have hr34ey := Hr25ey.out
    have kx35ey := hr34ey.c0
    have ky36ey := hr34ey.c1
    have kp37ey := hr34ey.f0
    have kq38ey := hr34ey.f1
    clear hr34ey
    have hu39ey := Hu26ey.out
    have kf40ey := hu39ey.free
    have kc41ey : _ = some (.string s : Value) := hu39ey.at_ 0
    have kc42ey : _ = some (.string xh : Value) := hu39ey.at_ 1
    have kc43ey : _ = some (.string xm : Value) := hu39ey.at_ 2
    have kc44ey : _ = some (.bool xd : Value) := hu39ey.at_ 3
    have kc45ey : _ = some (.slice xa xl xc : Value) := hu39ey.at_ 4
    clear hu39ey
    go_wp2_with fail
    generalize w3.alloc (.cells #[.string s, .string xh, .string xm, .bool xd, .slice xa xl xc] 37) = wg46ey at *
    with_reducible refine (HM0.out _).mono ?_
    rintro e w4 ⟨rfl, qd, hwd⟩
    have hb : Below wg46ey.heap.size wg46ey w4 := by rw [hwd]; exact below_drewN (Below.refl _ _) _
    clear hwd
    clear kx30ey ky31ey kp32ey kq33ey kx35ey ky36ey kp37ey kq38ey kf40ey kc41ey kc42ey kc43ey kc44ey kc45ey
    have Hd47ey := Lib.hid (Hd24ey.out.later hb)
    have Hr48ey := Lib.hid (Hr25ey.out.later hb)
    have Hu49ey := Lib.hid (blk_later11 Hu26ey.out hb)
    have HB50ey := Lib.hid (below_next HB28ey.out hb)
    clear hb
    have hd51ey := Hd47ey.out
    have kx52ey := hd51ey.c0
    have ky53ey := hd51ey.c1
    have kp54ey := hd51ey.f0
    have kq55ey := hd51ey.f1
    clear hd51ey
    have hr56ey := Hr48ey.out
    have kx57ey := hr56ey.c0
    have ky58ey := hr56ey.c1
    have kp59ey := hr56ey.f0
    have kq60ey := hr56ey.f1
    clear hr56ey
    have hu61ey := Hu49ey.out
    have kf62ey := hu61ey.free
    have kc63ey : _ = some (.string s : Value) := hu61ey.at_ 0
    have kc64ey : _ = some (.string xh : Value) := hu61ey.at_ 1
    have kc65ey : _ = some (.string xm : Value) := hu61ey.at_ 2
    have kc66ey : _ = some (.bool xd : Value) := hu61ey.at_ 3
    have kc67ey : _ = some (.slice xa xl xc : Value) := hu61ey.at_ 4
    clear hu61ey
    go_wp2
    clear kx52ey ky53ey kp54ey kq55ey kx57ey ky58ey kp59ey kq60ey kf62ey kc63ey kc64ey kc65ey kc66ey kc67ey
    go_loopg [13, 43] n (fun gg _ s43 wr => ∃ k : Nat, k ≤ n ∧ n - k ≤ gg ∧ s43 = .int .i64 k ∧ Hid (Below w4.heap.size w4 wr) ∧ Hid (∀ j (h : j < R.length), j < k → ¬ (mt.data.toList ≠ [] ∧ R[j].2.ml.data.toList = mt.data.toList ∧ R[j].1 ≠ s.data.toList)))
    case atStart => exact ⟨0, Nat.zero_le _, by omega, rfl, Below.refl _ _, fun j _ hj => absurd hj (Nat.not_lt_zero _)⟩
    case round =>
     obtain ⟨k, hk, hg, rfl, HW, A0⟩ := hrel
     by_cases hlt : k < n
     ·
      have Hd68ey : Hid (Bx11 (wr) (w.heap.size) (.slice A n c) (.slice A1 n1 c1)) := Hd47ey.out.later HW.out
      have Hr69ey : Hid (Bx11 (wr) (w.heap.size + 1) (.slice none 0 0) (.slice none 0 0)) := Hr48ey.out.later HW.out
      have Hu70ey : Hid (Blk5 (wr) (w3.heap.size) (.string s) (.string xh) (.string xm) (.bool xd) (.slice xa xl xc)) := blk_later11 Hu49ey.out HW.out
      have HB71ey : Hid (Below w.heap.size w wr) := below_next HB50ey.out HW.out
      have hltz : (k : Int) < (n : Int) := by omega
      have hkl : k < R.length := by have := HLR.out; omega
      obtain ⟨g, rfl, kd0, kd1, kd2, kd3, kd4⟩ := (HUS.out.later HB71ey.out).at_ k hkl
      have HSTEP : Hid (¬ (mt.data.toList ≠ [] ∧ R[k].2.ml.data.toList = mt.data.toList ∧ R[k].1 ≠ s.data.toList) → ∀ j (h : j < R.length), j < k + 1 → ¬ (mt.data.toList ≠ [] ∧ R[j].2.ml.data.toList = mt.data.toList ∧ R[j].1 ≠ s.data.toList)) := fun hq j h hj => by
       by_cases e : j = k
       ·
        subst e; exact hq
       ·
        exact A0.out j h (by omega)
      have HNM : Hid ((tx10 R[k].1).data.toList = R[k].1) := tx10_list _
      have HBD : Hid (badU (plainR R) s.data.toList mt.data.toList = false → ¬ (mt.data.toList ≠ [] ∧ R[k].2.ml.data.toList = mt.data.toList ∧ R[k].1 ≠ s.data.toList)) := HBAD.out k hkl
      rw [← HNM.out] at HSTEP HBD
      generalize tx10 R[k].1 = kn at *
      generalize R[k].2 = kx at *
      obtain ⟨yh, ym, yd, ya, yg, yc⟩ := kx
      dsimp only at kd1 kd2 kd3 kd4 HSTEP HBD
      generalize yg.length = yl at *
      clear HNM A0
      have HLT72ey := Lib.hid (Hd68ey.out.lt)
      have HLT73ey := Lib.hid (Hr69ey.out.lt)
      have HLT74ey := Lib.hid (Hu70ey.out.lt)
      have Hd75ey := Lib.hid (Hd68ey.out.later (below_alloc (Below.refl _ _) (.cells #[.string kn, .string yh, .string ym, .bool yd, .slice ya yl yc] 37)))
      have Hr76ey := Lib.hid (Hr69ey.out.later (below_alloc (Below.refl _ _) (.cells #[.string kn, .string yh, .string ym, .bool yd, .slice ya yl yc] 37)))
      have Hu77ey := Lib.hid (blk_later11 Hu70ey.out (below_alloc (Below.refl _ _) (.cells #[.string kn, .string yh, .string ym, .bool yd, .slice ya yl yc] 37)))
      have Ht78ey : Hid (Blk5 (wr.alloc (.cells #[.string kn, .string yh, .string ym, .bool yd, .slice ya yl yc] 37)) (wr.heap.size) (.string kn) (.string yh) (.string ym) (.bool yd) (.slice ya yl yc)) := heap_alloc_new wr _
      have HLO79ey : Hid (w.heap.size ≤ wr.heap.size) := by have := HB71ey.out.size; show _ ≤ _; exact this
      have HB80ey := Lib.hid (below_next HB71ey.out (below_alloc (Below.refl _ _) (.cells #[.string kn, .string yh, .string ym, .bool yd, .slice ya yl yc] 37)))
      have hd81ey := Hd75ey.out
      have kx82ey := hd81ey.c0
      have ky83ey := hd81ey.c1
      have kp84ey := hd81ey.f0
      have kq85ey := hd81ey.f1
      clear hd81ey
      have hr86ey := Hr76ey.out
      have kx87ey := hr86ey.c0
      have ky88ey := hr86ey.c1
      have kp89ey := hr86ey.f0
      have kq90ey := hr86ey.f1
      clear hr86ey
      have hu91ey := Hu77ey.out
      have kf92ey := hu91ey.free
      have kc93ey : _ = some (.string s : Value) := hu91ey.at_ 0
      have kc94ey : _ = some (.string xh : Value) := hu91ey.at_ 1
      have kc95ey : _ = some (.string xm : Value) := hu91ey.at_ 2
      have kc96ey : _ = some (.bool xd : Value) := hu91ey.at_ 3
      have kc97ey : _ = some (.slice xa xl xc : Value) := hu91ey.at_ 4
      clear hu91ey
      have ht98ey := Ht78ey.out
      have kf99ey := ht98ey.free
      have kc100ey : _ = some (.string kn : Value) := ht98ey.at_ 0
      have kc101ey : _ = some (.string yh : Value) := ht98ey.at_ 1
      have kc102ey : _ = some (.string ym : Value) := ht98ey.at_ 2
      have kc103ey : _ = some (.bool yd : Value) := ht98ey.at_ 3
      have kc104ey : _ = some (.slice ya yl yc : Value) := ht98ey.at_ 4
      clear ht98ey
      by_cases q1 : mt.toList = []
      ·
       have q1b : mt.toList.isEmpty = true := by simpa using q1
       have HX := Lib.hid (HSTEP.out (fun h => h.1 (by rw [← ByteArray.toList_eq]; exact q1)))
       clear HSTEP HBD
       go_wp2
       go_roundg (n - (k + 1))
       case measure => omega
       case rel => exact ⟨k + 1, by omega, by omega, by go_num, below_next HW.out (below_alloc (Below.refl _ _) _), HX⟩
      have q1b : mt.toList.isEmpty = false := by simpa using q1
      by_cases q2 : ym.toList = mt.toList
      case neg =>
       have q2b : (ym.toList == mt.toList) = false := by simpa using q2
       have HX := Lib.hid (HSTEP.out (fun h => q2 (by rw [ByteArray.toList_eq, ByteArray.toList_eq]; exact h.2.1)))
       clear HSTEP HBD
       go_wp2
       go_roundg (n - (k + 1))
       case measure => omega
       case rel => exact ⟨k + 1, by omega, by omega, by go_num, below_next HW.out (below_alloc (Below.refl _ _) _), HX⟩
      have q2b : (ym.toList == mt.toList) = true := by simpa using q2
      by_cases q3 : kn.toList = s.toList
      ·
       have q3b : (kn.toList != s.toList) = false := by simpa using q3
       have q3c : (kn.toList == s.toList) = true := by simpa using q3
       have HX := Lib.hid (HSTEP.out (fun h => h.2.2 (by rw [← ByteArray.toList_eq, ← ByteArray.toList_eq]; exact q3)))
       clear HSTEP HBD
       go_wp2
       go_roundg (n - (k + 1))
       case measure => omega
       case rel => exact ⟨k + 1, by omega, by omega, by go_num, below_next HW.out (below_alloc (Below.refl _ _) _), HX⟩
      have q3b : (kn.toList != s.toList) = true := by simpa using q3
      have q3c : (kn.toList == s.toList) = false := by simpa using q3
      have hbad : badU (plainR R) s.data.toList mt.data.toList = true := by
       cases hq : badU (plainR R) s.data.toList mt.data.toList with
       | true => rfl
       | false => exact absurd ⟨(fun h => q1 (by rw [ByteArray.toList_eq]; exact h)), (by rw [← ByteArray.toList_eq, ← ByteArray.toList_eq]; exact q2), (fun h => q3 (by rw [ByteArray.toList_eq, ByteArray.toList_eq]; exact h))⟩ (HBD.out hq)
      have e1 : E = 9 := by have := HE3.out; rw [hbad] at this; exact this
      have e2 : L' = plainR R := by have := HL3.out; rw [hbad] at this; exact this
      replace e1 := e1.symm
      subst e1
      clear HE3 HL3 hbad HBD HSTEP HPT0 HBAD HGOOD
      have hd105ey := Hd75ey.out
      have kx106ey := hd105ey.c0
      have ky107ey := hd105ey.c1
      have kp108ey := hd105ey.f0
      have kq109ey := hd105ey.f1
      clear hd105ey
      have hr110ey := Hr76ey.out
      have kx111ey := hr110ey.c0
      have ky112ey := hr110ey.c1
      have kp113ey := hr110ey.f0
      have kq114ey := hr110ey.f1
      clear hr110ey
      have hu115ey := Hu77ey.out
      have kf116ey := hu115ey.free
      have kc117ey : _ = some (.string s : Value) := hu115ey.at_ 0
      have kc118ey : _ = some (.string xh : Value) := hu115ey.at_ 1
      have kc119ey : _ = some (.string xm : Value) := hu115ey.at_ 2
      have kc120ey : _ = some (.bool xd : Value) := hu115ey.at_ 3
      have kc121ey : _ = some (.slice xa xl xc : Value) := hu115ey.at_ 4
      clear hu115ey
      have ht122ey := Ht78ey.out
      have kf123ey := ht122ey.free
      have kc124ey : _ = some (.string kn : Value) := ht122ey.at_ 0
      have kc125ey : _ = some (.string yh : Value) := ht122ey.at_ 1
      have kc126ey : _ = some (.string ym : Value) := ht122ey.at_ 2
      have kc127ey : _ = some (.bool yd : Value) := ht122ey.at_ 3
      have kc128ey : _ = some (.slice ya yl yc : Value) := ht122ey.at_ 4
      clear ht122ey
      have HS := fin211 HB80ey.out Hr76ey.out HLO6ey.out (.slice (some ⟨g, 0, none⟩) n c) (.slice A1 n1 c1)
      have z0 := HS.1.c0
      have z1 := HS.1.c1
      have HPOST := Lib.hid (show Doc11 9 L' N w (.returned (.tuple #[.agg #[.slice (some ⟨g, 0, none⟩) n c, .slice A1 n1 c1], .int .i64 9])) _ from ⟨R, _, _, rfl, HRC.out.later HS.2.1, e2.symm, HNN.out.later HS.2.1, HS.2.1⟩)
      clear HS
      go_wp2
      refine bodyPost_ret (v := .tuple #[.agg #[.slice (some ⟨g, 0, none⟩) n c, .slice A1 n1 c1], .int .i64 9]) ?_ rfl HPOST.out
      simp [results, Tryz.results36, go_sem, z0, z1]
     ·
      have hltz : ¬ (k : Int) < (n : Int) := by omega
      obtain rfl : k = n := by omega
      have Hd129ey : Hid (Bx11 (wr) (w.heap.size) (.slice A k c) (.slice A1 n1 c1)) := Hd47ey.out.later HW.out
      have Hr130ey : Hid (Bx11 (wr) (w.heap.size + 1) (.slice none 0 0) (.slice none 0 0)) := Hr48ey.out.later HW.out
      have Hu131ey : Hid (Blk5 (wr) (w3.heap.size) (.string s) (.string xh) (.string xm) (.bool xd) (.slice xa xl xc)) := blk_later11 Hu49ey.out HW.out
      have HB132ey : Hid (Below w.heap.size w wr) := below_next HB50ey.out HW.out
      have hbad : badU (plainR R) s.data.toList mt.data.toList = false := HGOOD.out (fun j h => A0.out j h (by have := HLR.out; omega))
      have e1 : E = 0 := by have := HE3.out; rw [hbad] at this; exact this
      have e2 : L' = putV (plainR R) s.data.toList (W11.u ⟨xh, mt, xd, xa, xg, xc⟩) := by
       have := HL3.out
       rw [hbad] at this
       rw [this]
       show setU _ _ _ = _
       unfold setU
       rw [plainR_get, HXx.out]
       rfl
      replace e1 := e1.symm
      subst e1
      have HE2 := Lib.hid e2
      clear HE3 HL3 hbad HBAD HGOOD A0 e2
      have hd133ey := Hd129ey.out
      have kx134ey := hd133ey.c0
      have ky135ey := hd133ey.c1
      have kp136ey := hd133ey.f0
      have kq137ey := hd133ey.f1
      clear hd133ey
      have hr138ey := Hr130ey.out
      have kx139ey := hr138ey.c0
      have ky140ey := hr138ey.c1
      have kp141ey := hr138ey.f0
      have kq142ey := hr138ey.f1
      clear hr138ey
      have hu143ey := Hu131ey.out
      have kf144ey := hu143ey.free
      have kc145ey : _ = some (.string s : Value) := hu143ey.at_ 0
      have kc146ey : _ = some (.string xh : Value) := hu143ey.at_ 1
      have kc147ey : _ = some (.string xm : Value) := hu143ey.at_ 2
      have kc148ey : _ = some (.bool xd : Value) := hu143ey.at_ 3
      have kc149ey : _ = some (.slice xa xl xc : Value) := hu143ey.at_ 4
      clear hu143ey
      have Hd150ey : Hid (Bx11 (wr.setCell ⟨w3.heap.size, 2, none⟩ (.string mt)) (w.heap.size) (.slice A k c) (.slice A1 n1 c1)) := Hd129ey.out.other (by have := HLT22ey.out; omega) _
      have Hr151ey : Hid (Bx11 (wr.setCell ⟨w3.heap.size, 2, none⟩ (.string mt)) (w.heap.size + 1) (.slice none 0 0) (.slice none 0 0)) := Hr130ey.out.other (by have := HLT23ey.out; omega) _
      have Hu152ey : Hid (Blk5 (wr.setCell ⟨w3.heap.size, 2, none⟩ (.string mt)) (w3.heap.size) (.string s) (.string xh) (.string mt) (.bool xd) (.slice xa xl xc)) := Hu131ey.out.put211 _
      have HB153ey : Hid (Below w.heap.size w (wr.setCell ⟨w3.heap.size, 2, none⟩ (.string mt))) := HB132ey.out.setCell (p := ⟨w3.heap.size, 2, none⟩) HLO27ey.out _
      have HPT : Hid (∀ W, Below w.heap.size w W → Calls Tryz.prog 90 #[.agg #[.slice A k c, .slice A1 n1 c1], .agg #[.string s, .string xh, .string mt, .bool xd, .slice xa xl xc]] W fun e w' => ∃ v', e = .returned (.agg #[v', .slice A1 n1 c1]) ∧ Rw11 (putV R s.data.toList ⟨xh, mt, xd, xa, xg, xc⟩) w' v' ∧ Below W.heap.size W w') := fun W hb => by
       have := HPT0.out ⟨xh, mt, xd, xa, xg, xc⟩ W hb
       unfold uval11 at this
       dsimp only at this
       rw [← HLx.out] at this
       exact this
      clear HPT0
      have hd154ey := Hd150ey.out
      have kx155ey := hd154ey.c0
      have ky156ey := hd154ey.c1
      have kp157ey := hd154ey.f0
      have kq158ey := hd154ey.f1
      clear hd154ey
      have hr159ey := Hr151ey.out
      have kx160ey := hr159ey.c0
      have ky161ey := hr159ey.c1
      have kp162ey := hr159ey.f0
      have kq163ey := hr159ey.f1
      clear hr159ey
      have hu164ey := Hu152ey.out
      have kf165ey := hu164ey.free
      have kc166ey : _ = some (.string s : Value) := hu164ey.at_ 0
      have kc167ey : _ = some (.string xh : Value) := hu164ey.at_ 1
      have kc168ey : _ = some (.string mt : Value) := hu164ey.at_ 2
      have kc169ey : _ = some (.bool xd : Value) := hu164ey.at_ 3
      have kc170ey : _ = some (.slice xa xl xc : Value) := hu164ey.at_ 4
      clear hu164ey
      go_wp2_with fail
      generalize wr.setCell ⟨w3.heap.size, 2, none⟩ (.string mt) = wg171ey at *
      with_reducible refine (HPT.out wg171ey HB153ey.out).mono ?_
      rintro e w6 ⟨v5, rfl, hp, hb⟩
      clear kx134ey ky135ey kp136ey kq137ey kx139ey ky140ey kp141ey kq142ey kf144ey kc145ey kc146ey kc147ey kc148ey kc149ey kx155ey ky156ey kp157ey kq158ey kx160ey ky161ey kp162ey kq163ey kf165ey kc166ey kc167ey kc168ey kc169ey kc170ey
      have Hd172ey := Lib.hid (Hd150ey.out.later hb)
      have Hr173ey := Lib.hid (Hr151ey.out.later hb)
      have Hu174ey := Lib.hid (blk_later11 Hu152ey.out hb)
      have HB175ey := Lib.hid (below_next HB153ey.out hb)
      obtain ⟨A5, c5, rfl⟩ := hp.us.shape
      have HP := Lib.hid hp
      clear hp
      obtain ⟨n5, hn5⟩ : ∃ m, m = (putV R s.data.toList (⟨xh, mt, xd, xa, xg, xc⟩ : W11)).length := ⟨_, rfl⟩
      rw [← hn5] at HP ⊢
      clear hn5
      clear hb
      have HG5 : Hid (Gs11 0 w6 (putV R s.data.toList ⟨xh, mt, xd, xa, xg, xc⟩)) := ((HRC.out.later HB175ey.out).2).put _ _ ((HRC.out.later HB175ey.out).2 (s.data.toList, ⟨xh, xm, xd, xa, xg, xc⟩) ((getV_some HRI.out).1 HXx.out))
      have HPL : Hid (plainR (putV R s.data.toList ⟨xh, mt, xd, xa, xg, xc⟩) = L') := by
       show _ = _
       rw [HE2.out, plainR_put]
      have hd176ey := Hd172ey.out
      have kx177ey := hd176ey.c0
      have ky178ey := hd176ey.c1
      have kp179ey := hd176ey.f0
      have kq180ey := hd176ey.f1
      clear hd176ey
      have hr181ey := Hr173ey.out
      have kx182ey := hr181ey.c0
      have ky183ey := hr181ey.c1
      have kp184ey := hr181ey.f0
      have kq185ey := hr181ey.f1
      clear hr181ey
      have hu186ey := Hu174ey.out
      have kf187ey := hu186ey.free
      have kc188ey : _ = some (.string s : Value) := hu186ey.at_ 0
      have kc189ey : _ = some (.string xh : Value) := hu186ey.at_ 1
      have kc190ey : _ = some (.string mt : Value) := hu186ey.at_ 2
      have kc191ey : _ = some (.bool xd : Value) := hu186ey.at_ 3
      have kc192ey : _ = some (.slice xa xl xc : Value) := hu186ey.at_ 4
      clear hu186ey
      have HS := fin211 HB175ey.out Hr173ey.out HLO6ey.out (.slice A5 n5 c5) (.slice A1 n1 c1)
      have z0 := HS.1.c0
      have z1 := HS.1.c1
      have HPOST := Lib.hid (show Doc11 0 L' N w (.returned (.tuple #[.agg #[.slice A5 n5 c5, .slice A1 n1 c1], .int .i64 0])) _ from ⟨_, _, _, rfl, ⟨HP.out.keepD11 HS.2.2, HG5.out.keepD11 HS.2.2⟩, HPL.out, HNN.out.later HS.2.1, HS.2.1⟩)
      clear HS
      go_wp2
      refine bodyPost_ret (v := .tuple #[.agg #[.slice A5 n5 c5, .slice A1 n1 c1], .int .i64 0]) ?_ rfl HPOST.out
      simp [results, Tryz.results36, go_sem, z0, z1]
end Go.Proofs.YthlgmkfofebbfaaGreatDoor


namespace Go.Proofs.YthlgmkfofebbfaaGreatDoor
open Go.RowKit Go.Maps

theorem ownsRow_set11 {w : World} {b size n : Nat} {e : TypeId} {v : Value} {xs : List Value} (h : w.ownsRow b e size v n xs) {B : Nat} (hne : ∀ j, v.ownBlock = some j → j ≠ B) (i : Nat) (x : Value) : (w.setCell ⟨B, i, none⟩ x).ownsRow b e size v n xs := by
  refine ⟨h.1, ?_⟩
  rcases h.2 with hn | ⟨g, cap, cur, e1, h0, hg, hr⟩
  · exact .inl hn
  · exact .inr ⟨g, cap, cur, e1, h0, (Below.heap_setCell _ _ _ _ (hne g (by rw [e1]; rfl))).trans hg, hr⟩
theorem Gs11.set11 {w : World} {b B : Nat} {R : RowV W11} {a1 a2 a3 a4 a5 : Value} (h : Gs11 b w R) (hu : Blk5 w B a1 a2 a3 a4 a5) (i : Nat) (x : Value) : Gs11 b (w.setCell ⟨B, i, none⟩ x) R := fun p hp => ownsRow_set11 (h p hp) (fun j hj e => by
  subst e
  rcases (h p hp).2 with ⟨e1, _⟩ | ⟨g, cap, cur, e1, h0, hg, hr⟩
  · rw [e1] at hj; cases hj
  · rw [e1] at hj
    injection hj with hj
    subst hj
    rw [show w.heap[g]? = _ from hu] at hg
    injection hg with hg
    injection hg with _ h
    exact absurd h (by decide)) i x

set_option maxRecDepth 100000 in
set_option maxHeartbeats 8000000 in
theorem rmakeGroup11_calls (v vg : Value) (R : RowV W11) (N : List (List UInt8)) (g : ByteArray) (w : World) (hR : Rc11 0 R w v) (hN : NmR w vg N) (hN9 : N.length ≤ 900) (hg : g.size ≤ 1000) :
    Calls Tryz.prog 40 #[.agg #[v, vg], .string g] w (Doc11 (dmaE11 N g.data.toList) (plainR R) (dmaN11 N g.data.toList) w) := by
  have hzu := zerou11
  obtain ⟨i0, hi, hz0, hz1, hz2⟩ := info_parts infoUser11
  obtain ⟨A, c, rfl⟩ := hR.rw.us.shape
  obtain ⟨A1, c1, rfl⟩ := hN.shape
  have HMK : Hid (∀ W, Below w.heap.size w W → Calls Tryz.prog 95 #[.agg #[.slice A1 N.length c1, .slice none 0 0], .string g] W (Doc10 (dmaE11 N g.data.toList) (dmaN11 N g.data.toList) [] W)) := fun W hb => rmake10_calls _ _ N [] g W hN9 hg (hN.later hb) (MbR.nil W)
  have HRC := Lib.hid hR
  have HNN := Lib.hid hN
  clear hR hN
  obtain ⟨n, hlen⟩ : ∃ n, n = R.length := ⟨_, rfl⟩
  obtain ⟨n1, hlen1⟩ : ∃ n, n = N.length := ⟨_, rfl⟩
  have HLR := Lib.hid hlen
  rw [← hlen] at HRC ⊢
  rw [← hlen1] at HMK HNN ⊢
  clear hlen hlen1
  unfold Doc10 at HMK
  generalize dmaE11 N g.data.toList = E at *
  generalize dmaN11 N g.data.toList = N' at *
  have Hd1a : Hid (Bx11 (w.alloc (.cells #[.slice A n c, .slice A1 n1 c1] TD11)) (w.heap.size) (.slice A n c) (.slice A1 n1 c1)) := bx11_new w _ _
  have HLO2a : Hid (w.heap.size ≤ w.heap.size) := Nat.le_refl _
  have HB3a : Hid (Below w.heap.size w (w.alloc (.cells #[.slice A n c, .slice A1 n1 c1] TD11))) := below_alloc (Below.refl _ _) _
  have Hd4a := Lib.hid (Hd1a.out.later (below_alloc (Below.refl _ _) (.cells #[.slice none 0 0, .slice none 0 0] TD11)))
  have Hr5a : Hid (Bx11 ((w.alloc (.cells #[.slice A n c, .slice A1 n1 c1] TD11)).alloc (.cells #[.slice none 0 0, .slice none 0 0] TD11)) (w.heap.size + 1) (.slice none 0 0) (.slice none 0 0)) := by
    have hq : Bx11 ((w.alloc (.cells #[.slice A n c, .slice A1 n1 c1] TD11)).alloc (.cells #[.slice none 0 0, .slice none 0 0] TD11)) (w.alloc (.cells #[.slice A n c, .slice A1 n1 c1] TD11)).heap.size (.slice none 0 0) (.slice none 0 0) := bx11_new (w.alloc (.cells #[.slice A n c, .slice A1 n1 c1] TD11)) _ _
    simp only [World.size_alloc] at hq
    exact hq
  have HLO6a : Hid (w.heap.size ≤ w.heap.size + 1) := by have := HB3a.out.size; show _ ≤ _; simp at this; omega
  have HB7a := Lib.hid (below_next HB3a.out (below_alloc (Below.refl _ _) (.cells #[.slice none 0 0, .slice none 0 0] TD11)))
  go_enter Tryz.func40, Tryz.ntmps40
  have hd8a := Hd4a.out
  have kx9a := hd8a.c0
  have ky10a := hd8a.c1
  have kp11a := hd8a.f0
  have kq12a := hd8a.f1
  clear hd8a
  have hr13a := Hr5a.out
  have kx14a := hr13a.c0
  have ky15a := hr13a.c1
  have kp16a := hr13a.f0
  have kq17a := hr13a.f1
  clear hr13a
  go_wp2_with fail
  generalize (w.alloc (.cells #[.slice A n c, .slice A1 n1 c1] TD11)).alloc (.cells #[.slice none 0 0, .slice none 0 0] TD11) = wg18a at *
  with_reducible refine (HMK.out wg18a HB7a.out).mono ?_
  rintro e w3 ⟨u1, u2, rfl, hn1, hm1, hb⟩
  clear kx9a ky10a kp11a kq12a kx14a ky15a kp16a kq17a
  have Hd19a := Lib.hid (Hd4a.out.later hb)
  have Hr20a := Lib.hid (Hr5a.out.later hb)
  have HB21a := Lib.hid (below_next HB7a.out hb)
  have HN3 := Lib.hid hn1
  obtain ⟨A3, c3, rfl⟩ := hn1.shape
  obtain ⟨A4, c4, rfl⟩ := hm1.shape
  clear hn1 hm1 HMK
  obtain ⟨n3, hn3⟩ : ∃ m, m = N'.length := ⟨_, rfl⟩
  rw [← hn3] at HN3 ⊢
  have HNL := Lib.hid hn3
  clear hn3
  generalize ([] : List Who10).length = n4
  clear hb
  have HLT22a := Lib.hid (Hd19a.out.lt)
  have HLT23a := Lib.hid (Hr20a.out.lt)
  have Hd24a := Lib.hid (Hd19a.out.later (below_alloc (Below.refl _ _) (.cells #[.slice A3 n3 c3, .slice A4 n4 c4] 113)))
  have Hr25a := Lib.hid (Hr20a.out.later (below_alloc (Below.refl _ _) (.cells #[.slice A3 n3 c3, .slice A4 n4 c4] 113)))
  have Hg26a : Hid (Bx10 (w3.alloc (.cells #[.slice A3 n3 c3, .slice A4 n4 c4] 113)) (w3.heap.size) (.slice A3 n3 c3) (.slice A4 n4 c4)) := bx10_new w3 _ _
  have HLO27a : Hid (w.heap.size ≤ w3.heap.size) := by have := HB21a.out.size; show _ ≤ _; exact this
  have HB28a := Lib.hid (below_next HB21a.out (below_alloc (Below.refl _ _) (.cells #[.slice A3 n3 c3, .slice A4 n4 c4] 113)))
  have hd29a := Hd24a.out
  have kx30a := hd29a.c0
  have ky31a := hd29a.c1
  have kp32a := hd29a.f0
  have kq33a := hd29a.f1
  clear hd29a
  have hr34a := Hr25a.out
  have kx35a := hr34a.c0
  have ky36a := hr34a.c1
  have kp37a := hr34a.f0
  have kq38a := hr34a.f1
  clear hr34a
  have hg39a := Hg26a.out
  have kx40a := hg39a.c0
  have ky41a := hg39a.c1
  have kp42a := hg39a.f0
  have kq43a := hg39a.f1
  clear hg39a
  have Hd44a : Hid (Bx11 ((w3.alloc (.cells #[.slice A3 n3 c3, .slice A4 n4 c4] 113)).setCell ⟨w.heap.size, 1, none⟩ (.slice A3 n3 c3)) (w.heap.size) (.slice A n c) (.slice A3 n3 c3)) := Hd24a.out.set1 _
  have Hr45a : Hid (Bx11 ((w3.alloc (.cells #[.slice A3 n3 c3, .slice A4 n4 c4] 113)).setCell ⟨w.heap.size, 1, none⟩ (.slice A3 n3 c3)) (w.heap.size + 1) (.slice none 0 0) (.slice none 0 0)) := Hr25a.out.other (by omega) _
  have Hg46a : Hid (Bx10 ((w3.alloc (.cells #[.slice A3 n3 c3, .slice A4 n4 c4] 113)).setCell ⟨w.heap.size, 1, none⟩ (.slice A3 n3 c3)) (w3.heap.size) (.slice A3 n3 c3) (.slice A4 n4 c4)) := Hg26a.out.other (by have := HLT22a.out; omega) _
  have HB47a : Hid (Below w.heap.size w ((w3.alloc (.cells #[.slice A3 n3 c3, .slice A4 n4 c4] 113)).setCell ⟨w.heap.size, 1, none⟩ (.slice A3 n3 c3))) := HB28a.out.setCell (p := ⟨w.heap.size, 1, none⟩) HLO2a.out _
  have hd48a := Hd44a.out
  have kx49a := hd48a.c0
  have ky50a := hd48a.c1
  have kp51a := hd48a.f0
  have kq52a := hd48a.f1
  clear hd48a
  have hr53a := Hr45a.out
  have kx54a := hr53a.c0
  have ky55a := hr53a.c1
  have kp56a := hr53a.f0
  have kq57a := hr53a.f1
  clear hr53a
  have hg58a := Hg46a.out
  have kx59a := hg58a.c0
  have ky60a := hg58a.c1
  have kp61a := hg58a.f0
  have kq62a := hg58a.f1
  clear hg58a
  have HS := fin211 HB47a.out Hr45a.out HLO6a.out (.slice A n c) (.slice A3 n3 c3)
  have z0 := HS.1.c0
  have z1 := HS.1.c1
  have HPOST := Lib.hid (show Doc11 E (plainR R) N' w (.returned (.tuple #[.agg #[.slice A n c, .slice A3 n3 c3], .int .i64 E])) _ from ⟨R, _, _, rfl, HRC.out.later HS.2.1, rfl, ((HN3.out.later (below_alloc (Below.refl _ _) _)).keepD11 (Hd24a.out.keep 1 _)).keepD11 HS.2.2, HS.2.1⟩)
  clear HS
  go_wp2
  refine bodyPost_ret (v := .tuple #[.agg #[.slice A n c, .slice A3 n3 c3], .int .i64 E]) ?_ rfl HPOST.out
  simp [results, Tryz.results40, go_sem, z0, z1]

set_option maxRecDepth 100000 in
set_option maxHeartbeats 8000000 in
theorem rdropGroup11_calls (v vg : Value) (R : RowV W11) (N : List (List UInt8)) (g : ByteArray) (w : World) (hR : Rc11 0 R w v) (hN : NmR w vg N) (h12 : R.length ≤ 12) (hgl : ∀ p ∈ R, p.2.gs.length ≤ 12) (hN9 : N.length ≤ 900) (hg : g.size ≤ 1000) :
    Calls Tryz.prog 42 #[.agg #[v, vg], .string g] w (Doc11 (ddrE11 N g.data.toList) (ddrL11 (plainR R) N g.data.toList) (ddrN11 N g.data.toList) w) := by
  have hzu := zerou11
  obtain ⟨i0, hi, hz0, hz1, hz2⟩ := info_parts infoUser11
  obtain ⟨A, c, rfl⟩ := hR.rw.us.shape
  obtain ⟨A1, c1, rfl⟩ := hN.shape
  have HMK : Hid (∀ W, Below w.heap.size w W → Calls Tryz.prog 96 #[.agg #[.slice A1 N.length c1, .slice none 0 0], .string g] W (Doc10 (ddrE11 N g.data.toList) (ddrN11 N g.data.toList) [] W)) := fun W hb => by
    have h := rdrop10_calls _ _ N [] g W hN9 (by simp) hg (hN.later hb) (MbR.nil W)
    have e : ddrM N [] g.data.toList = [] := by unfold ddrM; split <;> rfl
    rw [e] at h
    exact h
  have HRC := Lib.hid hR
  have HNN := Lib.hid hN
  have HGL := Lib.hid hgl
  have HWO : Hid (∀ W p, p ∈ R → Below w.heap.size w W → Calls Tryz.prog 97 #[.slice p.2.ga p.2.gs.length p.2.gc, .string g] W fun e w' => ∃ v', e = .returned v' ∧ NmR w' v' (dropN p.2.gs g.data.toList) ∧ Below W.heap.size W w') := fun W p hp hb => rwithout11_calls _ p.2.gs g W (by have := hgl p hp; omega) ((hR.later hb).2 p hp)
  have HLQ : Hid (ddrL11 (plainR R) N g.data.toList = if ddrE11 N g.data.toList = 0 then dropU (plainR R) g.data.toList else plainR R) := rfl
  have HNQ : Hid (ddrN11 N g.data.toList = if ddrE11 N g.data.toList = 0 then dropN N g.data.toList else N) := rfl
  clear hgl
  clear hR hN
  obtain ⟨n, hlen⟩ : ∃ n, n = R.length := ⟨_, rfl⟩
  obtain ⟨n1, hlen1⟩ : ∃ n, n = N.length := ⟨_, rfl⟩
  have HLR := Lib.hid hlen
  rw [← hlen] at HRC h12 ⊢
  rw [← hlen1] at HMK HNN ⊢
  clear hlen hlen1
  unfold Doc10 at HMK
  generalize ddrE11 N g.data.toList = E at *
  generalize ddrN11 N g.data.toList = N' at *
  generalize ddrL11 (plainR R) N g.data.toList = L' at *
  by_cases h0 : E = 0
  case neg =>
    have q1 : (E != 0) = true := by simpa using h0
    have e2 : L' = plainR R := by rw [HLQ.out, if_neg h0]
    have e3 : N' = N := by rw [HNQ.out, if_neg h0]
    clear HLQ HNQ HWO HGL
    have Hd1a : Hid (Bx11 (w.alloc (.cells #[.slice A n c, .slice A1 n1 c1] TD11)) (w.heap.size) (.slice A n c) (.slice A1 n1 c1)) := bx11_new w _ _
    have HLO2a : Hid (w.heap.size ≤ w.heap.size) := Nat.le_refl _
    have HB3a : Hid (Below w.heap.size w (w.alloc (.cells #[.slice A n c, .slice A1 n1 c1] TD11))) := below_alloc (Below.refl _ _) _
    have Hd4a := Lib.hid (Hd1a.out.later (below_alloc (Below.refl _ _) (.cells #[.slice none 0 0, .slice none 0 0] TD11)))
    have Hr5a : Hid (Bx11 ((w.alloc (.cells #[.slice A n c, .slice A1 n1 c1] TD11)).alloc (.cells #[.slice none 0 0, .slice none 0 0] TD11)) (w.heap.size + 1) (.slice none 0 0) (.slice none 0 0)) := by
      have hq : Bx11 ((w.alloc (.cells #[.slice A n c, .slice A1 n1 c1] TD11)).alloc (.cells #[.slice none 0 0, .slice none 0 0] TD11)) (w.alloc (.cells #[.slice A n c, .slice A1 n1 c1] TD11)).heap.size (.slice none 0 0) (.slice none 0 0) := bx11_new (w.alloc (.cells #[.slice A n c, .slice A1 n1 c1] TD11)) _ _
      simp only [World.size_alloc] at hq
      exact hq
    have HLO6a : Hid (w.heap.size ≤ w.heap.size + 1) := by have := HB3a.out.size; show _ ≤ _; simp at this; omega
    have HB7a := Lib.hid (below_next HB3a.out (below_alloc (Below.refl _ _) (.cells #[.slice none 0 0, .slice none 0 0] TD11)))
    go_enter Tryz.func42, Tryz.ntmps42
    have hd8a := Hd4a.out
    have kx9a := hd8a.c0
    have ky10a := hd8a.c1
    have kp11a := hd8a.f0
    have kq12a := hd8a.f1
    clear hd8a
    have hr13a := Hr5a.out
    have kx14a := hr13a.c0
    have ky15a := hr13a.c1
    have kp16a := hr13a.f0
    have kq17a := hr13a.f1
    clear hr13a
    go_wp2_with fail
    generalize (w.alloc (.cells #[.slice A n c, .slice A1 n1 c1] TD11)).alloc (.cells #[.slice none 0 0, .slice none 0 0] TD11) = wg18a at *
    with_reducible refine (HMK.out wg18a HB7a.out).mono ?_
    rintro e w3 ⟨u1, u2, rfl, hn1, hm1, hb⟩
    clear kx9a ky10a kp11a kq12a kx14a ky15a kp16a kq17a
    have Hd19a := Lib.hid (Hd4a.out.later hb)
    have Hr20a := Lib.hid (Hr5a.out.later hb)
    have HB21a := Lib.hid (below_next HB7a.out hb)
    have HN3 := Lib.hid hn1
    obtain ⟨A3, c3, rfl⟩ := hn1.shape
    obtain ⟨A4, c4, rfl⟩ := hm1.shape
    clear hn1 hm1 HMK
    obtain ⟨n3, hn3⟩ : ∃ m, m = N'.length := ⟨_, rfl⟩
    rw [← hn3] at HN3 ⊢
    have HNL := Lib.hid hn3
    clear hn3
    generalize ([] : List Who10).length = n4
    clear hb
    have HLT22a := Lib.hid (Hd19a.out.lt)
    have HLT23a := Lib.hid (Hr20a.out.lt)
    have Hd24a := Lib.hid (Hd19a.out.later (below_alloc (Below.refl _ _) (.cells #[.slice A3 n3 c3, .slice A4 n4 c4] 113)))
    have Hr25a := Lib.hid (Hr20a.out.later (below_alloc (Below.refl _ _) (.cells #[.slice A3 n3 c3, .slice A4 n4 c4] 113)))
    have Hg26a : Hid (Bx10 (w3.alloc (.cells #[.slice A3 n3 c3, .slice A4 n4 c4] 113)) (w3.heap.size) (.slice A3 n3 c3) (.slice A4 n4 c4)) := bx10_new w3 _ _
    have HLO27a : Hid (w.heap.size ≤ w3.heap.size) := by have := HB21a.out.size; show _ ≤ _; exact this
    have HB28a := Lib.hid (below_next HB21a.out (below_alloc (Below.refl _ _) (.cells #[.slice A3 n3 c3, .slice A4 n4 c4] 113)))
    have hd29a := Hd24a.out
    have kx30a := hd29a.c0
    have ky31a := hd29a.c1
    have kp32a := hd29a.f0
    have kq33a := hd29a.f1
    clear hd29a
    have hr34a := Hr25a.out
    have kx35a := hr34a.c0
    have ky36a := hr34a.c1
    have kp37a := hr34a.f0
    have kq38a := hr34a.f1
    clear hr34a
    have hg39a := Hg26a.out
    have kx40a := hg39a.c0
    have ky41a := hg39a.c1
    have kp42a := hg39a.f0
    have kq43a := hg39a.f1
    clear hg39a
    have HS := fin211 HB28a.out Hr25a.out HLO6a.out (.slice A n c) (.slice A1 n1 c1)
    have z0 := HS.1.c0
    have z1 := HS.1.c1
    have HPOST := Lib.hid (show Doc11 E L' N' w (.returned (.tuple #[.agg #[.slice A n c, .slice A1 n1 c1], .int .i64 E])) _ from ⟨R, _, _, rfl, HRC.out.later HS.2.1, e2.symm, by rw [e3]; exact HNN.out.later HS.2.1, HS.2.1⟩)
    clear HS
    go_wp2
    refine bodyPost_ret (v := .tuple #[.agg #[.slice A n c, .slice A1 n1 c1], .int .i64 E]) ?_ rfl HPOST.out
    simp [results, Tryz.results42, go_sem, z0, z1]
  have Hd1b : Hid (Bx11 (w.alloc (.cells #[.slice A n c, .slice A1 n1 c1] TD11)) (w.heap.size) (.slice A n c) (.slice A1 n1 c1)) := bx11_new w _ _
  have HLO2b : Hid (w.heap.size ≤ w.heap.size) := Nat.le_refl _
  have HB3b : Hid (Below w.heap.size w (w.alloc (.cells #[.slice A n c, .slice A1 n1 c1] TD11))) := below_alloc (Below.refl _ _) _
  have Hd4b := Lib.hid (Hd1b.out.later (below_alloc (Below.refl _ _) (.cells #[.slice none 0 0, .slice none 0 0] TD11)))
  have Hr5b : Hid (Bx11 ((w.alloc (.cells #[.slice A n c, .slice A1 n1 c1] TD11)).alloc (.cells #[.slice none 0 0, .slice none 0 0] TD11)) (w.heap.size + 1) (.slice none 0 0) (.slice none 0 0)) := by
    have hq : Bx11 ((w.alloc (.cells #[.slice A n c, .slice A1 n1 c1] TD11)).alloc (.cells #[.slice none 0 0, .slice none 0 0] TD11)) (w.alloc (.cells #[.slice A n c, .slice A1 n1 c1] TD11)).heap.size (.slice none 0 0) (.slice none 0 0) := bx11_new (w.alloc (.cells #[.slice A n c, .slice A1 n1 c1] TD11)) _ _
    simp only [World.size_alloc] at hq
    exact hq
  have HLO6b : Hid (w.heap.size ≤ w.heap.size + 1) := by have := HB3b.out.size; show _ ≤ _; simp at this; omega
  have HB7b := Lib.hid (below_next HB3b.out (below_alloc (Below.refl _ _) (.cells #[.slice none 0 0, .slice none 0 0] TD11)))
  go_enter Tryz.func42, Tryz.ntmps42
  have hd8b := Hd4b.out
  have kx9b := hd8b.c0
  have ky10b := hd8b.c1
  have kp11b := hd8b.f0
  have kq12b := hd8b.f1
  clear hd8b
  have hr13b := Hr5b.out
  have kx14b := hr13b.c0
  have ky15b := hr13b.c1
  have kp16b := hr13b.f0
  have kq17b := hr13b.f1
  clear hr13b
  go_wp2_with fail
  generalize (w.alloc (.cells #[.slice A n c, .slice A1 n1 c1] TD11)).alloc (.cells #[.slice none 0 0, .slice none 0 0] TD11) = wg18b at *
  with_reducible refine (HMK.out wg18b HB7b.out).mono ?_
  rintro e w3 ⟨u1, u2, rfl, hn1, hm1, hb⟩
  clear kx9b ky10b kp11b kq12b kx14b ky15b kp16b kq17b
  have Hd19b := Lib.hid (Hd4b.out.later hb)
  have Hr20b := Lib.hid (Hr5b.out.later hb)
  have HB21b := Lib.hid (below_next HB7b.out hb)
  have HN3 := Lib.hid hn1
  obtain ⟨A3, c3, rfl⟩ := hn1.shape
  obtain ⟨A4, c4, rfl⟩ := hm1.shape
  clear hn1 hm1 HMK
  obtain ⟨n3, hn3⟩ : ∃ m, m = N'.length := ⟨_, rfl⟩
  rw [← hn3] at HN3 ⊢
  have HNL := Lib.hid hn3
  clear hn3
  generalize ([] : List Who10).length = n4
  clear hb
  have HLT22b := Lib.hid (Hd19b.out.lt)
  have HLT23b := Lib.hid (Hr20b.out.lt)
  have Hd24b := Lib.hid (Hd19b.out.later (below_alloc (Below.refl _ _) (.cells #[.slice A3 n3 c3, .slice A4 n4 c4] 113)))
  have Hr25b := Lib.hid (Hr20b.out.later (below_alloc (Below.refl _ _) (.cells #[.slice A3 n3 c3, .slice A4 n4 c4] 113)))
  have Hg26b : Hid (Bx10 (w3.alloc (.cells #[.slice A3 n3 c3, .slice A4 n4 c4] 113)) (w3.heap.size) (.slice A3 n3 c3) (.slice A4 n4 c4)) := bx10_new w3 _ _
  have HLO27b : Hid (w.heap.size ≤ w3.heap.size) := by have := HB21b.out.size; show _ ≤ _; exact this
  have HB28b := Lib.hid (below_next HB21b.out (below_alloc (Below.refl _ _) (.cells #[.slice A3 n3 c3, .slice A4 n4 c4] 113)))
  have e2 : L' = dropU (plainR R) g.data.toList := by rw [HLQ.out, if_pos h0]
  have HE2 := Lib.hid e2
  subst h0
  clear HLQ HNQ e2
  have hd29b := Hd24b.out
  have kx30b := hd29b.c0
  have ky31b := hd29b.c1
  have kp32b := hd29b.f0
  have kq33b := hd29b.f1
  clear hd29b
  have hr34b := Hr25b.out
  have kx35b := hr34b.c0
  have ky36b := hr34b.c1
  have kp37b := hr34b.f0
  have kq38b := hr34b.f1
  clear hr34b
  have hg39b := Hg26b.out
  have kx40b := hg39b.c0
  have ky41b := hg39b.c1
  have kp42b := hg39b.f0
  have kq43b := hg39b.f1
  clear hg39b
  have Hd44b : Hid (Bx11 ((w3.alloc (.cells #[.slice A3 n3 c3, .slice A4 n4 c4] 113)).setCell ⟨w.heap.size, 1, none⟩ (.slice A3 n3 c3)) (w.heap.size) (.slice A n c) (.slice A3 n3 c3)) := Hd24b.out.set1 _
  have Hr45b : Hid (Bx11 ((w3.alloc (.cells #[.slice A3 n3 c3, .slice A4 n4 c4] 113)).setCell ⟨w.heap.size, 1, none⟩ (.slice A3 n3 c3)) (w.heap.size + 1) (.slice none 0 0) (.slice none 0 0)) := Hr25b.out.other (by omega) _
  have Hg46b : Hid (Bx10 ((w3.alloc (.cells #[.slice A3 n3 c3, .slice A4 n4 c4] 113)).setCell ⟨w.heap.size, 1, none⟩ (.slice A3 n3 c3)) (w3.heap.size) (.slice A3 n3 c3) (.slice A4 n4 c4)) := Hg26b.out.other (by have := HLT22b.out; omega) _
  have HB47b : Hid (Below w.heap.size w ((w3.alloc (.cells #[.slice A3 n3 c3, .slice A4 n4 c4] 113)).setCell ⟨w.heap.size, 1, none⟩ (.slice A3 n3 c3))) := HB28b.out.setCell (p := ⟨w.heap.size, 1, none⟩) HLO2b.out _
  have HN4 : Hid (NmR ((w3.alloc (.cells #[.slice A3 n3 c3, .slice A4 n4 c4] 113)).setCell ⟨w.heap.size, 1, none⟩ (.slice A3 n3 c3)) (.slice A3 n3 c3) N') := (HN3.out.later (below_alloc (Below.refl _ _) _)).keepD11 (Hd24b.out.keep 1 _)
  clear HN3
  have hd48b := Hd44b.out
  have kx49b := hd48b.c0
  have ky50b := hd48b.c1
  have kp51b := hd48b.f0
  have kq52b := hd48b.f1
  clear hd48b
  have hr53b := Hr45b.out
  have kx54b := hr53b.c0
  have ky55b := hr53b.c1
  have kp56b := hr53b.f0
  have kq57b := hr53b.f1
  clear hr53b
  have hg58b := Hg46b.out
  have kx59b := hg58b.c0
  have ky60b := hg58b.c1
  have kp61b := hg58b.f0
  have kq62b := hg58b.f1
  clear hg58b
  go_wp2
  generalize (w3.alloc (.cells #[.slice A3 n3 c3, .slice A4 n4 c4] 113)).setCell ⟨w.heap.size, 1, none⟩ (.slice A3 n3 c3) = wg at *
  clear kx30b ky31b kp32b kq33b kx35b ky36b kp37b kq38b kx40b ky41b kp42b kq43b kx49b ky50b kp51b kq52b kx54b ky55b kp56b kq57b kx59b ky60b kp61b kq62b
  have HUS := Lib.hid HRC.out.rw.us
  go_loopg [8, 10, 29] n (fun gg s8 _ s29 wr => ∃ k : Nat, k ≤ n ∧ n - k ≤ gg ∧ s29 = .int .i64 k ∧ Hid (Below wg.heap.size wg wr) ∧ ∃ Rk : RowV W11, Rk.length = k ∧ Hid (plainR Rk = (dropU (plainR R) g.data.toList).take k) ∧ Hid (wr.ownsRow wg.heap.size 37 5 s8 k (Rk.flatMap cu11)) ∧ Hid (Gs11 0 wr Rk))
  case atStart => exact ⟨0, Nat.zero_le _, by omega, rfl, Below.refl _ _, [], rfl, rfl, World.ownsRow_nil _ _ _ _, (fun _ h => nomatch h)⟩
  case round =>
    obtain ⟨k, hk, hgg, rfl, HW, Rk, hRl, HPL, HU, HGS⟩ := hrel
    by_cases hlt : k < n
    · have hltz : (k : Int) < (n : Int) := by omega
      have hkl : k < R.length := by have := HLR.out; omega
      have hbw := below_next HB47b.out HW.out
      obtain ⟨ga, rfl, c0, c1', c2, c3', c4'⟩ := (HUS.out.later hbw).at_ k hkl
      have HWK := Lib.hid (HWO.out)
      have hmem : R[k] ∈ R := List.getElem_mem hkl
      have HWK2 : Hid (∀ W, Below w.heap.size w W → Calls Tryz.prog 97 #[.slice R[k].2.ga R[k].2.gs.length R[k].2.gc, .string g] W fun e w' => ∃ v', e = .returned v' ∧ NmR w' v' (dropN R[k].2.gs g.data.toList) ∧ Below W.heap.size W w') := fun W hb => HWO.out W R[k] hmem hb
      have HTT : Hid ((dropU (plainR R) g.data.toList).take (k + 1) = (dropU (plainR R) g.data.toList).take k ++ [(R[k].1, { R[k].2.u with gs := dropN R[k].2.gs g.data.toList })]) := by
        have hkt : k < (dropU (plainR R) g.data.toList).length := by unfold dropU; rw [List.length_map, plainR_len]; exact hkl
        show _ = _
        rw [List.take_succ_eq_append_getElem hkt]
        congr 1
        simp [dropU, plainR, W11.u]
      have HNM : Hid ((tx10 R[k].1).data.toList = R[k].1) := tx10_list _
      have HTX : Hid (.string (tx10 R[k].1) = (.string (tx10 R[k].1) : Value)) := rfl
      clear HWK hmem
      generalize hkx : R[k].2 = kx at *
      generalize hkn : R[k].1 = kn at *
      generalize hks : tx10 kn = ks at *
      have HKS := Lib.hid hks
      obtain ⟨yh, ym, yd, ya, yg, yc⟩ := kx
      dsimp only at c1' c2 c3' c4' HWK2 HTT
      generalize hyl : yg.length = yl at *
      clear hkx hkn hks hyl HTX
      have HB1 := Lib.hid hbw
      have HURL : Hid (∀ j, Value.ownBlock u8 = some j → j < wr.heap.size) := fun j hj => (HU.out.lt j hj).2
      clear hbw
      have Hu63b : Hid (Blk5 (wr.alloc (.cells #[.string ks, .string yh, .string ym, .bool yd, .slice ya yl yc] 37)) (wr.heap.size) (.string ks) (.string yh) (.string ym) (.bool yd) (.slice ya yl yc)) := heap_alloc_new wr _
      have HLO64b : Hid (w.heap.size ≤ wr.heap.size) := by have := HB1.out.size; show _ ≤ _; exact this
      have HB65b := Lib.hid (below_next HB1.out (below_alloc (Below.refl _ _) (.cells #[.string ks, .string yh, .string ym, .bool yd, .slice ya yl yc] 37)))
      have HBQ : Hid (Below wr.heap.size wr (wr.alloc (.cells #[.string ks, .string yh, .string ym, .bool yd, .slice ya yl yc] 37))) := below_alloc (Below.refl _ _) _
      have hu66b := Hu63b.out
      have kf67b := hu66b.free
      have kc68b : _ = some (.string ks : Value) := hu66b.at_ 0
      have kc69b : _ = some (.string yh : Value) := hu66b.at_ 1
      have kc70b : _ = some (.string ym : Value) := hu66b.at_ 2
      have kc71b : _ = some (.bool yd : Value) := hu66b.at_ 3
      have kc72b : _ = some (.slice ya yl yc : Value) := hu66b.at_ 4
      clear hu66b
      go_wp2_with fail
      generalize wr.alloc (.cells #[.string ks, .string yh, .string ym, .bool yd, .slice ya yl yc] 37) = wg73b at *
      with_reducible refine (HWK2.out wg73b HB65b.out).mono ?_
      rintro e w5 ⟨v5, rfl, hv5, hb⟩
      clear kf67b kc68b kc69b kc70b kc71b kc72b
      have Hu74b := Lib.hid (blk_later11 Hu63b.out hb)
      have HB75b := Lib.hid (below_next HB65b.out hb)
      have HB5 := Lib.hid (below_next HBQ.out hb)
      have HV5 := Lib.hid hv5
      obtain ⟨A5, c5, rfl⟩ := hv5.shape
      clear hv5
      obtain ⟨zg, hzg⟩ : ∃ z, z = dropN yg g.data.toList := ⟨_, rfl⟩
      rw [← hzg] at HV5 ⊢
      have HZG := Lib.hid hzg
      obtain ⟨zl, hzl⟩ : ∃ z, z = zg.length := ⟨_, rfl⟩
      rw [← hzl] at HV5 ⊢
      have HZL := Lib.hid hzl
      clear hzg hzl
      clear hb
      have hu76b := Hu74b.out
      have kf77b := hu76b.free
      have kc78b : _ = some (.string ks : Value) := hu76b.at_ 0
      have kc79b : _ = some (.string yh : Value) := hu76b.at_ 1
      have kc80b : _ = some (.string ym : Value) := hu76b.at_ 2
      have kc81b : _ = some (.bool yd : Value) := hu76b.at_ 3
      have kc82b : _ = some (.slice ya yl yc : Value) := hu76b.at_ 4
      clear hu76b
      have HU6 : Hid ((w5.setCell ⟨wr.heap.size, 4, none⟩ (.slice A5 zl c5)).ownsRow wg.heap.size 37 5 u8 k (Rk.flatMap cu11)) := ownsRow_set11 (ownsRow_below11 HU.out HB5.out) (fun j hj => Nat.ne_of_lt (HURL.out j hj)) _ _
      have HG6 : Hid (Gs11 0 (w5.setCell ⟨wr.heap.size, 4, none⟩ (.slice A5 zl c5)) Rk) := (HGS.out.later HB5.out).set11 Hu74b.out _ _
      have HV6 : Hid (NmR (w5.setCell ⟨wr.heap.size, 4, none⟩ (.slice A5 zl c5)) (.slice A5 zl c5) zg) := nmr_set11 HV5.out Hu74b.out _ _
      have HB6 : Hid (Below wr.heap.size wr (w5.setCell ⟨wr.heap.size, 4, none⟩ (.slice A5 zl c5))) := HB5.out.setCell (p := ⟨wr.heap.size, 4, none⟩) (Nat.le_refl _) _
      have hk12 : k ≤ 12 := by omega
      have hu83b := Hu74b.out
      have kf84b := hu83b.free
      have kc85b : _ = some (.string ks : Value) := hu83b.at_ 0
      have kc86b : _ = some (.string yh : Value) := hu83b.at_ 1
      have kc87b : _ = some (.string ym : Value) := hu83b.at_ 2
      have kc88b : _ = some (.bool yd : Value) := hu83b.at_ 3
      have kc89b : _ = some (.slice ya yl yc : Value) := hu83b.at_ 4
      clear hu83b
      have Hu90b : Hid (Blk5 (w5.setCell ⟨wr.heap.size, 4, none⟩ (.slice A5 zl c5)) (wr.heap.size) (.string ks) (.string yh) (.string ym) (.bool yd) (.slice A5 zl c5)) := Hu74b.out.put411 _
      have HB91b : Hid (Below w.heap.size w (w5.setCell ⟨wr.heap.size, 4, none⟩ (.slice A5 zl c5))) := HB75b.out.setCell (p := ⟨wr.heap.size, 4, none⟩) HLO64b.out _
      have hu92b := Hu90b.out
      have kf93b := hu92b.free
      have kc94b : _ = some (.string ks : Value) := hu92b.at_ 0
      have kc95b : _ = some (.string yh : Value) := hu92b.at_ 1
      have kc96b : _ = some (.string ym : Value) := hu92b.at_ 2
      have kc97b : _ = some (.bool yd : Value) := hu92b.at_ 3
      have kc98b : _ = some (.slice A5 zl c5 : Value) := hu92b.at_ 4
      clear hu92b
      go_wp2_with (first
        | (at_builtin; refine wpList_append_own _ rfl _ _ 27 rfl wg.heap.size 37 i0 (.agg #[.string ⟨#[]⟩, .string ⟨#[]⟩, .string ⟨#[]⟩, .bool false, .slice none 0 0]) 5 80 Tryz.underlying27 hi hz0 hz1 hz2 rfl (by decide) _ _ _ rfl (HU6.out.alloc _) ⟨w5.heap.size, 0, none⟩ 1 1 [.string ks, .string yh, .string ym, .bool yd, .slice A5 zl c5] rfl (by first | rfl | simp)
            (fun j u hu => by rw [Addr.add_lit, Nat.zero_add, World.cell?_alloc_at _ _ _ _ (by first | rfl | simp)]; simpa using hu) (by simp [Value.oneCell']) (by unfold maxLen; omega) (by omega) (by have := HB6.out.size; have := HW.out.size; simp at *; omega) ?_
           intro v' w7 hown' hgrow _
           have HO := Lib.hid hown'
           have HGW := Lib.hid hgrow
           clear hown' hgrow)
        | fail)
      have HBG : Hid (Below wg.heap.size wg (w5.setCell ⟨wr.heap.size, 4, none⟩ (.slice A5 zl c5))) := below_next HW.out HB6.out
      go_roundg (n - (k + 1))
      case measure => omega
      case rel =>
        refine ⟨k + 1, by omega, by omega, by go_num, (show Hid _ from ?_), Rk ++ [(kn, ⟨yh, ym, yd, A5, zg, c5⟩)], by rw [List.length_append, hRl]; rfl, (show Hid _ from ?_), (show Hid _ from ?_), (show Hid _ from ?_)⟩
        · exact (below_next HBG.out (below_alloc (Below.refl _ _) _)).grown HGW.out (by have := HBG.out.size; simp at *; omega) (fun j hj => (HU6.out.lt j hj).1)
        · show plainR _ = _
          rw [HTT.out, ← HPL.out]
          unfold plainR
          rw [List.map_append]
          show _ ++ [(kn, W11.u ⟨yh, ym, yd, A5, zg, c5⟩)] = _
          unfold W11.u
          rw [HZG.out]
        · rw [List.flatMap_append]
          have ho := HO.out
          have e : [(kn, (⟨yh, ym, yd, A5, zg, c5⟩ : W11))].flatMap cu11 = [.string ks, .string yh, .string ym, .bool yd, .slice A5 zl c5] := by
            simp [cu11, HKS.out, HZL.out]
          rw [e]
          exact ho
        · intro p hp
          rcases List.mem_append.1 hp with hp | hp
          · have h := HG6.out p hp
            exact (h.alloc _).kept HGW.out (rows_apart11 h HU6.out (by decide))
          · obtain rfl := List.mem_singleton.1 hp
            have h := HV6.out
            show World.ownsRow _ _ _ _ (.slice A5 zg.length c5) zg.length (zg.map encStr)
            unfold NmR at h
            rw [← HZL.out] at h ⊢
            exact (h.alloc _).kept HGW.out (rows_apart11 h HU6.out (by decide))
    · have hltz : ¬ (k : Int) < (n : Int) := by omega
      obtain rfl : k = n := by omega
      have Hd63b : Hid (Bx11 (wr) (w.heap.size) (.slice A k c) (.slice A3 n3 c3)) := Hd44b.out.later HW.out
      have Hr64b : Hid (Bx11 (wr) (w.heap.size + 1) (.slice none 0 0) (.slice none 0 0)) := Hr45b.out.later HW.out
      have Hg65b : Hid (Bx10 (wr) (w3.heap.size) (.slice A3 n3 c3) (.slice A4 n4 c4)) := Hg46b.out.later HW.out
      have HB66b : Hid (Below w.heap.size w wr) := below_next HB47b.out HW.out
      have hu8 := HU.out
      rw [← hRl] at hu8
      have HRW : Hid (Rw11 Rk wr u8) := Rw11.of_own hu8
      obtain ⟨A8, c8, e8⟩ := HRW.out.us.shape
      rw [hRl] at e8
      subst e8
      clear hu8
      have HPL2 : Hid (plainR Rk = L') := by
        have := HPL.out
        rw [List.take_of_length_le (by unfold dropU; rw [List.length_map, plainR_len, ← HLR.out]; exact Nat.le_refl _)] at this
        show _ = _
        rw [this, HE2.out]
      have HN5 := Lib.hid (HN4.out.later HW.out)
      clear HPL HN4 HWO HGL HU
      have hd67b := Hd63b.out
      have kx68b := hd67b.c0
      have ky69b := hd67b.c1
      have kp70b := hd67b.f0
      have kq71b := hd67b.f1
      clear hd67b
      have hr72b := Hr64b.out
      have kx73b := hr72b.c0
      have ky74b := hr72b.c1
      have kp75b := hr72b.f0
      have kq76b := hr72b.f1
      clear hr72b
      have hg77b := Hg65b.out
      have kx78b := hg77b.c0
      have ky79b := hg77b.c1
      have kp80b := hg77b.f0
      have kq81b := hg77b.f1
      clear hg77b
      have Hd82b : Hid (Bx11 (wr.setCell ⟨w.heap.size, 0, none⟩ (.slice A8 k c8)) (w.heap.size) (.slice A8 k c8) (.slice A3 n3 c3)) := Hd63b.out.set0 _
      have Hr83b : Hid (Bx11 (wr.setCell ⟨w.heap.size, 0, none⟩ (.slice A8 k c8)) (w.heap.size + 1) (.slice none 0 0) (.slice none 0 0)) := Hr64b.out.other (by omega) _
      have Hg84b : Hid (Bx10 (wr.setCell ⟨w.heap.size, 0, none⟩ (.slice A8 k c8)) (w3.heap.size) (.slice A3 n3 c3) (.slice A4 n4 c4)) := Hg65b.out.other (by have := HLT22b.out; omega) _
      have HB85b : Hid (Below w.heap.size w (wr.setCell ⟨w.heap.size, 0, none⟩ (.slice A8 k c8))) := HB66b.out.setCell (p := ⟨w.heap.size, 0, none⟩) HLO2b.out _
      have hd86b := Hd82b.out
      have kx87b := hd86b.c0
      have ky88b := hd86b.c1
      have kp89b := hd86b.f0
      have kq90b := hd86b.f1
      clear hd86b
      have hr91b := Hr83b.out
      have kx92b := hr91b.c0
      have ky93b := hr91b.c1
      have kp94b := hr91b.f0
      have kq95b := hr91b.f1
      clear hr91b
      have hg96b := Hg84b.out
      have kx97b := hg96b.c0
      have ky98b := hg96b.c1
      have kp99b := hg96b.f0
      have kq100b := hg96b.f1
      clear hg96b
      have HS := fin211 HB85b.out Hr83b.out HLO6b.out (.slice A8 k c8) (.slice A3 n3 c3)
      have z0 := HS.1.c0
      have z1 := HS.1.c1
      have HKD2 : Hid (KeepD11 wr _) := (Hd63b.out.keep 0 _).trans HS.2.2
      have HPOST := Lib.hid (show Doc11 0 L' N' w (.returned (.tuple #[.agg #[.slice A8 k c8, .slice A3 n3 c3], .int .i64 0])) _ from ⟨Rk, _, _, rfl, ⟨HRW.out.keepD11 HKD2.out, HGS.out.keepD11 HKD2.out⟩, HPL2.out, HN5.out.keepD11 HKD2.out, HS.2.1⟩)
      clear HS
      go_wp2
      refine bodyPost_ret (v := .tuple #[.agg #[.slice A8 k c8, .slice A3 n3 c3], .int .i64 0]) ?_ rfl HPOST.out
      simp [results, Tryz.results42, go_sem, z0, z1]
end Go.Proofs.YthlgmkfofebbfaaGreatDoor


namespace Go.Proofs.YthlgmkfofebbfaaGreatDoor
open Go.RowKit Go.Maps

def Others11 (kd : Nat) (a b : List UInt8) (T T' : Usr11) : Prop := kd % 11 ≠ 6 → kd % 11 ≠ 7 → ∀ n, n ≠ (if 8 ≤ kd % 11 then b else a) → hasV T n = true → getV T' n = getV T n
section
variable {T : Usr11} {kd : Nat} {a b : List UInt8}
theorem get_setU11 (hr : RiseV T) {n x : List UInt8} (f : U11 → U11) (h : n ≠ x) : getV (setU T x f) n = getV T n := by
 unfold setU
 cases getV T x with
 | none => rfl
 | some u => show getV (putV T x (f u)) n = _; rw [get_put11 hr, if_neg h]
theorem oth_cr (hr : RiseV T) (h : kd % 11 = 0) : Others11 kd a b T (dcrL T a b) := fun _ _ n hn _ => by
 rw [h, if_neg (by decide)] at hn
 unfold dcrL
 split
 ·
  rw [get_put11 hr, if_neg hn]
 ·
  rfl
theorem oth_de (hr : RiseV T) (h : kd % 11 = 1) : Others11 kd a b T (ddeL T a) := fun _ _ n hn _ => by
 rw [h, if_neg (by decide)] at hn
 unfold ddeL
 split
 ·
  rw [get_del11 hr, if_neg hn]
 ·
  rfl
theorem oth_sh (hr : RiseV T) (h : kd % 11 = 2) : Others11 kd a b T (dshL T a b) := fun _ _ n hn _ => by
 rw [h, if_neg (by decide)] at hn
 unfold dshL
 split
 ·
  exact get_setU11 hr _ hn
 ·
  rfl
theorem oth_sm (hr : RiseV T) (h : kd % 11 = 3) : Others11 kd a b T (dsmL T a b) := fun _ _ n hn _ => by
 rw [h, if_neg (by decide)] at hn
 unfold dsmL
 split
 ·
  exact get_setU11 hr _ hn
 ·
  rfl
theorem oth_di (hr : RiseV T) (z : Bool) (h : kd % 11 = 4) : Others11 kd a b T (ddiL T a z) := fun _ _ n hn _ => by
 rw [h, if_neg (by decide)] at hn
 unfold ddiL
 split
 ·
  exact get_setU11 hr _ hn
 ·
  rfl
theorem oth_rn (hr : RiseV T) (h : kd % 11 = 5) : Others11 kd a b T (drnL T a b) := fun _ _ n hn hh => by
 rw [h, if_neg (by decide)] at hn
 unfold drnL
 split
 ·
  rename_i he
  have hb : hasV T b = false := (rnF_zero he).2.2.2
  have hnb : n ≠ b := fun e => by rw [e, hb] at hh; cases hh
  cases getV T a with
  | none => rfl
  | some u =>
   show getV (putV (delV T a) b u) n = _
   rw [get_put11 (riseV_del hr a), if_neg hnb, get_del11 hr, if_neg hn]
 ·
  rfl
theorem oth_jo (hr : RiseV T) (N : List (List UInt8)) (h : kd % 11 = 8) : Others11 kd a b T (djoL11 T N a b) := fun _ _ n hn _ => by
 rw [h, if_pos (by decide)] at hn
 unfold djoL11
 split
 ·
  exact get_setU11 hr _ hn
 ·
  rfl
theorem oth_le (hr : RiseV T) (N : List (List UInt8)) (h : kd % 11 = 9) : Others11 kd a b T (dleL11 T N a b) := fun _ _ n hn _ => by
 rw [h, if_pos (by decide)] at hn
 unfold dleL11
 split
 ·
  exact get_setU11 hr _ hn
 ·
  rfl
end
end Go.Proofs.YthlgmkfofebbfaaGreatDoor

