/-
  The texts that the laws of this seat share, part 10: what the code and the document's own answers tell, walked function by function.
  Conditions: each theorem's own.
-/
import Derived.Test.YtmcomnocpibiiaaGreatDoorFolBBI
set_option maxHeartbeats 16000000
namespace Go.Proofs.YtmcomnocpibiiaaGreatDoor
open Go.RowKit Go.Maps
set_option linter.unusedVariables false

def xL (W:World) (b:Nat) (kd:Nat) (x y:ByteArray) (z:Bool):Prop:=W.heap[b]? = some (.cells #[.int .u8 (kd:Int),.string x,.string y,.bool z] 32 (0,0))
section
variable {W W':World} {b kd:Nat} {x y:ByteArray} {z:Bool}
theorem xL.c0 (h:xL W b kd x y z):W.cell? ⟨b,0,none⟩=some (.int .u8 (kd:Int)):=by unfold xL at h; simp [World.cell?,h]
theorem xL.c1 (h:xL W b kd x y z):W.cell? ⟨b,1,none⟩=some (.string x):=by unfold xL at h; simp [World.cell?,h]
theorem xL.c2 (h:xL W b kd x y z):W.cell? ⟨b,2,none⟩=some (.string y):=by unfold xL at h; simp [World.cell?,h]
theorem xL.c3 (h:xL W b kd x y z):W.cell? ⟨b,3,none⟩=some (.bool z):=by unfold xL at h; simp [World.cell?,h]
theorem xL.q11 (h:xL W b kd x y z):W.cell? ⟨b,0,none⟩=some (.int .u8 (kd:Int))∧W.cell? ⟨b,1,none⟩=some (.string x)∧W.cell? ⟨b,2,none⟩=some (.string y)∧W.cell? ⟨b,3,none⟩=some (.bool z):=⟨h.c0,h.c1,h.c2,h.c3⟩
theorem xL.lt (h:xL W b kd x y z):b<W.heap.size:=(Array.getElem?_eq_some_iff.1 h).1
theorem xL.later (h:xL W b kd x y z) (hb:Below W.heap.size W W'):xL W' b kd x y z:=(hb.block b h.lt).trans h
theorem xL.other (h:xL W b kd x y z) {c i:Nat} (hne:b≠c) (v:Value):xL (W.setCell ⟨c,i,none⟩ v) b kd x y z:=(Below.heap_setCell _ _ _ _ hne).trans h
theorem act11_new (W:World) (kd:Nat) (x y:ByteArray) (z:Bool):xL (W.alloc (.cells #[.int .u8 (kd:Int),.string x,.string y,.bool z] 32)) W.heap.size kd x y z:=(MapKept.heap_alloc W _).1
end
theorem yn.keeps11 {W W':World} {b:Nat} {v1 v2:Value} (h:yn W b v1 v2) (hk:zr W W'):yn W' b v1 v2:=hk _ _ _ _ h (by decide) (by decide) (by decide)
theorem NmR.keeps11 {W W':World} {v:Value} {N:List (List UInt8)} (h:NmR W v N) (hk:zr W W'):NmR W' v N:=vm h hk (by decide) (by decide) (by decide)
theorem zr.cellN11 {w W:World} {c i:Nat} (h:zr w W) (hc:w.heap.size≤c) (x:Value):zr w (W.setCell ⟨c,i,none⟩ x):=fun j cs T fr hj h1 h2 h3=>by
 have hlt:=(Array.getElem?_eq_some_iff.1 hj).1
 exact (Below.heap_setCell _ _ _ _ (show j≠c by omega)).trans (h j cs T fr hj h1 h2 h3)
section
variable {w0 W:World} {D P M G:Nat} {A:zM} {L:zT} {S:zv} {k:Nat}
theorem zo.cell11 (h:zo w0 W D P M G A L S) {c i:Nat} {v1 v2:Value} (hc:yn W c v1 v2) (h0:w0.heap.size≤c) (x:Value):zo w0 (W.setCell ⟨c,i,none⟩ x) D P M G A L S:=by
 obtain ⟨p,q,LM,pg,T,hd,hS,h2,h3⟩:=h
 have ht:zm (fun j=>j=c) W (W.setCell ⟨c,i,none⟩ x):=(zm.refl (fun j=>j=c) W).setCell (p:=⟨c,i,none⟩) (fun _=>rfl) x
 refine ⟨p,q,LM,pg,T,⟨(ht.block D hd.lt (jn hd.blk hc (by decide))).trans hd.blk,hd.acc.kept (ht.block P hd.acc.lt (Y1 hd.acc hc)),hd.idx.turnsF ht (fun j hj e=>?_),hd.grp.turnsF ht (fun j hj e=>?_),hd.sep1,hd.sep2,hd.sep3⟩,hS,h2,h3.trans (ht.below_at h3.size (fun j e=>by omega))⟩
 ·
  subst e; exact fz hd.idx hc (by decide) hj
 ·
  subst e; exact fA hd.grp hc (by decide) hj
theorem FU (hg:zu A L S k) (n:List UInt8):uy (F0 A n) (JZ A L n) (JY A S n) (FV (ze A L S) n) (zb S) (k+1):=by
 unfold F0 JZ JY
 by_cases e:fD A n=0
 ·
  rw [if_pos e,if_pos e,if_pos e]; exact de_one hg n e
 ·
  rw [if_neg e,if_neg e,if_neg e]
  unfold FV
  rw [JX,if_neg e]
  exact ⟨hg.mono (Nat.le_succ _),rfl,rfl⟩
def uz (w0:World) (D P M G k:Nat) (W:World) (T0:yH) (kd:Nat) (a b:List UInt8) (e:Ending) (w':World):Prop :=
 ∃ A L S R v vg,e=.returned (.tuple #[.agg #[v,vg],.bool true])∧zo w0 w' D P M G A L S∧zu A L S (k+1)∧xV 0 R w' v∧NmR w' vg (zb S)∧zc R=ze A L S∧zr W w'∧yC kd a b T0 (ze A L S)
theorem yJ {R:zJ W11} (hg:zu A L S k) (hp:zc R=ze A L S):R.length≤12∧zB R∧(zb S).length≤900∧∀ p∈R,p.2.gs.length≤12:=by
 have hf:=hg.grp.few
 refine ⟨?_,Jt.1 (by rw [hp]; exact zP hg.rise),by rw [yz]; omega,fun p hpp=>?_⟩
 ·
  rw [← vE,hp,uF]; exact hg.few
 ·
  have h1:(p.1,p.2.u)∈zc R:=List.mem_map.2 ⟨p,hpp,rfl⟩
  rw [hp] at h1
  obtain ⟨q,_,e⟩:=List.mem_map.1 h1
  injection e with _ e
  have:p.2.gs=yW S q.1:=by
   have:=congrArg U11.gs e
   exact this.symm
  rw [this]
  have:=YA S q.1
  omega

set_option maxRecDepth 100000 in
theorem do11_0 (R:zJ W11) (v vg:Value) (kd:Nat) (a b:ByteArray) (z:Bool) (w:World) (ho:zo w0 w D P M G A L S) (hg:zu A L S k) (hk:k≤90) (h5:vX w0) (hR:xV 0 R w v) (hN:NmR w vg (zb S)) (hp:zc R=ze A L S) (ha:a.size≤50) (hb5:b.size≤50) (hkd:kd % 11=0) :
  Calls Tryz.prog 14 #[.pointer (some ⟨D,0,none⟩),.agg #[v,vg],.agg #[.int .u8 (kd:Int),.string a,.string b,.bool z]] w (uz w0 D P M G k w (ze A L S) kd a.data.toList b.data.toList):=by
 obtain ⟨f1,f2,f3,f4⟩:=yJ hg hp
 have HRF:Hid (∀ W',Below w.heap.size w W'→Calls Tryz.prog 45 #[.agg #[v,vg],.string a,.string b] W' (yt (ZL A a.data.toList b.data.toList) (dcrL (ze A L S) a.data.toList b.data.toList) (zb S) W')):=fun W' hb=>by
  have hR:=hR.later hb
  have hN:=hN.later hb
  have h:=ZF _ _ R _ a b W' hR hN f1 f2 (by omega) (by omega)
  rw [hp] at h
  have e:=(show _=ZL A a.data.toList b.data.toList from cr_same (A:=A) (L:=L) (S:=S) _ _)
  rwa [e] at h
 have HDO:Hid (∀ W',zo w0 W' D P M G A L S→Calls Tryz.prog 31 #[.pointer (some ⟨D,0,none⟩),.string a,.string b] W' fun e w'=>e=.returned (.int .i64 (ZL A a.data.toList b.data.toList))∧zE w0 W' D P M G (F5 A a.data.toList b.data.toList) (L) (S) w'):=fun W' ho=>jE a b ho hg (by omega) (by omega)
 have HONE:Hid (uy (F5 A a.data.toList b.data.toList) (L) (S) (dcrL (ze A L S) a.data.toList b.data.toList) (zb S) (k+1)):=cr_one hg _ _
 have HRT:Hid (zB (ze A L S)):=zP hg.rise
 have HOTH:Hid (yC kd a.data.toList b.data.toList (ze A L S) (dcrL (ze A L S) a.data.toList b.data.toList)):=oth_cr HRT.out hkd
 have hrem:(kd:Int).tmod 11=0:=by
  have:(kd:Int).tmod 11=((kd % 11:Nat):Int):=rfl
  rw [this,hkd]; rfl
 have hzd:∀ w:World,(zeroValue zn).run Tryz.prog w=.ok (.agg #[.slice none 0 0,.slice none 0 0]) w:=fun w=>by kernel_rfl
 have HO:=za ho
 have HW0:Hid (w0.heap.size≤w.heap.size):=ho.below.size
 obtain ⟨A0,c,rfl⟩:=hR.rw.us.shape
 obtain ⟨A1,c1,rfl⟩:=hN.shape
 clear ho hg hR hN hp h5 f1 f2 f3 f4 hkd
 generalize R.length=n at *
 generalize (zb S).length=n1 at *
 generalize ZL A a.data.toList b.data.toList=E at HRF HDO HONE HOTH
 generalize F5 A a.data.toList b.data.toList=A' at HRF HDO HONE HOTH
 generalize dcrL (ze A L S) a.data.toList b.data.toList=l' at HRF HDO HONE HOTH
 generalize hnx:zb S=nx at HRF HONE
 have Hd1:=za (zp w (.slice A0 n c) (.slice A1 n1 c1))
 have HLO2:Hid (w.heap.size≤w.heap.size):=by show _≤_; omega
 have HB3:Hid (Below w.heap.size w (w.alloc (.cells #[.slice A0 n c,.slice A1 n1 c1] zn))):=z7 (Below.refl _ _) _
 have Hd4:=za (Hd1.out.later (z7 (Below.refl _ _) (.cells #[.int .u8 (kd:Int),.string a,.string b,.bool z] 32)))
 have Ha5:Hid (xL ((w.alloc (.cells #[.slice A0 n c,.slice A1 n1 c1] zn)).alloc (.cells #[.int .u8 (kd:Int),.string a,.string b,.bool z] 32)) (w.heap.size+1) (kd) (a) (b) (z)):=zi (by simp)
 have HLO6:Hid (w.heap.size≤w.heap.size+1):=by show _≤_; omega
 have HB7:=za (z8 HB3.out (z7 (Below.refl _ _) (.cells #[.int .u8 (kd:Int),.string a,.string b,.bool z] 32)))
 have Hd8:=za (Hd4.out.later (z7 (Below.refl _ _) (.cells #[.slice none 0 0,.slice none 0 0] zn)))
 have Ha9:=za (Ha5.out.later (z7 (Below.refl _ _) (.cells #[.slice none 0 0,.slice none 0 0] zn)))
 have Hr10:Hid (yn (((w.alloc (.cells #[.slice A0 n c,.slice A1 n1 c1] zn)).alloc (.cells #[.int .u8 (kd:Int),.string a,.string b,.bool z] 32)).alloc (.cells #[.slice none 0 0,.slice none 0 0] zn)) (w.heap.size+2) (.slice none 0 0) (.slice none 0 0)):=zi (by simp)
 have HLO11:Hid (w.heap.size≤w.heap.size+2):=by show _≤_; omega
 have HB12:=za (z8 HB7.out (z7 (Below.refl _ _) (.cells #[.slice none 0 0,.slice none 0 0] zn)))
 go_enter Tryz.func14,Tryz.ntmps14
 have ⟨kx14,ky15,kp16,kq17⟩:=Hd8.out.q11
 have ⟨kx19,ky20,kz21,kw22⟩:=Ha9.out.q11
 have ⟨kx24,ky25,kp26,kq27⟩:=Hr10.out.q11
 go_wp2_with fail
 generalize ((w.alloc (.cells #[.slice A0 n c,.slice A1 n1 c1] zn)).alloc (.cells #[.int .u8 (kd:Int),.string a,.string b,.bool z] 32)).alloc (.cells #[.slice none 0 0,.slice none 0 0] zn)=wg28 at *
 with_reducible refine (HRF.out wg28 HB12.out).mono ?_
 rintro e w2 ⟨R2,u1,u2,rfl,hrc,hpl,hnm,hb⟩
 clear kx14 ky15 kp16 kq17 kx19 ky20 kz21 kw22 kx24 ky25 kp26 kq27
 have Hd29:=za (Hd8.out.later hb)
 have Ha30:=za (Ha9.out.later hb)
 have Hr31:=za (Hr10.out.later hb)
 have HB32:=za (z8 HB12.out hb)
 obtain ⟨A2,c2,rfl⟩:=hrc.rw.us.shape
 obtain ⟨A3,c3,rfl⟩:=hnm.shape
 have HRC:=za hrc
 have HPL:=za hpl
 have HNM:=za hnm
 clear hrc hpl hnm HRF
 obtain ⟨n2,hn2⟩:∃ m,m=R2.length:=⟨_,rfl⟩
 obtain ⟨n3,hn3⟩:∃ m,m=List.length nx:=⟨_,rfl⟩
 rw [← hn2] at HRC ⊢
 rw [← hn3] at HNM ⊢
 clear hn2 hn3
 clear hb
 have ⟨kx34,ky35,kp36,kq37⟩:=Hd29.out.q11
 have ⟨kx39,ky40,kz41,kw42⟩:=Ha30.out.q11
 have ⟨kx44,ky45,kp46,kq47⟩:=Hr31.out.q11
 have Hd48:=za (Hd29.out.set0 (.slice A2 n2 c2))
 have Ha49:=za (Ha30.out.other (c:=w.heap.size) (i:=0) (by omega) (.slice A2 n2 c2))
 have Hr50:=za (Hr31.out.other (c:=w.heap.size) (i:=0) (by omega) (.slice A2 n2 c2))
 have HB51:=za (HB32.out.setCell (p:=⟨w.heap.size,0,none⟩) HLO2.out (.slice A2 n2 c2))
 have ⟨kx53,ky54,kp55,kq56⟩:=Hd48.out.q11
 have ⟨kx58,ky59,kz60,kw61⟩:=Ha49.out.q11
 have ⟨kx63,ky64,kp65,kq66⟩:=Hr50.out.q11
 have Hd67:=za (Hd48.out.set1 (.slice A3 n3 c3))
 have Ha68:=za (Ha49.out.other (c:=w.heap.size) (i:=1) (by omega) (.slice A3 n3 c3))
 have Hr69:=za (Hr50.out.other (c:=w.heap.size) (i:=1) (by omega) (.slice A3 n3 c3))
 have HB70:=za (HB51.out.setCell (p:=⟨w.heap.size,1,none⟩) HLO2.out (.slice A3 n3 c3))
 have HKD:Hid (zQ w2 ((w2.setCell ⟨w.heap.size,0,none⟩ (.slice A2 n2 c2)).setCell ⟨w.heap.size,1,none⟩ (.slice A3 n3 c3))):=(Hd29.out.keep 0 _).trans (Hd48.out.keep 1 _)
 have ⟨kx72,ky73,kp74,kq75⟩:=Hd67.out.q11
 have ⟨kx77,ky78,kz79,kw80⟩:=Ha68.out.q11
 have ⟨kx82,ky83,kp84,kq85⟩:=Hr69.out.q11
 go_wp2_with fail
 generalize (w2.setCell ⟨w.heap.size,0,none⟩ (.slice A2 n2 c2)).setCell ⟨w.heap.size,1,none⟩ (.slice A3 n3 c3)=wg86 at *
 with_reducible refine (HDO.out wg86 (HO.out.later HB70.out)).mono ?_
 rintro e w5 ⟨rfl,hgo⟩
 clear kx34 ky35 kp36 kq37 kx39 ky40 kz41 kw42 kx44 ky45 kp46 kq47 kx53 ky54 kp55 kq56 kx58 ky59 kz60 kw61 kx63 ky64 kp65 kq66 kx72 ky73 kp74 kq75 kx77 ky78 kz79 kw80 kx82 ky83 kp84 kq85
 have Hd87:Hid (yn (w5) (w.heap.size) (.slice A2 n2 c2) (.slice A3 n3 c3)):=Hd67.out.keeps11 hgo.2
 have Hr88:Hid (yn (w5) (w.heap.size+2) (.slice none 0 0) (.slice none 0 0)):=Hr69.out.keeps11 hgo.2
 have HRC5:Hid (xV 0 R2 w5 (.slice A2 n2 c2)):=(HRC.out.keepD11 HKD.out).keeps hgo.2
 have HNM5:Hid (NmR w5 (.slice A3 n3 c3) nx):=(HNM.out.keepD11 HKD.out).keeps11 hgo.2
 have HK5:Hid (zr w w5):=(zr.of_below HB70.out).trans hgo.2
 have HO5:=za hgo.1
 clear hgo HDO HO HRC HNM HKD
 have ⟨kx90,ky91,kp92,kq93⟩:=Hd87.out.q11
 have ⟨kx95,ky96,kp97,kq98⟩:=Hr88.out.q11
 have HRES:Hid (yn ((w5.setCell ⟨w.heap.size+2,0,none⟩ (.slice A2 n2 c2)).setCell ⟨w.heap.size+2,1,none⟩ (.slice A3 n3 c3)) (w.heap.size+2) (.slice A2 n2 c2) (.slice A3 n3 c3)):=(Hr88.out.set0 _).set1 _
 have HKF:Hid (zQ w5 ((w5.setCell ⟨w.heap.size+2,0,none⟩ (.slice A2 n2 c2)).setCell ⟨w.heap.size+2,1,none⟩ (.slice A3 n3 c3))):=(Hr88.out.keep 0 _).trans ((Hr88.out.set0 _).keep 1 _)
 have HOF:Hid (zo w0 ((w5.setCell ⟨w.heap.size+2,0,none⟩ (.slice A2 n2 c2)).setCell ⟨w.heap.size+2,1,none⟩ (.slice A3 n3 c3)) D P M G A' L S):=(HO5.out.cell11 Hr88.out (Nat.le_trans HW0.out (by omega)) _).cell11 (Hr88.out.set0 _) (Nat.le_trans HW0.out (by omega)) _
 have HKP:Hid (zr w ((w5.setCell ⟨w.heap.size+2,0,none⟩ (.slice A2 n2 c2)).setCell ⟨w.heap.size+2,1,none⟩ (.slice A3 n3 c3))):=(HK5.out.cellN11 (by omega) _).cellN11 (by omega) _
 have HPOST:Hid (uz w0 D P M G k w (ze A L S) kd a.data.toList b.data.toList (.returned (.tuple #[.agg #[.slice A2 n2 c2,.slice A3 n3 c3],.bool true])) ((w5.setCell ⟨w.heap.size+2,0,none⟩ (.slice A2 n2 c2)).setCell ⟨w.heap.size+2,1,none⟩ (.slice A3 n3 c3))):=⟨_,_,_,R2,_,_,rfl,HOF.out,HONE.out.1,HRC5.out.keepD11 HKF.out,by rw [HONE.out.2.2]; exact HNM5.out.keepD11 HKF.out,by rw [HPL.out,HONE.out.2.1],HKP.out,by rw [HONE.out.2.1]; exact HOTH.out⟩
 have z0:=HRES.out.c0
 have z1:=HRES.out.c1
 go_wp2
 refine bodyPost_ret (v:=.tuple #[.agg #[.slice A2 n2 c2,.slice A3 n3 c3],.bool true]) ?_ rfl HPOST.out
 simp [results,Tryz.results14,go_sem,z0,z1]

set_option maxRecDepth 100000 in
theorem do11_1 (R:zJ W11) (v vg:Value) (kd:Nat) (a b:ByteArray) (z:Bool) (w:World) (ho:zo w0 w D P M G A L S) (hg:zu A L S k) (hk:k≤90) (h5:vX w0) (hR:xV 0 R w v) (hN:NmR w vg (zb S)) (hp:zc R=ze A L S) (ha:a.size≤50) (hb5:b.size≤50) (hkd:kd % 11=1) :
  Calls Tryz.prog 14 #[.pointer (some ⟨D,0,none⟩),.agg #[v,vg],.agg #[.int .u8 (kd:Int),.string a,.string b,.bool z]] w (uz w0 D P M G k w (ze A L S) kd a.data.toList b.data.toList):=by
 obtain ⟨f1,f2,f3,f4⟩:=yJ hg hp
 have HRF:Hid (∀ W',Below w.heap.size w W'→Calls Tryz.prog 46 #[.agg #[v,vg],.string a] W' (yt (fD A a.data.toList) (FV (ze A L S) a.data.toList) (zb S) W')):=fun W' hb=>by
  have hR:=hR.later hb
  have hN:=hN.later hb
  have h:=ZE _ _ R _ a W' hR hN f1 (by omega)
  rw [hp] at h
  have e:=(show _=fD A a.data.toList from JX (A:=A) (L:=L) (S:=S) _)
  rwa [e] at h
 have HDO:Hid (∀ W',zo w0 W' D P M G A L S→Calls Tryz.prog 30 #[.pointer (some ⟨D,0,none⟩),.string a] W' fun e w'=>e=.returned (.int .i64 (fD A a.data.toList))∧zE w0 W' D P M G (F0 A a.data.toList) (JZ A L a.data.toList) (JY A S a.data.toList) w'):=fun W' ho=>jD a ho hg (by omega)
 have HONE:Hid (uy (F0 A a.data.toList) (JZ A L a.data.toList) (JY A S a.data.toList) (FV (ze A L S) a.data.toList) (zb S) (k+1)):=FU hg _
 have HRT:Hid (zB (ze A L S)):=zP hg.rise
 have HOTH:Hid (yC kd a.data.toList b.data.toList (ze A L S) (FV (ze A L S) a.data.toList)):=oth_de HRT.out hkd
 have hrem:(kd:Int).tmod 11=1:=by
  have:(kd:Int).tmod 11=((kd % 11:Nat):Int):=rfl
  rw [this,hkd]; rfl
 have hzd:∀ w:World,(zeroValue zn).run Tryz.prog w=.ok (.agg #[.slice none 0 0,.slice none 0 0]) w:=fun w=>by kernel_rfl
 have HO:=za ho
 have HW0:Hid (w0.heap.size≤w.heap.size):=ho.below.size
 obtain ⟨A0,c,rfl⟩:=hR.rw.us.shape
 obtain ⟨A1,c1,rfl⟩:=hN.shape
 clear ho hg hR hN hp h5 f1 f2 f3 f4 hkd
 generalize R.length=n at *
 generalize (zb S).length=n1 at *
 generalize fD A a.data.toList=E at HRF HDO HONE HOTH
 generalize F0 A a.data.toList=A' at HRF HDO HONE HOTH
 generalize JZ A L a.data.toList=L' at HRF HDO HONE HOTH
 generalize JY A S a.data.toList=S' at HRF HDO HONE HOTH
 generalize FV (ze A L S) a.data.toList=l' at HRF HDO HONE HOTH
 generalize hnx:zb S=nx at HRF HONE
 have Hd1:=za (zp w (.slice A0 n c) (.slice A1 n1 c1))
 have HLO2:Hid (w.heap.size≤w.heap.size):=by show _≤_; omega
 have HB3:Hid (Below w.heap.size w (w.alloc (.cells #[.slice A0 n c,.slice A1 n1 c1] zn))):=z7 (Below.refl _ _) _
 have Hd4:=za (Hd1.out.later (z7 (Below.refl _ _) (.cells #[.int .u8 (kd:Int),.string a,.string b,.bool z] 32)))
 have Ha5:Hid (xL ((w.alloc (.cells #[.slice A0 n c,.slice A1 n1 c1] zn)).alloc (.cells #[.int .u8 (kd:Int),.string a,.string b,.bool z] 32)) (w.heap.size+1) (kd) (a) (b) (z)):=zi (by simp)
 have HLO6:Hid (w.heap.size≤w.heap.size+1):=by show _≤_; omega
 have HB7:=za (z8 HB3.out (z7 (Below.refl _ _) (.cells #[.int .u8 (kd:Int),.string a,.string b,.bool z] 32)))
 have Hd8:=za (Hd4.out.later (z7 (Below.refl _ _) (.cells #[.slice none 0 0,.slice none 0 0] zn)))
 have Ha9:=za (Ha5.out.later (z7 (Below.refl _ _) (.cells #[.slice none 0 0,.slice none 0 0] zn)))
 have Hr10:Hid (yn (((w.alloc (.cells #[.slice A0 n c,.slice A1 n1 c1] zn)).alloc (.cells #[.int .u8 (kd:Int),.string a,.string b,.bool z] 32)).alloc (.cells #[.slice none 0 0,.slice none 0 0] zn)) (w.heap.size+2) (.slice none 0 0) (.slice none 0 0)):=zi (by simp)
 have HLO11:Hid (w.heap.size≤w.heap.size+2):=by show _≤_; omega
 have HB12:=za (z8 HB7.out (z7 (Below.refl _ _) (.cells #[.slice none 0 0,.slice none 0 0] zn)))
 go_enter Tryz.func14,Tryz.ntmps14
 have ⟨kx14,ky15,kp16,kq17⟩:=Hd8.out.q11
 have ⟨kx19,ky20,kz21,kw22⟩:=Ha9.out.q11
 have ⟨kx24,ky25,kp26,kq27⟩:=Hr10.out.q11
 go_wp2_with fail
 generalize ((w.alloc (.cells #[.slice A0 n c,.slice A1 n1 c1] zn)).alloc (.cells #[.int .u8 (kd:Int),.string a,.string b,.bool z] 32)).alloc (.cells #[.slice none 0 0,.slice none 0 0] zn)=wg28 at *
 with_reducible refine (HRF.out wg28 HB12.out).mono ?_
 rintro e w2 ⟨R2,u1,u2,rfl,hrc,hpl,hnm,hb⟩
 clear kx14 ky15 kp16 kq17 kx19 ky20 kz21 kw22 kx24 ky25 kp26 kq27
 have Hd29:=za (Hd8.out.later hb)
 have Ha30:=za (Ha9.out.later hb)
 have Hr31:=za (Hr10.out.later hb)
 have HB32:=za (z8 HB12.out hb)
 obtain ⟨A2,c2,rfl⟩:=hrc.rw.us.shape
 obtain ⟨A3,c3,rfl⟩:=hnm.shape
 have HRC:=za hrc
 have HPL:=za hpl
 have HNM:=za hnm
 clear hrc hpl hnm HRF
 obtain ⟨n2,hn2⟩:∃ m,m=R2.length:=⟨_,rfl⟩
 obtain ⟨n3,hn3⟩:∃ m,m=List.length nx:=⟨_,rfl⟩
 rw [← hn2] at HRC ⊢
 rw [← hn3] at HNM ⊢
 clear hn2 hn3
 clear hb
 have ⟨kx34,ky35,kp36,kq37⟩:=Hd29.out.q11
 have ⟨kx39,ky40,kz41,kw42⟩:=Ha30.out.q11
 have ⟨kx44,ky45,kp46,kq47⟩:=Hr31.out.q11
 have Hd48:=za (Hd29.out.set0 (.slice A2 n2 c2))
 have Ha49:=za (Ha30.out.other (c:=w.heap.size) (i:=0) (by omega) (.slice A2 n2 c2))
 have Hr50:=za (Hr31.out.other (c:=w.heap.size) (i:=0) (by omega) (.slice A2 n2 c2))
 have HB51:=za (HB32.out.setCell (p:=⟨w.heap.size,0,none⟩) HLO2.out (.slice A2 n2 c2))
 have ⟨kx53,ky54,kp55,kq56⟩:=Hd48.out.q11
 have ⟨kx58,ky59,kz60,kw61⟩:=Ha49.out.q11
 have ⟨kx63,ky64,kp65,kq66⟩:=Hr50.out.q11
 have Hd67:=za (Hd48.out.set1 (.slice A3 n3 c3))
 have Ha68:=za (Ha49.out.other (c:=w.heap.size) (i:=1) (by omega) (.slice A3 n3 c3))
 have Hr69:=za (Hr50.out.other (c:=w.heap.size) (i:=1) (by omega) (.slice A3 n3 c3))
 have HB70:=za (HB51.out.setCell (p:=⟨w.heap.size,1,none⟩) HLO2.out (.slice A3 n3 c3))
 have HKD:Hid (zQ w2 ((w2.setCell ⟨w.heap.size,0,none⟩ (.slice A2 n2 c2)).setCell ⟨w.heap.size,1,none⟩ (.slice A3 n3 c3))):=(Hd29.out.keep 0 _).trans (Hd48.out.keep 1 _)
 have ⟨kx72,ky73,kp74,kq75⟩:=Hd67.out.q11
 have ⟨kx77,ky78,kz79,kw80⟩:=Ha68.out.q11
 have ⟨kx82,ky83,kp84,kq85⟩:=Hr69.out.q11
 go_wp2_with fail
 generalize (w2.setCell ⟨w.heap.size,0,none⟩ (.slice A2 n2 c2)).setCell ⟨w.heap.size,1,none⟩ (.slice A3 n3 c3)=wg86 at *
 with_reducible refine (HDO.out wg86 (HO.out.later HB70.out)).mono ?_
 rintro e w5 ⟨rfl,hgo⟩
 clear kx34 ky35 kp36 kq37 kx39 ky40 kz41 kw42 kx44 ky45 kp46 kq47 kx53 ky54 kp55 kq56 kx58 ky59 kz60 kw61 kx63 ky64 kp65 kq66 kx72 ky73 kp74 kq75 kx77 ky78 kz79 kw80 kx82 ky83 kp84 kq85
 have Hd87:Hid (yn (w5) (w.heap.size) (.slice A2 n2 c2) (.slice A3 n3 c3)):=Hd67.out.keeps11 hgo.2
 have Hr88:Hid (yn (w5) (w.heap.size+2) (.slice none 0 0) (.slice none 0 0)):=Hr69.out.keeps11 hgo.2
 have HRC5:Hid (xV 0 R2 w5 (.slice A2 n2 c2)):=(HRC.out.keepD11 HKD.out).keeps hgo.2
 have HNM5:Hid (NmR w5 (.slice A3 n3 c3) nx):=(HNM.out.keepD11 HKD.out).keeps11 hgo.2
 have HK5:Hid (zr w w5):=(zr.of_below HB70.out).trans hgo.2
 have HO5:=za hgo.1
 clear hgo HDO HO HRC HNM HKD
 have ⟨kx90,ky91,kp92,kq93⟩:=Hd87.out.q11
 have ⟨kx95,ky96,kp97,kq98⟩:=Hr88.out.q11
 have HRES:Hid (yn ((w5.setCell ⟨w.heap.size+2,0,none⟩ (.slice A2 n2 c2)).setCell ⟨w.heap.size+2,1,none⟩ (.slice A3 n3 c3)) (w.heap.size+2) (.slice A2 n2 c2) (.slice A3 n3 c3)):=(Hr88.out.set0 _).set1 _
 have HKF:Hid (zQ w5 ((w5.setCell ⟨w.heap.size+2,0,none⟩ (.slice A2 n2 c2)).setCell ⟨w.heap.size+2,1,none⟩ (.slice A3 n3 c3))):=(Hr88.out.keep 0 _).trans ((Hr88.out.set0 _).keep 1 _)
 have HOF:Hid (zo w0 ((w5.setCell ⟨w.heap.size+2,0,none⟩ (.slice A2 n2 c2)).setCell ⟨w.heap.size+2,1,none⟩ (.slice A3 n3 c3)) D P M G A' L' S'):=(HO5.out.cell11 Hr88.out (Nat.le_trans HW0.out (by omega)) _).cell11 (Hr88.out.set0 _) (Nat.le_trans HW0.out (by omega)) _
 have HKP:Hid (zr w ((w5.setCell ⟨w.heap.size+2,0,none⟩ (.slice A2 n2 c2)).setCell ⟨w.heap.size+2,1,none⟩ (.slice A3 n3 c3))):=(HK5.out.cellN11 (by omega) _).cellN11 (by omega) _
 have HPOST:Hid (uz w0 D P M G k w (ze A L S) kd a.data.toList b.data.toList (.returned (.tuple #[.agg #[.slice A2 n2 c2,.slice A3 n3 c3],.bool true])) ((w5.setCell ⟨w.heap.size+2,0,none⟩ (.slice A2 n2 c2)).setCell ⟨w.heap.size+2,1,none⟩ (.slice A3 n3 c3))):=⟨_,_,_,R2,_,_,rfl,HOF.out,HONE.out.1,HRC5.out.keepD11 HKF.out,by rw [HONE.out.2.2]; exact HNM5.out.keepD11 HKF.out,by rw [HPL.out,HONE.out.2.1],HKP.out,by rw [HONE.out.2.1]; exact HOTH.out⟩
 have z0:=HRES.out.c0
 have z1:=HRES.out.c1
 go_wp2
 refine bodyPost_ret (v:=.tuple #[.agg #[.slice A2 n2 c2,.slice A3 n3 c3],.bool true]) ?_ rfl HPOST.out
 simp [results,Tryz.results14,go_sem,z0,z1]

set_option maxRecDepth 100000 in
theorem do11_2 (R:zJ W11) (v vg:Value) (kd:Nat) (a b:ByteArray) (z:Bool) (w:World) (ho:zo w0 w D P M G A L S) (hg:zu A L S k) (hk:k≤90) (h5:vX w0) (hR:xV 0 R w v) (hN:NmR w vg (zb S)) (hp:zc R=ze A L S) (ha:a.size≤50) (hb5:b.size≤50) (hkd:kd % 11=2) :
  Calls Tryz.prog 14 #[.pointer (some ⟨D,0,none⟩),.agg #[v,vg],.agg #[.int .u8 (kd:Int),.string a,.string b,.bool z]] w (uz w0 D P M G k w (ze A L S) kd a.data.toList b.data.toList):=by
 obtain ⟨f1,f2,f3,f4⟩:=yJ hg hp
 have HRF:Hid (∀ W',Below w.heap.size w W'→Calls Tryz.prog 47 #[.agg #[v,vg],.string a,.string b] W' (yt (ZA A a.data.toList b.data.toList) (dshL (ze A L S) a.data.toList b.data.toList) (zb S) W')):=fun W' hb=>by
  have hR:=hR.later hb
  have hN:=hN.later hb
  have h:=ZC _ _ R _ a b W' hR hN f1 f2 (by omega) (by omega)
  rw [hp] at h
  have e:=(show _=ZA A a.data.toList b.data.toList from sh_same hg _ _)
  rwa [e] at h
 have HDO:Hid (∀ W',zo w0 W' D P M G A L S→Calls Tryz.prog 48 #[.pointer (some ⟨D,0,none⟩),.string a,.string b] W' fun e w'=>e=.returned (.int .i64 (ZA A a.data.toList b.data.toList))∧zE w0 W' D P M G (Jg A a.data.toList b.data.toList) (L) (S) w'):=fun W' ho=>Yd a b ho hg (by omega) (by omega)
 have HONE:Hid (uy (Jg A a.data.toList b.data.toList) (L) (S) (dshL (ze A L S) a.data.toList b.data.toList) (zb S) (k+1)):=sh_one hg _ _
 have HRT:Hid (zB (ze A L S)):=zP hg.rise
 have HOTH:Hid (yC kd a.data.toList b.data.toList (ze A L S) (dshL (ze A L S) a.data.toList b.data.toList)):=oth_sh HRT.out hkd
 have hrem:(kd:Int).tmod 11=2:=by
  have:(kd:Int).tmod 11=((kd % 11:Nat):Int):=rfl
  rw [this,hkd]; rfl
 have hzd:∀ w:World,(zeroValue zn).run Tryz.prog w=.ok (.agg #[.slice none 0 0,.slice none 0 0]) w:=fun w=>by kernel_rfl
 have HO:=za ho
 have HW0:Hid (w0.heap.size≤w.heap.size):=ho.below.size
 obtain ⟨A0,c,rfl⟩:=hR.rw.us.shape
 obtain ⟨A1,c1,rfl⟩:=hN.shape
 clear ho hg hR hN hp h5 f1 f2 f3 f4 hkd
 generalize R.length=n at *
 generalize (zb S).length=n1 at *
 generalize ZA A a.data.toList b.data.toList=E at HRF HDO HONE HOTH
 generalize Jg A a.data.toList b.data.toList=A' at HRF HDO HONE HOTH
 generalize dshL (ze A L S) a.data.toList b.data.toList=l' at HRF HDO HONE HOTH
 generalize hnx:zb S=nx at HRF HONE
 have Hd1:=za (zp w (.slice A0 n c) (.slice A1 n1 c1))
 have HLO2:Hid (w.heap.size≤w.heap.size):=by show _≤_; omega
 have HB3:Hid (Below w.heap.size w (w.alloc (.cells #[.slice A0 n c,.slice A1 n1 c1] zn))):=z7 (Below.refl _ _) _
 have Hd4:=za (Hd1.out.later (z7 (Below.refl _ _) (.cells #[.int .u8 (kd:Int),.string a,.string b,.bool z] 32)))
 have Ha5:Hid (xL ((w.alloc (.cells #[.slice A0 n c,.slice A1 n1 c1] zn)).alloc (.cells #[.int .u8 (kd:Int),.string a,.string b,.bool z] 32)) (w.heap.size+1) (kd) (a) (b) (z)):=zi (by simp)
 have HLO6:Hid (w.heap.size≤w.heap.size+1):=by show _≤_; omega
 have HB7:=za (z8 HB3.out (z7 (Below.refl _ _) (.cells #[.int .u8 (kd:Int),.string a,.string b,.bool z] 32)))
 have Hd8:=za (Hd4.out.later (z7 (Below.refl _ _) (.cells #[.slice none 0 0,.slice none 0 0] zn)))
 have Ha9:=za (Ha5.out.later (z7 (Below.refl _ _) (.cells #[.slice none 0 0,.slice none 0 0] zn)))
 have Hr10:Hid (yn (((w.alloc (.cells #[.slice A0 n c,.slice A1 n1 c1] zn)).alloc (.cells #[.int .u8 (kd:Int),.string a,.string b,.bool z] 32)).alloc (.cells #[.slice none 0 0,.slice none 0 0] zn)) (w.heap.size+2) (.slice none 0 0) (.slice none 0 0)):=zi (by simp)
 have HLO11:Hid (w.heap.size≤w.heap.size+2):=by show _≤_; omega
 have HB12:=za (z8 HB7.out (z7 (Below.refl _ _) (.cells #[.slice none 0 0,.slice none 0 0] zn)))
 go_enter Tryz.func14,Tryz.ntmps14
 have ⟨kx14,ky15,kp16,kq17⟩:=Hd8.out.q11
 have ⟨kx19,ky20,kz21,kw22⟩:=Ha9.out.q11
 have ⟨kx24,ky25,kp26,kq27⟩:=Hr10.out.q11
 go_wp2_with fail
 generalize ((w.alloc (.cells #[.slice A0 n c,.slice A1 n1 c1] zn)).alloc (.cells #[.int .u8 (kd:Int),.string a,.string b,.bool z] 32)).alloc (.cells #[.slice none 0 0,.slice none 0 0] zn)=wg28 at *
 with_reducible refine (HRF.out wg28 HB12.out).mono ?_
 rintro e w2 ⟨R2,u1,u2,rfl,hrc,hpl,hnm,hb⟩
 clear kx14 ky15 kp16 kq17 kx19 ky20 kz21 kw22 kx24 ky25 kp26 kq27
 have Hd29:=za (Hd8.out.later hb)
 have Ha30:=za (Ha9.out.later hb)
 have Hr31:=za (Hr10.out.later hb)
 have HB32:=za (z8 HB12.out hb)
 obtain ⟨A2,c2,rfl⟩:=hrc.rw.us.shape
 obtain ⟨A3,c3,rfl⟩:=hnm.shape
 have HRC:=za hrc
 have HPL:=za hpl
 have HNM:=za hnm
 clear hrc hpl hnm HRF
 obtain ⟨n2,hn2⟩:∃ m,m=R2.length:=⟨_,rfl⟩
 obtain ⟨n3,hn3⟩:∃ m,m=List.length nx:=⟨_,rfl⟩
 rw [← hn2] at HRC ⊢
 rw [← hn3] at HNM ⊢
 clear hn2 hn3
 clear hb
 have ⟨kx34,ky35,kp36,kq37⟩:=Hd29.out.q11
 have ⟨kx39,ky40,kz41,kw42⟩:=Ha30.out.q11
 have ⟨kx44,ky45,kp46,kq47⟩:=Hr31.out.q11
 have Hd48:=za (Hd29.out.set0 (.slice A2 n2 c2))
 have Ha49:=za (Ha30.out.other (c:=w.heap.size) (i:=0) (by omega) (.slice A2 n2 c2))
 have Hr50:=za (Hr31.out.other (c:=w.heap.size) (i:=0) (by omega) (.slice A2 n2 c2))
 have HB51:=za (HB32.out.setCell (p:=⟨w.heap.size,0,none⟩) HLO2.out (.slice A2 n2 c2))
 have ⟨kx53,ky54,kp55,kq56⟩:=Hd48.out.q11
 have ⟨kx58,ky59,kz60,kw61⟩:=Ha49.out.q11
 have ⟨kx63,ky64,kp65,kq66⟩:=Hr50.out.q11
 have Hd67:=za (Hd48.out.set1 (.slice A3 n3 c3))
 have Ha68:=za (Ha49.out.other (c:=w.heap.size) (i:=1) (by omega) (.slice A3 n3 c3))
 have Hr69:=za (Hr50.out.other (c:=w.heap.size) (i:=1) (by omega) (.slice A3 n3 c3))
 have HB70:=za (HB51.out.setCell (p:=⟨w.heap.size,1,none⟩) HLO2.out (.slice A3 n3 c3))
 have HKD:Hid (zQ w2 ((w2.setCell ⟨w.heap.size,0,none⟩ (.slice A2 n2 c2)).setCell ⟨w.heap.size,1,none⟩ (.slice A3 n3 c3))):=(Hd29.out.keep 0 _).trans (Hd48.out.keep 1 _)
 have ⟨kx72,ky73,kp74,kq75⟩:=Hd67.out.q11
 have ⟨kx77,ky78,kz79,kw80⟩:=Ha68.out.q11
 have ⟨kx82,ky83,kp84,kq85⟩:=Hr69.out.q11
 go_wp2_with fail
 generalize (w2.setCell ⟨w.heap.size,0,none⟩ (.slice A2 n2 c2)).setCell ⟨w.heap.size,1,none⟩ (.slice A3 n3 c3)=wg86 at *
 with_reducible refine (HDO.out wg86 (HO.out.later HB70.out)).mono ?_
 rintro e w5 ⟨rfl,hgo⟩
 clear kx34 ky35 kp36 kq37 kx39 ky40 kz41 kw42 kx44 ky45 kp46 kq47 kx53 ky54 kp55 kq56 kx58 ky59 kz60 kw61 kx63 ky64 kp65 kq66 kx72 ky73 kp74 kq75 kx77 ky78 kz79 kw80 kx82 ky83 kp84 kq85
 have Hd87:Hid (yn (w5) (w.heap.size) (.slice A2 n2 c2) (.slice A3 n3 c3)):=Hd67.out.keeps11 hgo.2
 have Hr88:Hid (yn (w5) (w.heap.size+2) (.slice none 0 0) (.slice none 0 0)):=Hr69.out.keeps11 hgo.2
 have HRC5:Hid (xV 0 R2 w5 (.slice A2 n2 c2)):=(HRC.out.keepD11 HKD.out).keeps hgo.2
 have HNM5:Hid (NmR w5 (.slice A3 n3 c3) nx):=(HNM.out.keepD11 HKD.out).keeps11 hgo.2
 have HK5:Hid (zr w w5):=(zr.of_below HB70.out).trans hgo.2
 have HO5:=za hgo.1
 clear hgo HDO HO HRC HNM HKD
 have ⟨kx90,ky91,kp92,kq93⟩:=Hd87.out.q11
 have ⟨kx95,ky96,kp97,kq98⟩:=Hr88.out.q11
 have HRES:Hid (yn ((w5.setCell ⟨w.heap.size+2,0,none⟩ (.slice A2 n2 c2)).setCell ⟨w.heap.size+2,1,none⟩ (.slice A3 n3 c3)) (w.heap.size+2) (.slice A2 n2 c2) (.slice A3 n3 c3)):=(Hr88.out.set0 _).set1 _
 have HKF:Hid (zQ w5 ((w5.setCell ⟨w.heap.size+2,0,none⟩ (.slice A2 n2 c2)).setCell ⟨w.heap.size+2,1,none⟩ (.slice A3 n3 c3))):=(Hr88.out.keep 0 _).trans ((Hr88.out.set0 _).keep 1 _)
 have HOF:Hid (zo w0 ((w5.setCell ⟨w.heap.size+2,0,none⟩ (.slice A2 n2 c2)).setCell ⟨w.heap.size+2,1,none⟩ (.slice A3 n3 c3)) D P M G A' L S):=(HO5.out.cell11 Hr88.out (Nat.le_trans HW0.out (by omega)) _).cell11 (Hr88.out.set0 _) (Nat.le_trans HW0.out (by omega)) _
 have HKP:Hid (zr w ((w5.setCell ⟨w.heap.size+2,0,none⟩ (.slice A2 n2 c2)).setCell ⟨w.heap.size+2,1,none⟩ (.slice A3 n3 c3))):=(HK5.out.cellN11 (by omega) _).cellN11 (by omega) _
 have HPOST:Hid (uz w0 D P M G k w (ze A L S) kd a.data.toList b.data.toList (.returned (.tuple #[.agg #[.slice A2 n2 c2,.slice A3 n3 c3],.bool true])) ((w5.setCell ⟨w.heap.size+2,0,none⟩ (.slice A2 n2 c2)).setCell ⟨w.heap.size+2,1,none⟩ (.slice A3 n3 c3))):=⟨_,_,_,R2,_,_,rfl,HOF.out,HONE.out.1,HRC5.out.keepD11 HKF.out,by rw [HONE.out.2.2]; exact HNM5.out.keepD11 HKF.out,by rw [HPL.out,HONE.out.2.1],HKP.out,by rw [HONE.out.2.1]; exact HOTH.out⟩
 have z0:=HRES.out.c0
 have z1:=HRES.out.c1
 go_wp2
 refine bodyPost_ret (v:=.tuple #[.agg #[.slice A2 n2 c2,.slice A3 n3 c3],.bool true]) ?_ rfl HPOST.out
 simp [results,Tryz.results14,go_sem,z0,z1]

set_option maxRecDepth 100000 in
theorem do11_3 (R:zJ W11) (v vg:Value) (kd:Nat) (a b:ByteArray) (z:Bool) (w:World) (ho:zo w0 w D P M G A L S) (hg:zu A L S k) (hk:k≤90) (h5:vX w0) (hR:xV 0 R w v) (hN:NmR w vg (zb S)) (hp:zc R=ze A L S) (ha:a.size≤50) (hb5:b.size≤50) (hkd:kd % 11=3) :
  Calls Tryz.prog 14 #[.pointer (some ⟨D,0,none⟩),.agg #[v,vg],.agg #[.int .u8 (kd:Int),.string a,.string b,.bool z]] w (uz w0 D P M G k w (ze A L S) kd a.data.toList b.data.toList):=by
 obtain ⟨f1,f2,f3,f4⟩:=yJ hg hp
 have HRF:Hid (∀ W',Below w.heap.size w W'→Calls Tryz.prog 49 #[.agg #[v,vg],.string a,.string b] W' (yt (ql A L a.data.toList b.data.toList) (dsmL (ze A L S) a.data.toList b.data.toList) (zb S) W')):=fun W' hb=>by
  have hR:=hR.later hb
  have hN:=hN.later hb
  have h:=ZB _ _ R _ a b W' hR hN f1 f2 (by omega) (by omega)
  rw [hp] at h
  have e:=(show _=ql A L a.data.toList b.data.toList from Je hg _ _)
  rwa [e] at h
 have HDO:Hid (∀ W',zo w0 W' D P M G A L S→Calls Tryz.prog 41 #[.pointer (some ⟨D,0,none⟩),.string a,.string b] W' fun e w'=>e=.returned (.int .i64 (ql A L a.data.toList b.data.toList))∧zE w0 W' D P M G (A) (Zz A L a.data.toList b.data.toList) (S) w'):=fun W' ho=>qI a b ho (by have:=hg.lfew; omega) (h5.later ho.below) (by omega) (by omega)
 have HONE:Hid (uy (A) (Zz A L a.data.toList b.data.toList) (S) (dsmL (ze A L S) a.data.toList b.data.toList) (zb S) (k+1)):=sm_one hg _ _
 have HRT:Hid (zB (ze A L S)):=zP hg.rise
 have HOTH:Hid (yC kd a.data.toList b.data.toList (ze A L S) (dsmL (ze A L S) a.data.toList b.data.toList)):=oth_sm HRT.out hkd
 have hrem:(kd:Int).tmod 11=3:=by
  have:(kd:Int).tmod 11=((kd % 11:Nat):Int):=rfl
  rw [this,hkd]; rfl
 have hzd:∀ w:World,(zeroValue zn).run Tryz.prog w=.ok (.agg #[.slice none 0 0,.slice none 0 0]) w:=fun w=>by kernel_rfl
 have HO:=za ho
 have HW0:Hid (w0.heap.size≤w.heap.size):=ho.below.size
 obtain ⟨A0,c,rfl⟩:=hR.rw.us.shape
 obtain ⟨A1,c1,rfl⟩:=hN.shape
 clear ho hg hR hN hp h5 f1 f2 f3 f4 hkd
 generalize R.length=n at *
 generalize (zb S).length=n1 at *
 generalize ql A L a.data.toList b.data.toList=E at HRF HDO HONE HOTH
 generalize Zz A L a.data.toList b.data.toList=L' at HRF HDO HONE HOTH
 generalize dsmL (ze A L S) a.data.toList b.data.toList=l' at HRF HDO HONE HOTH
 generalize hnx:zb S=nx at HRF HONE
 have Hd1:=za (zp w (.slice A0 n c) (.slice A1 n1 c1))
 have HLO2:Hid (w.heap.size≤w.heap.size):=by show _≤_; omega
 have HB3:Hid (Below w.heap.size w (w.alloc (.cells #[.slice A0 n c,.slice A1 n1 c1] zn))):=z7 (Below.refl _ _) _
 have Hd4:=za (Hd1.out.later (z7 (Below.refl _ _) (.cells #[.int .u8 (kd:Int),.string a,.string b,.bool z] 32)))
 have Ha5:Hid (xL ((w.alloc (.cells #[.slice A0 n c,.slice A1 n1 c1] zn)).alloc (.cells #[.int .u8 (kd:Int),.string a,.string b,.bool z] 32)) (w.heap.size+1) (kd) (a) (b) (z)):=zi (by simp)
 have HLO6:Hid (w.heap.size≤w.heap.size+1):=by show _≤_; omega
 have HB7:=za (z8 HB3.out (z7 (Below.refl _ _) (.cells #[.int .u8 (kd:Int),.string a,.string b,.bool z] 32)))
 have Hd8:=za (Hd4.out.later (z7 (Below.refl _ _) (.cells #[.slice none 0 0,.slice none 0 0] zn)))
 have Ha9:=za (Ha5.out.later (z7 (Below.refl _ _) (.cells #[.slice none 0 0,.slice none 0 0] zn)))
 have Hr10:Hid (yn (((w.alloc (.cells #[.slice A0 n c,.slice A1 n1 c1] zn)).alloc (.cells #[.int .u8 (kd:Int),.string a,.string b,.bool z] 32)).alloc (.cells #[.slice none 0 0,.slice none 0 0] zn)) (w.heap.size+2) (.slice none 0 0) (.slice none 0 0)):=zi (by simp)
 have HLO11:Hid (w.heap.size≤w.heap.size+2):=by show _≤_; omega
 have HB12:=za (z8 HB7.out (z7 (Below.refl _ _) (.cells #[.slice none 0 0,.slice none 0 0] zn)))
 go_enter Tryz.func14,Tryz.ntmps14
 have ⟨kx14,ky15,kp16,kq17⟩:=Hd8.out.q11
 have ⟨kx19,ky20,kz21,kw22⟩:=Ha9.out.q11
 have ⟨kx24,ky25,kp26,kq27⟩:=Hr10.out.q11
 go_wp2_with fail
 generalize ((w.alloc (.cells #[.slice A0 n c,.slice A1 n1 c1] zn)).alloc (.cells #[.int .u8 (kd:Int),.string a,.string b,.bool z] 32)).alloc (.cells #[.slice none 0 0,.slice none 0 0] zn)=wg28 at *
 with_reducible refine (HRF.out wg28 HB12.out).mono ?_
 rintro e w2 ⟨R2,u1,u2,rfl,hrc,hpl,hnm,hb⟩
 clear kx14 ky15 kp16 kq17 kx19 ky20 kz21 kw22 kx24 ky25 kp26 kq27
 have Hd29:=za (Hd8.out.later hb)
 have Ha30:=za (Ha9.out.later hb)
 have Hr31:=za (Hr10.out.later hb)
 have HB32:=za (z8 HB12.out hb)
 obtain ⟨A2,c2,rfl⟩:=hrc.rw.us.shape
 obtain ⟨A3,c3,rfl⟩:=hnm.shape
 have HRC:=za hrc
 have HPL:=za hpl
 have HNM:=za hnm
 clear hrc hpl hnm HRF
 obtain ⟨n2,hn2⟩:∃ m,m=R2.length:=⟨_,rfl⟩
 obtain ⟨n3,hn3⟩:∃ m,m=List.length nx:=⟨_,rfl⟩
 rw [← hn2] at HRC ⊢
 rw [← hn3] at HNM ⊢
 clear hn2 hn3
 clear hb
 have ⟨kx34,ky35,kp36,kq37⟩:=Hd29.out.q11
 have ⟨kx39,ky40,kz41,kw42⟩:=Ha30.out.q11
 have ⟨kx44,ky45,kp46,kq47⟩:=Hr31.out.q11
 have Hd48:=za (Hd29.out.set0 (.slice A2 n2 c2))
 have Ha49:=za (Ha30.out.other (c:=w.heap.size) (i:=0) (by omega) (.slice A2 n2 c2))
 have Hr50:=za (Hr31.out.other (c:=w.heap.size) (i:=0) (by omega) (.slice A2 n2 c2))
 have HB51:=za (HB32.out.setCell (p:=⟨w.heap.size,0,none⟩) HLO2.out (.slice A2 n2 c2))
 have ⟨kx53,ky54,kp55,kq56⟩:=Hd48.out.q11
 have ⟨kx58,ky59,kz60,kw61⟩:=Ha49.out.q11
 have ⟨kx63,ky64,kp65,kq66⟩:=Hr50.out.q11
 have Hd67:=za (Hd48.out.set1 (.slice A3 n3 c3))
 have Ha68:=za (Ha49.out.other (c:=w.heap.size) (i:=1) (by omega) (.slice A3 n3 c3))
 have Hr69:=za (Hr50.out.other (c:=w.heap.size) (i:=1) (by omega) (.slice A3 n3 c3))
 have HB70:=za (HB51.out.setCell (p:=⟨w.heap.size,1,none⟩) HLO2.out (.slice A3 n3 c3))
 have HKD:Hid (zQ w2 ((w2.setCell ⟨w.heap.size,0,none⟩ (.slice A2 n2 c2)).setCell ⟨w.heap.size,1,none⟩ (.slice A3 n3 c3))):=(Hd29.out.keep 0 _).trans (Hd48.out.keep 1 _)
 have ⟨kx72,ky73,kp74,kq75⟩:=Hd67.out.q11
 have ⟨kx77,ky78,kz79,kw80⟩:=Ha68.out.q11
 have ⟨kx82,ky83,kp84,kq85⟩:=Hr69.out.q11
 go_wp2_with fail
 generalize (w2.setCell ⟨w.heap.size,0,none⟩ (.slice A2 n2 c2)).setCell ⟨w.heap.size,1,none⟩ (.slice A3 n3 c3)=wg86 at *
 with_reducible refine (HDO.out wg86 (HO.out.later HB70.out)).mono ?_
 rintro e w5 ⟨rfl,hgo⟩
 clear kx34 ky35 kp36 kq37 kx39 ky40 kz41 kw42 kx44 ky45 kp46 kq47 kx53 ky54 kp55 kq56 kx58 ky59 kz60 kw61 kx63 ky64 kp65 kq66 kx72 ky73 kp74 kq75 kx77 ky78 kz79 kw80 kx82 ky83 kp84 kq85
 have Hd87:Hid (yn (w5) (w.heap.size) (.slice A2 n2 c2) (.slice A3 n3 c3)):=Hd67.out.keeps11 hgo.2
 have Hr88:Hid (yn (w5) (w.heap.size+2) (.slice none 0 0) (.slice none 0 0)):=Hr69.out.keeps11 hgo.2
 have HRC5:Hid (xV 0 R2 w5 (.slice A2 n2 c2)):=(HRC.out.keepD11 HKD.out).keeps hgo.2
 have HNM5:Hid (NmR w5 (.slice A3 n3 c3) nx):=(HNM.out.keepD11 HKD.out).keeps11 hgo.2
 have HK5:Hid (zr w w5):=(zr.of_below HB70.out).trans hgo.2
 have HO5:=za hgo.1
 clear hgo HDO HO HRC HNM HKD
 have ⟨kx90,ky91,kp92,kq93⟩:=Hd87.out.q11
 have ⟨kx95,ky96,kp97,kq98⟩:=Hr88.out.q11
 have HRES:Hid (yn ((w5.setCell ⟨w.heap.size+2,0,none⟩ (.slice A2 n2 c2)).setCell ⟨w.heap.size+2,1,none⟩ (.slice A3 n3 c3)) (w.heap.size+2) (.slice A2 n2 c2) (.slice A3 n3 c3)):=(Hr88.out.set0 _).set1 _
 have HKF:Hid (zQ w5 ((w5.setCell ⟨w.heap.size+2,0,none⟩ (.slice A2 n2 c2)).setCell ⟨w.heap.size+2,1,none⟩ (.slice A3 n3 c3))):=(Hr88.out.keep 0 _).trans ((Hr88.out.set0 _).keep 1 _)
 have HOF:Hid (zo w0 ((w5.setCell ⟨w.heap.size+2,0,none⟩ (.slice A2 n2 c2)).setCell ⟨w.heap.size+2,1,none⟩ (.slice A3 n3 c3)) D P M G A L' S):=(HO5.out.cell11 Hr88.out (Nat.le_trans HW0.out (by omega)) _).cell11 (Hr88.out.set0 _) (Nat.le_trans HW0.out (by omega)) _
 have HKP:Hid (zr w ((w5.setCell ⟨w.heap.size+2,0,none⟩ (.slice A2 n2 c2)).setCell ⟨w.heap.size+2,1,none⟩ (.slice A3 n3 c3))):=(HK5.out.cellN11 (by omega) _).cellN11 (by omega) _
 have HPOST:Hid (uz w0 D P M G k w (ze A L S) kd a.data.toList b.data.toList (.returned (.tuple #[.agg #[.slice A2 n2 c2,.slice A3 n3 c3],.bool true])) ((w5.setCell ⟨w.heap.size+2,0,none⟩ (.slice A2 n2 c2)).setCell ⟨w.heap.size+2,1,none⟩ (.slice A3 n3 c3))):=⟨_,_,_,R2,_,_,rfl,HOF.out,HONE.out.1,HRC5.out.keepD11 HKF.out,by rw [HONE.out.2.2]; exact HNM5.out.keepD11 HKF.out,by rw [HPL.out,HONE.out.2.1],HKP.out,by rw [HONE.out.2.1]; exact HOTH.out⟩
 have z0:=HRES.out.c0
 have z1:=HRES.out.c1
 go_wp2
 refine bodyPost_ret (v:=.tuple #[.agg #[.slice A2 n2 c2,.slice A3 n3 c3],.bool true]) ?_ rfl HPOST.out
 simp [results,Tryz.results14,go_sem,z0,z1]

set_option maxRecDepth 100000 in
theorem do11_4 (R:zJ W11) (v vg:Value) (kd:Nat) (a b:ByteArray) (z:Bool) (w:World) (ho:zo w0 w D P M G A L S) (hg:zu A L S k) (hk:k≤90) (h5:vX w0) (hR:xV 0 R w v) (hN:NmR w vg (zb S)) (hp:zc R=ze A L S) (ha:a.size≤50) (hb5:b.size≤50) (hkd:kd % 11=4) :
  Calls Tryz.prog 14 #[.pointer (some ⟨D,0,none⟩),.agg #[v,vg],.agg #[.int .u8 (kd:Int),.string a,.string b,.bool z]] w (uz w0 D P M G k w (ze A L S) kd a.data.toList b.data.toList):=by
 obtain ⟨f1,f2,f3,f4⟩:=yJ hg hp
 have HRF:Hid (∀ W',Below w.heap.size w W'→Calls Tryz.prog 50 #[.agg #[v,vg],.string a,.bool z] W' (yt (ZK A a.data.toList z) (ddiL (ze A L S) a.data.toList z) (zb S) W')):=fun W' hb=>by
  have hR:=hR.later hb
  have hN:=hN.later hb
  have h:=ZD _ _ R _ a z W' hR hN f1 f2 (by omega)
  rw [hp] at h
  have e:=(show _=ZK A a.data.toList z from di_same hg _ _)
  rwa [e] at h
 have HDO:Hid (∀ W',zo w0 W' D P M G A L S→Calls Tryz.prog 51 #[.pointer (some ⟨D,0,none⟩),.string a,.bool z] W' fun e w'=>e=.returned (.int .i64 (ZK A a.data.toList z))∧zE w0 W' D P M G (JV A a.data.toList z) (L) (S) w'):=fun W' ho=>X3 a z ho hg (by omega)
 have HONE:Hid (uy (JV A a.data.toList z) (L) (S) (ddiL (ze A L S) a.data.toList z) (zb S) (k+1)):=di_one hg _ _
 have HRT:Hid (zB (ze A L S)):=zP hg.rise
 have HOTH:Hid (yC kd a.data.toList b.data.toList (ze A L S) (ddiL (ze A L S) a.data.toList z)):=oth_di HRT.out z hkd
 have hrem:(kd:Int).tmod 11=4:=by
  have:(kd:Int).tmod 11=((kd % 11:Nat):Int):=rfl
  rw [this,hkd]; rfl
 have hzd:∀ w:World,(zeroValue zn).run Tryz.prog w=.ok (.agg #[.slice none 0 0,.slice none 0 0]) w:=fun w=>by kernel_rfl
 have HO:=za ho
 have HW0:Hid (w0.heap.size≤w.heap.size):=ho.below.size
 obtain ⟨A0,c,rfl⟩:=hR.rw.us.shape
 obtain ⟨A1,c1,rfl⟩:=hN.shape
 clear ho hg hR hN hp h5 f1 f2 f3 f4 hkd
 generalize R.length=n at *
 generalize (zb S).length=n1 at *
 generalize ZK A a.data.toList z=E at HRF HDO HONE HOTH
 generalize JV A a.data.toList z=A' at HRF HDO HONE HOTH
 generalize ddiL (ze A L S) a.data.toList z=l' at HRF HDO HONE HOTH
 generalize hnx:zb S=nx at HRF HONE
 have Hd1:=za (zp w (.slice A0 n c) (.slice A1 n1 c1))
 have HLO2:Hid (w.heap.size≤w.heap.size):=by show _≤_; omega
 have HB3:Hid (Below w.heap.size w (w.alloc (.cells #[.slice A0 n c,.slice A1 n1 c1] zn))):=z7 (Below.refl _ _) _
 have Hd4:=za (Hd1.out.later (z7 (Below.refl _ _) (.cells #[.int .u8 (kd:Int),.string a,.string b,.bool z] 32)))
 have Ha5:Hid (xL ((w.alloc (.cells #[.slice A0 n c,.slice A1 n1 c1] zn)).alloc (.cells #[.int .u8 (kd:Int),.string a,.string b,.bool z] 32)) (w.heap.size+1) (kd) (a) (b) (z)):=zi (by simp)
 have HLO6:Hid (w.heap.size≤w.heap.size+1):=by show _≤_; omega
 have HB7:=za (z8 HB3.out (z7 (Below.refl _ _) (.cells #[.int .u8 (kd:Int),.string a,.string b,.bool z] 32)))
 have Hd8:=za (Hd4.out.later (z7 (Below.refl _ _) (.cells #[.slice none 0 0,.slice none 0 0] zn)))
 have Ha9:=za (Ha5.out.later (z7 (Below.refl _ _) (.cells #[.slice none 0 0,.slice none 0 0] zn)))
 have Hr10:Hid (yn (((w.alloc (.cells #[.slice A0 n c,.slice A1 n1 c1] zn)).alloc (.cells #[.int .u8 (kd:Int),.string a,.string b,.bool z] 32)).alloc (.cells #[.slice none 0 0,.slice none 0 0] zn)) (w.heap.size+2) (.slice none 0 0) (.slice none 0 0)):=zi (by simp)
 have HLO11:Hid (w.heap.size≤w.heap.size+2):=by show _≤_; omega
 have HB12:=za (z8 HB7.out (z7 (Below.refl _ _) (.cells #[.slice none 0 0,.slice none 0 0] zn)))
 go_enter Tryz.func14,Tryz.ntmps14
 have ⟨kx14,ky15,kp16,kq17⟩:=Hd8.out.q11
 have ⟨kx19,ky20,kz21,kw22⟩:=Ha9.out.q11
 have ⟨kx24,ky25,kp26,kq27⟩:=Hr10.out.q11
 go_wp2_with fail
 generalize ((w.alloc (.cells #[.slice A0 n c,.slice A1 n1 c1] zn)).alloc (.cells #[.int .u8 (kd:Int),.string a,.string b,.bool z] 32)).alloc (.cells #[.slice none 0 0,.slice none 0 0] zn)=wg28 at *
 with_reducible refine (HRF.out wg28 HB12.out).mono ?_
 rintro e w2 ⟨R2,u1,u2,rfl,hrc,hpl,hnm,hb⟩
 clear kx14 ky15 kp16 kq17 kx19 ky20 kz21 kw22 kx24 ky25 kp26 kq27
 have Hd29:=za (Hd8.out.later hb)
 have Ha30:=za (Ha9.out.later hb)
 have Hr31:=za (Hr10.out.later hb)
 have HB32:=za (z8 HB12.out hb)
 obtain ⟨A2,c2,rfl⟩:=hrc.rw.us.shape
 obtain ⟨A3,c3,rfl⟩:=hnm.shape
 have HRC:=za hrc
 have HPL:=za hpl
 have HNM:=za hnm
 clear hrc hpl hnm HRF
 obtain ⟨n2,hn2⟩:∃ m,m=R2.length:=⟨_,rfl⟩
 obtain ⟨n3,hn3⟩:∃ m,m=List.length nx:=⟨_,rfl⟩
 rw [← hn2] at HRC ⊢
 rw [← hn3] at HNM ⊢
 clear hn2 hn3
 clear hb
 have ⟨kx34,ky35,kp36,kq37⟩:=Hd29.out.q11
 have ⟨kx39,ky40,kz41,kw42⟩:=Ha30.out.q11
 have ⟨kx44,ky45,kp46,kq47⟩:=Hr31.out.q11
 have Hd48:=za (Hd29.out.set0 (.slice A2 n2 c2))
 have Ha49:=za (Ha30.out.other (c:=w.heap.size) (i:=0) (by omega) (.slice A2 n2 c2))
 have Hr50:=za (Hr31.out.other (c:=w.heap.size) (i:=0) (by omega) (.slice A2 n2 c2))
 have HB51:=za (HB32.out.setCell (p:=⟨w.heap.size,0,none⟩) HLO2.out (.slice A2 n2 c2))
 have ⟨kx53,ky54,kp55,kq56⟩:=Hd48.out.q11
 have ⟨kx58,ky59,kz60,kw61⟩:=Ha49.out.q11
 have ⟨kx63,ky64,kp65,kq66⟩:=Hr50.out.q11
 have Hd67:=za (Hd48.out.set1 (.slice A3 n3 c3))
 have Ha68:=za (Ha49.out.other (c:=w.heap.size) (i:=1) (by omega) (.slice A3 n3 c3))
 have Hr69:=za (Hr50.out.other (c:=w.heap.size) (i:=1) (by omega) (.slice A3 n3 c3))
 have HB70:=za (HB51.out.setCell (p:=⟨w.heap.size,1,none⟩) HLO2.out (.slice A3 n3 c3))
 have HKD:Hid (zQ w2 ((w2.setCell ⟨w.heap.size,0,none⟩ (.slice A2 n2 c2)).setCell ⟨w.heap.size,1,none⟩ (.slice A3 n3 c3))):=(Hd29.out.keep 0 _).trans (Hd48.out.keep 1 _)
 have ⟨kx72,ky73,kp74,kq75⟩:=Hd67.out.q11
 have ⟨kx77,ky78,kz79,kw80⟩:=Ha68.out.q11
 have ⟨kx82,ky83,kp84,kq85⟩:=Hr69.out.q11
 go_wp2_with fail
 generalize (w2.setCell ⟨w.heap.size,0,none⟩ (.slice A2 n2 c2)).setCell ⟨w.heap.size,1,none⟩ (.slice A3 n3 c3)=wg86 at *
 with_reducible refine (HDO.out wg86 (HO.out.later HB70.out)).mono ?_
 rintro e w5 ⟨rfl,hgo⟩
 clear kx34 ky35 kp36 kq37 kx39 ky40 kz41 kw42 kx44 ky45 kp46 kq47 kx53 ky54 kp55 kq56 kx58 ky59 kz60 kw61 kx63 ky64 kp65 kq66 kx72 ky73 kp74 kq75 kx77 ky78 kz79 kw80 kx82 ky83 kp84 kq85
 have Hd87:Hid (yn (w5) (w.heap.size) (.slice A2 n2 c2) (.slice A3 n3 c3)):=Hd67.out.keeps11 hgo.2
 have Hr88:Hid (yn (w5) (w.heap.size+2) (.slice none 0 0) (.slice none 0 0)):=Hr69.out.keeps11 hgo.2
 have HRC5:Hid (xV 0 R2 w5 (.slice A2 n2 c2)):=(HRC.out.keepD11 HKD.out).keeps hgo.2
 have HNM5:Hid (NmR w5 (.slice A3 n3 c3) nx):=(HNM.out.keepD11 HKD.out).keeps11 hgo.2
 have HK5:Hid (zr w w5):=(zr.of_below HB70.out).trans hgo.2
 have HO5:=za hgo.1
 clear hgo HDO HO HRC HNM HKD
 have ⟨kx90,ky91,kp92,kq93⟩:=Hd87.out.q11
 have ⟨kx95,ky96,kp97,kq98⟩:=Hr88.out.q11
 have HRES:Hid (yn ((w5.setCell ⟨w.heap.size+2,0,none⟩ (.slice A2 n2 c2)).setCell ⟨w.heap.size+2,1,none⟩ (.slice A3 n3 c3)) (w.heap.size+2) (.slice A2 n2 c2) (.slice A3 n3 c3)):=(Hr88.out.set0 _).set1 _
 have HKF:Hid (zQ w5 ((w5.setCell ⟨w.heap.size+2,0,none⟩ (.slice A2 n2 c2)).setCell ⟨w.heap.size+2,1,none⟩ (.slice A3 n3 c3))):=(Hr88.out.keep 0 _).trans ((Hr88.out.set0 _).keep 1 _)
 have HOF:Hid (zo w0 ((w5.setCell ⟨w.heap.size+2,0,none⟩ (.slice A2 n2 c2)).setCell ⟨w.heap.size+2,1,none⟩ (.slice A3 n3 c3)) D P M G A' L S):=(HO5.out.cell11 Hr88.out (Nat.le_trans HW0.out (by omega)) _).cell11 (Hr88.out.set0 _) (Nat.le_trans HW0.out (by omega)) _
 have HKP:Hid (zr w ((w5.setCell ⟨w.heap.size+2,0,none⟩ (.slice A2 n2 c2)).setCell ⟨w.heap.size+2,1,none⟩ (.slice A3 n3 c3))):=(HK5.out.cellN11 (by omega) _).cellN11 (by omega) _
 have HPOST:Hid (uz w0 D P M G k w (ze A L S) kd a.data.toList b.data.toList (.returned (.tuple #[.agg #[.slice A2 n2 c2,.slice A3 n3 c3],.bool true])) ((w5.setCell ⟨w.heap.size+2,0,none⟩ (.slice A2 n2 c2)).setCell ⟨w.heap.size+2,1,none⟩ (.slice A3 n3 c3))):=⟨_,_,_,R2,_,_,rfl,HOF.out,HONE.out.1,HRC5.out.keepD11 HKF.out,by rw [HONE.out.2.2]; exact HNM5.out.keepD11 HKF.out,by rw [HPL.out,HONE.out.2.1],HKP.out,by rw [HONE.out.2.1]; exact HOTH.out⟩
 have z0:=HRES.out.c0
 have z1:=HRES.out.c1
 go_wp2
 refine bodyPost_ret (v:=.tuple #[.agg #[.slice A2 n2 c2,.slice A3 n3 c3],.bool true]) ?_ rfl HPOST.out
 simp [results,Tryz.results14,go_sem,z0,z1]

set_option maxRecDepth 100000 in
theorem do11_5 (R:zJ W11) (v vg:Value) (kd:Nat) (a b:ByteArray) (z:Bool) (w:World) (ho:zo w0 w D P M G A L S) (hg:zu A L S k) (hk:k≤90) (h5:vX w0) (hR:xV 0 R w v) (hN:NmR w vg (zb S)) (hp:zc R=ze A L S) (ha:a.size≤50) (hb5:b.size≤50) (hkd:kd % 11=5) :
  Calls Tryz.prog 14 #[.pointer (some ⟨D,0,none⟩),.agg #[v,vg],.agg #[.int .u8 (kd:Int),.string a,.string b,.bool z]] w (uz w0 D P M G k w (ze A L S) kd a.data.toList b.data.toList):=by
 obtain ⟨f1,f2,f3,f4⟩:=yJ hg hp
 have HRF:Hid (∀ W',Below w.heap.size w W'→Calls Tryz.prog 52 #[.agg #[v,vg],.string a,.string b] W' (yt (qM A a.data.toList b.data.toList) (drnL (ze A L S) a.data.toList b.data.toList) (zb S) W')):=fun W' hb=>by
  have hR:=hR.later hb
  have hN:=hN.later hb
  have h:=Yg _ _ R _ a b W' hR hN f1 f2 (by omega) (by omega)
  rw [hp] at h
  have e:=(show _=qM A a.data.toList b.data.toList from rn_same (A:=A) (L:=L) (S:=S) _ _)
  rwa [e] at h
 have HDO:Hid (∀ W',zo w0 W' D P M G A L S→Calls Tryz.prog 42 #[.pointer (some ⟨D,0,none⟩),.string a,.string b] W' fun e w'=>e=.returned (.int .i64 (qM A a.data.toList b.data.toList))∧zE w0 W' D P M G (Jk A a.data.toList b.data.toList) (Jj A L a.data.toList b.data.toList) (Ji A S a.data.toList b.data.toList) w'):=fun W' ho=>Xt a b ho hg (by omega) (by omega) (by omega)
 have HONE:Hid (uy (Jk A a.data.toList b.data.toList) (Jj A L a.data.toList b.data.toList) (Ji A S a.data.toList b.data.toList) (drnL (ze A L S) a.data.toList b.data.toList) (zb S) (k+1)):=rn_one hg _ _
 have HRT:Hid (zB (ze A L S)):=zP hg.rise
 have HOTH:Hid (yC kd a.data.toList b.data.toList (ze A L S) (drnL (ze A L S) a.data.toList b.data.toList)):=oth_rn HRT.out hkd
 have hrem:(kd:Int).tmod 11=5:=by
  have:(kd:Int).tmod 11=((kd % 11:Nat):Int):=rfl
  rw [this,hkd]; rfl
 have hzd:∀ w:World,(zeroValue zn).run Tryz.prog w=.ok (.agg #[.slice none 0 0,.slice none 0 0]) w:=fun w=>by kernel_rfl
 have HO:=za ho
 have HW0:Hid (w0.heap.size≤w.heap.size):=ho.below.size
 obtain ⟨A0,c,rfl⟩:=hR.rw.us.shape
 obtain ⟨A1,c1,rfl⟩:=hN.shape
 clear ho hg hR hN hp h5 f1 f2 f3 f4 hkd
 generalize R.length=n at *
 generalize (zb S).length=n1 at *
 generalize qM A a.data.toList b.data.toList=E at HRF HDO HONE HOTH
 generalize Jk A a.data.toList b.data.toList=A' at HRF HDO HONE HOTH
 generalize Jj A L a.data.toList b.data.toList=L' at HRF HDO HONE HOTH
 generalize Ji A S a.data.toList b.data.toList=S' at HRF HDO HONE HOTH
 generalize drnL (ze A L S) a.data.toList b.data.toList=l' at HRF HDO HONE HOTH
 generalize hnx:zb S=nx at HRF HONE
 have Hd1:=za (zp w (.slice A0 n c) (.slice A1 n1 c1))
 have HLO2:Hid (w.heap.size≤w.heap.size):=by show _≤_; omega
 have HB3:Hid (Below w.heap.size w (w.alloc (.cells #[.slice A0 n c,.slice A1 n1 c1] zn))):=z7 (Below.refl _ _) _
 have Hd4:=za (Hd1.out.later (z7 (Below.refl _ _) (.cells #[.int .u8 (kd:Int),.string a,.string b,.bool z] 32)))
 have Ha5:Hid (xL ((w.alloc (.cells #[.slice A0 n c,.slice A1 n1 c1] zn)).alloc (.cells #[.int .u8 (kd:Int),.string a,.string b,.bool z] 32)) (w.heap.size+1) (kd) (a) (b) (z)):=zi (by simp)
 have HLO6:Hid (w.heap.size≤w.heap.size+1):=by show _≤_; omega
 have HB7:=za (z8 HB3.out (z7 (Below.refl _ _) (.cells #[.int .u8 (kd:Int),.string a,.string b,.bool z] 32)))
 have Hd8:=za (Hd4.out.later (z7 (Below.refl _ _) (.cells #[.slice none 0 0,.slice none 0 0] zn)))
 have Ha9:=za (Ha5.out.later (z7 (Below.refl _ _) (.cells #[.slice none 0 0,.slice none 0 0] zn)))
 have Hr10:Hid (yn (((w.alloc (.cells #[.slice A0 n c,.slice A1 n1 c1] zn)).alloc (.cells #[.int .u8 (kd:Int),.string a,.string b,.bool z] 32)).alloc (.cells #[.slice none 0 0,.slice none 0 0] zn)) (w.heap.size+2) (.slice none 0 0) (.slice none 0 0)):=zi (by simp)
 have HLO11:Hid (w.heap.size≤w.heap.size+2):=by show _≤_; omega
 have HB12:=za (z8 HB7.out (z7 (Below.refl _ _) (.cells #[.slice none 0 0,.slice none 0 0] zn)))
 go_enter Tryz.func14,Tryz.ntmps14
 have ⟨kx14,ky15,kp16,kq17⟩:=Hd8.out.q11
 have ⟨kx19,ky20,kz21,kw22⟩:=Ha9.out.q11
 have ⟨kx24,ky25,kp26,kq27⟩:=Hr10.out.q11
 go_wp2_with fail
 generalize ((w.alloc (.cells #[.slice A0 n c,.slice A1 n1 c1] zn)).alloc (.cells #[.int .u8 (kd:Int),.string a,.string b,.bool z] 32)).alloc (.cells #[.slice none 0 0,.slice none 0 0] zn)=wg28 at *
 with_reducible refine (HRF.out wg28 HB12.out).mono ?_
 rintro e w2 ⟨R2,u1,u2,rfl,hrc,hpl,hnm,hb⟩
 clear kx14 ky15 kp16 kq17 kx19 ky20 kz21 kw22 kx24 ky25 kp26 kq27
 have Hd29:=za (Hd8.out.later hb)
 have Ha30:=za (Ha9.out.later hb)
 have Hr31:=za (Hr10.out.later hb)
 have HB32:=za (z8 HB12.out hb)
 obtain ⟨A2,c2,rfl⟩:=hrc.rw.us.shape
 obtain ⟨A3,c3,rfl⟩:=hnm.shape
 have HRC:=za hrc
 have HPL:=za hpl
 have HNM:=za hnm
 clear hrc hpl hnm HRF
 obtain ⟨n2,hn2⟩:∃ m,m=R2.length:=⟨_,rfl⟩
 obtain ⟨n3,hn3⟩:∃ m,m=List.length nx:=⟨_,rfl⟩
 rw [← hn2] at HRC ⊢
 rw [← hn3] at HNM ⊢
 clear hn2 hn3
 clear hb
 have ⟨kx34,ky35,kp36,kq37⟩:=Hd29.out.q11
 have ⟨kx39,ky40,kz41,kw42⟩:=Ha30.out.q11
 have ⟨kx44,ky45,kp46,kq47⟩:=Hr31.out.q11
 have Hd48:=za (Hd29.out.set0 (.slice A2 n2 c2))
 have Ha49:=za (Ha30.out.other (c:=w.heap.size) (i:=0) (by omega) (.slice A2 n2 c2))
 have Hr50:=za (Hr31.out.other (c:=w.heap.size) (i:=0) (by omega) (.slice A2 n2 c2))
 have HB51:=za (HB32.out.setCell (p:=⟨w.heap.size,0,none⟩) HLO2.out (.slice A2 n2 c2))
 have ⟨kx53,ky54,kp55,kq56⟩:=Hd48.out.q11
 have ⟨kx58,ky59,kz60,kw61⟩:=Ha49.out.q11
 have ⟨kx63,ky64,kp65,kq66⟩:=Hr50.out.q11
 have Hd67:=za (Hd48.out.set1 (.slice A3 n3 c3))
 have Ha68:=za (Ha49.out.other (c:=w.heap.size) (i:=1) (by omega) (.slice A3 n3 c3))
 have Hr69:=za (Hr50.out.other (c:=w.heap.size) (i:=1) (by omega) (.slice A3 n3 c3))
 have HB70:=za (HB51.out.setCell (p:=⟨w.heap.size,1,none⟩) HLO2.out (.slice A3 n3 c3))
 have HKD:Hid (zQ w2 ((w2.setCell ⟨w.heap.size,0,none⟩ (.slice A2 n2 c2)).setCell ⟨w.heap.size,1,none⟩ (.slice A3 n3 c3))):=(Hd29.out.keep 0 _).trans (Hd48.out.keep 1 _)
 have ⟨kx72,ky73,kp74,kq75⟩:=Hd67.out.q11
 have ⟨kx77,ky78,kz79,kw80⟩:=Ha68.out.q11
 have ⟨kx82,ky83,kp84,kq85⟩:=Hr69.out.q11
 go_wp2_with fail
 generalize (w2.setCell ⟨w.heap.size,0,none⟩ (.slice A2 n2 c2)).setCell ⟨w.heap.size,1,none⟩ (.slice A3 n3 c3)=wg86 at *
 with_reducible refine (HDO.out wg86 (HO.out.later HB70.out)).mono ?_
 rintro e w5 ⟨rfl,hgo⟩
 clear kx34 ky35 kp36 kq37 kx39 ky40 kz41 kw42 kx44 ky45 kp46 kq47 kx53 ky54 kp55 kq56 kx58 ky59 kz60 kw61 kx63 ky64 kp65 kq66 kx72 ky73 kp74 kq75 kx77 ky78 kz79 kw80 kx82 ky83 kp84 kq85
 have Hd87:Hid (yn (w5) (w.heap.size) (.slice A2 n2 c2) (.slice A3 n3 c3)):=Hd67.out.keeps11 hgo.2
 have Hr88:Hid (yn (w5) (w.heap.size+2) (.slice none 0 0) (.slice none 0 0)):=Hr69.out.keeps11 hgo.2
 have HRC5:Hid (xV 0 R2 w5 (.slice A2 n2 c2)):=(HRC.out.keepD11 HKD.out).keeps hgo.2
 have HNM5:Hid (NmR w5 (.slice A3 n3 c3) nx):=(HNM.out.keepD11 HKD.out).keeps11 hgo.2
 have HK5:Hid (zr w w5):=(zr.of_below HB70.out).trans hgo.2
 have HO5:=za hgo.1
 clear hgo HDO HO HRC HNM HKD
 have ⟨kx90,ky91,kp92,kq93⟩:=Hd87.out.q11
 have ⟨kx95,ky96,kp97,kq98⟩:=Hr88.out.q11
 have HRES:Hid (yn ((w5.setCell ⟨w.heap.size+2,0,none⟩ (.slice A2 n2 c2)).setCell ⟨w.heap.size+2,1,none⟩ (.slice A3 n3 c3)) (w.heap.size+2) (.slice A2 n2 c2) (.slice A3 n3 c3)):=(Hr88.out.set0 _).set1 _
 have HKF:Hid (zQ w5 ((w5.setCell ⟨w.heap.size+2,0,none⟩ (.slice A2 n2 c2)).setCell ⟨w.heap.size+2,1,none⟩ (.slice A3 n3 c3))):=(Hr88.out.keep 0 _).trans ((Hr88.out.set0 _).keep 1 _)
 have HOF:Hid (zo w0 ((w5.setCell ⟨w.heap.size+2,0,none⟩ (.slice A2 n2 c2)).setCell ⟨w.heap.size+2,1,none⟩ (.slice A3 n3 c3)) D P M G A' L' S'):=(HO5.out.cell11 Hr88.out (Nat.le_trans HW0.out (by omega)) _).cell11 (Hr88.out.set0 _) (Nat.le_trans HW0.out (by omega)) _
 have HKP:Hid (zr w ((w5.setCell ⟨w.heap.size+2,0,none⟩ (.slice A2 n2 c2)).setCell ⟨w.heap.size+2,1,none⟩ (.slice A3 n3 c3))):=(HK5.out.cellN11 (by omega) _).cellN11 (by omega) _
 have HPOST:Hid (uz w0 D P M G k w (ze A L S) kd a.data.toList b.data.toList (.returned (.tuple #[.agg #[.slice A2 n2 c2,.slice A3 n3 c3],.bool true])) ((w5.setCell ⟨w.heap.size+2,0,none⟩ (.slice A2 n2 c2)).setCell ⟨w.heap.size+2,1,none⟩ (.slice A3 n3 c3))):=⟨_,_,_,R2,_,_,rfl,HOF.out,HONE.out.1,HRC5.out.keepD11 HKF.out,by rw [HONE.out.2.2]; exact HNM5.out.keepD11 HKF.out,by rw [HPL.out,HONE.out.2.1],HKP.out,by rw [HONE.out.2.1]; exact HOTH.out⟩
 have z0:=HRES.out.c0
 have z1:=HRES.out.c1
 go_wp2
 refine bodyPost_ret (v:=.tuple #[.agg #[.slice A2 n2 c2,.slice A3 n3 c3],.bool true]) ?_ rfl HPOST.out
 simp [results,Tryz.results14,go_sem,z0,z1]

set_option maxRecDepth 100000 in
theorem do11_6 (R:zJ W11) (v vg:Value) (kd:Nat) (a b:ByteArray) (z:Bool) (w:World) (ho:zo w0 w D P M G A L S) (hg:zu A L S k) (hk:k≤90) (h5:vX w0) (hR:xV 0 R w v) (hN:NmR w vg (zb S)) (hp:zc R=ze A L S) (ha:a.size≤50) (hb5:b.size≤50) (hkd:kd % 11=6) :
  Calls Tryz.prog 14 #[.pointer (some ⟨D,0,none⟩),.agg #[v,vg],.agg #[.int .u8 (kd:Int),.string a,.string b,.bool z]] w (uz w0 D P M G k w (ze A L S) kd a.data.toList b.data.toList):=by
 obtain ⟨f1,f2,f3,f4⟩:=yJ hg hp
 have HRF:Hid (∀ W',Below w.heap.size w W'→Calls Tryz.prog 53 #[.agg #[v,vg],.string a] W' (yt (uC S a.data.toList) (ze A L S) (fC (zb S) a.data.toList) W')):=fun W' hb=>by
  have hR:=hR.later hb
  have hN:=hN.later hb
  have h:=fa _ _ R _ a W' hR hN f3 (by omega)
  rw [hp] at h
  have e:=(show _=uC S a.data.toList from JE (S:=S) _)
  rwa [e] at h
 have HDO:Hid (∀ W',zo w0 W' D P M G A L S→Calls Tryz.prog 54 #[.pointer (some ⟨D,0,none⟩),.string a] W' fun e w'=>e=.returned (.int .i64 (uC S a.data.toList))∧zE w0 W' D P M G (A) (L) (uZ S a.data.toList) w'):=fun W' ho=>Z2 a ho hg (by omega)
 have HONE:Hid (uy (A) (L) (uZ S a.data.toList) (ze A L S) (fC (zb S) a.data.toList) (k+1)):=ma_one hg _
 have HRT:Hid (zB (ze A L S)):=zP hg.rise
 have HOTH:Hid (∀ T0 T',yC kd a.data.toList b.data.toList T0 T'):=fun T0 T' h6 h7=>absurd hkd (by assumption)
 have hrem:(kd:Int).tmod 11=6:=by
  have:(kd:Int).tmod 11=((kd % 11:Nat):Int):=rfl
  rw [this,hkd]; rfl
 have hzd:∀ w:World,(zeroValue zn).run Tryz.prog w=.ok (.agg #[.slice none 0 0,.slice none 0 0]) w:=fun w=>by kernel_rfl
 have HO:=za ho
 have HW0:Hid (w0.heap.size≤w.heap.size):=ho.below.size
 obtain ⟨A0,c,rfl⟩:=hR.rw.us.shape
 obtain ⟨A1,c1,rfl⟩:=hN.shape
 clear ho hg hR hN hp h5 f1 f2 f3 f4 hkd
 generalize R.length=n at *
 generalize (zb S).length=n1 at *
 generalize uC S a.data.toList=E at HRF HDO HONE
 generalize uZ S a.data.toList=S' at HRF HDO HONE
 generalize fC (zb S) a.data.toList=N' at HRF HDO HONE
 generalize hlx:ze A L S=lx at HRF HONE
 have Hd1:=za (zp w (.slice A0 n c) (.slice A1 n1 c1))
 have HLO2:Hid (w.heap.size≤w.heap.size):=by show _≤_; omega
 have HB3:Hid (Below w.heap.size w (w.alloc (.cells #[.slice A0 n c,.slice A1 n1 c1] zn))):=z7 (Below.refl _ _) _
 have Hd4:=za (Hd1.out.later (z7 (Below.refl _ _) (.cells #[.int .u8 (kd:Int),.string a,.string b,.bool z] 32)))
 have Ha5:Hid (xL ((w.alloc (.cells #[.slice A0 n c,.slice A1 n1 c1] zn)).alloc (.cells #[.int .u8 (kd:Int),.string a,.string b,.bool z] 32)) (w.heap.size+1) (kd) (a) (b) (z)):=zi (by simp)
 have HLO6:Hid (w.heap.size≤w.heap.size+1):=by show _≤_; omega
 have HB7:=za (z8 HB3.out (z7 (Below.refl _ _) (.cells #[.int .u8 (kd:Int),.string a,.string b,.bool z] 32)))
 have Hd8:=za (Hd4.out.later (z7 (Below.refl _ _) (.cells #[.slice none 0 0,.slice none 0 0] zn)))
 have Ha9:=za (Ha5.out.later (z7 (Below.refl _ _) (.cells #[.slice none 0 0,.slice none 0 0] zn)))
 have Hr10:Hid (yn (((w.alloc (.cells #[.slice A0 n c,.slice A1 n1 c1] zn)).alloc (.cells #[.int .u8 (kd:Int),.string a,.string b,.bool z] 32)).alloc (.cells #[.slice none 0 0,.slice none 0 0] zn)) (w.heap.size+2) (.slice none 0 0) (.slice none 0 0)):=zi (by simp)
 have HLO11:Hid (w.heap.size≤w.heap.size+2):=by show _≤_; omega
 have HB12:=za (z8 HB7.out (z7 (Below.refl _ _) (.cells #[.slice none 0 0,.slice none 0 0] zn)))
 go_enter Tryz.func14,Tryz.ntmps14
 have ⟨kx14,ky15,kp16,kq17⟩:=Hd8.out.q11
 have ⟨kx19,ky20,kz21,kw22⟩:=Ha9.out.q11
 have ⟨kx24,ky25,kp26,kq27⟩:=Hr10.out.q11
 go_wp2_with fail
 generalize ((w.alloc (.cells #[.slice A0 n c,.slice A1 n1 c1] zn)).alloc (.cells #[.int .u8 (kd:Int),.string a,.string b,.bool z] 32)).alloc (.cells #[.slice none 0 0,.slice none 0 0] zn)=wg28 at *
 with_reducible refine (HRF.out wg28 HB12.out).mono ?_
 rintro e w2 ⟨R2,u1,u2,rfl,hrc,hpl,hnm,hb⟩
 clear kx14 ky15 kp16 kq17 kx19 ky20 kz21 kw22 kx24 ky25 kp26 kq27
 have Hd29:=za (Hd8.out.later hb)
 have Ha30:=za (Ha9.out.later hb)
 have Hr31:=za (Hr10.out.later hb)
 have HB32:=za (z8 HB12.out hb)
 obtain ⟨A2,c2,rfl⟩:=hrc.rw.us.shape
 obtain ⟨A3,c3,rfl⟩:=hnm.shape
 have HRC:=za hrc
 have HPL:=za hpl
 have HNM:=za hnm
 clear hrc hpl hnm HRF
 obtain ⟨n2,hn2⟩:∃ m,m=R2.length:=⟨_,rfl⟩
 obtain ⟨n3,hn3⟩:∃ m,m=List.length N':=⟨_,rfl⟩
 rw [← hn2] at HRC ⊢
 rw [← hn3] at HNM ⊢
 clear hn2 hn3
 clear hb
 have ⟨kx34,ky35,kp36,kq37⟩:=Hd29.out.q11
 have ⟨kx39,ky40,kz41,kw42⟩:=Ha30.out.q11
 have ⟨kx44,ky45,kp46,kq47⟩:=Hr31.out.q11
 have Hd48:=za (Hd29.out.set0 (.slice A2 n2 c2))
 have Ha49:=za (Ha30.out.other (c:=w.heap.size) (i:=0) (by omega) (.slice A2 n2 c2))
 have Hr50:=za (Hr31.out.other (c:=w.heap.size) (i:=0) (by omega) (.slice A2 n2 c2))
 have HB51:=za (HB32.out.setCell (p:=⟨w.heap.size,0,none⟩) HLO2.out (.slice A2 n2 c2))
 have ⟨kx53,ky54,kp55,kq56⟩:=Hd48.out.q11
 have ⟨kx58,ky59,kz60,kw61⟩:=Ha49.out.q11
 have ⟨kx63,ky64,kp65,kq66⟩:=Hr50.out.q11
 have Hd67:=za (Hd48.out.set1 (.slice A3 n3 c3))
 have Ha68:=za (Ha49.out.other (c:=w.heap.size) (i:=1) (by omega) (.slice A3 n3 c3))
 have Hr69:=za (Hr50.out.other (c:=w.heap.size) (i:=1) (by omega) (.slice A3 n3 c3))
 have HB70:=za (HB51.out.setCell (p:=⟨w.heap.size,1,none⟩) HLO2.out (.slice A3 n3 c3))
 have HKD:Hid (zQ w2 ((w2.setCell ⟨w.heap.size,0,none⟩ (.slice A2 n2 c2)).setCell ⟨w.heap.size,1,none⟩ (.slice A3 n3 c3))):=(Hd29.out.keep 0 _).trans (Hd48.out.keep 1 _)
 have ⟨kx72,ky73,kp74,kq75⟩:=Hd67.out.q11
 have ⟨kx77,ky78,kz79,kw80⟩:=Ha68.out.q11
 have ⟨kx82,ky83,kp84,kq85⟩:=Hr69.out.q11
 go_wp2_with fail
 generalize (w2.setCell ⟨w.heap.size,0,none⟩ (.slice A2 n2 c2)).setCell ⟨w.heap.size,1,none⟩ (.slice A3 n3 c3)=wg86 at *
 with_reducible refine (HDO.out wg86 (HO.out.later HB70.out)).mono ?_
 rintro e w5 ⟨rfl,hgo⟩
 clear kx34 ky35 kp36 kq37 kx39 ky40 kz41 kw42 kx44 ky45 kp46 kq47 kx53 ky54 kp55 kq56 kx58 ky59 kz60 kw61 kx63 ky64 kp65 kq66 kx72 ky73 kp74 kq75 kx77 ky78 kz79 kw80 kx82 ky83 kp84 kq85
 have Hd87:Hid (yn (w5) (w.heap.size) (.slice A2 n2 c2) (.slice A3 n3 c3)):=Hd67.out.keeps11 hgo.2
 have Hr88:Hid (yn (w5) (w.heap.size+2) (.slice none 0 0) (.slice none 0 0)):=Hr69.out.keeps11 hgo.2
 have HRC5:Hid (xV 0 R2 w5 (.slice A2 n2 c2)):=(HRC.out.keepD11 HKD.out).keeps hgo.2
 have HNM5:Hid (NmR w5 (.slice A3 n3 c3) N'):=(HNM.out.keepD11 HKD.out).keeps11 hgo.2
 have HK5:Hid (zr w w5):=(zr.of_below HB70.out).trans hgo.2
 have HO5:=za hgo.1
 clear hgo HDO HO HRC HNM HKD
 have ⟨kx90,ky91,kp92,kq93⟩:=Hd87.out.q11
 have ⟨kx95,ky96,kp97,kq98⟩:=Hr88.out.q11
 have HRES:Hid (yn ((w5.setCell ⟨w.heap.size+2,0,none⟩ (.slice A2 n2 c2)).setCell ⟨w.heap.size+2,1,none⟩ (.slice A3 n3 c3)) (w.heap.size+2) (.slice A2 n2 c2) (.slice A3 n3 c3)):=(Hr88.out.set0 _).set1 _
 have HKF:Hid (zQ w5 ((w5.setCell ⟨w.heap.size+2,0,none⟩ (.slice A2 n2 c2)).setCell ⟨w.heap.size+2,1,none⟩ (.slice A3 n3 c3))):=(Hr88.out.keep 0 _).trans ((Hr88.out.set0 _).keep 1 _)
 have HOF:Hid (zo w0 ((w5.setCell ⟨w.heap.size+2,0,none⟩ (.slice A2 n2 c2)).setCell ⟨w.heap.size+2,1,none⟩ (.slice A3 n3 c3)) D P M G A L S'):=(HO5.out.cell11 Hr88.out (Nat.le_trans HW0.out (by omega)) _).cell11 (Hr88.out.set0 _) (Nat.le_trans HW0.out (by omega)) _
 have HKP:Hid (zr w ((w5.setCell ⟨w.heap.size+2,0,none⟩ (.slice A2 n2 c2)).setCell ⟨w.heap.size+2,1,none⟩ (.slice A3 n3 c3))):=(HK5.out.cellN11 (by omega) _).cellN11 (by omega) _
 have HPOST:Hid (uz w0 D P M G k w (lx) kd a.data.toList b.data.toList (.returned (.tuple #[.agg #[.slice A2 n2 c2,.slice A3 n3 c3],.bool true])) ((w5.setCell ⟨w.heap.size+2,0,none⟩ (.slice A2 n2 c2)).setCell ⟨w.heap.size+2,1,none⟩ (.slice A3 n3 c3))):=⟨_,_,_,R2,_,_,rfl,HOF.out,HONE.out.1,HRC5.out.keepD11 HKF.out,by rw [HONE.out.2.2]; exact HNM5.out.keepD11 HKF.out,by rw [HPL.out,HONE.out.2.1],HKP.out,HOTH.out _ _⟩
 have z0:=HRES.out.c0
 have z1:=HRES.out.c1
 go_wp2
 refine bodyPost_ret (v:=.tuple #[.agg #[.slice A2 n2 c2,.slice A3 n3 c3],.bool true]) ?_ rfl HPOST.out
 simp [results,Tryz.results14,go_sem,z0,z1]

set_option maxRecDepth 100000 in
theorem do11_7 (R:zJ W11) (v vg:Value) (kd:Nat) (a b:ByteArray) (z:Bool) (w:World) (ho:zo w0 w D P M G A L S) (hg:zu A L S k) (hk:k≤90) (h5:vX w0) (hR:xV 0 R w v) (hN:NmR w vg (zb S)) (hp:zc R=ze A L S) (ha:a.size≤50) (hb5:b.size≤50) (hkd:kd % 11=7) :
  Calls Tryz.prog 14 #[.pointer (some ⟨D,0,none⟩),.agg #[v,vg],.agg #[.int .u8 (kd:Int),.string a,.string b,.bool z]] w (uz w0 D P M G k w (ze A L S) kd a.data.toList b.data.toList):=by
 obtain ⟨f1,f2,f3,f4⟩:=yJ hg hp
 have HRF:Hid (∀ W',Below w.heap.size w W'→Calls Tryz.prog 55 #[.agg #[v,vg],.string a] W' (yt (jt S a.data.toList) (Zy (ze A L S) (zb S) a.data.toList) (fE (zb S) a.data.toList) W')):=fun W' hb=>by
  have hR:=hR.later hb
  have hN:=hN.later hb
  have h:=fg _ _ R _ a W' hR hN f1 f4 f3 (by omega)
  rw [hp] at h
  have e:=(show _=jt S a.data.toList from dr_same (S:=S) _)
  rwa [e] at h
 have HDO:Hid (∀ W',zo w0 W' D P M G A L S→Calls Tryz.prog 56 #[.pointer (some ⟨D,0,none⟩),.string a] W' fun e w'=>e=.returned (.int .i64 (jt S a.data.toList))∧zE w0 W' D P M G (A) (L) (j4 S a.data.toList) w'):=fun W' ho=>qe a ho (by omega)
 have HONE:Hid (uy (A) (L) (j4 S a.data.toList) (Zy (ze A L S) (zb S) a.data.toList) (fE (zb S) a.data.toList) (k+1)):=dr_one hg _
 have HRT:Hid (zB (ze A L S)):=zP hg.rise
 have HOTH:Hid (∀ T0 T',yC kd a.data.toList b.data.toList T0 T'):=fun T0 T' h6 h7=>absurd hkd (by assumption)
 have hrem:(kd:Int).tmod 11=7:=by
  have:(kd:Int).tmod 11=((kd % 11:Nat):Int):=rfl
  rw [this,hkd]; rfl
 have hzd:∀ w:World,(zeroValue zn).run Tryz.prog w=.ok (.agg #[.slice none 0 0,.slice none 0 0]) w:=fun w=>by kernel_rfl
 have HO:=za ho
 have HW0:Hid (w0.heap.size≤w.heap.size):=ho.below.size
 obtain ⟨A0,c,rfl⟩:=hR.rw.us.shape
 obtain ⟨A1,c1,rfl⟩:=hN.shape
 clear ho hg hR hN hp h5 f1 f2 f3 f4 hkd
 generalize R.length=n at *
 generalize (zb S).length=n1 at *
 generalize jt S a.data.toList=E at HRF HDO HONE
 generalize j4 S a.data.toList=S' at HRF HDO HONE
 generalize Zy (ze A L S) (zb S) a.data.toList=l' at HRF HDO HONE
 generalize fE (zb S) a.data.toList=N' at HRF HDO HONE
 have Hd1:=za (zp w (.slice A0 n c) (.slice A1 n1 c1))
 have HLO2:Hid (w.heap.size≤w.heap.size):=by show _≤_; omega
 have HB3:Hid (Below w.heap.size w (w.alloc (.cells #[.slice A0 n c,.slice A1 n1 c1] zn))):=z7 (Below.refl _ _) _
 have Hd4:=za (Hd1.out.later (z7 (Below.refl _ _) (.cells #[.int .u8 (kd:Int),.string a,.string b,.bool z] 32)))
 have Ha5:Hid (xL ((w.alloc (.cells #[.slice A0 n c,.slice A1 n1 c1] zn)).alloc (.cells #[.int .u8 (kd:Int),.string a,.string b,.bool z] 32)) (w.heap.size+1) (kd) (a) (b) (z)):=zi (by simp)
 have HLO6:Hid (w.heap.size≤w.heap.size+1):=by show _≤_; omega
 have HB7:=za (z8 HB3.out (z7 (Below.refl _ _) (.cells #[.int .u8 (kd:Int),.string a,.string b,.bool z] 32)))
 have Hd8:=za (Hd4.out.later (z7 (Below.refl _ _) (.cells #[.slice none 0 0,.slice none 0 0] zn)))
 have Ha9:=za (Ha5.out.later (z7 (Below.refl _ _) (.cells #[.slice none 0 0,.slice none 0 0] zn)))
 have Hr10:Hid (yn (((w.alloc (.cells #[.slice A0 n c,.slice A1 n1 c1] zn)).alloc (.cells #[.int .u8 (kd:Int),.string a,.string b,.bool z] 32)).alloc (.cells #[.slice none 0 0,.slice none 0 0] zn)) (w.heap.size+2) (.slice none 0 0) (.slice none 0 0)):=zi (by simp)
 have HLO11:Hid (w.heap.size≤w.heap.size+2):=by show _≤_; omega
 have HB12:=za (z8 HB7.out (z7 (Below.refl _ _) (.cells #[.slice none 0 0,.slice none 0 0] zn)))
 go_enter Tryz.func14,Tryz.ntmps14
 have ⟨kx14,ky15,kp16,kq17⟩:=Hd8.out.q11
 have ⟨kx19,ky20,kz21,kw22⟩:=Ha9.out.q11
 have ⟨kx24,ky25,kp26,kq27⟩:=Hr10.out.q11
 go_wp2_with fail
 generalize ((w.alloc (.cells #[.slice A0 n c,.slice A1 n1 c1] zn)).alloc (.cells #[.int .u8 (kd:Int),.string a,.string b,.bool z] 32)).alloc (.cells #[.slice none 0 0,.slice none 0 0] zn)=wg28 at *
 with_reducible refine (HRF.out wg28 HB12.out).mono ?_
 rintro e w2 ⟨R2,u1,u2,rfl,hrc,hpl,hnm,hb⟩
 clear kx14 ky15 kp16 kq17 kx19 ky20 kz21 kw22 kx24 ky25 kp26 kq27
 have Hd29:=za (Hd8.out.later hb)
 have Ha30:=za (Ha9.out.later hb)
 have Hr31:=za (Hr10.out.later hb)
 have HB32:=za (z8 HB12.out hb)
 obtain ⟨A2,c2,rfl⟩:=hrc.rw.us.shape
 obtain ⟨A3,c3,rfl⟩:=hnm.shape
 have HRC:=za hrc
 have HPL:=za hpl
 have HNM:=za hnm
 clear hrc hpl hnm HRF
 obtain ⟨n2,hn2⟩:∃ m,m=R2.length:=⟨_,rfl⟩
 obtain ⟨n3,hn3⟩:∃ m,m=List.length N':=⟨_,rfl⟩
 rw [← hn2] at HRC ⊢
 rw [← hn3] at HNM ⊢
 clear hn2 hn3
 clear hb
 have ⟨kx34,ky35,kp36,kq37⟩:=Hd29.out.q11
 have ⟨kx39,ky40,kz41,kw42⟩:=Ha30.out.q11
 have ⟨kx44,ky45,kp46,kq47⟩:=Hr31.out.q11
 have Hd48:=za (Hd29.out.set0 (.slice A2 n2 c2))
 have Ha49:=za (Ha30.out.other (c:=w.heap.size) (i:=0) (by omega) (.slice A2 n2 c2))
 have Hr50:=za (Hr31.out.other (c:=w.heap.size) (i:=0) (by omega) (.slice A2 n2 c2))
 have HB51:=za (HB32.out.setCell (p:=⟨w.heap.size,0,none⟩) HLO2.out (.slice A2 n2 c2))
 have ⟨kx53,ky54,kp55,kq56⟩:=Hd48.out.q11
 have ⟨kx58,ky59,kz60,kw61⟩:=Ha49.out.q11
 have ⟨kx63,ky64,kp65,kq66⟩:=Hr50.out.q11
 have Hd67:=za (Hd48.out.set1 (.slice A3 n3 c3))
 have Ha68:=za (Ha49.out.other (c:=w.heap.size) (i:=1) (by omega) (.slice A3 n3 c3))
 have Hr69:=za (Hr50.out.other (c:=w.heap.size) (i:=1) (by omega) (.slice A3 n3 c3))
 have HB70:=za (HB51.out.setCell (p:=⟨w.heap.size,1,none⟩) HLO2.out (.slice A3 n3 c3))
 have HKD:Hid (zQ w2 ((w2.setCell ⟨w.heap.size,0,none⟩ (.slice A2 n2 c2)).setCell ⟨w.heap.size,1,none⟩ (.slice A3 n3 c3))):=(Hd29.out.keep 0 _).trans (Hd48.out.keep 1 _)
 have ⟨kx72,ky73,kp74,kq75⟩:=Hd67.out.q11
 have ⟨kx77,ky78,kz79,kw80⟩:=Ha68.out.q11
 have ⟨kx82,ky83,kp84,kq85⟩:=Hr69.out.q11
 go_wp2_with fail
 generalize (w2.setCell ⟨w.heap.size,0,none⟩ (.slice A2 n2 c2)).setCell ⟨w.heap.size,1,none⟩ (.slice A3 n3 c3)=wg86 at *
 with_reducible refine (HDO.out wg86 (HO.out.later HB70.out)).mono ?_
 rintro e w5 ⟨rfl,hgo⟩
 clear kx34 ky35 kp36 kq37 kx39 ky40 kz41 kw42 kx44 ky45 kp46 kq47 kx53 ky54 kp55 kq56 kx58 ky59 kz60 kw61 kx63 ky64 kp65 kq66 kx72 ky73 kp74 kq75 kx77 ky78 kz79 kw80 kx82 ky83 kp84 kq85
 have Hd87:Hid (yn (w5) (w.heap.size) (.slice A2 n2 c2) (.slice A3 n3 c3)):=Hd67.out.keeps11 hgo.2
 have Hr88:Hid (yn (w5) (w.heap.size+2) (.slice none 0 0) (.slice none 0 0)):=Hr69.out.keeps11 hgo.2
 have HRC5:Hid (xV 0 R2 w5 (.slice A2 n2 c2)):=(HRC.out.keepD11 HKD.out).keeps hgo.2
 have HNM5:Hid (NmR w5 (.slice A3 n3 c3) N'):=(HNM.out.keepD11 HKD.out).keeps11 hgo.2
 have HK5:Hid (zr w w5):=(zr.of_below HB70.out).trans hgo.2
 have HO5:=za hgo.1
 clear hgo HDO HO HRC HNM HKD
 have ⟨kx90,ky91,kp92,kq93⟩:=Hd87.out.q11
 have ⟨kx95,ky96,kp97,kq98⟩:=Hr88.out.q11
 have HRES:Hid (yn ((w5.setCell ⟨w.heap.size+2,0,none⟩ (.slice A2 n2 c2)).setCell ⟨w.heap.size+2,1,none⟩ (.slice A3 n3 c3)) (w.heap.size+2) (.slice A2 n2 c2) (.slice A3 n3 c3)):=(Hr88.out.set0 _).set1 _
 have HKF:Hid (zQ w5 ((w5.setCell ⟨w.heap.size+2,0,none⟩ (.slice A2 n2 c2)).setCell ⟨w.heap.size+2,1,none⟩ (.slice A3 n3 c3))):=(Hr88.out.keep 0 _).trans ((Hr88.out.set0 _).keep 1 _)
 have HOF:Hid (zo w0 ((w5.setCell ⟨w.heap.size+2,0,none⟩ (.slice A2 n2 c2)).setCell ⟨w.heap.size+2,1,none⟩ (.slice A3 n3 c3)) D P M G A L S'):=(HO5.out.cell11 Hr88.out (Nat.le_trans HW0.out (by omega)) _).cell11 (Hr88.out.set0 _) (Nat.le_trans HW0.out (by omega)) _
 have HKP:Hid (zr w ((w5.setCell ⟨w.heap.size+2,0,none⟩ (.slice A2 n2 c2)).setCell ⟨w.heap.size+2,1,none⟩ (.slice A3 n3 c3))):=(HK5.out.cellN11 (by omega) _).cellN11 (by omega) _
 have HPOST:Hid (uz w0 D P M G k w (ze A L S) kd a.data.toList b.data.toList (.returned (.tuple #[.agg #[.slice A2 n2 c2,.slice A3 n3 c3],.bool true])) ((w5.setCell ⟨w.heap.size+2,0,none⟩ (.slice A2 n2 c2)).setCell ⟨w.heap.size+2,1,none⟩ (.slice A3 n3 c3))):=⟨_,_,_,R2,_,_,rfl,HOF.out,HONE.out.1,HRC5.out.keepD11 HKF.out,by rw [HONE.out.2.2]; exact HNM5.out.keepD11 HKF.out,by rw [HPL.out,HONE.out.2.1],HKP.out,HOTH.out _ _⟩
 have z0:=HRES.out.c0
 have z1:=HRES.out.c1
 go_wp2
 refine bodyPost_ret (v:=.tuple #[.agg #[.slice A2 n2 c2,.slice A3 n3 c3],.bool true]) ?_ rfl HPOST.out
 simp [results,Tryz.results14,go_sem,z0,z1]

set_option maxRecDepth 100000 in
theorem do11_8 (R:zJ W11) (v vg:Value) (kd:Nat) (a b:ByteArray) (z:Bool) (w:World) (ho:zo w0 w D P M G A L S) (hg:zu A L S k) (hk:k≤90) (h5:vX w0) (hR:xV 0 R w v) (hN:NmR w vg (zb S)) (hp:zc R=ze A L S) (ha:a.size≤50) (hb5:b.size≤50) (hkd:kd % 11=8) :
  Calls Tryz.prog 14 #[.pointer (some ⟨D,0,none⟩),.agg #[v,vg],.agg #[.int .u8 (kd:Int),.string a,.string b,.bool z]] w (uz w0 D P M G k w (ze A L S) kd a.data.toList b.data.toList):=by
 obtain ⟨f1,f2,f3,f4⟩:=yJ hg hp
 have HRF:Hid (∀ W',Below w.heap.size w W'→Calls Tryz.prog 57 #[.agg #[v,vg],.string a,.string b] W' (yt (Z7 A S a.data.toList b.data.toList) (j6 (ze A L S) (zb S) a.data.toList b.data.toList) (zb S) W')):=fun W' hb=>by
  have hR:=hR.later hb
  have hN:=hN.later hb
  have h:=VP _ _ R _ a b W' hR hN f1 f2 f3 f4 (by omega) (by omega)
  rw [hp] at h
  have e:=(show _=Z7 A S a.data.toList b.data.toList from jo_same hg _ _)
  rwa [e] at h
 have HDO:Hid (∀ W',zo w0 W' D P M G A L S→Calls Tryz.prog 58 #[.pointer (some ⟨D,0,none⟩),.string a,.string b] W' fun e w'=>e=.returned (.int .i64 (Z7 A S a.data.toList b.data.toList))∧zE w0 W' D P M G (A) (L) (Ua A S a.data.toList b.data.toList) w'):=fun W' ho=>Qp a b ho hg (by omega) (by omega) (by omega)
 have HONE:Hid (uy (A) (L) (Ua A S a.data.toList b.data.toList) (j6 (ze A L S) (zb S) a.data.toList b.data.toList) (zb S) (k+1)):=jo_one hg _ _
 have HRT:Hid (zB (ze A L S)):=zP hg.rise
 have HOTH:Hid (yC kd a.data.toList b.data.toList (ze A L S) (j6 (ze A L S) (zb S) a.data.toList b.data.toList)):=oth_jo HRT.out _ hkd
 have hrem:(kd:Int).tmod 11=8:=by
  have:(kd:Int).tmod 11=((kd % 11:Nat):Int):=rfl
  rw [this,hkd]; rfl
 have hzd:∀ w:World,(zeroValue zn).run Tryz.prog w=.ok (.agg #[.slice none 0 0,.slice none 0 0]) w:=fun w=>by kernel_rfl
 have HO:=za ho
 have HW0:Hid (w0.heap.size≤w.heap.size):=ho.below.size
 obtain ⟨A0,c,rfl⟩:=hR.rw.us.shape
 obtain ⟨A1,c1,rfl⟩:=hN.shape
 clear ho hg hR hN hp h5 f1 f2 f3 f4 hkd
 generalize R.length=n at *
 generalize (zb S).length=n1 at *
 generalize Z7 A S a.data.toList b.data.toList=E at HRF HDO HONE HOTH
 generalize Ua A S a.data.toList b.data.toList=S' at HRF HDO HONE HOTH
 generalize j6 (ze A L S) (zb S) a.data.toList b.data.toList=l' at HRF HDO HONE HOTH
 generalize hnx:zb S=nx at HRF HONE
 have Hd1:=za (zp w (.slice A0 n c) (.slice A1 n1 c1))
 have HLO2:Hid (w.heap.size≤w.heap.size):=by show _≤_; omega
 have HB3:Hid (Below w.heap.size w (w.alloc (.cells #[.slice A0 n c,.slice A1 n1 c1] zn))):=z7 (Below.refl _ _) _
 have Hd4:=za (Hd1.out.later (z7 (Below.refl _ _) (.cells #[.int .u8 (kd:Int),.string a,.string b,.bool z] 32)))
 have Ha5:Hid (xL ((w.alloc (.cells #[.slice A0 n c,.slice A1 n1 c1] zn)).alloc (.cells #[.int .u8 (kd:Int),.string a,.string b,.bool z] 32)) (w.heap.size+1) (kd) (a) (b) (z)):=zi (by simp)
 have HLO6:Hid (w.heap.size≤w.heap.size+1):=by show _≤_; omega
 have HB7:=za (z8 HB3.out (z7 (Below.refl _ _) (.cells #[.int .u8 (kd:Int),.string a,.string b,.bool z] 32)))
 have Hd8:=za (Hd4.out.later (z7 (Below.refl _ _) (.cells #[.slice none 0 0,.slice none 0 0] zn)))
 have Ha9:=za (Ha5.out.later (z7 (Below.refl _ _) (.cells #[.slice none 0 0,.slice none 0 0] zn)))
 have Hr10:Hid (yn (((w.alloc (.cells #[.slice A0 n c,.slice A1 n1 c1] zn)).alloc (.cells #[.int .u8 (kd:Int),.string a,.string b,.bool z] 32)).alloc (.cells #[.slice none 0 0,.slice none 0 0] zn)) (w.heap.size+2) (.slice none 0 0) (.slice none 0 0)):=zi (by simp)
 have HLO11:Hid (w.heap.size≤w.heap.size+2):=by show _≤_; omega
 have HB12:=za (z8 HB7.out (z7 (Below.refl _ _) (.cells #[.slice none 0 0,.slice none 0 0] zn)))
 go_enter Tryz.func14,Tryz.ntmps14
 have ⟨kx14,ky15,kp16,kq17⟩:=Hd8.out.q11
 have ⟨kx19,ky20,kz21,kw22⟩:=Ha9.out.q11
 have ⟨kx24,ky25,kp26,kq27⟩:=Hr10.out.q11
 go_wp2_with fail
 generalize ((w.alloc (.cells #[.slice A0 n c,.slice A1 n1 c1] zn)).alloc (.cells #[.int .u8 (kd:Int),.string a,.string b,.bool z] 32)).alloc (.cells #[.slice none 0 0,.slice none 0 0] zn)=wg28 at *
 with_reducible refine (HRF.out wg28 HB12.out).mono ?_
 rintro e w2 ⟨R2,u1,u2,rfl,hrc,hpl,hnm,hb⟩
 clear kx14 ky15 kp16 kq17 kx19 ky20 kz21 kw22 kx24 ky25 kp26 kq27
 have Hd29:=za (Hd8.out.later hb)
 have Ha30:=za (Ha9.out.later hb)
 have Hr31:=za (Hr10.out.later hb)
 have HB32:=za (z8 HB12.out hb)
 obtain ⟨A2,c2,rfl⟩:=hrc.rw.us.shape
 obtain ⟨A3,c3,rfl⟩:=hnm.shape
 have HRC:=za hrc
 have HPL:=za hpl
 have HNM:=za hnm
 clear hrc hpl hnm HRF
 obtain ⟨n2,hn2⟩:∃ m,m=R2.length:=⟨_,rfl⟩
 obtain ⟨n3,hn3⟩:∃ m,m=List.length nx:=⟨_,rfl⟩
 rw [← hn2] at HRC ⊢
 rw [← hn3] at HNM ⊢
 clear hn2 hn3
 clear hb
 have ⟨kx34,ky35,kp36,kq37⟩:=Hd29.out.q11
 have ⟨kx39,ky40,kz41,kw42⟩:=Ha30.out.q11
 have ⟨kx44,ky45,kp46,kq47⟩:=Hr31.out.q11
 have Hd48:=za (Hd29.out.set0 (.slice A2 n2 c2))
 have Ha49:=za (Ha30.out.other (c:=w.heap.size) (i:=0) (by omega) (.slice A2 n2 c2))
 have Hr50:=za (Hr31.out.other (c:=w.heap.size) (i:=0) (by omega) (.slice A2 n2 c2))
 have HB51:=za (HB32.out.setCell (p:=⟨w.heap.size,0,none⟩) HLO2.out (.slice A2 n2 c2))
 have ⟨kx53,ky54,kp55,kq56⟩:=Hd48.out.q11
 have ⟨kx58,ky59,kz60,kw61⟩:=Ha49.out.q11
 have ⟨kx63,ky64,kp65,kq66⟩:=Hr50.out.q11
 have Hd67:=za (Hd48.out.set1 (.slice A3 n3 c3))
 have Ha68:=za (Ha49.out.other (c:=w.heap.size) (i:=1) (by omega) (.slice A3 n3 c3))
 have Hr69:=za (Hr50.out.other (c:=w.heap.size) (i:=1) (by omega) (.slice A3 n3 c3))
 have HB70:=za (HB51.out.setCell (p:=⟨w.heap.size,1,none⟩) HLO2.out (.slice A3 n3 c3))
 have HKD:Hid (zQ w2 ((w2.setCell ⟨w.heap.size,0,none⟩ (.slice A2 n2 c2)).setCell ⟨w.heap.size,1,none⟩ (.slice A3 n3 c3))):=(Hd29.out.keep 0 _).trans (Hd48.out.keep 1 _)
 have ⟨kx72,ky73,kp74,kq75⟩:=Hd67.out.q11
 have ⟨kx77,ky78,kz79,kw80⟩:=Ha68.out.q11
 have ⟨kx82,ky83,kp84,kq85⟩:=Hr69.out.q11
 go_wp2_with fail
 generalize (w2.setCell ⟨w.heap.size,0,none⟩ (.slice A2 n2 c2)).setCell ⟨w.heap.size,1,none⟩ (.slice A3 n3 c3)=wg86 at *
 with_reducible refine (HDO.out wg86 (HO.out.later HB70.out)).mono ?_
 rintro e w5 ⟨rfl,hgo⟩
 clear kx34 ky35 kp36 kq37 kx39 ky40 kz41 kw42 kx44 ky45 kp46 kq47 kx53 ky54 kp55 kq56 kx58 ky59 kz60 kw61 kx63 ky64 kp65 kq66 kx72 ky73 kp74 kq75 kx77 ky78 kz79 kw80 kx82 ky83 kp84 kq85
 have Hd87:Hid (yn (w5) (w.heap.size) (.slice A2 n2 c2) (.slice A3 n3 c3)):=Hd67.out.keeps11 hgo.2
 have Hr88:Hid (yn (w5) (w.heap.size+2) (.slice none 0 0) (.slice none 0 0)):=Hr69.out.keeps11 hgo.2
 have HRC5:Hid (xV 0 R2 w5 (.slice A2 n2 c2)):=(HRC.out.keepD11 HKD.out).keeps hgo.2
 have HNM5:Hid (NmR w5 (.slice A3 n3 c3) nx):=(HNM.out.keepD11 HKD.out).keeps11 hgo.2
 have HK5:Hid (zr w w5):=(zr.of_below HB70.out).trans hgo.2
 have HO5:=za hgo.1
 clear hgo HDO HO HRC HNM HKD
 have ⟨kx90,ky91,kp92,kq93⟩:=Hd87.out.q11
 have ⟨kx95,ky96,kp97,kq98⟩:=Hr88.out.q11
 have HRES:Hid (yn ((w5.setCell ⟨w.heap.size+2,0,none⟩ (.slice A2 n2 c2)).setCell ⟨w.heap.size+2,1,none⟩ (.slice A3 n3 c3)) (w.heap.size+2) (.slice A2 n2 c2) (.slice A3 n3 c3)):=(Hr88.out.set0 _).set1 _
 have HKF:Hid (zQ w5 ((w5.setCell ⟨w.heap.size+2,0,none⟩ (.slice A2 n2 c2)).setCell ⟨w.heap.size+2,1,none⟩ (.slice A3 n3 c3))):=(Hr88.out.keep 0 _).trans ((Hr88.out.set0 _).keep 1 _)
 have HOF:Hid (zo w0 ((w5.setCell ⟨w.heap.size+2,0,none⟩ (.slice A2 n2 c2)).setCell ⟨w.heap.size+2,1,none⟩ (.slice A3 n3 c3)) D P M G A L S'):=(HO5.out.cell11 Hr88.out (Nat.le_trans HW0.out (by omega)) _).cell11 (Hr88.out.set0 _) (Nat.le_trans HW0.out (by omega)) _
 have HKP:Hid (zr w ((w5.setCell ⟨w.heap.size+2,0,none⟩ (.slice A2 n2 c2)).setCell ⟨w.heap.size+2,1,none⟩ (.slice A3 n3 c3))):=(HK5.out.cellN11 (by omega) _).cellN11 (by omega) _
 have HPOST:Hid (uz w0 D P M G k w (ze A L S) kd a.data.toList b.data.toList (.returned (.tuple #[.agg #[.slice A2 n2 c2,.slice A3 n3 c3],.bool true])) ((w5.setCell ⟨w.heap.size+2,0,none⟩ (.slice A2 n2 c2)).setCell ⟨w.heap.size+2,1,none⟩ (.slice A3 n3 c3))):=⟨_,_,_,R2,_,_,rfl,HOF.out,HONE.out.1,HRC5.out.keepD11 HKF.out,by rw [HONE.out.2.2]; exact HNM5.out.keepD11 HKF.out,by rw [HPL.out,HONE.out.2.1],HKP.out,by rw [HONE.out.2.1]; exact HOTH.out⟩
 have z0:=HRES.out.c0
 have z1:=HRES.out.c1
 go_wp2
 refine bodyPost_ret (v:=.tuple #[.agg #[.slice A2 n2 c2,.slice A3 n3 c3],.bool true]) ?_ rfl HPOST.out
 simp [results,Tryz.results14,go_sem,z0,z1]

set_option maxRecDepth 100000 in
theorem do11_9 (R:zJ W11) (v vg:Value) (kd:Nat) (a b:ByteArray) (z:Bool) (w:World) (ho:zo w0 w D P M G A L S) (hg:zu A L S k) (hk:k≤90) (h5:vX w0) (hR:xV 0 R w v) (hN:NmR w vg (zb S)) (hp:zc R=ze A L S) (ha:a.size≤50) (hb5:b.size≤50) (hkd:kd % 11=9) :
  Calls Tryz.prog 14 #[.pointer (some ⟨D,0,none⟩),.agg #[v,vg],.agg #[.int .u8 (kd:Int),.string a,.string b,.bool z]] w (uz w0 D P M G k w (ze A L S) kd a.data.toList b.data.toList):=by
 obtain ⟨f1,f2,f3,f4⟩:=yJ hg hp
 have HRF:Hid (∀ W',Below w.heap.size w W'→Calls Tryz.prog 59 #[.agg #[v,vg],.string a,.string b] W' (yt (Z6 A S a.data.toList b.data.toList) (j5 (ze A L S) (zb S) a.data.toList b.data.toList) (zb S) W')):=fun W' hb=>by
  have hR:=hR.later hb
  have hN:=hN.later hb
  have h:=Xs _ _ R _ a b W' hR hN f1 f2 f3 f4 (by omega) (by omega)
  rw [hp] at h
  have e:=(show _=Z6 A S a.data.toList b.data.toList from le_same hg _ _)
  rwa [e] at h
 have HDO:Hid (∀ W',zo w0 W' D P M G A L S→Calls Tryz.prog 60 #[.pointer (some ⟨D,0,none⟩),.string a,.string b] W' fun e w'=>e=.returned (.int .i64 (Z6 A S a.data.toList b.data.toList))∧zE w0 W' D P M G (A) (L) (U8 A S a.data.toList b.data.toList) w'):=fun W' ho=>U6 a b ho (by omega) (by omega)
 have HONE:Hid (uy (A) (L) (U8 A S a.data.toList b.data.toList) (j5 (ze A L S) (zb S) a.data.toList b.data.toList) (zb S) (k+1)):=le_one hg _ _
 have HRT:Hid (zB (ze A L S)):=zP hg.rise
 have HOTH:Hid (yC kd a.data.toList b.data.toList (ze A L S) (j5 (ze A L S) (zb S) a.data.toList b.data.toList)):=oth_le HRT.out _ hkd
 have hrem:(kd:Int).tmod 11=9:=by
  have:(kd:Int).tmod 11=((kd % 11:Nat):Int):=rfl
  rw [this,hkd]; rfl
 have hzd:∀ w:World,(zeroValue zn).run Tryz.prog w=.ok (.agg #[.slice none 0 0,.slice none 0 0]) w:=fun w=>by kernel_rfl
 have HO:=za ho
 have HW0:Hid (w0.heap.size≤w.heap.size):=ho.below.size
 obtain ⟨A0,c,rfl⟩:=hR.rw.us.shape
 obtain ⟨A1,c1,rfl⟩:=hN.shape
 clear ho hg hR hN hp h5 f1 f2 f3 f4 hkd
 generalize R.length=n at *
 generalize (zb S).length=n1 at *
 generalize Z6 A S a.data.toList b.data.toList=E at HRF HDO HONE HOTH
 generalize U8 A S a.data.toList b.data.toList=S' at HRF HDO HONE HOTH
 generalize j5 (ze A L S) (zb S) a.data.toList b.data.toList=l' at HRF HDO HONE HOTH
 generalize hnx:zb S=nx at HRF HONE
 have Hd1:=za (zp w (.slice A0 n c) (.slice A1 n1 c1))
 have HLO2:Hid (w.heap.size≤w.heap.size):=by show _≤_; omega
 have HB3:Hid (Below w.heap.size w (w.alloc (.cells #[.slice A0 n c,.slice A1 n1 c1] zn))):=z7 (Below.refl _ _) _
 have Hd4:=za (Hd1.out.later (z7 (Below.refl _ _) (.cells #[.int .u8 (kd:Int),.string a,.string b,.bool z] 32)))
 have Ha5:Hid (xL ((w.alloc (.cells #[.slice A0 n c,.slice A1 n1 c1] zn)).alloc (.cells #[.int .u8 (kd:Int),.string a,.string b,.bool z] 32)) (w.heap.size+1) (kd) (a) (b) (z)):=zi (by simp)
 have HLO6:Hid (w.heap.size≤w.heap.size+1):=by show _≤_; omega
 have HB7:=za (z8 HB3.out (z7 (Below.refl _ _) (.cells #[.int .u8 (kd:Int),.string a,.string b,.bool z] 32)))
 have Hd8:=za (Hd4.out.later (z7 (Below.refl _ _) (.cells #[.slice none 0 0,.slice none 0 0] zn)))
 have Ha9:=za (Ha5.out.later (z7 (Below.refl _ _) (.cells #[.slice none 0 0,.slice none 0 0] zn)))
 have Hr10:Hid (yn (((w.alloc (.cells #[.slice A0 n c,.slice A1 n1 c1] zn)).alloc (.cells #[.int .u8 (kd:Int),.string a,.string b,.bool z] 32)).alloc (.cells #[.slice none 0 0,.slice none 0 0] zn)) (w.heap.size+2) (.slice none 0 0) (.slice none 0 0)):=zi (by simp)
 have HLO11:Hid (w.heap.size≤w.heap.size+2):=by show _≤_; omega
 have HB12:=za (z8 HB7.out (z7 (Below.refl _ _) (.cells #[.slice none 0 0,.slice none 0 0] zn)))
 go_enter Tryz.func14,Tryz.ntmps14
 have ⟨kx14,ky15,kp16,kq17⟩:=Hd8.out.q11
 have ⟨kx19,ky20,kz21,kw22⟩:=Ha9.out.q11
 have ⟨kx24,ky25,kp26,kq27⟩:=Hr10.out.q11
 go_wp2_with fail
 generalize ((w.alloc (.cells #[.slice A0 n c,.slice A1 n1 c1] zn)).alloc (.cells #[.int .u8 (kd:Int),.string a,.string b,.bool z] 32)).alloc (.cells #[.slice none 0 0,.slice none 0 0] zn)=wg28 at *
 with_reducible refine (HRF.out wg28 HB12.out).mono ?_
 rintro e w2 ⟨R2,u1,u2,rfl,hrc,hpl,hnm,hb⟩
 clear kx14 ky15 kp16 kq17 kx19 ky20 kz21 kw22 kx24 ky25 kp26 kq27
 have Hd29:=za (Hd8.out.later hb)
 have Ha30:=za (Ha9.out.later hb)
 have Hr31:=za (Hr10.out.later hb)
 have HB32:=za (z8 HB12.out hb)
 obtain ⟨A2,c2,rfl⟩:=hrc.rw.us.shape
 obtain ⟨A3,c3,rfl⟩:=hnm.shape
 have HRC:=za hrc
 have HPL:=za hpl
 have HNM:=za hnm
 clear hrc hpl hnm HRF
 obtain ⟨n2,hn2⟩:∃ m,m=R2.length:=⟨_,rfl⟩
 obtain ⟨n3,hn3⟩:∃ m,m=List.length nx:=⟨_,rfl⟩
 rw [← hn2] at HRC ⊢
 rw [← hn3] at HNM ⊢
 clear hn2 hn3
 clear hb
 have ⟨kx34,ky35,kp36,kq37⟩:=Hd29.out.q11
 have ⟨kx39,ky40,kz41,kw42⟩:=Ha30.out.q11
 have ⟨kx44,ky45,kp46,kq47⟩:=Hr31.out.q11
 have Hd48:=za (Hd29.out.set0 (.slice A2 n2 c2))
 have Ha49:=za (Ha30.out.other (c:=w.heap.size) (i:=0) (by omega) (.slice A2 n2 c2))
 have Hr50:=za (Hr31.out.other (c:=w.heap.size) (i:=0) (by omega) (.slice A2 n2 c2))
 have HB51:=za (HB32.out.setCell (p:=⟨w.heap.size,0,none⟩) HLO2.out (.slice A2 n2 c2))
 have ⟨kx53,ky54,kp55,kq56⟩:=Hd48.out.q11
 have ⟨kx58,ky59,kz60,kw61⟩:=Ha49.out.q11
 have ⟨kx63,ky64,kp65,kq66⟩:=Hr50.out.q11
 have Hd67:=za (Hd48.out.set1 (.slice A3 n3 c3))
 have Ha68:=za (Ha49.out.other (c:=w.heap.size) (i:=1) (by omega) (.slice A3 n3 c3))
 have Hr69:=za (Hr50.out.other (c:=w.heap.size) (i:=1) (by omega) (.slice A3 n3 c3))
 have HB70:=za (HB51.out.setCell (p:=⟨w.heap.size,1,none⟩) HLO2.out (.slice A3 n3 c3))
 have HKD:Hid (zQ w2 ((w2.setCell ⟨w.heap.size,0,none⟩ (.slice A2 n2 c2)).setCell ⟨w.heap.size,1,none⟩ (.slice A3 n3 c3))):=(Hd29.out.keep 0 _).trans (Hd48.out.keep 1 _)
 have ⟨kx72,ky73,kp74,kq75⟩:=Hd67.out.q11
 have ⟨kx77,ky78,kz79,kw80⟩:=Ha68.out.q11
 have ⟨kx82,ky83,kp84,kq85⟩:=Hr69.out.q11
 go_wp2_with fail
 generalize (w2.setCell ⟨w.heap.size,0,none⟩ (.slice A2 n2 c2)).setCell ⟨w.heap.size,1,none⟩ (.slice A3 n3 c3)=wg86 at *
 with_reducible refine (HDO.out wg86 (HO.out.later HB70.out)).mono ?_
 rintro e w5 ⟨rfl,hgo⟩
 clear kx34 ky35 kp36 kq37 kx39 ky40 kz41 kw42 kx44 ky45 kp46 kq47 kx53 ky54 kp55 kq56 kx58 ky59 kz60 kw61 kx63 ky64 kp65 kq66 kx72 ky73 kp74 kq75 kx77 ky78 kz79 kw80 kx82 ky83 kp84 kq85
 have Hd87:Hid (yn (w5) (w.heap.size) (.slice A2 n2 c2) (.slice A3 n3 c3)):=Hd67.out.keeps11 hgo.2
 have Hr88:Hid (yn (w5) (w.heap.size+2) (.slice none 0 0) (.slice none 0 0)):=Hr69.out.keeps11 hgo.2
 have HRC5:Hid (xV 0 R2 w5 (.slice A2 n2 c2)):=(HRC.out.keepD11 HKD.out).keeps hgo.2
 have HNM5:Hid (NmR w5 (.slice A3 n3 c3) nx):=(HNM.out.keepD11 HKD.out).keeps11 hgo.2
 have HK5:Hid (zr w w5):=(zr.of_below HB70.out).trans hgo.2
 have HO5:=za hgo.1
 clear hgo HDO HO HRC HNM HKD
 have ⟨kx90,ky91,kp92,kq93⟩:=Hd87.out.q11
 have ⟨kx95,ky96,kp97,kq98⟩:=Hr88.out.q11
 have HRES:Hid (yn ((w5.setCell ⟨w.heap.size+2,0,none⟩ (.slice A2 n2 c2)).setCell ⟨w.heap.size+2,1,none⟩ (.slice A3 n3 c3)) (w.heap.size+2) (.slice A2 n2 c2) (.slice A3 n3 c3)):=(Hr88.out.set0 _).set1 _
 have HKF:Hid (zQ w5 ((w5.setCell ⟨w.heap.size+2,0,none⟩ (.slice A2 n2 c2)).setCell ⟨w.heap.size+2,1,none⟩ (.slice A3 n3 c3))):=(Hr88.out.keep 0 _).trans ((Hr88.out.set0 _).keep 1 _)
 have HOF:Hid (zo w0 ((w5.setCell ⟨w.heap.size+2,0,none⟩ (.slice A2 n2 c2)).setCell ⟨w.heap.size+2,1,none⟩ (.slice A3 n3 c3)) D P M G A L S'):=(HO5.out.cell11 Hr88.out (Nat.le_trans HW0.out (by omega)) _).cell11 (Hr88.out.set0 _) (Nat.le_trans HW0.out (by omega)) _
 have HKP:Hid (zr w ((w5.setCell ⟨w.heap.size+2,0,none⟩ (.slice A2 n2 c2)).setCell ⟨w.heap.size+2,1,none⟩ (.slice A3 n3 c3))):=(HK5.out.cellN11 (by omega) _).cellN11 (by omega) _
 have HPOST:Hid (uz w0 D P M G k w (ze A L S) kd a.data.toList b.data.toList (.returned (.tuple #[.agg #[.slice A2 n2 c2,.slice A3 n3 c3],.bool true])) ((w5.setCell ⟨w.heap.size+2,0,none⟩ (.slice A2 n2 c2)).setCell ⟨w.heap.size+2,1,none⟩ (.slice A3 n3 c3))):=⟨_,_,_,R2,_,_,rfl,HOF.out,HONE.out.1,HRC5.out.keepD11 HKF.out,by rw [HONE.out.2.2]; exact HNM5.out.keepD11 HKF.out,by rw [HPL.out,HONE.out.2.1],HKP.out,by rw [HONE.out.2.1]; exact HOTH.out⟩
 have z0:=HRES.out.c0
 have z1:=HRES.out.c1
 go_wp2
 refine bodyPost_ret (v:=.tuple #[.agg #[.slice A2 n2 c2,.slice A3 n3 c3],.bool true]) ?_ rfl HPOST.out
 simp [results,Tryz.results14,go_sem,z0,z1]

set_option maxRecDepth 100000 in
theorem do11_10 (R:zJ W11) (v vg:Value) (kd:Nat) (a b:ByteArray) (z:Bool) (w:World) (ho:zo w0 w D P M G A L S) (hg:zu A L S k) (hk:k≤90) (h5:vX w0) (hR:xV 0 R w v) (hN:NmR w vg (zb S)) (hp:zc R=ze A L S) (ha:a.size≤50) (hb5:b.size≤50) (hkd:kd % 11=10) :
  Calls Tryz.prog 14 #[.pointer (some ⟨D,0,none⟩),.agg #[v,vg],.agg #[.int .u8 (kd:Int),.string a,.string b,.bool z]] w (uz w0 D P M G k w (ze A L S) kd a.data.toList b.data.toList):=by
 have HCP:Hid (∀ W',zo w0 W' D P M G A L S→Calls Tryz.prog 61 #[.pointer (some ⟨D,0,none⟩)] W' fun e w'=>∃ D' P' M' G',e=.returned (.pointer (some ⟨D',0,none⟩))∧zo W' w' D' P' M' G' A L S):=fun W' ho=>U1 ho hg.grp
 have HC1:Hid (∀ wx W' D' P' M' G',zo wx W' D' P' M' G' A L S→Calls Tryz.prog 31 #[.pointer (some ⟨D',0,none⟩),.string a,.string ⟨#[49]⟩] W' fun e w'=>∃ r A1,e=.returned (.int .i64 r)∧zo wx w' D' P' M' G' A1 L S∧zu A1 L S (k+1)):=fun wx W' D' P' M' G' ho =>
  (jE a ⟨#[49]⟩ ho hg (by omega) (by decide)).mono fun e w' ⟨he,hgo⟩=>⟨_,_,he,hgo.1,(cr_one hg _ _).1⟩
 have HC2:Hid (∀ wx W' D' P' M' G' A1,zo wx W' D' P' M' G' A1 L S→zu A1 L S (k+1)→Calls Tryz.prog 30 #[.pointer (some ⟨D',0,none⟩),.string ⟨#[97,110,110]⟩] W' fun e w'=>∃ r A2 L2 S2,e=.returned (.int .i64 r)∧zo wx w' D' P' M' G' A2 L2 S2∧zu A2 L2 S2 (k+2)):=fun wx W' D' P' M' G' A1 ho hg =>
  (jD ⟨#[97,110,110]⟩ ho hg (by decide)).mono fun e w' ⟨he,hgo⟩=>⟨_,_,_,_,he,hgo.1,(FU hg _).1⟩
 have HC3:Hid (∀ wx W' D' P' M' G' A1 L1 S1,zo wx W' D' P' M' G' A1 L1 S1→zu A1 L1 S1 (k+2)→Calls Tryz.prog 56 #[.pointer (some ⟨D',0,none⟩),.string ⟨#[100,101,118]⟩] W' fun e w'=>∃ r S2,e=.returned (.int .i64 r)∧zo wx w' D' P' M' G' A1 L1 S2∧zu A1 L1 S2 (k+3)):=fun wx W' D' P' M' G' A1 L1 S1 ho hg =>
  (qe ⟨#[100,101,118]⟩ ho (by decide)).mono fun e w' ⟨he,hgo⟩=>⟨_,_,he,hgo.1,(dr_one hg _).1⟩
 have HC4:Hid (∀ wx W' D' P' M' G' A1 L1 S1,vX wx→zo wx W' D' P' M' G' A1 L1 S1→zu A1 L1 S1 (k+3)→Calls Tryz.prog 41 #[.pointer (some ⟨D',0,none⟩),.string ⟨#[98,111,98]⟩,.string ⟨#[113,64,113,46,113]⟩] W' fun e w'=>∃ r L2,e=.returned (.int .i64 r)∧zo wx w' D' P' M' G' A1 L2 S1):=fun wx W' D' P' M' G' A1 L1 S1 h5 ho hg =>
  (qI ⟨#[98,111,98]⟩ ⟨#[113,64,113,46,113]⟩ ho (by have:=hg.lfew; omega) (h5.later ho.below) (by decide) (by decide)).mono fun e w' ⟨he,hgo⟩=>⟨_,_,he,hgo.1⟩
 have hrem:(kd:Int).tmod 11=10:=by
  have:(kd:Int).tmod 11=((kd % 11:Nat):Int):=rfl
  rw [this,hkd]; rfl
 have hzd:∀ w:World,(zeroValue zn).run Tryz.prog w=.ok (.agg #[.slice none 0 0,.slice none 0 0]) w:=fun w=>by kernel_rfl
 have HOTH:Hid (yC kd a.data.toList b.data.toList (ze A L S) (ze A L S)):=fun _ _ _ _ _=>rfl
 have HO:=za ho
 have HG:=za hg
 have H5:=za (h5.later ho.below)
 have HW0:Hid (w0.heap.size≤w.heap.size):=ho.below.size
 have HPL:=za hp
 have HRC:=za hR
 have HNM:=za hN
 obtain ⟨A0,c,rfl⟩:=hR.rw.us.shape
 obtain ⟨A1,c1,rfl⟩:=hN.shape
 clear ho hg hR hN hp h5 hkd
 obtain ⟨n,hn2⟩:∃ m,m=R.length:=⟨_,rfl⟩
 obtain ⟨n1,hn3⟩:∃ m,m=(zb S).length:=⟨_,rfl⟩
 rw [← hn2] at HRC ⊢
 rw [← hn3] at HNM ⊢
 clear hn2 hn3
 have Hd1q:=za (zp w (.slice A0 n c) (.slice A1 n1 c1))
 have HLO2q:Hid (w.heap.size≤w.heap.size):=by show _≤_; omega
 have HB3q:Hid (Below w.heap.size w (w.alloc (.cells #[.slice A0 n c,.slice A1 n1 c1] zn))):=z7 (Below.refl _ _) _
 have Hd4q:=za (Hd1q.out.later (z7 (Below.refl _ _) (.cells #[.int .u8 (kd:Int),.string a,.string b,.bool z] 32)))
 have Ha5q:Hid (xL ((w.alloc (.cells #[.slice A0 n c,.slice A1 n1 c1] zn)).alloc (.cells #[.int .u8 (kd:Int),.string a,.string b,.bool z] 32)) (w.heap.size+1) (kd) (a) (b) (z)):=zi (by simp)
 have HLO6q:Hid (w.heap.size≤w.heap.size+1):=by show _≤_; omega
 have HB7q:=za (z8 HB3q.out (z7 (Below.refl _ _) (.cells #[.int .u8 (kd:Int),.string a,.string b,.bool z] 32)))
 have Hd8q:=za (Hd4q.out.later (z7 (Below.refl _ _) (.cells #[.slice none 0 0,.slice none 0 0] zn)))
 have Ha9q:=za (Ha5q.out.later (z7 (Below.refl _ _) (.cells #[.slice none 0 0,.slice none 0 0] zn)))
 have Hr10q:Hid (yn (((w.alloc (.cells #[.slice A0 n c,.slice A1 n1 c1] zn)).alloc (.cells #[.int .u8 (kd:Int),.string a,.string b,.bool z] 32)).alloc (.cells #[.slice none 0 0,.slice none 0 0] zn)) (w.heap.size+2) (.slice none 0 0) (.slice none 0 0)):=zi (by simp)
 have HLO11q:Hid (w.heap.size≤w.heap.size+2):=by show _≤_; omega
 have HB12q:=za (z8 HB7q.out (z7 (Below.refl _ _) (.cells #[.slice none 0 0,.slice none 0 0] zn)))
 go_enter Tryz.func14,Tryz.ntmps14
 have ⟨kx14q,ky15q,kp16q,kq17q⟩:=Hd8q.out.q11
 have ⟨kx19q,ky20q,kz21q,kw22q⟩:=Ha9q.out.q11
 have ⟨kx24q,ky25q,kp26q,kq27q⟩:=Hr10q.out.q11
 go_wp2_with fail
 generalize ((w.alloc (.cells #[.slice A0 n c,.slice A1 n1 c1] zn)).alloc (.cells #[.int .u8 (kd:Int),.string a,.string b,.bool z] 32)).alloc (.cells #[.slice none 0 0,.slice none 0 0] zn)=wx at *
 have HOX:=za (HO.out.later HB12q.out)
 have H5X:=za (H5.out.later HB12q.out)
 with_reducible refine (HCP.out wx HOX.out).mono ?_
 rintro e w2 ⟨D',P',M',G',rfl,ho2⟩
 clear kx14q ky15q kp16q kq17q kx19q ky20q kz21q kw22q kx24q ky25q kp26q kq27q
 have HO2:=za ho2
 clear ho2 HCP
 have HBXw2:=za (HO2.out).below
 have Hd28q:=za (Hd8q.out.later HBXw2.out)
 have Ha29q:=za (Ha9q.out.later HBXw2.out)
 have Hr30q:=za (Hr10q.out.later HBXw2.out)
 have HB31q:=za (z8 HB12q.out HBXw2.out)
 have ⟨kx33q,ky34q,kp35q,kq36q⟩:=Hd28q.out.q11
 have ⟨kx38q,ky39q,kz40q,kw41q⟩:=Ha29q.out.q11
 have ⟨kx43q,ky44q,kp45q,kq46q⟩:=Hr30q.out.q11
 go_wp2_with fail
 with_reducible refine (HC1.out wx w2 D' P' M' G' HO2.out).mono ?_
 rintro e w3 ⟨r3,A3,rfl,ho3,hg3⟩
 clear kx33q ky34q kp35q kq36q kx38q ky39q kz40q kw41q kx43q ky44q kp45q kq46q
 have HO3:=za ho3
 have HG3:=za hg3
 clear ho3 hg3 HC1
 have HBXw3:=za (HO3.out).below
 have Hd47q:=za (Hd8q.out.later HBXw3.out)
 have Ha48q:=za (Ha9q.out.later HBXw3.out)
 have Hr49q:=za (Hr10q.out.later HBXw3.out)
 have HB50q:=za (z8 HB12q.out HBXw3.out)
 have ⟨kx52q,ky53q,kp54q,kq55q⟩:=Hd47q.out.q11
 have ⟨kx57q,ky58q,kz59q,kw60q⟩:=Ha48q.out.q11
 have ⟨kx62q,ky63q,kp64q,kq65q⟩:=Hr49q.out.q11
 go_wp2_with fail
 with_reducible refine (HC2.out wx w3 D' P' M' G' A3 HO3.out HG3.out).mono ?_
 rintro e w4 ⟨r4,A4,L4,S4,rfl,ho4,hg4⟩
 clear kx52q ky53q kp54q kq55q kx57q ky58q kz59q kw60q kx62q ky63q kp64q kq65q
 have HO4:=za ho4
 have HG4:=za hg4
 clear ho4 hg4 HC2
 have HBXw4:=za (HO4.out).below
 have Hd66q:=za (Hd8q.out.later HBXw4.out)
 have Ha67q:=za (Ha9q.out.later HBXw4.out)
 have Hr68q:=za (Hr10q.out.later HBXw4.out)
 have HB69q:=za (z8 HB12q.out HBXw4.out)
 have ⟨kx71q,ky72q,kp73q,kq74q⟩:=Hd66q.out.q11
 have ⟨kx76q,ky77q,kz78q,kw79q⟩:=Ha67q.out.q11
 have ⟨kx81q,ky82q,kp83q,kq84q⟩:=Hr68q.out.q11
 go_wp2_with fail
 with_reducible refine (HC3.out wx w4 D' P' M' G' A4 L4 S4 HO4.out HG4.out).mono ?_
 rintro e w5 ⟨r5,S5,rfl,ho5,hg5⟩
 clear kx71q ky72q kp73q kq74q kx76q ky77q kz78q kw79q kx81q ky82q kp83q kq84q
 have HO5:=za ho5
 have HG5:=za hg5
 clear ho5 hg5 HC3
 have HBXw5:=za (HO5.out).below
 have Hd85q:=za (Hd8q.out.later HBXw5.out)
 have Ha86q:=za (Ha9q.out.later HBXw5.out)
 have Hr87q:=za (Hr10q.out.later HBXw5.out)
 have HB88q:=za (z8 HB12q.out HBXw5.out)
 have ⟨kx90q,ky91q,kp92q,kq93q⟩:=Hd85q.out.q11
 have ⟨kx95q,ky96q,kz97q,kw98q⟩:=Ha86q.out.q11
 have ⟨kx100q,ky101q,kp102q,kq103q⟩:=Hr87q.out.q11
 go_wp2_with fail
 with_reducible refine (HC4.out wx w5 D' P' M' G' A4 L4 S5 H5X.out HO5.out HG5.out).mono ?_
 rintro e w6 ⟨r6,L6,rfl,ho6⟩
 clear kx90q ky91q kp92q kq93q kx95q ky96q kz97q kw98q kx100q ky101q kp102q kq103q
 have HO6:=za ho6
 clear ho6 HC4
 have HBXw6:=za (HO6.out).below
 have Hd104q:=za (Hd8q.out.later HBXw6.out)
 have Ha105q:=za (Ha9q.out.later HBXw6.out)
 have Hr106q:=za (Hr10q.out.later HBXw6.out)
 have HB107q:=za (z8 HB12q.out HBXw6.out)
 have ⟨kx109q,ky110q,kp111q,kq112q⟩:=Hd104q.out.q11
 have ⟨kx114q,ky115q,kz116q,kw117q⟩:=Ha105q.out.q11
 have ⟨kx119q,ky120q,kp121q,kq122q⟩:=Hr106q.out.q11
 have HRES:Hid (yn ((w6.setCell ⟨w.heap.size+2,0,none⟩ (.slice A0 n c)).setCell ⟨w.heap.size+2,1,none⟩ (.slice A1 n1 c1)) (w.heap.size+2) (.slice A0 n c) (.slice A1 n1 c1)):=(Hr106q.out.set0 _).set1 _
 have HKF:Hid (zQ w6 ((w6.setCell ⟨w.heap.size+2,0,none⟩ (.slice A0 n c)).setCell ⟨w.heap.size+2,1,none⟩ (.slice A1 n1 c1))):=(Hr106q.out.keep 0 _).trans ((Hr106q.out.set0 _).keep 1 _)
 have HOF:Hid (zo w0 ((w6.setCell ⟨w.heap.size+2,0,none⟩ (.slice A0 n c)).setCell ⟨w.heap.size+2,1,none⟩ (.slice A1 n1 c1)) D P M G A L S):=((HO.out.later HB107q.out).cell11 Hr106q.out (Nat.le_trans HW0.out (by omega)) _).cell11 (Hr106q.out.set0 _) (Nat.le_trans HW0.out (by omega)) _
 have HKP:Hid (zr w ((w6.setCell ⟨w.heap.size+2,0,none⟩ (.slice A0 n c)).setCell ⟨w.heap.size+2,1,none⟩ (.slice A1 n1 c1))):=((zr.of_below HB107q.out).cellN11 (by omega) _).cellN11 (by omega) _
 have HPOST:Hid (uz w0 D P M G k w (ze A L S) kd a.data.toList b.data.toList (.returned (.tuple #[.agg #[.slice A0 n c,.slice A1 n1 c1],.bool true])) ((w6.setCell ⟨w.heap.size+2,0,none⟩ (.slice A0 n c)).setCell ⟨w.heap.size+2,1,none⟩ (.slice A1 n1 c1))):=⟨A,L,S,R,_,_,rfl,HOF.out,HG.out.mono (Nat.le_succ _),(HRC.out.later HB107q.out).keepD11 HKF.out,(HNM.out.later HB107q.out).keepD11 HKF.out,HPL.out,HKP.out,HOTH.out⟩
 have z0:=HRES.out.c0
 have z1:=HRES.out.c1
 go_wp2
 refine bodyPost_ret (v:=.tuple #[.agg #[.slice A0 n c,.slice A1 n1 c1],.bool true]) ?_ rfl HPOST.out
 simp [results,Tryz.results14,go_sem,z0,z1]

theorem do11_calls (R:zJ W11) (v vg:Value) (kd:Nat) (a b:ByteArray) (z:Bool) (w:World) (ho:zo w0 w D P M G A L S) (hg:zu A L S k) (hk:k≤90) (h5:vX w0) (hR:xV 0 R w v) (hN:NmR w vg (zb S)) (hp:zc R=ze A L S) (ha:a.size≤50) (hb5:b.size≤50) :
  Calls Tryz.prog 14 #[.pointer (some ⟨D,0,none⟩),.agg #[v,vg],.agg #[.int .u8 (kd:Int),.string a,.string b,.bool z]] w (uz w0 D P M G k w (ze A L S) kd a.data.toList b.data.toList):=by
 have h11:kd % 11=0∨kd % 11=1∨kd % 11=2∨kd % 11=3∨kd % 11=4∨kd % 11=5∨kd % 11=6∨kd % 11=7∨kd % 11=8∨kd % 11=9∨kd % 11=10:=by omega
 rcases h11 with h | h | h | h | h | h | h | h | h | h | h
 ·
  exact do11_0 R v vg kd a b z w ho hg hk h5 hR hN hp ha hb5 h
 ·
  exact do11_1 R v vg kd a b z w ho hg hk h5 hR hN hp ha hb5 h
 ·
  exact do11_2 R v vg kd a b z w ho hg hk h5 hR hN hp ha hb5 h
 ·
  exact do11_3 R v vg kd a b z w ho hg hk h5 hR hN hp ha hb5 h
 ·
  exact do11_4 R v vg kd a b z w ho hg hk h5 hR hN hp ha hb5 h
 ·
  exact do11_5 R v vg kd a b z w ho hg hk h5 hR hN hp ha hb5 h
 ·
  exact do11_6 R v vg kd a b z w ho hg hk h5 hR hN hp ha hb5 h
 ·
  exact do11_7 R v vg kd a b z w ho hg hk h5 hR hN hp ha hb5 h
 ·
  exact do11_8 R v vg kd a b z w ho hg hk h5 hR hN hp ha hb5 h
 ·
  exact do11_9 R v vg kd a b z w ho hg hk h5 hR hN hp ha hb5 h
 ·
  exact do11_10 R v vg kd a b z w ho hg hk h5 hR hN hp ha hb5 h
end
end Go.Proofs.YtmcomnocpibiiaaGreatDoor
namespace Go.Proofs.YtmcomnocpibiiaaGreatDoor
open Go.RowKit Go.Maps Go.Shelf

def YSaV11 (g1 o1 g2 o2 n k c1 c2:Nat) (a1 a2:Array Value):Nat→Value→World→Prop
 | 0,v,_=>v=.slice (some ⟨g1,o1,none⟩) n c1
 | 1,v,_=>v=.int .i64 k
 | 2,v,_=>v=.pointer (some ⟨g1,o1+k * 5,none⟩)
 | 3,v,_=>v=.agg a1
 | 4,v,_=>v=.slice (some ⟨g2,o2,none⟩) n c2
 | 5,v,_=>v=.int .i64 k
 | 6,v,_=>v=.pointer (some ⟨g2,o2+k * 5,none⟩)
 | 7,v,_=>v=.agg a2
 | 8,v,_=>v=.bool true
 | _,v,_=>v=.bool false
theorem Fj {g1 o1 g2 o2 n k c1 c2:Nat} {a1 a2:Array Value} {W W':World} (j:Nat) (z:Value) (hz:YSaV11 g1 o1 g2 o2 n k c1 c2 a1 a2 j z W):YSaV11 g1 o1 g2 o2 n k c1 c2 a1 a2 j z W':=by
 match j,hz with
 | 0,hz=>exact hz
 | 1,hz=>exact hz
 | 2,hz=>exact hz
 | 3,hz=>exact hz
 | 4,hz=>exact hz
 | 5,hz=>exact hz
 | 6,hz=>exact hz
 | 7,hz=>exact hz
 | 8,hz=>exact hz
 | _+9,hz=>exact hz

set_option maxRecDepth 100000 in
theorem jZ (A1 A2:Option Addr) (c1 c2 n:Nat) (l1 l2:List Us) (w:World) (hl1:n=l1.length) (hl2:n=l2.length) (hn:n≤1000) (h1:Uy w A1 l1) (h2:Uy w A2 l2) (o1:∀ u∈l1,u.Ok w) (o2:∀ u∈l2,u.Ok w)
  (hs:∀ k (i1:k<l1.length) (i2:k<l2.length),UQ l1[k] l2[k]=true) :
  Calls Tryz.prog 20 #[.slice A1 n c1,.slice A2 n c2] w (y7 true w):=by
 have hnot:∀ (x:Bool) (w:World),(Op.unary .not (.bool x)).run Tryz.prog w=.ok (.bool (!x)) w:=fun _ _=>rfl
 have H1:=za h1
 have H2:=za h2
 have L1:=za hl1
 have L2:=za hl2
 have O1:=za o1
 have O2:=za o2
 have HSM:=za hs
 clear h1 h2 hl1 hl2 o1 o2 hs
 go_enter Tryz.func20,Tryz.ntmps20
 go_wp2
 go_loopg [5,13] n (fun gg _ s13 wr=>∃ k:Nat,k≤n∧n - k≤gg∧s13=.int .i64 k∧Hid (Below w.heap.size w wr))
 case atStart=>exact ⟨0,Nat.zero_le _,by omega,rfl,Below.refl _ _⟩
 case round =>
  obtain ⟨k,hk,hg,rfl,HW⟩:=hrel
  by_cases hlt:k<n
  ·
   have hltz:(k:Int)<(n:Int):=by omega
   have hk1:k<l1.length:=L1.out ▸ hlt
   have hk2:k<l2.length:=L2.out ▸ hlt
   obtain ⟨g1,o1,rfl,Lg1,q1⟩:=(H1.out.later HW.out) (by intro e; rw [e] at hk1; exact absurd hk1 (Nat.not_lt_zero _))
   obtain ⟨g2,o2,rfl,Lg2,q2⟩:=(H2.out.later HW.out) (by intro e; rw [e] at hk2; exact absurd hk2 (Nat.not_lt_zero _))
   have HS:Hid (∀ W,Below wr.heap.size wr W→Calls Tryz.prog 71 #[.agg #[.string l1[k].nm,.string l1[k].hs,.string l1[k].ml,.bool l1[k].dis,.slice l1[k].ga l1[k].gs.length l1[k].gc],.agg #[.string l2[k].nm,.string l2[k].hs,.string l2[k].ml,.bool l2[k].dis,.slice l2[k].ga l2[k].gs.length l2[k].gc]] W (y7 true W)):=fun W hb=>by
    have:=UU l1[k] l2[k] W (((O1.out _ (List.getElem_mem hk1)).below HW.out).below hb) (((O2.out _ (List.getElem_mem hk2)).below HW.out).below hb)
    rwa [HSM.out k hk1 hk2] at this
   have C10:Hid (wr.cell? ⟨g1,o1+k * 5,none⟩=some (.string l1[k].nm)):=q1 k hk1 0 _ rfl
   have C11:Hid (wr.cell? ⟨g1,o1+k * 5+1,none⟩=some (.string l1[k].hs)):=q1 k hk1 1 _ rfl
   have C12:Hid (wr.cell? ⟨g1,o1+k * 5+2,none⟩=some (.string l1[k].ml)):=q1 k hk1 2 _ rfl
   have C13:Hid (wr.cell? ⟨g1,o1+k * 5+3,none⟩=some (.bool l1[k].dis)):=q1 k hk1 3 _ rfl
   have C14:Hid (wr.cell? ⟨g1,o1+k * 5+4,none⟩=some (.slice l1[k].ga l1[k].gs.length l1[k].gc)):=q1 k hk1 4 _ rfl
   have C20:Hid (wr.cell? ⟨g2,o2+k * 5,none⟩=some (.string l2[k].nm)):=q2 k hk2 0 _ rfl
   have C21:Hid (wr.cell? ⟨g2,o2+k * 5+1,none⟩=some (.string l2[k].hs)):=q2 k hk2 1 _ rfl
   have C22:Hid (wr.cell? ⟨g2,o2+k * 5+2,none⟩=some (.string l2[k].ml)):=q2 k hk2 2 _ rfl
   have C23:Hid (wr.cell? ⟨g2,o2+k * 5+3,none⟩=some (.bool l2[k].dis)):=q2 k hk2 3 _ rfl
   have C24:Hid (wr.cell? ⟨g2,o2+k * 5+4,none⟩=some (.slice l2[k].ga l2[k].gs.length l2[k].gc)):=q2 k hk2 4 _ rfl
   clear q1 q2
   generalize l1[k].nm=nm1 at *
   generalize l1[k].hs=hs1 at *
   generalize l1[k].ml=ml1 at *
   generalize l1[k].dis=dis1 at *
   generalize l1[k].ga=ga1 at *
   generalize l1[k].gs.length=gl1 at *
   generalize l1[k].gc=gc1 at *
   generalize l2[k].nm=nm2 at *
   generalize l2[k].hs=hs2 at *
   generalize l2[k].ml=ml2 at *
   generalize l2[k].dis=dis2 at *
   generalize l2[k].ga=ga2 at *
   generalize l2[k].gs.length=gl2 at *
   generalize l2[k].gc=gc2 at *
   go_wp2_with fail
   refine yS (by kernel_rfl) (fun W=>Below wr.heap.size wr W) (YSaV11 g1 o1 g2 o2 n k c1 c2 #[.string nm1,.string hs1,.string ml1,.bool dis1,.slice ga1 gl1 gc1] #[.string nm2,.string hs2,.string ml2,.bool dis2,.slice ga2 gl2 gc2]) ?F ?hF (by kernel_rfl) (by kernel_rfl) (zK (Below.refl _ _)) ?step ?fin
   case hF =>
    intro x
    simp only [List.map_cons,List.map_nil,vc,Act.put,List.setIfInBounds_toArray,List.set_cons_zero,List.set_cons_succ,Nat.zero_add,Nat.reduceAdd]
    exact rfl
   case step =>
    refine ⟨?_,?_,?_,?_,?_,?_,?_,?_,?_,?_,trivial⟩
    all_goals intro x W hW hdep K hK
    ·
     clear hdep
     go_simp
     exact hK _ _ rfl hW (fun _ _ h=>h)
    ·
     clear hdep
     go_simp
     exact hK _ _ rfl hW (fun _ _ h=>h)
    ·
     have h0:x 0=_:=hdep 0 rfl
     have h1:x 1=_:=hdep 1 rfl
     clear hdep
     simp only [h0,h1] at hK
     go_simp
     exact hK _ _ rfl hW (fun _ _ h=>h)
    ·
     have h2:x 2=_:=hdep 2 rfl
     have d0:=(hW.cell (p:=⟨g1,o1+k * 5,none⟩) Lg1).trans C10.out
     have d1:=(hW.cell (p:=⟨g1,o1+k * 5+1,none⟩) Lg1).trans C11.out
     have d2:=(hW.cell (p:=⟨g1,o1+k * 5+2,none⟩) Lg1).trans C12.out
     have d3:=(hW.cell (p:=⟨g1,o1+k * 5+3,none⟩) Lg1).trans C13.out
     have d4:=(hW.cell (p:=⟨g1,o1+k * 5+4,none⟩) Lg1).trans C14.out
     clear hdep
     simp only [h2] at hK
     go_simp
     exact hK _ _ rfl hW (fun _ _ h=>h)
    ·
     clear hdep
     go_simp
     exact hK _ _ rfl hW (fun _ _ h=>h)
    ·
     clear hdep
     go_simp
     exact hK _ _ rfl hW (fun _ _ h=>h)
    ·
     have h4:x 4=_:=hdep 4 rfl
     have h5:x 5=_:=hdep 5 rfl
     clear hdep
     simp only [h4,h5] at hK
     go_simp
     exact hK _ _ rfl hW (fun _ _ h=>h)
    ·
     have h6:x 6=_:=hdep 6 rfl
     have d0:=(hW.cell (p:=⟨g2,o2+k * 5,none⟩) Lg2).trans C20.out
     have d1:=(hW.cell (p:=⟨g2,o2+k * 5+1,none⟩) Lg2).trans C21.out
     have d2:=(hW.cell (p:=⟨g2,o2+k * 5+2,none⟩) Lg2).trans C22.out
     have d3:=(hW.cell (p:=⟨g2,o2+k * 5+3,none⟩) Lg2).trans C23.out
     have d4:=(hW.cell (p:=⟨g2,o2+k * 5+4,none⟩) Lg2).trans C24.out
     clear hdep
     simp only [h6] at hK
     go_simp
     exact hK _ _ rfl hW (fun _ _ h=>h)
    ·
     have h3:x 3=_:=hdep 3 rfl
     have h7:x 7=_:=hdep 7 rfl
     clear hdep
     simp only [h3,h7] at hK
     go_simp
     refine (HS.out W hW).mono ?_
     rintro e W' ⟨rfl,hb⟩
     exact hK _ _ rfl (z8 hW hb) (fun j u hz=>Fj j u hz)
    ·
     have h8:x 8=_:=hdep 8 rfl
     clear hdep
     simp only [h8] at hK
     go_simp
     exact hK _ _ rfl hW (fun _ _ h=>h)
   case fin =>
    intro x W hW hY
    have h9:x 9=.bool false:=hY 9 (by decide)
    have HF:=za (z8 HW.out hW)
    clear hY hW Lg1 Lg2
    rw [h9]
    go_wp2
    go_roundg (n - (k+1))
    case measure=>omega
    case rel=>exact ⟨k+1,by omega,by omega,by go_num,HF⟩
  ·
   have hltz:¬ (k:Int)<(n:Int):=by omega
   obtain rfl:k=n:=by omega
   go_wp2
   go_ret
   exact ⟨rfl,HW.out⟩

def J8 (q:List UInt8×W11):Us:=⟨zI q.1,q.2.hs,q.2.ml,q.2.dis,q.2.ga,q.2.gs.map zI,q.2.gc⟩
theorem us11_cells (q:List UInt8×W11):(J8 q).cells=(jv q).toArray:=by
 unfold J8 Us.cells jv
 simp
theorem Jq {w:World} {A:Option Addr} {c n:Nat} {R:zJ W11} (h:jP w (.slice A n c) R):n=(R.map J8).length∧Uy w A (R.map J8):=by
 obtain ⟨A',c',e,hc⟩:=h
 injection e with e1 e2 e3
 subst e1 e2 e3
 refine ⟨by simp,fun hne=>?_⟩
 have h0:0<R.length:=by
  rcases R with _ | ⟨q,r⟩
  ·
   exact absurd rfl hne
  ·
   exact Nat.succ_pos _
 obtain ⟨g,e,hg⟩:=hc 0 h0
 refine ⟨g,0,e,World.block_lt_of_cell? w _ (hg 0 _ rfl),fun i hi j u hu=>?_⟩
 have hi':i<R.length:=by simpa using hi
 obtain ⟨g',e',hg'⟩:=hc i hi'
 rw [e] at e'
 injection e' with e'
 injection e' with e'
 subst e'
 have hu':(jv R[i])[j]? = some u:=by
  rw [List.getElem_map,us11_cells] at hu
  simpa using hu
 have:=hg' j u hu'
 rwa [Nat.zero_add]
structure Short11 (T:yH):Prop where
 few:T.length≤12
 nm:∀ p∈T,p.1.length≤1000
 hs:∀ p∈T,p.2.hs.length≤1000
 ml:∀ p∈T,p.2.ml.length≤1000
 gs:∀ p∈T,∀ g∈p.2.gs,g.length≤1000
theorem short11 {A:zM} {L:zT} {S:zv} {k:Nat} (hg:zu A L S k):Short11 (ze A L S):=by
 have hq:∀ p∈ze A L S,∃ q∈A,p=(q.1,xF L S q.1 q.2):=fun p hp=>by
  obtain ⟨q,hq,e⟩:=List.mem_map.1 hp
  exact ⟨q,hq,e.symm⟩
 refine ⟨by rw [uF]; exact hg.few,fun p hp=>?_,fun p hp=>?_,fun p hp=>?_,fun p hp g hgg=>?_⟩
 ·
  obtain ⟨q,hq,rfl⟩:=hq p hp
  exact Nat.le_trans (uY (hg.nm q hq).1) (by decide)
 ·
  obtain ⟨q,hq,rfl⟩:=hq p hp
  exact jj (hg.nm q hq).2
 ·
  obtain ⟨q,hq,rfl⟩:=hq p hp
  show (xz L q.1).length≤1000
  cases hh:xA L q.1 with
  | false=>rw [yV hh]; simp
  | true =>
   have:=hg.all _ (xJ hh)
   exact Nat.le_trans (YF this.2.1) (by decide)
 ·
  obtain ⟨q,hq,rfl⟩:=hq p hp
  have h1:=fp hgg
  obtain ⟨x,hx,rfl⟩:=List.mem_map.1 h1
  exact Nat.le_trans (uY (hg.grp.named x hx)) (by decide)
theorem us11_ok {w:World} {q:List UInt8×W11} (hr:w.ownsRow 0 9 1 (.slice q.2.ga q.2.gs.length q.2.gc) q.2.gs.length (q.2.gs.map encStr)) (h1:q.1.length≤1000) (h2:q.2.hs.size≤1000) (h3:q.2.ml.size≤1000) (h4:∀ g∈q.2.gs,g.length≤1000):(J8 q).Ok w:=by
 refine ⟨fun hne=>?_,?_,Nat.le_trans h2 (by decide),Nat.le_trans h3 (by decide),fun hn=>?_,?_,?_,fun s hs=>?_⟩
 ·
  have hn0:0<q.2.gs.length:=by
   rcases hq:q.2.gs with _ | ⟨a,r⟩
   ·
    exact absurd (show (J8 q).gs=[] by unfold J8; rw [hq]; rfl) hne
   ·
    exact Nat.succ_pos _
  obtain ⟨g,cx,e,c0⟩:=NmR.at_ (N:=q.2.gs) hr (k:=0) hn0
  injection e with e
  refine ⟨g,0,e,World.block_lt_of_cell? w _ c0,fun j hj=>?_⟩
  have hj':j<q.2.gs.length:=by have:(J8 q).gs.length=q.2.gs.length:=List.length_map _; omega
  obtain ⟨g',cx',e',cj⟩:=NmR.at_ (N:=q.2.gs) hr (k:=j) hj'
  injection e' with e'
  rw [e] at e'
  injection e' with e'
  injection e' with e'
  subst e'
  rw [Nat.zero_add,cj]
  have eg:(J8 q).gs[j]=zI q.2.gs[j]:=List.getElem_map ..
  rw [eg]
 ·
  show (zI q.1).size≤_
  rw [xr]; exact Nat.le_trans h1 (by decide)
 ·
  rcases hr.2 with ⟨e,_⟩ | ⟨g,cap,cur,e,_⟩
  ·
   injection e
  ·
   injection e with e; rw [show q.2.ga=none from hn] at e; cases e
 ·
  show (q.2.gs.map zI).length≤q.2.gc
  rw [List.length_map]
  rcases hr.2 with ⟨e,h0⟩ | ⟨g,cap,cur,e,_,_,r1,_⟩
  ·
   omega
  ·
   injection e with _ _ e; omega
 ·
  rcases hr.2 with ⟨e,h0⟩ | ⟨g,cap,cur,e,_,_,r1,r2,_⟩
  ·
   injection e with _ _ e; show q.2.gc≤_; omega
  ·
   injection e with _ _ e
   show q.2.gc≤_
   have:=r2
   unfold maxLen at this
   omega
 ·
  obtain ⟨g,hg,rfl⟩:=List.mem_map.1 hs
  rw [xr]; exact Nat.le_trans (h4 g hg) (by decide)
theorem UR (v1 v2:Value) (R1 R2:zJ W11) (T:yH) (w:World) (h1:xV 0 R1 w v1) (h2:xV 0 R2 w v2) (e1:zc R1=T) (e2:zc R2=T) (hs:Short11 T) :
  Calls Tryz.prog 20 #[v1,v2] w (y7 true w):=by
 have hl1:R1.length=T.length:=by rw [← e1,vE]
 have hl2:R2.length=T.length:=by rw [← e2,vE]
 have ok:∀ (R:zJ W11),zc R=T→uT 0 w R→∀ u∈R.map J8,u.Ok w:=fun R e hg u hu=>by
  obtain ⟨q,hq,rfl⟩:=List.mem_map.1 hu
  have hm:(q.1,q.2.u)∈T:=by rw [← e]; exact List.mem_map.2 ⟨q,hq,rfl⟩
  have a2:=hs.hs _ hm
  have a3:=hs.ml _ hm
  exact us11_ok (hg q hq) (hs.nm _ hm) (by rw [← zw]; exact a2) (by rw [← zw]; exact a3) (hs.gs _ hm)
 obtain ⟨A1,c1,rfl⟩:=h1.rw.us.shape
 obtain ⟨A2,c2,rfl⟩:=h2.rw.us.shape
 have r1:=(Jq h1.rw.us).2
 have r2:=(Jq h2.rw.us).2
 have o1:=ok R1 e1 h1.2
 have o2:=ok R2 e2 h2.2
 rw [hl1,hl2]
 refine jZ A1 A2 c1 c2 T.length (R1.map J8) (R2.map J8) w (by simp [hl1]) (by simp [hl2]) (by have:=hs.few; omega) r1 r2 o1 o2 fun k i1 i2=>?_
 rw [List.getElem_map,List.getElem_map]
 have k1:k<R1.length:=by simpa using i1
 have k2:k<R2.length:=by simpa using i2
 have hp:(R1[k].1,R1[k].2.u)=(R2[k].1,R2[k].2.u):=by
  have q1:(zc R1)[k]? = some (R1[k].1,R1[k].2.u):=by simp [zc,k1]
  have q2:(zc R2)[k]? = some (R2[k].1,R2[k].2.u):=by simp [zc,k2]
  rw [e1] at q1
  rw [e2] at q2
  rw [q1] at q2
  injection q2
 generalize R1[k]=x1 at *
 generalize R2[k]=x2 at *
 obtain ⟨n1,⟨a1,b1,d1,g1,s1,t1⟩⟩:=x1
 obtain ⟨n2,⟨a2,b2,d2,g2,s2,t2⟩⟩:=x2
 injection hp with p1 p2
 unfold W11.u at p2
 injection p2 with p2 p3 p4 p5
 dsimp only at p1 p2 p3 p4 p5
 have hb:∀ x y:ByteArray,x.data.toList=y.data.toList→x=y:=fun x y h=>by rw [← yM x,← yM y,h]
 have hz1:=hb _ _ p2
 have hz2:=hb _ _ p3
 subst p1 p4 p5 hz1 hz2
 unfold UQ J8
 simp

def YSm11 (D b0 n:Nat) (v vg:Value) (T:yH) (N:List (List UInt8)):Nat→Value→World→Prop
 | 1,u,_=>u=.int .i64 n
 | 2,u,_=>u=.pointer (some ⟨b0,0,none⟩)
 | 3,u,_=>u=v
 | 4,u,_=>u=.int .i64 n
 | 5,u,_=>u=.bool true
 | 6,u,_=>u=.bool true
 | 8,u,W=>∃ R,xV 0 R W u∧zc R=T
 | 9,u,_=>u=.pointer (some ⟨b0,0,none⟩)
 | 10,u,_=>u=v
 | 11,u,_=>u=.bool true
 | 12,u,_=>u=.bool true
 | 13,u,_=>u=.bool true
 | 15,u,W=>NmR W u N
 | 16,u,_=>u=.pointer (some ⟨b0,1,none⟩)
 | 17,u,_=>u=vg
 | 18,u,_=>u=.bool true
 | 19,u,_=>u=.bool true
 | 20,u,_=>u=.bool true
 | _,u,_=>u=.pointer (some ⟨D,0,none⟩)
theorem jo {D b0 n:Nat} {v vg:Value} {T:yH} {N:List (List UInt8)} {W W':World} (hb:Below W.heap.size W W') (j:Nat) (u:Value) (h:YSm11 D b0 n v vg T N j u W):YSm11 D b0 n v vg T N j u W':=by
 by_cases h8:j=8
 ·
  subst h8
  obtain ⟨R,hr,e⟩:=(show ∃ R,xV 0 R W u∧zc R=T from h)
  exact ⟨R,hr.later hb,e⟩
 by_cases h15:j=15
 ·
  subst h15
  exact NmR.later (show NmR W u N from h) hb
 revert h
 unfold YSm11
 split <;> first | exact id | (exfalso; omega)
section
variable {w0 w:World} {D P M G:Nat} {A:zM} {L:zT} {S:zv} {k:Nat}
set_option maxRecDepth 100000 in
theorem lsame11_calls (R:zJ W11) (v vg:Value) (ho:zo w0 w D P M G A L S) (hg:zu A L S k) (hR:xV 0 R w v) (hN:NmR w vg (zb S)) (hp:zc R=ze A L S) :
  Calls Tryz.prog 15 #[.pointer (some ⟨D,0,none⟩),.agg #[v,vg]] w (y7 true w):=by
 have HLN:Hid (∀ W,Below w.heap.size w W→Calls Tryz.prog 62 #[.pointer (some ⟨D,0,none⟩)] W fun e w'=>e=.returned (.int .i64 R.length)∧w'=W):=fun W hb=>by
  have:=Zp (ho.later hb)
  rwa [show A.length=R.length by rw [← vE R,hp,uF]] at this
 have HAL:Hid (∀ W,Below w.heap.size w W→Calls Tryz.prog 29 #[.pointer (some ⟨D,0,none⟩)] W fun e w'=>∃ v R,e=.returned v∧xV 0 R w' v∧zc R=ze A L S∧Below W.heap.size W w'):=fun W hb =>
  (Zq (ho.later hb) hg).mono fun e w' ⟨v,R,he,hr,hpl,hb'⟩=>⟨v,R,he,hr.low (Nat.zero_le _),hpl,hb'⟩
 have HGR:Hid (∀ W,Below w.heap.size w W→Calls Tryz.prog 63 #[.pointer (some ⟨D,0,none⟩)] W fun e w'=>∃ v,e=.returned v∧NmR w' v (zb S)∧Below W.heap.size W w'):=fun W hb =>
  (qT (ho.later hb) hg.grp).mono fun e w' ⟨v,he,hr,hb'⟩=>⟨v,he,NmR.of hr,hb'⟩
 have HS:=za (short11 hg)
 have HNL:Hid ((zb S).length≤1000):=by show _≤_; rw [yz]; have:=hg.grp.few; omega
 have HRC:=za hR
 have HNN:=za hN
 have HPL:=za hp
 obtain ⟨A0,c,rfl⟩:=hR.rw.us.shape
 obtain ⟨A1,c1,rfl⟩:=hN.shape
 have HX:=za (zp w (.slice A0 R.length c) (.slice A1 (zb S).length c1))
 have HB0:Hid (Below w.heap.size w (w.alloc (.cells #[.slice A0 R.length c,.slice A1 (zb S).length c1] zn))):=z7 (Below.refl _ _) _
 clear ho hg hR hN hp
 generalize hT:ze A L S=T at *
 generalize hNm:zb S=N at *
 clear hT hNm
 obtain ⟨n,hn2⟩:∃ m,m=R.length:=⟨_,rfl⟩
 obtain ⟨n1,hn3⟩:∃ m,m=N.length:=⟨_,rfl⟩
 rw [← hn2] at HLN HRC HX HB0 ⊢
 rw [← hn3] at HNN HNL HX HB0 ⊢
 have HN3:=za hn3
 clear hn2 hn3
 go_enter Tryz.func15,Tryz.ntmps15
 go_wp2_with fail
 generalize w.alloc (.cells #[.slice A0 n c,.slice A1 n1 c1] zn)=w1 at *
 refine yS (by kernel_rfl) (fun W=>Below w1.heap.size w1 W) (YSm11 D w.heap.size n (.slice A0 n c) (.slice A1 n1 c1) T N) ?F ?hF (by kernel_rfl) (by kernel_rfl) (zK (Below.refl _ _)) ?step ?fin
 case hF =>
  intro x
  simp only [List.map_cons,List.map_nil,vc,Act.put,List.setIfInBounds_toArray,List.set_cons_zero,List.set_cons_succ,Nat.zero_add,Nat.reduceAdd]
  exact rfl
 case step =>
  refine ⟨?_,?_,?_,?_,?_,?_,?_,?_,?_,?_,?_,?_,?_,?_,?_,?_,?_,?_,?_,?_,?_,trivial⟩
  ·
   intro x W hR hdep K hK
   clear hdep
   go_simp
   exact hK _ _ rfl hR (fun _ _ h=>h)
  ·
   intro x W hR hdep K hK
   have h0:x 0=_:=hdep 0 rfl
   clear hdep
   simp only [h0] at hK
   go_simp
   refine (HLN.out W (z8 HB0.out hR)).mono ?_
   rintro e W' ⟨rfl,rfl⟩
   exact hK _ _ rfl hR (fun _ _ h=>h)
  ·
   intro x W hR hdep K hK
   clear hdep
   go_simp
   exact hK _ _ rfl hR (fun _ _ h=>h)
  ·
   intro x W hR hdep K hK
   have h2:x 2=_:=hdep 2 rfl
   clear hdep
   simp only [h2] at hK
   have q0:=(HX.out.later hR).c0
   go_simp
   exact hK _ _ rfl hR (fun _ _ h=>h)
  ·
   intro x W hR hdep K hK
   have h3:x 3=_:=hdep 3 rfl
   clear hdep
   simp only [h3] at hK
   go_simp
   exact hK _ _ rfl hR (fun _ _ h=>h)
  ·
   intro x W hR hdep K hK
   have h1:x 1=_:=hdep 1 rfl
   have h4:x 4=_:=hdep 4 rfl
   clear hdep
   simp only [h1,h4] at hK
   go_simp
   exact hK _ _ rfl hR (fun _ _ h=>h)
  ·
   intro x W hR hdep K hK
   have h5:x 5=_:=hdep 5 rfl
   clear hdep
   simp only [h5] at hK
   go_simp
   exact hK _ _ rfl hR (fun _ _ h=>h)
  ·
   intro x W hR hdep K hK
   have h6:x 6=_:=hdep 6 rfl
   clear hdep
   simp only [h6] at hK
   go_simp
   exact hK _ _ rfl hR (fun _ _ h=>h)
  ·
   intro x W hR hdep K hK
   have h6:x 6=_:=hdep 6 rfl
   have h7:x 7=_:=hdep 7 rfl
   clear hdep
   simp only [h6,h7] at hK
   go_simp
   refine (HAL.out W (z8 HB0.out hR)).mono ?_
   rintro e W' ⟨v,R',rfl,hr,hpl,hb⟩
   exact hK _ _ ⟨R',hr,hpl⟩ (z8 hR hb) (fun j u h=>jo hb j u h)
  ·
   intro x W hR hdep K hK
   have h6:x 6=_:=hdep 6 rfl
   clear hdep
   simp only [h6] at hK
   go_simp
   exact hK _ _ rfl hR (fun _ _ h=>h)
  ·
   intro x W hR hdep K hK
   have h6:x 6=_:=hdep 6 rfl
   have h9:x 9=_:=hdep 9 rfl
   clear hdep
   simp only [h6,h9] at hK
   have q0:=(HX.out.later hR).c0
   go_simp
   exact hK _ _ rfl hR (fun _ _ h=>h)
  ·
   intro x W hR hdep K hK
   have hA:∃ R,xV 0 R W (x 8)∧zc R=T:=hdep 8 rfl
   obtain ⟨R1,h8,e8⟩:=hA
   have h6:x 6=_:=hdep 6 rfl
   have h10:x 10=_:=hdep 10 rfl
   clear hdep
   simp only [h6,h10] at hK
   go_simp
   refine (UR _ _ R1 R T W h8 (HRC.out.later (z8 HB0.out hR)) e8 HPL.out HS.out).mono ?_
   rintro e W' ⟨rfl,hb⟩
   exact hK _ _ rfl (z8 hR hb) (fun j u h=>jo hb j u h)
  ·
   intro x W hR hdep K hK
   have h6:x 6=_:=hdep 6 rfl
   have h11:x 11=_:=hdep 11 rfl
   clear hdep
   simp only [h6,h11] at hK
   go_simp
   exact hK _ _ rfl hR (fun _ _ h=>h)
  ·
   intro x W hR hdep K hK
   have h12:x 12=_:=hdep 12 rfl
   clear hdep
   simp only [h12] at hK
   go_simp
   exact hK _ _ rfl hR (fun _ _ h=>h)
  ·
   intro x W hR hdep K hK
   have h13:x 13=_:=hdep 13 rfl
   clear hdep
   simp only [h13] at hK
   go_simp
   exact hK _ _ rfl hR (fun _ _ h=>h)
  ·
   intro x W hR hdep K hK
   have h13:x 13=_:=hdep 13 rfl
   have h14:x 14=_:=hdep 14 rfl
   clear hdep
   simp only [h13,h14] at hK
   go_simp
   refine (HGR.out W (z8 HB0.out hR)).mono ?_
   rintro e W' ⟨v,rfl,hr,hb⟩
   exact hK _ _ hr (z8 hR hb) (fun j u h=>jo hb j u h)
  ·
   intro x W hR hdep K hK
   have h13:x 13=_:=hdep 13 rfl
   clear hdep
   simp only [h13] at hK
   go_simp
   exact hK _ _ rfl hR (fun _ _ h=>h)
  ·
   intro x W hR hdep K hK
   have h13:x 13=_:=hdep 13 rfl
   have h16:x 16=_:=hdep 16 rfl
   clear hdep
   simp only [h13,h16] at hK
   have q1:=(HX.out.later hR).c1
   go_simp
   exact hK _ _ rfl hR (fun _ _ h=>h)
  ·
   intro x W hR hdep K hK
   have h15:NmR W (x 15) N:=hdep 15 rfl
   have h13:x 13=_:=hdep 13 rfl
   have h17:x 17=_:=hdep 17 rfl
   clear hdep
   simp only [h13,h17] at hK
   go_simp
   refine (VM _ _ N W h15 (HNN.out.later (z8 HB0.out hR)) (by rw [← HN3.out]; exact HNL.out)).mono ?_
   rintro e W' ⟨rfl,hb⟩
   exact hK _ _ rfl (z8 hR hb) (fun j u h=>jo hb j u h)
  ·
   intro x W hR hdep K hK
   have h13:x 13=_:=hdep 13 rfl
   have h18:x 18=_:=hdep 18 rfl
   clear hdep
   simp only [h13,h18] at hK
   go_simp
   exact hK _ _ rfl hR (fun _ _ h=>h)
  ·
   intro x W hR hdep K hK
   have h19:x 19=_:=hdep 19 rfl
   clear hdep
   simp only [h19] at hK
   go_simp
   exact hK _ _ rfl hR (fun _ _ h=>h)
 case fin =>
  intro x W hW hY
  have h20:x 20=_:=hY 20 (by decide)
  have HBE:=za (z8 HB0.out hW)
  clear hY hW HLN HAL HGR HRC HNN HX
  rw [h20]
  go_wp2
  go_ret
  exact ⟨rfl,HBE.out⟩
end
end Go.Proofs.YtmcomnocpibiiaaGreatDoor
namespace Go.Proofs.YtmcomnocpibiiaaGreatDoor
open Go.ChangeShapes Go.WideShapes Go.ChangeAt Go.RowKit Go.Deep

structure J7 where
 kd:Nat
 nm:ByteArray
 hs:ByteArray
 is_:Bool
def J7.cells (t:J7):List Value:=[.int .u8 (t.kd:Int),.string t.nm,.string t.hs,.bool t.is_]
def RdAN (w:World) (A:Option Addr) (l:List J7):Prop :=
 l≠[]→∃ b off,A=some ⟨b,off,none⟩∧b<w.heap.size∧∀ i (hi:i<l.length) j u,l[i].cells[j]? = some u→w.cell? ⟨b,off+i * 4+j,none⟩=some u
theorem RdAN.later {w w':World} {A:Option Addr} {l:List J7} (h:RdAN w A l) (hb:Below w.heap.size w w'):RdAN w' A l:=fun hl=>by
 obtain ⟨b,off,rfl,hlt,hc⟩:=h hl
 exact ⟨b,off,rfl,Nat.lt_of_lt_of_le hlt hb.size,fun i hi j u hu=>(hb.cell (p:=⟨b,off+i * 4+j,none⟩) hlt).trans (hc i hi j u hu)⟩
def IsActsN (w:World) (A:Option Addr) (len:Nat) (l:List J7):Prop:=len=l.length∧l.length≤9223372036854775807∧RdAN w A l∧∀ t∈l,t.kd<256∧t.nm.size≤9223372036854775807∧t.hs.size≤9223372036854775807

theorem cellsOfU8n:Tryz.prog.cellsOf 5=1:=by kernel_rfl
theorem Fb:Tryz.prog.cellsOf 9=1:=by kernel_rfl
theorem QU:Tryz.prog.cellsOf 4=1:=by kernel_rfl
theorem Xc:Tryz.prog.cellsOf 32=4:=by kernel_rfl
theorem pick_actn (d:J7) {φ:Nat→J7→Prop} {m:Nat} (h:∀ i,i<m→∃ t,φ i t):∃ T:Nat→J7,∀ i,i<m→φ i (T i):=by
 refine ⟨fun i=>if hi:i<m then Classical.choose (h i hi) else d,fun i hi=>?_⟩
 have:(if hi:i<m then Classical.choose (h i hi) else d)=Classical.choose (h i hi):=dif_pos hi
 show φ i (if hi:i<m then Classical.choose (h i hi) else d)
 rw [this]
 exact Classical.choose_spec (h i hi)
section
variable {H:Type} {enc:TypeId×Value→H} {W:World} {base:Nat} {sp:Nat→Bool} {hd:Bool} {fuel:Nat}
set_option maxRecDepth 100000 in
theorem actn_of {cs:List Value} {x:DataW H×List MemPlace} (h:DataW.trod enc Tryz.prog W base sp hd fuel 32 cs=some x) :
  ∃ t:J7,cs=t.cells∧t.kd<256∧t.nm.size≤9223372036854775807∧t.hs.size≤9223372036854775807:=by
 obtain ⟨ys,n,_,_,hlen,hyl,hf⟩:=DataW.trod_struct Tryz.underlying32 h
 rw [Xc] at hlen
 match cs,hlen,ys,hyl with
 | [c0,c1,c2,c3],_,[y0,y1,y2,y3],_ =>
  have f0:DataW.trod enc Tryz.prog W base sp hd n 5 (([c0,c1,c2,c3].drop 0).take (Tryz.prog.cellsOf 5))=some y0:=hf 0 _ rfl
  have f1:DataW.trod enc Tryz.prog W base sp hd n 9 (([c0,c1,c2,c3].drop 1).take (Tryz.prog.cellsOf 9))=some y1:=hf 1 _ rfl
  have f2:DataW.trod enc Tryz.prog W base sp hd n 9 (([c0,c1,c2,c3].drop 2).take (Tryz.prog.cellsOf 9))=some y2:=hf 2 _ rfl
  have f3:DataW.trod enc Tryz.prog W base sp hd n 4 (([c0,c1,c2,c3].drop 3).take (Tryz.prog.cellsOf 4))=some y3:=hf 3 _ rfl
  rw [QU] at f3
  rw [cellsOfU8n] at f0
  rw [Fb] at f1 f2
  obtain ⟨kd,e0,_,w0⟩:=DataW.trod_int Tryz.underlying5 f0
  obtain ⟨nm,e1,_,w1⟩:=DataW.trod_string Tryz.underlying9 f1
  obtain ⟨hs,e2,_,w2⟩:=DataW.trod_string Tryz.underlying9 f2
  obtain ⟨is_,e3,_⟩:=DataW.trod_bool Tryz.underlying4 f3
  simp only [List.drop_zero,List.drop_succ_cons,List.take_succ_cons,List.take_zero,List.cons.injEq,and_true] at e0 e1 e2 e3
  subst e0 e1 e2 e3
  have b0:=bounds_u8 w0
  obtain ⟨kn,rfl⟩:=Int.eq_ofNat_of_zero_le b0.1
  exact ⟨⟨kn,nm,hs,is_⟩,rfl,by show kn<256; omega,Nat.le_trans w1 (by decide),Nat.le_trans w2 (by decide)⟩

set_option maxRecDepth 100000 in
theorem actns_of {a:Option Addr} {len cap:Nat} {d:DataW H} {p:List MemPlace} (h:DataW.Trod enc Tryz.prog W base sp hd 22 (.slice a len cap) d p):∃ l,IsActsN W a len l:=by
 obtain ⟨fuel,hf⟩:=h
 rcases open_slice Tryz.underlying22 hf with ⟨hcs,_⟩ | ⟨x,l,c,m,n,D,Pl,hcs,_,hl,hm,hmm,_,hi⟩
 ·
  simp [Value.cells] at hcs
  obtain ⟨rfl,rfl,rfl⟩:=hcs
  exact ⟨[],rfl,by simp,fun h=>absurd rfl h,by simp⟩
 ·
  simp [Value.cells] at hcs
  obtain ⟨rfl,rfl,rfl⟩:=hcs
  have hlm:len≤m:=by rw [hmm]; split <;> omega
  rw [Xc] at hi
  have hex:∀ i,i<m→∃ t:J7,(∀ j,j<4→W.cell? ((x.add (i * 4)).add j)=t.cells[j]?)∧t.kd<256∧t.nm.size≤9223372036854775807∧t.hs.size≤9223372036854775807:=by
   intro i him
   obtain ⟨cs',hc,ht'⟩:=hi i him
   obtain ⟨t,rfl,hrest⟩:=actn_of ht'
   exact ⟨t,(World.cells?_some hc).2.2,hrest⟩
  obtain ⟨T,hT⟩:=pick_actn ⟨0,⟨#[]⟩,⟨#[]⟩,false⟩ hex
  refine ⟨(List.range len).map T,by simp,by simpa [maxLen] using Nat.le_trans hl hm,fun hne=>?_,fun t ht=>?_⟩
  ·
   have hp:0<len:=by
    rcases Nat.eq_zero_or_pos len with h | h
    ·
     subst h; simp at hne
    ·
     exact h
   have hc0:=(hT 0 (by omega)).1 0 (by omega)
   have h00:(T 0).cells[0]? = some (.int .u8 (T 0).kd):=rfl
   rw [h00,Nat.zero_mul] at hc0
   have hx:x=⟨x.block,x.off,none⟩:=by
    have hs:x.spot=none:=World.cell?_spot hc0
    rw [← hs]
   refine ⟨x.block,x.off,by rw [← hx],?_,fun i hi' j u hu=>?_⟩
   ·
    exact World.block_lt_of_cell? W _ hc0
   ·
    rw [List.length_map,List.length_range] at hi'
    have e:((List.range len).map T)[i]'(by simpa using hi')=T i:=by simp
    rw [e] at hu
    have hj:j<4:=(List.getElem?_eq_some_iff.1 hu).1
    have:=(hT i (by omega)).1 j hj
    rw [hx,Addr.add_lit,Addr.add_lit] at this
    exact this.trans hu
  ·
   obtain ⟨i,hi',rfl⟩:=List.mem_map.1 ht
   rw [List.mem_range] at hi'
   exact (hT i (by omega)).2
end
end Go.Proofs.YtmcomnocpibiiaaGreatDoor
namespace Go.Proofs.YtmcomnocpibiiaaGreatDoor
open Go.RowKit Go.Maps

def vq (t:J7):Bool:=decide (t.nm.size≤50) && decide (t.hs.size≤50)
def Zx (l:List J7):Bool:=l.all vq && decide (l.length≤60)

set_option maxRecDepth 100000 in
theorem few11L_calls (A:Option Addr) (c n:Nat) (l:List J7) (w:World) (hl:n=l.length) (hn:n≤9223372036854775807) (hr:RdAN w A l) :
  Calls Tryz.prog 12 #[.slice A n c] w (y7 (Zx l) w):=by
 have HR:=za hr
 have HL:=za hl
 clear hr hl
 obtain ⟨r,hr⟩:∃ r,r=Zx l:=⟨_,rfl⟩
 rw [← hr]
 have HRR:=za hr
 clear hr
 go_enter Tryz.func12,Tryz.ntmps12
 go_wp2
 go_loopg [4,7] n (fun gg _ s7 wr=>∃ k:Nat,k≤n∧n - k≤gg∧s7=.int .i64 k∧Hid (Below w.heap.size w wr)∧Hid (∀ j (h:j<l.length),j<k→vq l[j]=true))
 case atStart=>exact ⟨0,Nat.zero_le _,by omega,rfl,Below.refl _ _,fun j _ hj=>absurd hj (Nat.not_lt_zero _)⟩
 case round =>
  obtain ⟨k,hk,hg,rfl,HW,A0⟩:=hrel
  by_cases hlt:k<n
  ·
   have hltz:(k:Int)<(n:Int):=by omega
   have hkl:k<l.length:=HL.out ▸ hlt
   obtain ⟨b,off,rfl,hb,hc⟩:=(HR.out.later HW.out) (by intro e; rw [e] at hkl; exact absurd hkl (Nat.not_lt_zero _))
   have c0:wr.cell? ⟨b,off+k * 4,none⟩=some (.int .u8 (l[k].kd:Int)):=hc k hkl 0 _ rfl
   have c1:wr.cell? ⟨b,off+k * 4+1,none⟩=some (.string l[k].nm):=hc k hkl 1 _ rfl
   have c2:wr.cell? ⟨b,off+k * 4+2,none⟩=some (.string l[k].hs):=hc k hkl 2 _ rfl
   have c3:wr.cell? ⟨b,off+k * 4+3,none⟩=some (.bool l[k].is_):=hc k hkl 3 _ rfl
   have HX:Hid (vq l[k]=true→∀ j (h:j<l.length),j<k+1→vq l[j]=true):=fun hq j h hj=>by
    by_cases e:j=k
    ·
     subst e; exact hq
    ·
     exact A0.out j h (by omega)
   have HF:Hid (vq l[k]=false→r=false):=fun hf=>by
    rw [HRR.out]
    have:l.all vq=false:=List.all_eq_false.2 ⟨l[k],List.getElem_mem hkl,by rw [hf]; simp⟩
    unfold Zx
    rw [this]; rfl
   have HB3:=za (z8 HW.out (z7 (Below.refl wr.heap.size wr) (.cells #[.int .u8 (l[k].kd:Int),.string l[k].nm,.string l[k].hs,.bool l[k].is_] 32)))
   unfold vq at HX HF
   clear hc hb A0
   generalize l[k].kd=kd at *
   generalize l[k].nm=nm at *
   generalize l[k].hs=hs at *
   generalize l[k].is_=is_ at *
   by_cases h1:nm.size≤50
   ·
    by_cases h2:hs.size≤50
    ·
     have HY:=za (HX.out (by simp [h1,h2]))
     have z1:¬ (nm.size:Int) > 50:=by omega
     have z2:¬ (hs.size:Int) > 50:=by omega
     have y1:¬ 50<nm.size:=by omega
     have y2:¬ 50<hs.size:=by omega
     have x1:decide ((nm.size:Int) > 50)=false:=decide_eq_false z1
     have x2:decide ((hs.size:Int) > 50)=false:=decide_eq_false z2
     clear HX HF
     go_wp2
     go_roundg (n - (k+1))
     case measure=>omega
     case rel=>exact ⟨k+1,by omega,by omega,by go_num,HB3,HY⟩
    ·
     have hr:r=false:=HF.out (by simp [h2])
     subst hr
     have z1:¬ (nm.size:Int) > 50:=by omega
     have z2:(hs.size:Int) > 50:=by omega
     have y1:¬ 50<nm.size:=by omega
     have y2:50<hs.size:=by omega
     have x1:decide ((nm.size:Int) > 50)=false:=decide_eq_false z1
     have x2:decide ((hs.size:Int) > 50)=true:=decide_eq_true z2
     clear HX HF
     go_wp2
     go_ret
     exact ⟨rfl,HB3.out⟩
   ·
    have hr:r=false:=HF.out (by simp [h1])
    subst hr
    have z1:(nm.size:Int) > 50:=by omega
    have y1:50<nm.size:=by omega
    have x1:decide ((nm.size:Int) > 50)=true:=decide_eq_true z1
    clear HX HF
    go_wp2
    go_ret
    exact ⟨rfl,HB3.out⟩
  ·
   have hltz:¬ (k:Int)<(n:Int):=by omega
   obtain rfl:k=n:=by omega
   have hr0:r=decide (k≤60):=by
    rw [HRR.out]
    have:l.all vq=true:=by
     rw [List.all_eq_true]
     intro x hx
     obtain ⟨j,hj,rfl⟩:=List.getElem_of_mem hx
     exact A0.out j hj (by have:=HL.out; omega)
    unfold Zx
    rw [this,← HL.out]; rfl
   have HZ:=za hr0
   clear A0 hr0
   by_cases h60:k≤60
   ·
    have z:(k:Int)≤60:=by omega
    go_wp2
    go_ret
    exact ⟨by rw [HZ.out,decide_eq_true h60]; rfl,HW.out⟩
   ·
    have z:¬ (k:Int)≤60:=by omega
    go_wp2
    go_ret
    exact ⟨by rw [HZ.out,decide_eq_false h60]; rfl,HW.out⟩


theorem few11L_len {l:List J7} (h:Zx l=true):l.length≤60:=by
 unfold Zx at h
 simp only [Bool.and_eq_true,decide_eq_true_eq] at h
 exact h.2
theorem few11L_size {l:List J7} (h:Zx l=true):∀ t∈l,t.nm.size≤50∧t.hs.size≤50:=by
 unfold Zx at h
 simp only [Bool.and_eq_true] at h
 intro t ht
 have:=List.all_eq_true.1 h.1 t ht
 unfold vq at this
 simpa using this
def Loop11 (w0:World) (D P M G Wb k:Nat) (wr:World):Prop :=
 ∃ A L S R A1 C1 A2 C2,zo w0 wr D P M G A L S∧zu A L S k∧yn wr Wb (.slice A1 (List.length R) C1) (.slice A2 (List.length (zb S)) C2)∧xV 0 R wr (.slice A1 (List.length R) C1)∧NmR wr (.slice A2 (List.length (zb S)) C2) (zb S)∧zc R=ze A L S
end Go.Proofs.YtmcomnocpibiiaaGreatDoor
namespace Go.Proofs.YtmcomnocpibiiaaGreatDoor
open Go.RowKit Go.Maps
set_option linter.unusedVariables false

theorem JF {w0 W w5:World} {D P M G Wb k:Nat} {A:zM} {L:zT} {S:zv} {R:zJ W11} {x1 x2:Value} {A1 A2:Option Addr} {C1 C2:Nat} (hx:yn W Wb x1 x2) (h0:w0.heap.size≤Wb) (hk:zr W w5) (ho:zo w0 w5 D P M G A L S) (hg:zu A L S k) (hr:xV 0 R w5 (.slice A1 R.length C1)) (hn:NmR w5 (.slice A2 (zb S).length C2) (zb S)) (hp:zc R=ze A L S) :
  Loop11 w0 D P M G Wb k ((w5.setCell ⟨Wb,0,none⟩ (.slice A1 R.length C1)).setCell ⟨Wb,1,none⟩ (.slice A2 (zb S).length C2)):=by
 have hx5:=hx.keeps11 hk
 have hkg:zQ w5 ((w5.setCell ⟨Wb,0,none⟩ (.slice A1 R.length C1)).setCell ⟨Wb,1,none⟩ (.slice A2 (zb S).length C2)):=(hx5.keep 0 _).trans ((hx5.set0 _).keep 1 _)
 exact ⟨A,L,S,R,A1,C1,A2,C2,(ho.cell11 hx5 h0 _).cell11 (hx5.set0 _) h0 _,hg,(hx5.set0 _).set1 _,hr.keepD11 hkg,hn.keepD11 hkg,hp⟩

end Go.Proofs.YtmcomnocpibiiaaGreatDoor
namespace Go.Proofs.YtmcomnocpibiiaaGreatDoor
open Go.RowKit Go.Maps

def uX (l:List Us):yH:=l.map fun u=>(u.nm.data.toList,⟨u.hs.data.toList,u.ml.data.toList,u.dis,ue u.gs⟩)
def vU (S:zv) (n:List UInt8) (T:List ByteArray):zv:=T.foldl (fun S g=>qr S g.data.toList n) S
def vH (r:Nat→Int):Nat→Nat→Int
 | _,0=>0
 | i,m+1=>if r i=0 then vH r (i+1) m else r i

theorem Ve (S:zv) (n:List UInt8) {T:List ByteArray} {i:Nat} (hi:i<T.length):vU S n (T.take (i+1))=qr (vU S n (T.take i)) T[i].data.toList n:=by
 unfold vU
 rw [List.take_succ_eq_append_getElem hi,List.foldl_append]
 rfl
theorem um:∀ {ss:List ByteArray},yu ss=true→ss.Pairwise fun a b=>bytesBefore a.data.toList b.data.toList=true
 | [],_=>List.Pairwise.nil
 | [_],_=>by simp
 | a::b::r,h=>by
  unfold yu at h
  rw [Bool.and_eq_true] at h
  have ih:=um (ss:=b::r) h.2
  have hab:bytesBefore a.data.toList b.data.toList=true:=by
   have:=h.1
   unfold xN at this
   rwa [qg] at this
  refine List.pairwise_cons.2 ⟨fun x hx=>?_,ih⟩
  rcases List.mem_cons.1 hx with rfl | hx
  ·
   exact hab
  ·
   exact WideShapes.bytes_trans _ _ _ hab ((List.pairwise_cons.1 ih).1 x hx)
theorem bl_rise11 {G:List ByteArray} (h:yu G=true):uf (ue G):=by
 have:=um h
 unfold uf ue
 rw [List.pairwise_map]
 exact this
theorem Vf {V:Type} {x:List UInt8×V}:∀ {A:zJ V},(∀ y∈A,bytesBefore y.1 x.1=true)→fN x A=A++[x]
 | [],_=>rfl
 | y::r,h=>by
  unfold fN
  rw [yw (h y (by simp)),Vf (fun z hz=>h z (by simp [hz]))]
  simp
theorem V4 {V:Type} {A:zJ V} {n:List UInt8} (a:V) (h:∀ y∈A,bytesBefore y.1 n=true):zO A n a=A++[(n,a)]:=by
 unfold zO
 rw [X5,Vf h]
 refine jk.2 fun hm=>?_
 obtain ⟨y,hy,e⟩:=List.mem_map.1 hm
 exact absurd e (vv (h y hy))

/-! ### groups are joined -/
structure J11 (S0 S:zv) (n:List UInt8) (T:List ByteArray) (k:Nat):Prop where
 names:zb S=zb S0
 good:zL S k
 mem:∀ x m,uA S x m=true↔uA S0 x m=true∨(m=n∧x∈ue T)
theorem FG {S0 S:zv} {n:List UInt8} {T:List ByteArray} {k i:Nat} (hi:i<T.length) (hJ:J11 S0 S n (T.take i) k) (hn:zf n=true) (h5:yx T=true) (hr:yu T=true) (hf:∀ x,uA S0 x n=false) :
  q7 S T[i].data.toList n=if ve (zb S0) T[i].data.toList then 0 else 8:=by
 have e1:zx S T[i].data.toList=ve (zb S0) T[i].data.toList:=by rw [Bool.eq_iff_iff,yL,xU,hJ.names]
 have e0:zf T[i].data.toList=true:=by
  unfold yx at h5
  rw [List.all_eq_true] at h5
  exact h5 _ (List.getElem_mem hi)
 have e2:uA S T[i].data.toList n=false:=by
  rw [Bool.eq_false_iff]
  intro h
  rcases (hJ.mem _ _).1 h with h | ⟨_,h⟩
  ·
   rw [hf] at h; cases h
  ·
   obtain ⟨g,hg,e⟩:=List.mem_map.1 h
   obtain ⟨j,hj,rfl⟩:=List.getElem_of_mem hg
   have hj':j<i:=by rw [List.length_take] at hj; omega
   rw [List.getElem_take] at e
   have:=List.pairwise_iff_getElem.1 (um hr) j i (by omega) hi hj'
   exact absurd e (vv this)
 unfold q7 yE
 rw [e1,e2,e0]
 have:([n]:List (List UInt8)).all zf=true:=by simp [hn]
 rw [this]
 cases ve (zb S0) T[i].data.toList <;> rfl
theorem U9 {S0:zv} {n:List UInt8} {T:List ByteArray} {k:Nat} (hg:zL S0 k) (hn:zf n=true) (h5:yx T=true) (hr:yu T=true) (hf:∀ x,uA S0 x n=false) :
  ∀ i,i≤T.length→(∀ g∈T.take i,ve (zb S0) g.data.toList=true)→J11 S0 (vU S0 n (T.take i)) n (T.take i) (k+i)
 | 0,_,_=>⟨rfl,hg,fun x m=>⟨.inl,fun h=>h.elim id (fun h=>absurd h.2 (by simp [ue]))⟩⟩
 | i+1,hi,hall=>by
  have hlt:i<T.length:=hi
  have e3:T.take (i+1)=T.take i++[T[i]]:=List.take_succ_eq_append_getElem hlt
  have ih:=U9 hg hn h5 hr hf i (Nat.le_of_succ_le hi) (fun g h=>hall g (by rw [e3]; exact List.mem_append_left _ h))
  have e:=FG hlt ih hn h5 hr hf
  rw [hall T[i] (by rw [e3]; exact List.mem_append_right _ (List.mem_singleton.2 rfl)),if_pos rfl] at e
  rw [Ve S0 n hlt]
  refine ⟨by rw [YK,ih.names],qW ih.good _ n,fun x m=>?_⟩
  rw [Uf ih.good e,ih.mem]
  have:x∈ue (T.take (i+1))↔x∈ue (T.take i)∨x=T[i].data.toList:=by
   rw [e3]
   unfold ue
   rw [List.map_append,List.mem_append,List.map_cons,List.map_nil,List.mem_singleton]
  rw [this]
  constructor
  ·
   rintro ((h | ⟨h1,h2⟩) | ⟨h1,h2⟩)
   ·
    exact .inl h
   ·
    exact .inr ⟨h1,.inl h2⟩
   ·
    exact .inr ⟨h2,.inr h1⟩
  ·
   rintro (h | ⟨h1,h2 | h2⟩)
   ·
    exact .inl (.inl h)
   ·
    exact .inl (.inr ⟨h1,h2⟩)
   ·
    exact .inr ⟨h2,h1⟩

/-! ### users,one by one -/
def Xm (A:zM) (L:zT) (S:zv) (pre:List Us) (G:List ByteArray) (k:Nat):Prop:=uy A L S (uX pre) (ue G) k∧L.length≤pre.length
theorem plU_names (l:List Us):zb (uX l)=ue (l.map (·.nm)):=by unfold zb uX ue; rw [List.map_map,List.map_map]; rfl
theorem Xm.below {A:zM} {L:zT} {S:zv} {pre:List Us} {G:List ByteArray} {k:Nat} (h:Xm A L S pre G k) {n:List UInt8} (hup:∀ v∈pre,bytesBefore v.nm.data.toList n=true):∀ y∈A,bytesBefore y.1 n=true:=by
 intro y hy
 have h1:y.1∈zb A:=List.mem_map.2 ⟨y,hy,rfl⟩
 rw [← fS A L S,h.1.2.1,plU_names] at h1
 unfold ue at h1
 rw [List.map_map] at h1
 obtain ⟨v,hv,e⟩:=List.mem_map.1 h1
 rw [← e]
 exact hup v hv
theorem Xm.len {A:zM} {L:zT} {S:zv} {pre:List Us} {G:List ByteArray} {k:Nat} (h:Xm A L S pre G k):A.length=pre.length:=by
 rw [← uF A L S,h.1.2.1]; exact List.length_map _
theorem Xm.free {A:zM} {L:zT} {S:zv} {pre:List Us} {G:List ByteArray} {k:Nat} (h:Xm A L S pre G k) {n:List UInt8} (hup:∀ v∈pre,bytesBefore v.nm.data.toList n=true):zx A n=false:=by
 refine jk.2 fun hm=>?_
 obtain ⟨y,hy,e⟩:=List.mem_map.1 hm
 exact absurd e (vv (h.below hup y hy))
theorem Xm.fresh {A:zM} {L:zT} {S:zv} {pre:List Us} {G:List ByteArray} {k:Nat} (h:Xm A L S pre G k) {n:List UInt8} (hup:∀ v∈pre,bytesBefore v.nm.data.toList n=true) (x:List UInt8):uA S x n=false:=by
 cases hh:uA S x n with
 | false=>rfl
 | true=>have:=h.1.1.mem x n hh; rw [h.free hup] at this; cases this
theorem mail_eq11 {m:ByteArray} (h:jL m=true):yA m.data.toList=m.data.toList∧xj m.data.toList=true:=by
 unfold jL at h
 rw [Bool.or_eq_true,Bool.and_eq_true,decide_eq_true_eq,decide_eq_true_eq] at h
 rcases h with h | ⟨h1,h2⟩
 ·
  have:m.data.toList=[]:=List.length_eq_zero_iff.1 (by rw [zw]; exact h)
  rw [this]
  exact ⟨rfl,by decide⟩
 ·
  refine ⟨?_,by unfold xj; rw [h1,Bool.or_true]⟩
  have h3:(uN m.data.toList).data.toList=zN m.data.toList:=by unfold uN; rw [if_pos h1]
  unfold yA
  rw [if_pos h1,← h3,h2]
theorem Y5 {A:zM} {L L':zT} {S S':zv} (h:∀ p∈A,xz L' p.1=xz L p.1∧yW S' p.1=yW S p.1) (x:List UInt8×(List UInt8×Bool)):ze (A++[x]) L' S'=ze A L S++[(x.1,xF L' S' x.1 x.2)]:=by
 unfold ze
 rw [List.map_append]
 congr 1
 refine List.map_congr_left fun p hp=>?_
 obtain ⟨h1,h2⟩:=h p hp
 unfold xF
 rw [h1,h2]

theorem step11 {A:zM} {L:zT} {S:zv} {pre:List Us} {G:List ByteArray} {k:Nat} (h:Xm A L S pre G k) (u:Us) (hc:vV 2 u=0) (hup:∀ v∈pre,bytesBefore v.nm.data.toList u.nm.data.toList=true) (h12:pre.length<12) (hall:u.gs.all (fun g=>ve (ue G) g.data.toList)=true) :
  qJ L u.nm.data.toList u.ml.data.toList=(if pre.any (fun v=>!(u.ml.data.toList == []) && (u.ml.data.toList == v.ml.data.toList)) then 9 else 0) ∧
  (qJ L u.nm.data.toList u.ml.data.toList=0→Xm (zO A u.nm.data.toList (u.hs.data.toList,u.dis)) (XV L u.nm.data.toList u.ml.data.toList) (vU S u.nm.data.toList u.gs) (pre++[u]) G (k+8)):=by
 obtain ⟨_,hn,hh⟩:=Xa hc
 obtain ⟨hfo,h6,hns,hri⟩:=Uv hc
 obtain ⟨hfm,him⟩:=mail_eq11 hfo
 have hbel:=h.below hup
 have hfree:=h.free hup
 have hfr:=h.fresh hup
 have hlen:=h.len
 obtain ⟨⟨hg,ht,hN⟩,hL⟩:=h
 obtain ⟨f1,f2,f3⟩:=hg.free hfree
 have hJ:=U9 hg.grp hn hns hri hfr u.gs.length (Nat.le_refl _) (fun g hg'=>by
  rw [List.take_length] at hg'
  rw [hN]
  exact List.all_eq_true.1 hall g hg')
 rw [List.take_length] at hJ
 generalize hS':vU S u.nm.data.toList u.gs=S' at *
 have hA1:=V4 (u.hs.data.toList,u.dis) hbel
 have hg1:=hg.put (a:=(u.hs.data.toList,u.dis)) hn hh (by rw [hA1]; simp; omega)
 generalize hAA:zO A u.nm.data.toList (u.hs.data.toList,u.dis)=A1 at *
 have hin:zx A1 u.nm.data.toList=true:=by rw [← hAA]; exact ua.2 (.inl rfl)
 have hg2:zu A1 L S' (k+7):=⟨hg1.rise,hg1.few,hg1.nm,hg1.mir,hg1.all,hg1.has,Nat.le_trans hg.lfew (by omega),hJ.good.mono (by omega),fun x m hm=>by
  rcases (hJ.mem x m).1 hm with hm | ⟨rfl,_⟩
  ·
   exact hg1.mem x m hm
  ·
   exact hin⟩
 have hof:yW S' u.nm.data.toList=ue u.gs:=vP (xC hJ.good.rise _) (bl_rise11 hri) fun x=>by
  rw [xp hJ.good.rise,hJ.mem,hfr]
  simp
 have hof2:∀ m,m≠u.nm.data.toList→yW S' m=yW S m:=fun m hm=>ofT hg.grp.rise hJ.good.rise fun x=>by
  rw [hJ.mem]
  exact ⟨fun h=>h.elim id (fun h=>absurd h.1 hm),.inl⟩
 have hne:∀ p∈A,p.1≠u.nm.data.toList:=fun p hp=>vv (hbel p hp)
 have hsm:=(sm11_eq (A:=A1) (L:=L) u.nm.data.toList u.ml.data.toList).1 ⟨hn,him,hin⟩
 have hone:=sm_one hg2 u.nm.data.toList u.ml.data.toList
 have htl:ze A1 L S'=uX pre++[(u.nm.data.toList,⟨u.hs.data.toList,[],u.dis,ue u.gs⟩)]:=by
  rw [hA1,Y5 (L:=L) (S:=S) (fun p hp=>⟨rfl,hof2 _ (hne p hp)⟩),ht]
  unfold xF
  rw [hof,f2]
 have hE:ql A1 L u.nm.data.toList u.ml.data.toList=(if pre.any (fun v=>!(u.ml.data.toList == []) && (u.ml.data.toList == v.ml.data.toList)) then 9 else 0):=by
  rw [← Je hg2]
  unfold dsmE
  rw [hn,him,vK,hin,hfm,htl]
  have:ZY (uX pre++[(u.nm.data.toList,⟨u.hs.data.toList,[],u.dis,ue u.gs⟩)]) u.nm.data.toList u.ml.data.toList=pre.any (fun v=>!(u.ml.data.toList == []) && (u.ml.data.toList == v.ml.data.toList)):=by
   unfold ZY uX
   rw [Bool.eq_iff_iff]
   simp only [List.any_append,List.any_map,List.any_cons,List.any_nil,Bool.or_false,Bool.or_eq_true,List.any_eq_true,Bool.and_eq_true,Bool.not_eq_true',beq_eq_false_iff_ne,beq_iff_eq,Function.comp]
   constructor
   ·
    rintro (⟨v,hv,⟨h1,h2⟩,h3⟩ | ⟨_,h3⟩)
    ·
     exact ⟨v,hv,h1,h2.symm⟩
    ·
     exact absurd rfl h3
   ·
    rintro ⟨v,hv,h1,h2⟩
    exact .inl ⟨v,hv,⟨h1,h2.symm⟩,vv (hup v hv)⟩
  rw [this]
  cases pre.any (fun v=>!(u.ml.data.toList == []) && (u.ml.data.toList == v.ml.data.toList)) <;> rfl
 rw [hsm.1] at hE
 refine ⟨hE,fun h0=>?_⟩
 rw [hsm.2] at hone
 obtain ⟨o1,_,o3⟩:=hone
 refine ⟨⟨o1,?_,?_⟩,?_⟩
 ·
  have hge:∀ x,xz (XV L u.nm.data.toList u.ml.data.toList) x=if x=u.nm.data.toList then u.ml.data.toList else xz L x:=by
   intro x
   unfold XV
   rw [if_pos h0]
   by_cases hm:u.ml.data.toList=[]
   ·
    rw [if_pos hm,fy,hm]
   ·
    rw [if_neg hm,ZX hg.lrise]
    have:zN u.ml.data.toList=u.ml.data.toList:=by
     have hm5:yP u.ml.data.toList=true:=by
      unfold xj at him
      rw [decide_eq_false hm,Bool.false_or] at him
      exact him
     unfold yA at hfm
     rw [if_pos hm5] at hfm
     exact hfm
    rw [this]
  rw [hA1,Y5 (L:=L) (S:=S) (fun p hp=>⟨by rw [hge,if_neg (hne p hp)],hof2 _ (hne p hp)⟩),ht]
  unfold xF
  rw [hof,hge,if_pos rfl]
  unfold uX
  rw [List.map_append]
  rfl
 ·
  rw [hJ.names,hN]
 ·
  have:(XV L u.nm.data.toList u.ml.data.toList).length≤L.length+1:=by
   unfold XV
   rw [if_pos h0]
   split
   ·
    exact Nat.le_succ_of_le (List.length_filter_le _ _)
   ·
    rw [jf hg.lrise]; split <;> omega
  rw [List.length_append]
  simp
  omega
theorem st_nil11 {S:zv} {G:List ByteArray} {k:Nat} (hg:zu [] [] S k) (hN:zb S=ue G):Xm [] [] S [] G k:=⟨⟨hg,rfl,hN⟩,Nat.le_refl _⟩
theorem JD {S:zv} {G:List ByteArray} {i:Nat} (hi:i<G.length) (h6:G.length≤6) (h5:yx G=true) (hr:yu G=true) (hg:zu [] [] S i) (hN:zb S=ue (G.take i)) :
  uC S G[i].data.toList=0∧zu [] [] (uZ S G[i].data.toList) (i+1)∧zb (uZ S G[i].data.toList)=ue (G.take (i+1)):=by
 have e0:zf G[i].data.toList=true:=by
  unfold yx at h5
  rw [List.all_eq_true] at h5
  exact h5 _ (List.getElem_mem hi)
 have hbel:∀ y∈S,bytesBefore y.1 G[i].data.toList=true:=fun y hy=>by
  have h1:y.1∈zb S:=List.mem_map.2 ⟨y,hy,rfl⟩
  rw [hN] at h1
  obtain ⟨g,hg,e⟩:=List.mem_map.1 h1
  obtain ⟨j,hj,rfl⟩:=List.getElem_of_mem hg
  have hj':j<i:=by rw [List.length_take] at hj; omega
  rw [List.getElem_take] at e
  rw [← e]
  exact List.pairwise_iff_getElem.1 (um hr) j i (by omega) hi hj'
 have hfree:zx S G[i].data.toList=false:=jk.2 fun hm=>by
  obtain ⟨y,hy,e⟩:=List.mem_map.1 hm
  exact absurd e (vv (hbel y hy))
 have hlen:S.length=i:=by
  have:(zb S).length=S.length:=List.length_map _
  rw [← this,hN]
  unfold ue
  rw [List.length_map,List.length_take]
  omega
 have e:uC S G[i].data.toList=0:=by
  unfold uC
  rw [e0,hfree,if_pos rfl,if_neg (by decide),if_neg (by omega)]
 refine ⟨e,(ma_one hg G[i].data.toList).1,?_⟩
 unfold uZ
 rw [if_pos e,V4 _ hbel,List.take_succ_eq_append_getElem hi]
 unfold zb ue at *
 rw [List.map_append,List.map_append,hN]
 rfl
theorem Fy (G:List ByteArray) (l:List Us):∀ (m i:Nat),i+m=l.length→vH (fun j=>if hj:j<l.length then xM G (l.take j) l[j] else 0) i m=x7 G (l.take i) (l.drop i)
 | 0,i,h=>by
  rw [List.drop_eq_nil_of_le (by omega)]
  rfl
 | m+1,i,h=>by
  have hi:i<l.length:=by omega
  rw [restD_step hi]
  unfold vH
  rw [dif_pos hi,Fy G l m (i+1) (by omega)]
end Go.Proofs.YtmcomnocpibiiaaGreatDoor
namespace Go.Proofs.YtmcomnocpibiiaaGreatDoor
open Go.RowKit Go.Maps Go.Sort Go.Shelf

theorem QH (r:Nat→Int) {k n:Nat} (h:k<n):vH r k (n - k)=if r k=0 then vH r (k+1) (n - (k+1)) else r k:=by
 obtain ⟨m,rfl⟩:∃ m,n=k+1+m:=⟨n - (k+1),by omega⟩
 rw [show k+1+m - k=m+1 by omega,show k+1+m - (k+1)=m by omega]
 rfl
set_option maxRecDepth 100000 in
theorem uO (g:Nat) (bd lb:Array Value) (A:Option Addr) (n c:Nat) (ss:List ByteArray) (w:World) (r:Nat→Int) (I:Nat→World→Prop) (J:World→Prop) (hl:n=ss.length) (hn:n≤9223372036854775807)
  (eg:∀ args w,(callFunc g args).run Tryz.prog w=.ok (.enter g args) w) (h0:I 0 w) (hr:∀ i W,I i W→RdS W A ss)
  (hs:∀ i (h:i<ss.length) W,I i W→Calls Tryz.prog g (bd++#[.string ss[i]]++lb) W fun e w'=>e=.returned (.int .i64 (r i))∧(r i=0→I (i+1) w')∧(r i≠0→J w')) :
  Calls Tryz.prog 86 #[.slice A n c,.func (.func g) bd lb] w fun e w'=>e=.returned (.int .i64 (vH r 0 n))∧(vH r 0 n=0→I n w')∧(vH r 0 n≠0→J w'):=by
 have HR:=za hr
 have HL:=za hl
 have HS:=za hs
 have H0:=za h0
 clear hr hl hs h0
 obtain ⟨x,hx⟩:∃ x,x=vH r 0 n:=⟨_,rfl⟩
 rw [← hx]
 have HX:Hid (x=vH r 0 (n - 0)):=hx
 clear hx
 go_enter Tryz.func86,Tryz.ntmps86
 go_wp2
 go_loopg [6,7,10] n (fun gg _ _ s10 wr=>∃ k:Nat,k≤n∧n - k≤gg∧s10=.int .i64 k∧Hid (I k wr)∧Hid (x=vH r k (n - k)))
 case atStart=>exact ⟨0,Nat.zero_le _,by omega,rfl,H0,HX⟩
 case round =>
  clear H0 HX
  obtain ⟨k,hk,hg,rfl,HW,HX⟩:=hrel
  by_cases hlt:k<n
  ·
   have hltz:(k:Int)<(n:Int):=by omega
   have hkl:k<ss.length:=HL.out ▸ hlt
   obtain ⟨b,off,rfl,hb,hc⟩:=(HR.out k wr HW.out) (by intro e; rw [e] at hkl; exact absurd hkl (Nat.not_lt_zero _))
   have hcell:=hc k hkl
   have HC:=za (HS.out k hkl wr HW.out)
   have hA:=HX.out
   rw [QH r hlt] at hA
   clear hc hb HX
   generalize ss[k]=s at *
   generalize r k=y at *
   by_cases hy:y=0
   ·
    rw [if_pos hy] at hA
    have HA:=za hA
    subst hy
    clear hA
    go_wp2_with (go_at_fn g; refine HC.out.mono ?_; rintro e w' ⟨rfl,h1,_⟩; have HW2:=za (h1 rfl); clear h1)
    go_roundg (n - (k+1))
    case measure=>omega
    case rel=>exact ⟨k+1,by omega,by omega,by go_num,HW2,HA⟩
   ·
    rw [if_neg hy] at hA
    subst hA
    have hx1:(x != 0)=true:=by simpa using hy
    have HY:=za hy
    clear hy
    go_wp2_with (go_at_fn g; refine HC.out.mono ?_; rintro e w' ⟨rfl,_,h2⟩; have HW2:=za (h2 HY.out); clear h2)
    go_ret
    exact ⟨rfl,fun h=>absurd h HY.out,fun _=>HW2.out⟩
  ·
   have hltz:¬ (k:Int)<(n:Int):=by omega
   obtain rfl:k=n:=by omega
   have hA:=HX.out
   rw [Nat.sub_self] at hA
   have hA0:x=0:=hA
   subst hA0
   clear hA HX
   go_wp2
   go_ret
   exact ⟨rfl,HW.out⟩
set_option maxRecDepth 100000 in
theorem jA (g:Nat) (bd lb:Array Value) (A:Option Addr) (n c:Nat) (l:List Us) (w:World) (r:Nat→Int) (I:Nat→World→Prop) (J:World→Prop) (hl:n=l.length) (hn:n≤9223372036854775807)
  (eg:∀ args w,(callFunc g args).run Tryz.prog w=.ok (.enter g args) w) (h0:I 0 w) (hr:∀ i W,I i W→Uy W A l)
  (ha:∀ i W,I i W→∀ b,I i (W.alloc b)) (hs:∀ i (h:i<l.length) W,I i W→Calls Tryz.prog g (bd++#[l[i].v]++lb) W fun e w'=>e=.returned (.int .i64 (r i))∧(r i=0→I (i+1) w')∧(r i≠0→J w')) :
  Calls Tryz.prog 81 #[.slice A n c,.func (.func g) bd lb] w fun e w'=>e=.returned (.int .i64 (vH r 0 n))∧(vH r 0 n=0→I n w')∧(vH r 0 n≠0→J w'):=by
 have HR:=za hr
 have HL:=za hl
 have HS:=za hs
 have H0:=za h0
 have HAL:=za ha
 clear hr hl hs h0 ha
 obtain ⟨x,hx⟩:∃ x,x=vH r 0 n:=⟨_,rfl⟩
 rw [← hx]
 have HX:Hid (x=vH r 0 (n - 0)):=hx
 clear hx
 go_enter Tryz.func81,Tryz.ntmps81
 go_wp2
 go_loopg [6,7,10] n (fun gg _ _ s10 wr=>∃ k:Nat,k≤n∧n - k≤gg∧s10=.int .i64 k∧Hid (I k wr)∧Hid (x=vH r k (n - k)))
 case atStart=>exact ⟨0,Nat.zero_le _,by omega,rfl,H0,HX⟩
 case round =>
  clear H0 HX
  obtain ⟨k,hk,hg,rfl,HW,HX⟩:=hrel
  by_cases hlt:k<n
  ·
   have hltz:(k:Int)<(n:Int):=by omega
   have hkl:k<l.length:=HL.out ▸ hlt
   obtain ⟨b,off,rfl,hb,hc⟩:=(HR.out k wr HW.out) (by intro e; rw [e] at hkl; exact absurd hkl (Nat.not_lt_zero _))
   have c0:wr.cell? ⟨b,off+k * 5,none⟩=some (.string l[k].nm):=hc k hkl 0 _ rfl
   have c1:wr.cell? ⟨b,off+k * 5+1,none⟩=some (.string l[k].hs):=hc k hkl 1 _ rfl
   have c2:wr.cell? ⟨b,off+k * 5+2,none⟩=some (.string l[k].ml):=hc k hkl 2 _ rfl
   have c3:wr.cell? ⟨b,off+k * 5+3,none⟩=some (.bool l[k].dis):=hc k hkl 3 _ rfl
   have c4:wr.cell? ⟨b,off+k * 5+4,none⟩=some (.slice l[k].ga l[k].gs.length l[k].gc):=hc k hkl 4 _ rfl
   have HC:Hid (Calls Tryz.prog g (bd++#[.agg #[.string l[k].nm,.string l[k].hs,.string l[k].ml,.bool l[k].dis,.slice l[k].ga l[k].gs.length l[k].gc]]++lb) (wr.alloc (.cells #[.string l[k].nm,.string l[k].hs,.string l[k].ml,.bool l[k].dis,.slice l[k].ga l[k].gs.length l[k].gc] 37)) fun e w'=>e=.returned (.int .i64 (r k))∧(r k=0→I (k+1) w')∧(r k≠0→J w')):=HS.out k hkl _ (HAL.out k wr HW.out _)
   have hA:=HX.out
   rw [QH r hlt] at hA
   clear hc hb HX
   generalize l[k].nm=nm at *
   generalize l[k].hs=hs at *
   generalize l[k].ml=ml at *
   generalize l[k].dis=dis at *
   generalize l[k].ga=ga at *
   generalize l[k].gs.length=gl at *
   generalize l[k].gc=gc at *
   generalize r k=y at *
   by_cases hy:y=0
   ·
    rw [if_pos hy] at hA
    have HA:=za hA
    subst hy
    clear hA
    go_wp2_with (go_at_fn g; refine HC.out.mono ?_; rintro e w' ⟨rfl,h1,_⟩; have HW2:=za (h1 rfl); clear h1)
    go_roundg (n - (k+1))
    case measure=>omega
    case rel=>exact ⟨k+1,by omega,by omega,by go_num,HW2,HA⟩
   ·
    rw [if_neg hy] at hA
    subst hA
    have hx1:(x != 0)=true:=by simpa using hy
    have HY:=za hy
    clear hy
    go_wp2_with (go_at_fn g; refine HC.out.mono ?_; rintro e w' ⟨rfl,_,h2⟩; have HW2:=za (h2 HY.out); clear h2)
    go_ret
    exact ⟨rfl,fun h=>absurd h HY.out,fun _=>HW2.out⟩
  ·
   have hltz:¬ (k:Int)<(n:Int):=by omega
   obtain rfl:k=n:=by omega
   have hA:=HX.out
   rw [Nat.sub_self] at hA
   have hA0:x=0:=hA
   subst hA0
   clear hA HX
   go_wp2
   go_ret
   exact ⟨rfl,HW.out⟩
set_option maxRecDepth 100000 in
theorem U4 (u:Us) (w:World) (h:u.Ok w) (hm:vX w):Calls Tryz.prog 82 #[.agg #[.string u.nm,.string u.hs,.string u.ml,.bool u.dis,.slice u.ga u.gs.length u.gc]] w (xt (vV 2 u) w):=by
 have hb1:=z7 (Below.refl w.heap.size w) (.cells #[.string u.nm,.string u.hs,.string u.ml,.bool u.dis,.slice u.ga u.gs.length u.gc] 37)
 have HC:Hid (Calls Tryz.prog 155 #[.int .i64 2,.agg #[.string u.nm,.string u.hs,.string u.ml,.bool u.dis,.slice u.ga u.gs.length u.gc]] (w.alloc (.cells #[.string u.nm,.string u.hs,.string u.ml,.bool u.dis,.slice u.ga u.gs.length u.gc] 37)) (xt (vV 2 u) (w.alloc (.cells #[.string u.nm,.string u.hs,.string u.ml,.bool u.dis,.slice u.ga u.gs.length u.gc] 37)))):=j9 2 u _ (h.below hb1) (hm.later hb1)
 have HB:=za hb1
 clear h hm hb1
 generalize vV 2 u=x at *
 obtain ⟨nm,hs,ml,dis,ga,gs,gc⟩:=u
 dsimp only at *
 generalize gs.length=gl at *
 go_enter Tryz.func82,Tryz.ntmps82
 go_wp2_with (go_at_call 155; (with_reducible refine HC.out.mono ?_); rintro e w2 ⟨rfl,hb⟩; have HB2:=za (z8 HB.out hb); clear hb)
 go_ret
 exact ⟨rfl,HB2.out⟩
end Go.Proofs.YtmcomnocpibiiaaGreatDoor
