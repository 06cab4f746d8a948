/-
  The texts that the laws of this seat share, part 11: what the code and the document's own answers tell, walked function by function.
  Conditions: each theorem's own.
-/
import Derived.Test.YthmomkjingcbiaaGreatDoorMigDBJ
set_option maxHeartbeats 16000000
namespace Go.Proofs.YthmomkjingcbiaaGreatDoor
open Go.RowKit Go.Maps
set_option linter.unusedSectionVars false
set_option linter.unusedVariables false

def xW (W:World) (b:Nat) (kd:Nat) (x y:ByteArray) (z:Bool):Prop:=W.heap[b]? = some (.cells #[.int .u8 (kd:Int),.string x,.string y,.bool z] 61 (0,0))
section
variable {W W':World} {b kd:Nat} {x y:ByteArray} {z:Bool}
theorem xW.c0 (h:xW W b kd x y z):W.cell? ⟨b,0,none⟩=some (.int .u8 (kd:Int)):=by unfold xW at h; simp [World.cell?,h]
theorem xW.c1 (h:xW W b kd x y z):W.cell? ⟨b,1,none⟩=some (.string x):=by unfold xW at h; simp [World.cell?,h]
theorem xW.c2 (h:xW W b kd x y z):W.cell? ⟨b,2,none⟩=some (.string y):=by unfold xW at h; simp [World.cell?,h]
theorem xW.c3 (h:xW W b kd x y z):W.cell? ⟨b,3,none⟩=some (.bool z):=by unfold xW at h; simp [World.cell?,h]
theorem xW.q11 (h:xW W b kd x y z):W.cell? ⟨b,0,none⟩=some (.int .u8 (kd:Int))∧W.cell? ⟨b,1,none⟩=some (.string x)∧W.cell? ⟨b,2,none⟩=some (.string y)∧W.cell? ⟨b,3,none⟩=some (.bool z):=⟨h.c0,h.c1,h.c2,h.c3⟩
theorem xW.lt (h:xW W b kd x y z):b<W.heap.size:=(Array.getElem?_eq_some_iff.1 h).1
theorem xW.later (h:xW W b kd x y z) (hb:Below W.heap.size W W'):xW W' b kd x y z:=(hb.block b h.lt).trans h
theorem xW.other (h:xW W b kd x y z) {c i:Nat} (hne:b≠c) (v:Value):xW (W.setCell ⟨c,i,none⟩ v) b kd x y z:=(Below.heap_setCell _ _ _ _ hne).trans h
theorem act11_new (W:World) (kd:Nat) (x y:ByteArray) (z:Bool):xW (W.alloc (.cells #[.int .u8 (kd:Int),.string x,.string y,.bool z] 61)) W.heap.size kd x y z:=(MapKept.heap_alloc W _).1
end
theorem yv.keeps11 {W W':World} {b:Nat} {v1 v2:Value} (h:yv W b v1 v2) (hk:zu W W'):yv W' b v1 v2:=hk _ _ _ _ h (by decide) (by decide) (by decide)
theorem NmR.keeps11 {W W':World} {v:Value} {N:List (List UInt8)} (h:NmR W v N) (hk:zu W W'):NmR W' v N:=vr h hk (by decide) (by decide) (by decide)
theorem zu.cellN11 {w W:World} {c i:Nat} (h:zu w W) (hc:w.heap.size≤c) (x:Value):zu w (W.setCell ⟨c,i,none⟩ x):=fun j cs T fr hj h1 h2 h3=>by
 have hlt:=(Array.getElem?_eq_some_iff.1 hj).1
 exact (Below.heap_setCell _ _ _ _ (show j≠c by omega)).trans (h j cs T fr hj h1 h2 h3)
section
variable [Fr11] {w0 W:World} {D P M G:Nat} {A:zJ} {L:zB} {S:zw} {k:Nat}
theorem zo.cell11 (h:zo w0 W D P M G A L S) {c i:Nat} {v1 v2:Value} (hc:yv W c v1 v2) (h0:w0.heap.size≤c) (x:Value):zo w0 (W.setCell ⟨c,i,none⟩ x) D P M G A L S:=by
 obtain ⟨p,q,LM,pg,T,hd,hS,h2,h3⟩:=h
 have ht:zm (fun j=>j=c) W (W.setCell ⟨c,i,none⟩ x):=(zm.refl (fun j=>j=c) W).setCell (p:=⟨c,i,none⟩) (fun _=>rfl) x
 refine ⟨p,q,LM,pg,T,⟨(ht.block D hd.lt (jR hd.blk hc (by decide))).trans hd.blk,hd.acc.kept (ht.block P hd.acc.lt (Yz hd.acc hc)),hd.idx.turnsF ht (fun j hj e=>?_),hd.grp.turnsF ht (fun j hj e=>?_),hd.sep1,hd.sep2,hd.sep3⟩,hS,h2,h3.turn ht (fun j e=>by subst e; exact ⟨h0,h3.2.not hc (by decide) (by decide) (by decide)⟩)⟩
 ·
  subst e; exact Z2 hd.idx hc (by decide) hj
 ·
  subst e; exact Z3 hd.grp hc (by decide) hj
theorem de_one11 (hg:zt A L S k) (n:List UInt8):uM (FG A n) (FF A L n) (FE A S n) (JD (zc A L S) n) (zb S) (k+1):=by
 unfold FG FF FE
 by_cases e:Z5 A n=0
 ·
  rw [if_pos e,if_pos e,if_pos e]; exact de_one hg n e
 ·
  rw [if_neg e,if_neg e,if_neg e]
  unfold JD
  rw [FD,if_neg e]
  exact ⟨hg.mono (Nat.le_succ _),rfl,rfl⟩
def dedT12 (j:Nat) (a b:List UInt8) (z:Bool) (T:yA) (N:List (List UInt8)):yA :=
 match j with
 | 0=>dcrL T a b
 | 1=>JD T a
 | 2=>dshL T a b
 | 3=>dsmL T a b
 | 4=>ddiL T a z
 | 5=>drnL T a b
 | 7=>fi T N a
 | 8=>qE T N a b
 | 9=>qD T N a b
 | _=>T
def dedN12 (j:Nat) (a:List UInt8) (N:List (List UInt8)):List (List UInt8) :=
 match j with
 | 6=>jB N a
 | 7=>jE N a
 | _=>N
def ZL (kd:Nat) (a b:List UInt8) (z:Bool) (T:yA) (N:List (List UInt8)) (T':yA) (N':List (List UInt8)):Prop:=T'=dedT12 (kd % 11) a b z T N∧N'=dedN12 (kd % 11) a N
theorem vy {kd j:Nat} {a b:List UInt8} {z:Bool} {T T':yA} {N N':List (List UInt8)} (h:kd % 11=j) (h1:T'=dedT12 j a b z T N) (h2:N'=dedN12 j a N):ZL kd a b z T N T' N':=by subst h; exact ⟨h1,h2⟩
def uN [Fr11] (w0:World) (D P M G k:Nat) (W:World) (T0:yA) (kd:Nat) (a b:List UInt8) (z:Bool) (N0:List (List UInt8)) (e:Ending) (w':World):Prop :=
 ∃ A L S R v vg,e=.returned (.tuple #[.agg #[v,vg],.bool true])∧zo w0 w' D P M G A L S∧zt A L S (k+1)∧vQ 0 R w' v∧NmR w' vg (zb S)∧ze R=zc A L S∧zu W w'∧yE kd a b T0 (zc A L S)∧ZL kd a b z T0 N0 (zc A L S) (zb S)
theorem yJ {R:zL W11} (hg:zt A L S k) (hp:ze R=zc A L S):R.length≤12∧zA R∧(zb S).length≤900∧∀ p∈R,p.2.gs.length≤12:=by
 have hf:=hg.grp.few
 refine ⟨?_,Fd.1 (by rw [hp]; exact zK hg.rise),by rw [yK]; omega,fun p hpp=>?_⟩
 ·
  rw [← jJ,hp,um]; exact hg.few
 ·
  have h1:(p.1,p.2.u)∈ze R:=List.mem_map.2 ⟨p,hpp,rfl⟩
  rw [hp] at h1
  obtain ⟨q,_,e⟩:=List.mem_map.1 h1
  injection e with _ e
  have:p.2.gs=yV S q.1:=by
   have:=congrArg U11.gs e
   exact this.symm
  rw [this]
  have:=X6 S q.1
  omega

set_option maxRecDepth 100000 in
theorem do11_0 (R:zL W11) (v vg:Value) (kd:Nat) (a b:ByteArray) (z:Bool) (w:World) (ho:zo w0 w D P M G A L S) (hg:zt A L S k) (hk:k≤90) (h5:vR w0) (hR:vQ 0 R w v) (hN:NmR w vg (zb S)) (hp:ze R=zc A L S) (ha:a.size≤50) (hb5:b.size≤50) (hkd:kd % 11=0) :
  Calls Tryz.prog 24 #[.pointer (some ⟨D,0,none⟩),.agg #[v,vg],.agg #[.int .u8 (kd:Int),.string a,.string b,.bool z]] w (uN w0 D P M G k w (zc A L S) kd a.data.toList b.data.toList z (zb S)):=by
 obtain ⟨f1,f2,f3,f4⟩:=yJ hg hp
 have HRF:Hid (∀ W',Below w.heap.size w W'→Calls Tryz.prog 65 #[.agg #[v,vg],.string a,.string b] W' (yx (Yh A a.data.toList b.data.toList) (dcrL (zc A L S) a.data.toList b.data.toList) (zb S) W')):=fun W' hb=>by
  have hR:=hR.later hb
  have hN:=hN.later hb
  have h:=Yb _ _ R _ a b W' hR hN f1 f2 (by omega) (by omega)
  rw [hp] at h
  have e:=(show _=Yh A a.data.toList b.data.toList from cr_same (A:=A) (L:=L) (S:=S) _ _)
  rwa [e] at h
 have HDO:Hid (∀ W',zo w0 W' D P M G A L S→Calls Tryz.prog 42 #[.pointer (some ⟨D,0,none⟩),.string a,.string b] W' fun e w'=>e=.returned (.int .i64 (Yh A a.data.toList b.data.toList))∧zE w0 W' D P M G (FK A a.data.toList b.data.toList) (L) (S) w'):=fun W' ho=>fj a b ho hg (by omega) (by omega)
 have HONE:Hid (uM (FK A a.data.toList b.data.toList) (L) (S) (dcrL (zc A L S) a.data.toList b.data.toList) (zb S) (k+1)):=cr_one hg _ _
 have HRT:Hid (zA (zc A L S)):=zK hg.rise
 have HOTH:Hid (yE kd a.data.toList b.data.toList (zc A L S) (dcrL (zc A L S) a.data.toList b.data.toList)∧ZL kd a.data.toList b.data.toList z (zc A L S) (zb S) (dcrL (zc A L S) a.data.toList b.data.toList) (zb S)):=⟨oth_cr HRT.out hkd,vy hkd rfl rfl⟩
 have hrem:(kd:Int).tmod 11=0:=by
  have:(kd:Int).tmod 11=((kd % 11:Nat):Int):=rfl
  rw [this,hkd]; rfl
 have hzd:∀ w:World,(zeroValue zn).run Tryz.prog w=.ok (.agg #[.slice none 0 0,.slice none 0 0]) w:=fun w=>by kernel_rfl
 have HO:=za ho
 have HW0:Hid (w0.heap.size≤w.heap.size):=ho.below.size
 obtain ⟨A0,c,rfl⟩:=hR.rw.us.shape
 obtain ⟨A1,c1,rfl⟩:=hN.shape
 clear ho hg hR hN hp h5 f1 f2 f3 f4 hkd
 generalize R.length=n at *
 generalize (zb S).length=n1 at *
 generalize Yh A a.data.toList b.data.toList=E at HRF HDO HONE HOTH
 generalize FK A a.data.toList b.data.toList=A' at HRF HDO HONE HOTH
 generalize dcrL (zc A L S) a.data.toList b.data.toList=l' at HRF HDO HONE HOTH
 generalize hnx:zb S=nx at HRF HONE HOTH
 have Hd1:=za (zr w (.slice A0 n c) (.slice A1 n1 c1))
 have HLO2:Hid (w.heap.size≤w.heap.size):=by show _≤_; omega
 have HB3:Hid (Below w.heap.size w (w.alloc (.cells #[.slice A0 n c,.slice A1 n1 c1] zn))):=z7 (Below.refl _ _) _
 have Hd4:=za (Hd1.out.later (z7 (Below.refl _ _) (.cells #[.int .u8 (kd:Int),.string a,.string b,.bool z] 61)))
 have Ha5:Hid (xW ((w.alloc (.cells #[.slice A0 n c,.slice A1 n1 c1] zn)).alloc (.cells #[.int .u8 (kd:Int),.string a,.string b,.bool z] 61)) (w.heap.size+1) (kd) (a) (b) (z)):=zi (by simp)
 have HLO6:Hid (w.heap.size≤w.heap.size+1):=by show _≤_; omega
 have HB7:=za (z8 HB3.out (z7 (Below.refl _ _) (.cells #[.int .u8 (kd:Int),.string a,.string b,.bool z] 61)))
 have Hd8:=za (Hd4.out.later (z7 (Below.refl _ _) (.cells #[.slice none 0 0,.slice none 0 0] zn)))
 have Ha9:=za (Ha5.out.later (z7 (Below.refl _ _) (.cells #[.slice none 0 0,.slice none 0 0] zn)))
 have Hr10:Hid (yv (((w.alloc (.cells #[.slice A0 n c,.slice A1 n1 c1] zn)).alloc (.cells #[.int .u8 (kd:Int),.string a,.string b,.bool z] 61)).alloc (.cells #[.slice none 0 0,.slice none 0 0] zn)) (w.heap.size+2) (.slice none 0 0) (.slice none 0 0)):=zi (by simp)
 have HLO11:Hid (w.heap.size≤w.heap.size+2):=by show _≤_; omega
 have HB12:=za (z8 HB7.out (z7 (Below.refl _ _) (.cells #[.slice none 0 0,.slice none 0 0] zn)))
 go_enter Tryz.func24,Tryz.ntmps24
 have ⟨kx14,ky15,kp16,kq17⟩:=Hd8.out.q11
 have ⟨kx19,ky20,kz21,kw22⟩:=Ha9.out.q11
 have ⟨kx24,ky25,kp26,kq27⟩:=Hr10.out.q11
 go_wp2_with fail
 generalize ((w.alloc (.cells #[.slice A0 n c,.slice A1 n1 c1] zn)).alloc (.cells #[.int .u8 (kd:Int),.string a,.string b,.bool z] 61)).alloc (.cells #[.slice none 0 0,.slice none 0 0] zn)=wg28 at *
 with_reducible refine (HRF.out wg28 HB12.out).mono ?_
 rintro e w2 ⟨R2,u1,u2,rfl,hrc,hpl,hnm,hb⟩
 clear kx14 ky15 kp16 kq17 kx19 ky20 kz21 kw22 kx24 ky25 kp26 kq27
 have Hd29:=za (Hd8.out.later hb)
 have Ha30:=za (Ha9.out.later hb)
 have Hr31:=za (Hr10.out.later hb)
 have HB32:=za (z8 HB12.out hb)
 obtain ⟨A2,c2,rfl⟩:=hrc.rw.us.shape
 obtain ⟨A3,c3,rfl⟩:=hnm.shape
 have HRC:=za hrc
 have HPL:=za hpl
 have HNM:=za hnm
 clear hrc hpl hnm HRF
 obtain ⟨n2,hn2⟩:∃ m,m=R2.length:=⟨_,rfl⟩
 obtain ⟨n3,hn3⟩:∃ m,m=List.length nx:=⟨_,rfl⟩
 rw [← hn2] at HRC ⊢
 rw [← hn3] at HNM ⊢
 clear hn2 hn3
 clear hb
 have ⟨kx34,ky35,kp36,kq37⟩:=Hd29.out.q11
 have ⟨kx39,ky40,kz41,kw42⟩:=Ha30.out.q11
 have ⟨kx44,ky45,kp46,kq47⟩:=Hr31.out.q11
 have Hd48:=za (Hd29.out.set0 (.slice A2 n2 c2))
 have Ha49:=za (Ha30.out.other (c:=w.heap.size) (i:=0) (by omega) (.slice A2 n2 c2))
 have Hr50:=za (Hr31.out.other (c:=w.heap.size) (i:=0) (by omega) (.slice A2 n2 c2))
 have HB51:=za (HB32.out.setCell (p:=⟨w.heap.size,0,none⟩) HLO2.out (.slice A2 n2 c2))
 have ⟨kx53,ky54,kp55,kq56⟩:=Hd48.out.q11
 have ⟨kx58,ky59,kz60,kw61⟩:=Ha49.out.q11
 have ⟨kx63,ky64,kp65,kq66⟩:=Hr50.out.q11
 have Hd67:=za (Hd48.out.set1 (.slice A3 n3 c3))
 have Ha68:=za (Ha49.out.other (c:=w.heap.size) (i:=1) (by omega) (.slice A3 n3 c3))
 have Hr69:=za (Hr50.out.other (c:=w.heap.size) (i:=1) (by omega) (.slice A3 n3 c3))
 have HB70:=za (HB51.out.setCell (p:=⟨w.heap.size,1,none⟩) HLO2.out (.slice A3 n3 c3))
 have HKD:Hid (zR w2 ((w2.setCell ⟨w.heap.size,0,none⟩ (.slice A2 n2 c2)).setCell ⟨w.heap.size,1,none⟩ (.slice A3 n3 c3))):=(Hd29.out.keep 0 _).trans (Hd48.out.keep 1 _)
 have ⟨kx72,ky73,kp74,kq75⟩:=Hd67.out.q11
 have ⟨kx77,ky78,kz79,kw80⟩:=Ha68.out.q11
 have ⟨kx82,ky83,kp84,kq85⟩:=Hr69.out.q11
 go_wp2_with fail
 generalize (w2.setCell ⟨w.heap.size,0,none⟩ (.slice A2 n2 c2)).setCell ⟨w.heap.size,1,none⟩ (.slice A3 n3 c3)=wg86 at *
 with_reducible refine (HDO.out wg86 (HO.out.later HB70.out)).mono ?_
 rintro e w5 ⟨rfl,hgo⟩
 clear kx34 ky35 kp36 kq37 kx39 ky40 kz41 kw42 kx44 ky45 kp46 kq47 kx53 ky54 kp55 kq56 kx58 ky59 kz60 kw61 kx63 ky64 kp65 kq66 kx72 ky73 kp74 kq75 kx77 ky78 kz79 kw80 kx82 ky83 kp84 kq85
 have Hd87:Hid (yv (w5) (w.heap.size) (.slice A2 n2 c2) (.slice A3 n3 c3)):=Hd67.out.keeps11 hgo.2
 have Hr88:Hid (yv (w5) (w.heap.size+2) (.slice none 0 0) (.slice none 0 0)):=Hr69.out.keeps11 hgo.2
 have HRC5:Hid (vQ 0 R2 w5 (.slice A2 n2 c2)):=(HRC.out.keepD11 HKD.out).keeps hgo.2
 have HNM5:Hid (NmR w5 (.slice A3 n3 c3) nx):=(HNM.out.keepD11 HKD.out).keeps11 hgo.2
 have HK5:Hid (zu w w5):=(zu.of_below HB70.out).trans hgo.2
 have HO5:=za hgo.1
 clear hgo HDO HO HRC HNM HKD
 have ⟨kx90,ky91,kp92,kq93⟩:=Hd87.out.q11
 have ⟨kx95,ky96,kp97,kq98⟩:=Hr88.out.q11
 have HRES:Hid (yv ((w5.setCell ⟨w.heap.size+2,0,none⟩ (.slice A2 n2 c2)).setCell ⟨w.heap.size+2,1,none⟩ (.slice A3 n3 c3)) (w.heap.size+2) (.slice A2 n2 c2) (.slice A3 n3 c3)):=(Hr88.out.set0 _).set1 _
 have HKF:Hid (zR w5 ((w5.setCell ⟨w.heap.size+2,0,none⟩ (.slice A2 n2 c2)).setCell ⟨w.heap.size+2,1,none⟩ (.slice A3 n3 c3))):=(Hr88.out.keep 0 _).trans ((Hr88.out.set0 _).keep 1 _)
 have HOF:Hid (zo w0 ((w5.setCell ⟨w.heap.size+2,0,none⟩ (.slice A2 n2 c2)).setCell ⟨w.heap.size+2,1,none⟩ (.slice A3 n3 c3)) D P M G A' L S):=(HO5.out.cell11 Hr88.out (Nat.le_trans HW0.out (by omega)) _).cell11 (Hr88.out.set0 _) (Nat.le_trans HW0.out (by omega)) _
 have HKP:Hid (zu w ((w5.setCell ⟨w.heap.size+2,0,none⟩ (.slice A2 n2 c2)).setCell ⟨w.heap.size+2,1,none⟩ (.slice A3 n3 c3))):=(HK5.out.cellN11 (by omega) _).cellN11 (by omega) _
 have HPOST:Hid (uN w0 D P M G k w (zc A L S) kd a.data.toList b.data.toList z nx (.returned (.tuple #[.agg #[.slice A2 n2 c2,.slice A3 n3 c3],.bool true])) ((w5.setCell ⟨w.heap.size+2,0,none⟩ (.slice A2 n2 c2)).setCell ⟨w.heap.size+2,1,none⟩ (.slice A3 n3 c3))):=⟨_,_,_,R2,_,_,rfl,HOF.out,HONE.out.1,HRC5.out.keepD11 HKF.out,by rw [HONE.out.2.2]; exact HNM5.out.keepD11 HKF.out,by rw [HPL.out,HONE.out.2.1],HKP.out,by rw [HONE.out.2.1]; exact HOTH.out.1,by rw [HONE.out.2.1,HONE.out.2.2]; exact HOTH.out.2⟩
 have z0:=HRES.out.c0
 have z1:=HRES.out.c1
 go_wp2
 refine bodyPost_ret (v:=.tuple #[.agg #[.slice A2 n2 c2,.slice A3 n3 c3],.bool true]) ?_ rfl HPOST.out
 simp [results,Tryz.results24,go_sem,z0,z1]

set_option maxRecDepth 100000 in
theorem do11_1 (R:zL W11) (v vg:Value) (kd:Nat) (a b:ByteArray) (z:Bool) (w:World) (ho:zo w0 w D P M G A L S) (hg:zt A L S k) (hk:k≤90) (h5:vR w0) (hR:vQ 0 R w v) (hN:NmR w vg (zb S)) (hp:ze R=zc A L S) (ha:a.size≤50) (hb5:b.size≤50) (hkd:kd % 11=1) :
  Calls Tryz.prog 24 #[.pointer (some ⟨D,0,none⟩),.agg #[v,vg],.agg #[.int .u8 (kd:Int),.string a,.string b,.bool z]] w (uN w0 D P M G k w (zc A L S) kd a.data.toList b.data.toList z (zb S)):=by
 obtain ⟨f1,f2,f3,f4⟩:=yJ hg hp
 have HRF:Hid (∀ W',Below w.heap.size w W'→Calls Tryz.prog 66 #[.agg #[v,vg],.string a] W' (yx (Z5 A a.data.toList) (JD (zc A L S) a.data.toList) (zb S) W')):=fun W' hb=>by
  have hR:=hR.later hb
  have hN:=hN.later hb
  have h:=Ya _ _ R _ a W' hR hN f1 (by omega)
  rw [hp] at h
  have e:=(show _=Z5 A a.data.toList from FD (A:=A) (L:=L) (S:=S) _)
  rwa [e] at h
 have HDO:Hid (∀ W',zo w0 W' D P M G A L S→Calls Tryz.prog 43 #[.pointer (some ⟨D,0,none⟩),.string a] W' fun e w'=>e=.returned (.int .i64 (Z5 A a.data.toList))∧zE w0 W' D P M G (FG A a.data.toList) (FF A L a.data.toList) (FE A S a.data.toList) w'):=fun W' ho=>fh a ho hg (by omega)
 have HONE:Hid (uM (FG A a.data.toList) (FF A L a.data.toList) (FE A S a.data.toList) (JD (zc A L S) a.data.toList) (zb S) (k+1)):=de_one11 hg _
 have HRT:Hid (zA (zc A L S)):=zK hg.rise
 have HOTH:Hid (yE kd a.data.toList b.data.toList (zc A L S) (JD (zc A L S) a.data.toList)∧ZL kd a.data.toList b.data.toList z (zc A L S) (zb S) (JD (zc A L S) a.data.toList) (zb S)):=⟨oth_de HRT.out hkd,vy hkd rfl rfl⟩
 have hrem:(kd:Int).tmod 11=1:=by
  have:(kd:Int).tmod 11=((kd % 11:Nat):Int):=rfl
  rw [this,hkd]; rfl
 have hzd:∀ w:World,(zeroValue zn).run Tryz.prog w=.ok (.agg #[.slice none 0 0,.slice none 0 0]) w:=fun w=>by kernel_rfl
 have HO:=za ho
 have HW0:Hid (w0.heap.size≤w.heap.size):=ho.below.size
 obtain ⟨A0,c,rfl⟩:=hR.rw.us.shape
 obtain ⟨A1,c1,rfl⟩:=hN.shape
 clear ho hg hR hN hp h5 f1 f2 f3 f4 hkd
 generalize R.length=n at *
 generalize (zb S).length=n1 at *
 generalize Z5 A a.data.toList=E at HRF HDO HONE HOTH
 generalize FG A a.data.toList=A' at HRF HDO HONE HOTH
 generalize FF A L a.data.toList=L' at HRF HDO HONE HOTH
 generalize FE A S a.data.toList=S' at HRF HDO HONE HOTH
 generalize JD (zc A L S) a.data.toList=l' at HRF HDO HONE HOTH
 generalize hnx:zb S=nx at HRF HONE HOTH
 have Hd1:=za (zr w (.slice A0 n c) (.slice A1 n1 c1))
 have HLO2:Hid (w.heap.size≤w.heap.size):=by show _≤_; omega
 have HB3:Hid (Below w.heap.size w (w.alloc (.cells #[.slice A0 n c,.slice A1 n1 c1] zn))):=z7 (Below.refl _ _) _
 have Hd4:=za (Hd1.out.later (z7 (Below.refl _ _) (.cells #[.int .u8 (kd:Int),.string a,.string b,.bool z] 61)))
 have Ha5:Hid (xW ((w.alloc (.cells #[.slice A0 n c,.slice A1 n1 c1] zn)).alloc (.cells #[.int .u8 (kd:Int),.string a,.string b,.bool z] 61)) (w.heap.size+1) (kd) (a) (b) (z)):=zi (by simp)
 have HLO6:Hid (w.heap.size≤w.heap.size+1):=by show _≤_; omega
 have HB7:=za (z8 HB3.out (z7 (Below.refl _ _) (.cells #[.int .u8 (kd:Int),.string a,.string b,.bool z] 61)))
 have Hd8:=za (Hd4.out.later (z7 (Below.refl _ _) (.cells #[.slice none 0 0,.slice none 0 0] zn)))
 have Ha9:=za (Ha5.out.later (z7 (Below.refl _ _) (.cells #[.slice none 0 0,.slice none 0 0] zn)))
 have Hr10:Hid (yv (((w.alloc (.cells #[.slice A0 n c,.slice A1 n1 c1] zn)).alloc (.cells #[.int .u8 (kd:Int),.string a,.string b,.bool z] 61)).alloc (.cells #[.slice none 0 0,.slice none 0 0] zn)) (w.heap.size+2) (.slice none 0 0) (.slice none 0 0)):=zi (by simp)
 have HLO11:Hid (w.heap.size≤w.heap.size+2):=by show _≤_; omega
 have HB12:=za (z8 HB7.out (z7 (Below.refl _ _) (.cells #[.slice none 0 0,.slice none 0 0] zn)))
 go_enter Tryz.func24,Tryz.ntmps24
 have ⟨kx14,ky15,kp16,kq17⟩:=Hd8.out.q11
 have ⟨kx19,ky20,kz21,kw22⟩:=Ha9.out.q11
 have ⟨kx24,ky25,kp26,kq27⟩:=Hr10.out.q11
 go_wp2_with fail
 generalize ((w.alloc (.cells #[.slice A0 n c,.slice A1 n1 c1] zn)).alloc (.cells #[.int .u8 (kd:Int),.string a,.string b,.bool z] 61)).alloc (.cells #[.slice none 0 0,.slice none 0 0] zn)=wg28 at *
 with_reducible refine (HRF.out wg28 HB12.out).mono ?_
 rintro e w2 ⟨R2,u1,u2,rfl,hrc,hpl,hnm,hb⟩
 clear kx14 ky15 kp16 kq17 kx19 ky20 kz21 kw22 kx24 ky25 kp26 kq27
 have Hd29:=za (Hd8.out.later hb)
 have Ha30:=za (Ha9.out.later hb)
 have Hr31:=za (Hr10.out.later hb)
 have HB32:=za (z8 HB12.out hb)
 obtain ⟨A2,c2,rfl⟩:=hrc.rw.us.shape
 obtain ⟨A3,c3,rfl⟩:=hnm.shape
 have HRC:=za hrc
 have HPL:=za hpl
 have HNM:=za hnm
 clear hrc hpl hnm HRF
 obtain ⟨n2,hn2⟩:∃ m,m=R2.length:=⟨_,rfl⟩
 obtain ⟨n3,hn3⟩:∃ m,m=List.length nx:=⟨_,rfl⟩
 rw [← hn2] at HRC ⊢
 rw [← hn3] at HNM ⊢
 clear hn2 hn3
 clear hb
 have ⟨kx34,ky35,kp36,kq37⟩:=Hd29.out.q11
 have ⟨kx39,ky40,kz41,kw42⟩:=Ha30.out.q11
 have ⟨kx44,ky45,kp46,kq47⟩:=Hr31.out.q11
 have Hd48:=za (Hd29.out.set0 (.slice A2 n2 c2))
 have Ha49:=za (Ha30.out.other (c:=w.heap.size) (i:=0) (by omega) (.slice A2 n2 c2))
 have Hr50:=za (Hr31.out.other (c:=w.heap.size) (i:=0) (by omega) (.slice A2 n2 c2))
 have HB51:=za (HB32.out.setCell (p:=⟨w.heap.size,0,none⟩) HLO2.out (.slice A2 n2 c2))
 have ⟨kx53,ky54,kp55,kq56⟩:=Hd48.out.q11
 have ⟨kx58,ky59,kz60,kw61⟩:=Ha49.out.q11
 have ⟨kx63,ky64,kp65,kq66⟩:=Hr50.out.q11
 have Hd67:=za (Hd48.out.set1 (.slice A3 n3 c3))
 have Ha68:=za (Ha49.out.other (c:=w.heap.size) (i:=1) (by omega) (.slice A3 n3 c3))
 have Hr69:=za (Hr50.out.other (c:=w.heap.size) (i:=1) (by omega) (.slice A3 n3 c3))
 have HB70:=za (HB51.out.setCell (p:=⟨w.heap.size,1,none⟩) HLO2.out (.slice A3 n3 c3))
 have HKD:Hid (zR w2 ((w2.setCell ⟨w.heap.size,0,none⟩ (.slice A2 n2 c2)).setCell ⟨w.heap.size,1,none⟩ (.slice A3 n3 c3))):=(Hd29.out.keep 0 _).trans (Hd48.out.keep 1 _)
 have ⟨kx72,ky73,kp74,kq75⟩:=Hd67.out.q11
 have ⟨kx77,ky78,kz79,kw80⟩:=Ha68.out.q11
 have ⟨kx82,ky83,kp84,kq85⟩:=Hr69.out.q11
 go_wp2_with fail
 generalize (w2.setCell ⟨w.heap.size,0,none⟩ (.slice A2 n2 c2)).setCell ⟨w.heap.size,1,none⟩ (.slice A3 n3 c3)=wg86 at *
 with_reducible refine (HDO.out wg86 (HO.out.later HB70.out)).mono ?_
 rintro e w5 ⟨rfl,hgo⟩
 clear kx34 ky35 kp36 kq37 kx39 ky40 kz41 kw42 kx44 ky45 kp46 kq47 kx53 ky54 kp55 kq56 kx58 ky59 kz60 kw61 kx63 ky64 kp65 kq66 kx72 ky73 kp74 kq75 kx77 ky78 kz79 kw80 kx82 ky83 kp84 kq85
 have Hd87:Hid (yv (w5) (w.heap.size) (.slice A2 n2 c2) (.slice A3 n3 c3)):=Hd67.out.keeps11 hgo.2
 have Hr88:Hid (yv (w5) (w.heap.size+2) (.slice none 0 0) (.slice none 0 0)):=Hr69.out.keeps11 hgo.2
 have HRC5:Hid (vQ 0 R2 w5 (.slice A2 n2 c2)):=(HRC.out.keepD11 HKD.out).keeps hgo.2
 have HNM5:Hid (NmR w5 (.slice A3 n3 c3) nx):=(HNM.out.keepD11 HKD.out).keeps11 hgo.2
 have HK5:Hid (zu w w5):=(zu.of_below HB70.out).trans hgo.2
 have HO5:=za hgo.1
 clear hgo HDO HO HRC HNM HKD
 have ⟨kx90,ky91,kp92,kq93⟩:=Hd87.out.q11
 have ⟨kx95,ky96,kp97,kq98⟩:=Hr88.out.q11
 have HRES:Hid (yv ((w5.setCell ⟨w.heap.size+2,0,none⟩ (.slice A2 n2 c2)).setCell ⟨w.heap.size+2,1,none⟩ (.slice A3 n3 c3)) (w.heap.size+2) (.slice A2 n2 c2) (.slice A3 n3 c3)):=(Hr88.out.set0 _).set1 _
 have HKF:Hid (zR w5 ((w5.setCell ⟨w.heap.size+2,0,none⟩ (.slice A2 n2 c2)).setCell ⟨w.heap.size+2,1,none⟩ (.slice A3 n3 c3))):=(Hr88.out.keep 0 _).trans ((Hr88.out.set0 _).keep 1 _)
 have HOF:Hid (zo w0 ((w5.setCell ⟨w.heap.size+2,0,none⟩ (.slice A2 n2 c2)).setCell ⟨w.heap.size+2,1,none⟩ (.slice A3 n3 c3)) D P M G A' L' S'):=(HO5.out.cell11 Hr88.out (Nat.le_trans HW0.out (by omega)) _).cell11 (Hr88.out.set0 _) (Nat.le_trans HW0.out (by omega)) _
 have HKP:Hid (zu w ((w5.setCell ⟨w.heap.size+2,0,none⟩ (.slice A2 n2 c2)).setCell ⟨w.heap.size+2,1,none⟩ (.slice A3 n3 c3))):=(HK5.out.cellN11 (by omega) _).cellN11 (by omega) _
 have HPOST:Hid (uN w0 D P M G k w (zc A L S) kd a.data.toList b.data.toList z nx (.returned (.tuple #[.agg #[.slice A2 n2 c2,.slice A3 n3 c3],.bool true])) ((w5.setCell ⟨w.heap.size+2,0,none⟩ (.slice A2 n2 c2)).setCell ⟨w.heap.size+2,1,none⟩ (.slice A3 n3 c3))):=⟨_,_,_,R2,_,_,rfl,HOF.out,HONE.out.1,HRC5.out.keepD11 HKF.out,by rw [HONE.out.2.2]; exact HNM5.out.keepD11 HKF.out,by rw [HPL.out,HONE.out.2.1],HKP.out,by rw [HONE.out.2.1]; exact HOTH.out.1,by rw [HONE.out.2.1,HONE.out.2.2]; exact HOTH.out.2⟩
 have z0:=HRES.out.c0
 have z1:=HRES.out.c1
 go_wp2
 refine bodyPost_ret (v:=.tuple #[.agg #[.slice A2 n2 c2,.slice A3 n3 c3],.bool true]) ?_ rfl HPOST.out
 simp [results,Tryz.results24,go_sem,z0,z1]

set_option maxRecDepth 100000 in
theorem do11_2 (R:zL W11) (v vg:Value) (kd:Nat) (a b:ByteArray) (z:Bool) (w:World) (ho:zo w0 w D P M G A L S) (hg:zt A L S k) (hk:k≤90) (h5:vR w0) (hR:vQ 0 R w v) (hN:NmR w vg (zb S)) (hp:ze R=zc A L S) (ha:a.size≤50) (hb5:b.size≤50) (hkd:kd % 11=2) :
  Calls Tryz.prog 24 #[.pointer (some ⟨D,0,none⟩),.agg #[v,vg],.agg #[.int .u8 (kd:Int),.string a,.string b,.bool z]] w (uN w0 D P M G k w (zc A L S) kd a.data.toList b.data.toList z (zb S)):=by
 obtain ⟨f1,f2,f3,f4⟩:=yJ hg hp
 have HRF:Hid (∀ W',Below w.heap.size w W'→Calls Tryz.prog 67 #[.agg #[v,vg],.string a,.string b] W' (yx (Y5 A a.data.toList b.data.toList) (dshL (zc A L S) a.data.toList b.data.toList) (zb S) W')):=fun W' hb=>by
  have hR:=hR.later hb
  have hN:=hN.later hb
  have h:=Y8 _ _ R _ a b W' hR hN f1 f2 (by omega) (by omega)
  rw [hp] at h
  have e:=(show _=Y5 A a.data.toList b.data.toList from sh_same hg _ _)
  rwa [e] at h
 have HDO:Hid (∀ W',zo w0 W' D P M G A L S→Calls Tryz.prog 44 #[.pointer (some ⟨D,0,none⟩),.string a,.string b] W' fun e w'=>e=.returned (.int .i64 (Y5 A a.data.toList b.data.toList))∧zE w0 W' D P M G (JT A a.data.toList b.data.toList) (L) (S) w'):=fun W' ho=>YN a b ho hg (by omega) (by omega)
 have HONE:Hid (uM (JT A a.data.toList b.data.toList) (L) (S) (dshL (zc A L S) a.data.toList b.data.toList) (zb S) (k+1)):=sh_one hg _ _
 have HRT:Hid (zA (zc A L S)):=zK hg.rise
 have HOTH:Hid (yE kd a.data.toList b.data.toList (zc A L S) (dshL (zc A L S) a.data.toList b.data.toList)∧ZL kd a.data.toList b.data.toList z (zc A L S) (zb S) (dshL (zc A L S) a.data.toList b.data.toList) (zb S)):=⟨oth_sh HRT.out hkd,vy hkd rfl rfl⟩
 have hrem:(kd:Int).tmod 11=2:=by
  have:(kd:Int).tmod 11=((kd % 11:Nat):Int):=rfl
  rw [this,hkd]; rfl
 have hzd:∀ w:World,(zeroValue zn).run Tryz.prog w=.ok (.agg #[.slice none 0 0,.slice none 0 0]) w:=fun w=>by kernel_rfl
 have HO:=za ho
 have HW0:Hid (w0.heap.size≤w.heap.size):=ho.below.size
 obtain ⟨A0,c,rfl⟩:=hR.rw.us.shape
 obtain ⟨A1,c1,rfl⟩:=hN.shape
 clear ho hg hR hN hp h5 f1 f2 f3 f4 hkd
 generalize R.length=n at *
 generalize (zb S).length=n1 at *
 generalize Y5 A a.data.toList b.data.toList=E at HRF HDO HONE HOTH
 generalize JT A a.data.toList b.data.toList=A' at HRF HDO HONE HOTH
 generalize dshL (zc A L S) a.data.toList b.data.toList=l' at HRF HDO HONE HOTH
 generalize hnx:zb S=nx at HRF HONE HOTH
 have Hd1:=za (zr w (.slice A0 n c) (.slice A1 n1 c1))
 have HLO2:Hid (w.heap.size≤w.heap.size):=by show _≤_; omega
 have HB3:Hid (Below w.heap.size w (w.alloc (.cells #[.slice A0 n c,.slice A1 n1 c1] zn))):=z7 (Below.refl _ _) _
 have Hd4:=za (Hd1.out.later (z7 (Below.refl _ _) (.cells #[.int .u8 (kd:Int),.string a,.string b,.bool z] 61)))
 have Ha5:Hid (xW ((w.alloc (.cells #[.slice A0 n c,.slice A1 n1 c1] zn)).alloc (.cells #[.int .u8 (kd:Int),.string a,.string b,.bool z] 61)) (w.heap.size+1) (kd) (a) (b) (z)):=zi (by simp)
 have HLO6:Hid (w.heap.size≤w.heap.size+1):=by show _≤_; omega
 have HB7:=za (z8 HB3.out (z7 (Below.refl _ _) (.cells #[.int .u8 (kd:Int),.string a,.string b,.bool z] 61)))
 have Hd8:=za (Hd4.out.later (z7 (Below.refl _ _) (.cells #[.slice none 0 0,.slice none 0 0] zn)))
 have Ha9:=za (Ha5.out.later (z7 (Below.refl _ _) (.cells #[.slice none 0 0,.slice none 0 0] zn)))
 have Hr10:Hid (yv (((w.alloc (.cells #[.slice A0 n c,.slice A1 n1 c1] zn)).alloc (.cells #[.int .u8 (kd:Int),.string a,.string b,.bool z] 61)).alloc (.cells #[.slice none 0 0,.slice none 0 0] zn)) (w.heap.size+2) (.slice none 0 0) (.slice none 0 0)):=zi (by simp)
 have HLO11:Hid (w.heap.size≤w.heap.size+2):=by show _≤_; omega
 have HB12:=za (z8 HB7.out (z7 (Below.refl _ _) (.cells #[.slice none 0 0,.slice none 0 0] zn)))
 go_enter Tryz.func24,Tryz.ntmps24
 have ⟨kx14,ky15,kp16,kq17⟩:=Hd8.out.q11
 have ⟨kx19,ky20,kz21,kw22⟩:=Ha9.out.q11
 have ⟨kx24,ky25,kp26,kq27⟩:=Hr10.out.q11
 go_wp2_with fail
 generalize ((w.alloc (.cells #[.slice A0 n c,.slice A1 n1 c1] zn)).alloc (.cells #[.int .u8 (kd:Int),.string a,.string b,.bool z] 61)).alloc (.cells #[.slice none 0 0,.slice none 0 0] zn)=wg28 at *
 with_reducible refine (HRF.out wg28 HB12.out).mono ?_
 rintro e w2 ⟨R2,u1,u2,rfl,hrc,hpl,hnm,hb⟩
 clear kx14 ky15 kp16 kq17 kx19 ky20 kz21 kw22 kx24 ky25 kp26 kq27
 have Hd29:=za (Hd8.out.later hb)
 have Ha30:=za (Ha9.out.later hb)
 have Hr31:=za (Hr10.out.later hb)
 have HB32:=za (z8 HB12.out hb)
 obtain ⟨A2,c2,rfl⟩:=hrc.rw.us.shape
 obtain ⟨A3,c3,rfl⟩:=hnm.shape
 have HRC:=za hrc
 have HPL:=za hpl
 have HNM:=za hnm
 clear hrc hpl hnm HRF
 obtain ⟨n2,hn2⟩:∃ m,m=R2.length:=⟨_,rfl⟩
 obtain ⟨n3,hn3⟩:∃ m,m=List.length nx:=⟨_,rfl⟩
 rw [← hn2] at HRC ⊢
 rw [← hn3] at HNM ⊢
 clear hn2 hn3
 clear hb
 have ⟨kx34,ky35,kp36,kq37⟩:=Hd29.out.q11
 have ⟨kx39,ky40,kz41,kw42⟩:=Ha30.out.q11
 have ⟨kx44,ky45,kp46,kq47⟩:=Hr31.out.q11
 have Hd48:=za (Hd29.out.set0 (.slice A2 n2 c2))
 have Ha49:=za (Ha30.out.other (c:=w.heap.size) (i:=0) (by omega) (.slice A2 n2 c2))
 have Hr50:=za (Hr31.out.other (c:=w.heap.size) (i:=0) (by omega) (.slice A2 n2 c2))
 have HB51:=za (HB32.out.setCell (p:=⟨w.heap.size,0,none⟩) HLO2.out (.slice A2 n2 c2))
 have ⟨kx53,ky54,kp55,kq56⟩:=Hd48.out.q11
 have ⟨kx58,ky59,kz60,kw61⟩:=Ha49.out.q11
 have ⟨kx63,ky64,kp65,kq66⟩:=Hr50.out.q11
 have Hd67:=za (Hd48.out.set1 (.slice A3 n3 c3))
 have Ha68:=za (Ha49.out.other (c:=w.heap.size) (i:=1) (by omega) (.slice A3 n3 c3))
 have Hr69:=za (Hr50.out.other (c:=w.heap.size) (i:=1) (by omega) (.slice A3 n3 c3))
 have HB70:=za (HB51.out.setCell (p:=⟨w.heap.size,1,none⟩) HLO2.out (.slice A3 n3 c3))
 have HKD:Hid (zR w2 ((w2.setCell ⟨w.heap.size,0,none⟩ (.slice A2 n2 c2)).setCell ⟨w.heap.size,1,none⟩ (.slice A3 n3 c3))):=(Hd29.out.keep 0 _).trans (Hd48.out.keep 1 _)
 have ⟨kx72,ky73,kp74,kq75⟩:=Hd67.out.q11
 have ⟨kx77,ky78,kz79,kw80⟩:=Ha68.out.q11
 have ⟨kx82,ky83,kp84,kq85⟩:=Hr69.out.q11
 go_wp2_with fail
 generalize (w2.setCell ⟨w.heap.size,0,none⟩ (.slice A2 n2 c2)).setCell ⟨w.heap.size,1,none⟩ (.slice A3 n3 c3)=wg86 at *
 with_reducible refine (HDO.out wg86 (HO.out.later HB70.out)).mono ?_
 rintro e w5 ⟨rfl,hgo⟩
 clear kx34 ky35 kp36 kq37 kx39 ky40 kz41 kw42 kx44 ky45 kp46 kq47 kx53 ky54 kp55 kq56 kx58 ky59 kz60 kw61 kx63 ky64 kp65 kq66 kx72 ky73 kp74 kq75 kx77 ky78 kz79 kw80 kx82 ky83 kp84 kq85
 have Hd87:Hid (yv (w5) (w.heap.size) (.slice A2 n2 c2) (.slice A3 n3 c3)):=Hd67.out.keeps11 hgo.2
 have Hr88:Hid (yv (w5) (w.heap.size+2) (.slice none 0 0) (.slice none 0 0)):=Hr69.out.keeps11 hgo.2
 have HRC5:Hid (vQ 0 R2 w5 (.slice A2 n2 c2)):=(HRC.out.keepD11 HKD.out).keeps hgo.2
 have HNM5:Hid (NmR w5 (.slice A3 n3 c3) nx):=(HNM.out.keepD11 HKD.out).keeps11 hgo.2
 have HK5:Hid (zu w w5):=(zu.of_below HB70.out).trans hgo.2
 have HO5:=za hgo.1
 clear hgo HDO HO HRC HNM HKD
 have ⟨kx90,ky91,kp92,kq93⟩:=Hd87.out.q11
 have ⟨kx95,ky96,kp97,kq98⟩:=Hr88.out.q11
 have HRES:Hid (yv ((w5.setCell ⟨w.heap.size+2,0,none⟩ (.slice A2 n2 c2)).setCell ⟨w.heap.size+2,1,none⟩ (.slice A3 n3 c3)) (w.heap.size+2) (.slice A2 n2 c2) (.slice A3 n3 c3)):=(Hr88.out.set0 _).set1 _
 have HKF:Hid (zR w5 ((w5.setCell ⟨w.heap.size+2,0,none⟩ (.slice A2 n2 c2)).setCell ⟨w.heap.size+2,1,none⟩ (.slice A3 n3 c3))):=(Hr88.out.keep 0 _).trans ((Hr88.out.set0 _).keep 1 _)
 have HOF:Hid (zo w0 ((w5.setCell ⟨w.heap.size+2,0,none⟩ (.slice A2 n2 c2)).setCell ⟨w.heap.size+2,1,none⟩ (.slice A3 n3 c3)) D P M G A' L S):=(HO5.out.cell11 Hr88.out (Nat.le_trans HW0.out (by omega)) _).cell11 (Hr88.out.set0 _) (Nat.le_trans HW0.out (by omega)) _
 have HKP:Hid (zu w ((w5.setCell ⟨w.heap.size+2,0,none⟩ (.slice A2 n2 c2)).setCell ⟨w.heap.size+2,1,none⟩ (.slice A3 n3 c3))):=(HK5.out.cellN11 (by omega) _).cellN11 (by omega) _
 have HPOST:Hid (uN w0 D P M G k w (zc A L S) kd a.data.toList b.data.toList z nx (.returned (.tuple #[.agg #[.slice A2 n2 c2,.slice A3 n3 c3],.bool true])) ((w5.setCell ⟨w.heap.size+2,0,none⟩ (.slice A2 n2 c2)).setCell ⟨w.heap.size+2,1,none⟩ (.slice A3 n3 c3))):=⟨_,_,_,R2,_,_,rfl,HOF.out,HONE.out.1,HRC5.out.keepD11 HKF.out,by rw [HONE.out.2.2]; exact HNM5.out.keepD11 HKF.out,by rw [HPL.out,HONE.out.2.1],HKP.out,by rw [HONE.out.2.1]; exact HOTH.out.1,by rw [HONE.out.2.1,HONE.out.2.2]; exact HOTH.out.2⟩
 have z0:=HRES.out.c0
 have z1:=HRES.out.c1
 go_wp2
 refine bodyPost_ret (v:=.tuple #[.agg #[.slice A2 n2 c2,.slice A3 n3 c3],.bool true]) ?_ rfl HPOST.out
 simp [results,Tryz.results24,go_sem,z0,z1]

set_option maxRecDepth 100000 in
theorem do11_3 (R:zL W11) (v vg:Value) (kd:Nat) (a b:ByteArray) (z:Bool) (w:World) (ho:zo w0 w D P M G A L S) (hg:zt A L S k) (hk:k≤90) (h5:vR w0) (hR:vQ 0 R w v) (hN:NmR w vg (zb S)) (hp:ze R=zc A L S) (ha:a.size≤50) (hb5:b.size≤50) (hkd:kd % 11=3) :
  Calls Tryz.prog 24 #[.pointer (some ⟨D,0,none⟩),.agg #[v,vg],.agg #[.int .u8 (kd:Int),.string a,.string b,.bool z]] w (uN w0 D P M G k w (zc A L S) kd a.data.toList b.data.toList z (zb S)):=by
 obtain ⟨f1,f2,f3,f4⟩:=yJ hg hp
 have HRF:Hid (∀ W',Below w.heap.size w W'→Calls Tryz.prog 68 #[.agg #[v,vg],.string a,.string b] W' (yx (qK A L a.data.toList b.data.toList) (dsmL (zc A L S) a.data.toList b.data.toList) (zb S) W')):=fun W' hb=>by
  have hR:=hR.later hb
  have hN:=hN.later hb
  have h:=Y7 _ _ R _ a b W' hR hN f1 f2 (by omega) (by omega)
  rw [hp] at h
  have e:=(show _=qK A L a.data.toList b.data.toList from JR hg _ _)
  rwa [e] at h
 have HDO:Hid (∀ W',zo w0 W' D P M G A L S→Calls Tryz.prog 69 #[.pointer (some ⟨D,0,none⟩),.string a,.string b] W' fun e w'=>e=.returned (.int .i64 (qK A L a.data.toList b.data.toList))∧zE w0 W' D P M G (A) (Y4 A L a.data.toList b.data.toList) (S) w'):=fun W' ho=>jd a b ho (by have:=hg.lfew; omega) (h5.later ho.below) (by omega) (by omega)
 have HONE:Hid (uM (A) (Y4 A L a.data.toList b.data.toList) (S) (dsmL (zc A L S) a.data.toList b.data.toList) (zb S) (k+1)):=sm_one hg _ _
 have HRT:Hid (zA (zc A L S)):=zK hg.rise
 have HOTH:Hid (yE kd a.data.toList b.data.toList (zc A L S) (dsmL (zc A L S) a.data.toList b.data.toList)∧ZL kd a.data.toList b.data.toList z (zc A L S) (zb S) (dsmL (zc A L S) a.data.toList b.data.toList) (zb S)):=⟨oth_sm HRT.out hkd,vy hkd rfl rfl⟩
 have hrem:(kd:Int).tmod 11=3:=by
  have:(kd:Int).tmod 11=((kd % 11:Nat):Int):=rfl
  rw [this,hkd]; rfl
 have hzd:∀ w:World,(zeroValue zn).run Tryz.prog w=.ok (.agg #[.slice none 0 0,.slice none 0 0]) w:=fun w=>by kernel_rfl
 have HO:=za ho
 have HW0:Hid (w0.heap.size≤w.heap.size):=ho.below.size
 obtain ⟨A0,c,rfl⟩:=hR.rw.us.shape
 obtain ⟨A1,c1,rfl⟩:=hN.shape
 clear ho hg hR hN hp h5 f1 f2 f3 f4 hkd
 generalize R.length=n at *
 generalize (zb S).length=n1 at *
 generalize qK A L a.data.toList b.data.toList=E at HRF HDO HONE HOTH
 generalize Y4 A L a.data.toList b.data.toList=L' at HRF HDO HONE HOTH
 generalize dsmL (zc A L S) a.data.toList b.data.toList=l' at HRF HDO HONE HOTH
 generalize hnx:zb S=nx at HRF HONE HOTH
 have Hd1:=za (zr w (.slice A0 n c) (.slice A1 n1 c1))
 have HLO2:Hid (w.heap.size≤w.heap.size):=by show _≤_; omega
 have HB3:Hid (Below w.heap.size w (w.alloc (.cells #[.slice A0 n c,.slice A1 n1 c1] zn))):=z7 (Below.refl _ _) _
 have Hd4:=za (Hd1.out.later (z7 (Below.refl _ _) (.cells #[.int .u8 (kd:Int),.string a,.string b,.bool z] 61)))
 have Ha5:Hid (xW ((w.alloc (.cells #[.slice A0 n c,.slice A1 n1 c1] zn)).alloc (.cells #[.int .u8 (kd:Int),.string a,.string b,.bool z] 61)) (w.heap.size+1) (kd) (a) (b) (z)):=zi (by simp)
 have HLO6:Hid (w.heap.size≤w.heap.size+1):=by show _≤_; omega
 have HB7:=za (z8 HB3.out (z7 (Below.refl _ _) (.cells #[.int .u8 (kd:Int),.string a,.string b,.bool z] 61)))
 have Hd8:=za (Hd4.out.later (z7 (Below.refl _ _) (.cells #[.slice none 0 0,.slice none 0 0] zn)))
 have Ha9:=za (Ha5.out.later (z7 (Below.refl _ _) (.cells #[.slice none 0 0,.slice none 0 0] zn)))
 have Hr10:Hid (yv (((w.alloc (.cells #[.slice A0 n c,.slice A1 n1 c1] zn)).alloc (.cells #[.int .u8 (kd:Int),.string a,.string b,.bool z] 61)).alloc (.cells #[.slice none 0 0,.slice none 0 0] zn)) (w.heap.size+2) (.slice none 0 0) (.slice none 0 0)):=zi (by simp)
 have HLO11:Hid (w.heap.size≤w.heap.size+2):=by show _≤_; omega
 have HB12:=za (z8 HB7.out (z7 (Below.refl _ _) (.cells #[.slice none 0 0,.slice none 0 0] zn)))
 go_enter Tryz.func24,Tryz.ntmps24
 have ⟨kx14,ky15,kp16,kq17⟩:=Hd8.out.q11
 have ⟨kx19,ky20,kz21,kw22⟩:=Ha9.out.q11
 have ⟨kx24,ky25,kp26,kq27⟩:=Hr10.out.q11
 go_wp2_with fail
 generalize ((w.alloc (.cells #[.slice A0 n c,.slice A1 n1 c1] zn)).alloc (.cells #[.int .u8 (kd:Int),.string a,.string b,.bool z] 61)).alloc (.cells #[.slice none 0 0,.slice none 0 0] zn)=wg28 at *
 with_reducible refine (HRF.out wg28 HB12.out).mono ?_
 rintro e w2 ⟨R2,u1,u2,rfl,hrc,hpl,hnm,hb⟩
 clear kx14 ky15 kp16 kq17 kx19 ky20 kz21 kw22 kx24 ky25 kp26 kq27
 have Hd29:=za (Hd8.out.later hb)
 have Ha30:=za (Ha9.out.later hb)
 have Hr31:=za (Hr10.out.later hb)
 have HB32:=za (z8 HB12.out hb)
 obtain ⟨A2,c2,rfl⟩:=hrc.rw.us.shape
 obtain ⟨A3,c3,rfl⟩:=hnm.shape
 have HRC:=za hrc
 have HPL:=za hpl
 have HNM:=za hnm
 clear hrc hpl hnm HRF
 obtain ⟨n2,hn2⟩:∃ m,m=R2.length:=⟨_,rfl⟩
 obtain ⟨n3,hn3⟩:∃ m,m=List.length nx:=⟨_,rfl⟩
 rw [← hn2] at HRC ⊢
 rw [← hn3] at HNM ⊢
 clear hn2 hn3
 clear hb
 have ⟨kx34,ky35,kp36,kq37⟩:=Hd29.out.q11
 have ⟨kx39,ky40,kz41,kw42⟩:=Ha30.out.q11
 have ⟨kx44,ky45,kp46,kq47⟩:=Hr31.out.q11
 have Hd48:=za (Hd29.out.set0 (.slice A2 n2 c2))
 have Ha49:=za (Ha30.out.other (c:=w.heap.size) (i:=0) (by omega) (.slice A2 n2 c2))
 have Hr50:=za (Hr31.out.other (c:=w.heap.size) (i:=0) (by omega) (.slice A2 n2 c2))
 have HB51:=za (HB32.out.setCell (p:=⟨w.heap.size,0,none⟩) HLO2.out (.slice A2 n2 c2))
 have ⟨kx53,ky54,kp55,kq56⟩:=Hd48.out.q11
 have ⟨kx58,ky59,kz60,kw61⟩:=Ha49.out.q11
 have ⟨kx63,ky64,kp65,kq66⟩:=Hr50.out.q11
 have Hd67:=za (Hd48.out.set1 (.slice A3 n3 c3))
 have Ha68:=za (Ha49.out.other (c:=w.heap.size) (i:=1) (by omega) (.slice A3 n3 c3))
 have Hr69:=za (Hr50.out.other (c:=w.heap.size) (i:=1) (by omega) (.slice A3 n3 c3))
 have HB70:=za (HB51.out.setCell (p:=⟨w.heap.size,1,none⟩) HLO2.out (.slice A3 n3 c3))
 have HKD:Hid (zR w2 ((w2.setCell ⟨w.heap.size,0,none⟩ (.slice A2 n2 c2)).setCell ⟨w.heap.size,1,none⟩ (.slice A3 n3 c3))):=(Hd29.out.keep 0 _).trans (Hd48.out.keep 1 _)
 have ⟨kx72,ky73,kp74,kq75⟩:=Hd67.out.q11
 have ⟨kx77,ky78,kz79,kw80⟩:=Ha68.out.q11
 have ⟨kx82,ky83,kp84,kq85⟩:=Hr69.out.q11
 go_wp2_with fail
 generalize (w2.setCell ⟨w.heap.size,0,none⟩ (.slice A2 n2 c2)).setCell ⟨w.heap.size,1,none⟩ (.slice A3 n3 c3)=wg86 at *
 with_reducible refine (HDO.out wg86 (HO.out.later HB70.out)).mono ?_
 rintro e w5 ⟨rfl,hgo⟩
 clear kx34 ky35 kp36 kq37 kx39 ky40 kz41 kw42 kx44 ky45 kp46 kq47 kx53 ky54 kp55 kq56 kx58 ky59 kz60 kw61 kx63 ky64 kp65 kq66 kx72 ky73 kp74 kq75 kx77 ky78 kz79 kw80 kx82 ky83 kp84 kq85
 have Hd87:Hid (yv (w5) (w.heap.size) (.slice A2 n2 c2) (.slice A3 n3 c3)):=Hd67.out.keeps11 hgo.2
 have Hr88:Hid (yv (w5) (w.heap.size+2) (.slice none 0 0) (.slice none 0 0)):=Hr69.out.keeps11 hgo.2
 have HRC5:Hid (vQ 0 R2 w5 (.slice A2 n2 c2)):=(HRC.out.keepD11 HKD.out).keeps hgo.2
 have HNM5:Hid (NmR w5 (.slice A3 n3 c3) nx):=(HNM.out.keepD11 HKD.out).keeps11 hgo.2
 have HK5:Hid (zu w w5):=(zu.of_below HB70.out).trans hgo.2
 have HO5:=za hgo.1
 clear hgo HDO HO HRC HNM HKD
 have ⟨kx90,ky91,kp92,kq93⟩:=Hd87.out.q11
 have ⟨kx95,ky96,kp97,kq98⟩:=Hr88.out.q11
 have HRES:Hid (yv ((w5.setCell ⟨w.heap.size+2,0,none⟩ (.slice A2 n2 c2)).setCell ⟨w.heap.size+2,1,none⟩ (.slice A3 n3 c3)) (w.heap.size+2) (.slice A2 n2 c2) (.slice A3 n3 c3)):=(Hr88.out.set0 _).set1 _
 have HKF:Hid (zR w5 ((w5.setCell ⟨w.heap.size+2,0,none⟩ (.slice A2 n2 c2)).setCell ⟨w.heap.size+2,1,none⟩ (.slice A3 n3 c3))):=(Hr88.out.keep 0 _).trans ((Hr88.out.set0 _).keep 1 _)
 have HOF:Hid (zo w0 ((w5.setCell ⟨w.heap.size+2,0,none⟩ (.slice A2 n2 c2)).setCell ⟨w.heap.size+2,1,none⟩ (.slice A3 n3 c3)) D P M G A L' S):=(HO5.out.cell11 Hr88.out (Nat.le_trans HW0.out (by omega)) _).cell11 (Hr88.out.set0 _) (Nat.le_trans HW0.out (by omega)) _
 have HKP:Hid (zu w ((w5.setCell ⟨w.heap.size+2,0,none⟩ (.slice A2 n2 c2)).setCell ⟨w.heap.size+2,1,none⟩ (.slice A3 n3 c3))):=(HK5.out.cellN11 (by omega) _).cellN11 (by omega) _
 have HPOST:Hid (uN w0 D P M G k w (zc A L S) kd a.data.toList b.data.toList z nx (.returned (.tuple #[.agg #[.slice A2 n2 c2,.slice A3 n3 c3],.bool true])) ((w5.setCell ⟨w.heap.size+2,0,none⟩ (.slice A2 n2 c2)).setCell ⟨w.heap.size+2,1,none⟩ (.slice A3 n3 c3))):=⟨_,_,_,R2,_,_,rfl,HOF.out,HONE.out.1,HRC5.out.keepD11 HKF.out,by rw [HONE.out.2.2]; exact HNM5.out.keepD11 HKF.out,by rw [HPL.out,HONE.out.2.1],HKP.out,by rw [HONE.out.2.1]; exact HOTH.out.1,by rw [HONE.out.2.1,HONE.out.2.2]; exact HOTH.out.2⟩
 have z0:=HRES.out.c0
 have z1:=HRES.out.c1
 go_wp2
 refine bodyPost_ret (v:=.tuple #[.agg #[.slice A2 n2 c2,.slice A3 n3 c3],.bool true]) ?_ rfl HPOST.out
 simp [results,Tryz.results24,go_sem,z0,z1]

set_option maxRecDepth 100000 in
theorem do11_4 (R:zL W11) (v vg:Value) (kd:Nat) (a b:ByteArray) (z:Bool) (w:World) (ho:zo w0 w D P M G A L S) (hg:zt A L S k) (hk:k≤90) (h5:vR w0) (hR:vQ 0 R w v) (hN:NmR w vg (zb S)) (hp:ze R=zc A L S) (ha:a.size≤50) (hb5:b.size≤50) (hkd:kd % 11=4) :
  Calls Tryz.prog 24 #[.pointer (some ⟨D,0,none⟩),.agg #[v,vg],.agg #[.int .u8 (kd:Int),.string a,.string b,.bool z]] w (uN w0 D P M G k w (zc A L S) kd a.data.toList b.data.toList z (zb S)):=by
 obtain ⟨f1,f2,f3,f4⟩:=yJ hg hp
 have HRF:Hid (∀ W',Below w.heap.size w W'→Calls Tryz.prog 70 #[.agg #[v,vg],.string a,.bool z] W' (yx (Yg A a.data.toList z) (ddiL (zc A L S) a.data.toList z) (zb S) W')):=fun W' hb=>by
  have hR:=hR.later hb
  have hN:=hN.later hb
  have h:=Y9 _ _ R _ a z W' hR hN f1 f2 (by omega)
  rw [hp] at h
  have e:=(show _=Yg A a.data.toList z from di_same hg _ _)
  rwa [e] at h
 have HDO:Hid (∀ W',zo w0 W' D P M G A L S→Calls Tryz.prog 71 #[.pointer (some ⟨D,0,none⟩),.string a,.bool z] W' fun e w'=>e=.returned (.int .i64 (Yg A a.data.toList z))∧zE w0 W' D P M G (FB A a.data.toList z) (L) (S) w'):=fun W' ho=>XB a z ho hg (by omega)
 have HONE:Hid (uM (FB A a.data.toList z) (L) (S) (ddiL (zc A L S) a.data.toList z) (zb S) (k+1)):=di_one hg _ _
 have HRT:Hid (zA (zc A L S)):=zK hg.rise
 have HOTH:Hid (yE kd a.data.toList b.data.toList (zc A L S) (ddiL (zc A L S) a.data.toList z)∧ZL kd a.data.toList b.data.toList z (zc A L S) (zb S) (ddiL (zc A L S) a.data.toList z) (zb S)):=⟨oth_di HRT.out z hkd,vy hkd rfl rfl⟩
 have hrem:(kd:Int).tmod 11=4:=by
  have:(kd:Int).tmod 11=((kd % 11:Nat):Int):=rfl
  rw [this,hkd]; rfl
 have hzd:∀ w:World,(zeroValue zn).run Tryz.prog w=.ok (.agg #[.slice none 0 0,.slice none 0 0]) w:=fun w=>by kernel_rfl
 have HO:=za ho
 have HW0:Hid (w0.heap.size≤w.heap.size):=ho.below.size
 obtain ⟨A0,c,rfl⟩:=hR.rw.us.shape
 obtain ⟨A1,c1,rfl⟩:=hN.shape
 clear ho hg hR hN hp h5 f1 f2 f3 f4 hkd
 generalize R.length=n at *
 generalize (zb S).length=n1 at *
 generalize Yg A a.data.toList z=E at HRF HDO HONE HOTH
 generalize FB A a.data.toList z=A' at HRF HDO HONE HOTH
 generalize ddiL (zc A L S) a.data.toList z=l' at HRF HDO HONE HOTH
 generalize hnx:zb S=nx at HRF HONE HOTH
 have Hd1:=za (zr w (.slice A0 n c) (.slice A1 n1 c1))
 have HLO2:Hid (w.heap.size≤w.heap.size):=by show _≤_; omega
 have HB3:Hid (Below w.heap.size w (w.alloc (.cells #[.slice A0 n c,.slice A1 n1 c1] zn))):=z7 (Below.refl _ _) _
 have Hd4:=za (Hd1.out.later (z7 (Below.refl _ _) (.cells #[.int .u8 (kd:Int),.string a,.string b,.bool z] 61)))
 have Ha5:Hid (xW ((w.alloc (.cells #[.slice A0 n c,.slice A1 n1 c1] zn)).alloc (.cells #[.int .u8 (kd:Int),.string a,.string b,.bool z] 61)) (w.heap.size+1) (kd) (a) (b) (z)):=zi (by simp)
 have HLO6:Hid (w.heap.size≤w.heap.size+1):=by show _≤_; omega
 have HB7:=za (z8 HB3.out (z7 (Below.refl _ _) (.cells #[.int .u8 (kd:Int),.string a,.string b,.bool z] 61)))
 have Hd8:=za (Hd4.out.later (z7 (Below.refl _ _) (.cells #[.slice none 0 0,.slice none 0 0] zn)))
 have Ha9:=za (Ha5.out.later (z7 (Below.refl _ _) (.cells #[.slice none 0 0,.slice none 0 0] zn)))
 have Hr10:Hid (yv (((w.alloc (.cells #[.slice A0 n c,.slice A1 n1 c1] zn)).alloc (.cells #[.int .u8 (kd:Int),.string a,.string b,.bool z] 61)).alloc (.cells #[.slice none 0 0,.slice none 0 0] zn)) (w.heap.size+2) (.slice none 0 0) (.slice none 0 0)):=zi (by simp)
 have HLO11:Hid (w.heap.size≤w.heap.size+2):=by show _≤_; omega
 have HB12:=za (z8 HB7.out (z7 (Below.refl _ _) (.cells #[.slice none 0 0,.slice none 0 0] zn)))
 go_enter Tryz.func24,Tryz.ntmps24
 have ⟨kx14,ky15,kp16,kq17⟩:=Hd8.out.q11
 have ⟨kx19,ky20,kz21,kw22⟩:=Ha9.out.q11
 have ⟨kx24,ky25,kp26,kq27⟩:=Hr10.out.q11
 go_wp2_with fail
 generalize ((w.alloc (.cells #[.slice A0 n c,.slice A1 n1 c1] zn)).alloc (.cells #[.int .u8 (kd:Int),.string a,.string b,.bool z] 61)).alloc (.cells #[.slice none 0 0,.slice none 0 0] zn)=wg28 at *
 with_reducible refine (HRF.out wg28 HB12.out).mono ?_
 rintro e w2 ⟨R2,u1,u2,rfl,hrc,hpl,hnm,hb⟩
 clear kx14 ky15 kp16 kq17 kx19 ky20 kz21 kw22 kx24 ky25 kp26 kq27
 have Hd29:=za (Hd8.out.later hb)
 have Ha30:=za (Ha9.out.later hb)
 have Hr31:=za (Hr10.out.later hb)
 have HB32:=za (z8 HB12.out hb)
 obtain ⟨A2,c2,rfl⟩:=hrc.rw.us.shape
 obtain ⟨A3,c3,rfl⟩:=hnm.shape
 have HRC:=za hrc
 have HPL:=za hpl
 have HNM:=za hnm
 clear hrc hpl hnm HRF
 obtain ⟨n2,hn2⟩:∃ m,m=R2.length:=⟨_,rfl⟩
 obtain ⟨n3,hn3⟩:∃ m,m=List.length nx:=⟨_,rfl⟩
 rw [← hn2] at HRC ⊢
 rw [← hn3] at HNM ⊢
 clear hn2 hn3
 clear hb
 have ⟨kx34,ky35,kp36,kq37⟩:=Hd29.out.q11
 have ⟨kx39,ky40,kz41,kw42⟩:=Ha30.out.q11
 have ⟨kx44,ky45,kp46,kq47⟩:=Hr31.out.q11
 have Hd48:=za (Hd29.out.set0 (.slice A2 n2 c2))
 have Ha49:=za (Ha30.out.other (c:=w.heap.size) (i:=0) (by omega) (.slice A2 n2 c2))
 have Hr50:=za (Hr31.out.other (c:=w.heap.size) (i:=0) (by omega) (.slice A2 n2 c2))
 have HB51:=za (HB32.out.setCell (p:=⟨w.heap.size,0,none⟩) HLO2.out (.slice A2 n2 c2))
 have ⟨kx53,ky54,kp55,kq56⟩:=Hd48.out.q11
 have ⟨kx58,ky59,kz60,kw61⟩:=Ha49.out.q11
 have ⟨kx63,ky64,kp65,kq66⟩:=Hr50.out.q11
 have Hd67:=za (Hd48.out.set1 (.slice A3 n3 c3))
 have Ha68:=za (Ha49.out.other (c:=w.heap.size) (i:=1) (by omega) (.slice A3 n3 c3))
 have Hr69:=za (Hr50.out.other (c:=w.heap.size) (i:=1) (by omega) (.slice A3 n3 c3))
 have HB70:=za (HB51.out.setCell (p:=⟨w.heap.size,1,none⟩) HLO2.out (.slice A3 n3 c3))
 have HKD:Hid (zR w2 ((w2.setCell ⟨w.heap.size,0,none⟩ (.slice A2 n2 c2)).setCell ⟨w.heap.size,1,none⟩ (.slice A3 n3 c3))):=(Hd29.out.keep 0 _).trans (Hd48.out.keep 1 _)
 have ⟨kx72,ky73,kp74,kq75⟩:=Hd67.out.q11
 have ⟨kx77,ky78,kz79,kw80⟩:=Ha68.out.q11
 have ⟨kx82,ky83,kp84,kq85⟩:=Hr69.out.q11
 go_wp2_with fail
 generalize (w2.setCell ⟨w.heap.size,0,none⟩ (.slice A2 n2 c2)).setCell ⟨w.heap.size,1,none⟩ (.slice A3 n3 c3)=wg86 at *
 with_reducible refine (HDO.out wg86 (HO.out.later HB70.out)).mono ?_
 rintro e w5 ⟨rfl,hgo⟩
 clear kx34 ky35 kp36 kq37 kx39 ky40 kz41 kw42 kx44 ky45 kp46 kq47 kx53 ky54 kp55 kq56 kx58 ky59 kz60 kw61 kx63 ky64 kp65 kq66 kx72 ky73 kp74 kq75 kx77 ky78 kz79 kw80 kx82 ky83 kp84 kq85
 have Hd87:Hid (yv (w5) (w.heap.size) (.slice A2 n2 c2) (.slice A3 n3 c3)):=Hd67.out.keeps11 hgo.2
 have Hr88:Hid (yv (w5) (w.heap.size+2) (.slice none 0 0) (.slice none 0 0)):=Hr69.out.keeps11 hgo.2
 have HRC5:Hid (vQ 0 R2 w5 (.slice A2 n2 c2)):=(HRC.out.keepD11 HKD.out).keeps hgo.2
 have HNM5:Hid (NmR w5 (.slice A3 n3 c3) nx):=(HNM.out.keepD11 HKD.out).keeps11 hgo.2
 have HK5:Hid (zu w w5):=(zu.of_below HB70.out).trans hgo.2
 have HO5:=za hgo.1
 clear hgo HDO HO HRC HNM HKD
 have ⟨kx90,ky91,kp92,kq93⟩:=Hd87.out.q11
 have ⟨kx95,ky96,kp97,kq98⟩:=Hr88.out.q11
 have HRES:Hid (yv ((w5.setCell ⟨w.heap.size+2,0,none⟩ (.slice A2 n2 c2)).setCell ⟨w.heap.size+2,1,none⟩ (.slice A3 n3 c3)) (w.heap.size+2) (.slice A2 n2 c2) (.slice A3 n3 c3)):=(Hr88.out.set0 _).set1 _
 have HKF:Hid (zR w5 ((w5.setCell ⟨w.heap.size+2,0,none⟩ (.slice A2 n2 c2)).setCell ⟨w.heap.size+2,1,none⟩ (.slice A3 n3 c3))):=(Hr88.out.keep 0 _).trans ((Hr88.out.set0 _).keep 1 _)
 have HOF:Hid (zo w0 ((w5.setCell ⟨w.heap.size+2,0,none⟩ (.slice A2 n2 c2)).setCell ⟨w.heap.size+2,1,none⟩ (.slice A3 n3 c3)) D P M G A' L S):=(HO5.out.cell11 Hr88.out (Nat.le_trans HW0.out (by omega)) _).cell11 (Hr88.out.set0 _) (Nat.le_trans HW0.out (by omega)) _
 have HKP:Hid (zu w ((w5.setCell ⟨w.heap.size+2,0,none⟩ (.slice A2 n2 c2)).setCell ⟨w.heap.size+2,1,none⟩ (.slice A3 n3 c3))):=(HK5.out.cellN11 (by omega) _).cellN11 (by omega) _
 have HPOST:Hid (uN w0 D P M G k w (zc A L S) kd a.data.toList b.data.toList z nx (.returned (.tuple #[.agg #[.slice A2 n2 c2,.slice A3 n3 c3],.bool true])) ((w5.setCell ⟨w.heap.size+2,0,none⟩ (.slice A2 n2 c2)).setCell ⟨w.heap.size+2,1,none⟩ (.slice A3 n3 c3))):=⟨_,_,_,R2,_,_,rfl,HOF.out,HONE.out.1,HRC5.out.keepD11 HKF.out,by rw [HONE.out.2.2]; exact HNM5.out.keepD11 HKF.out,by rw [HPL.out,HONE.out.2.1],HKP.out,by rw [HONE.out.2.1]; exact HOTH.out.1,by rw [HONE.out.2.1,HONE.out.2.2]; exact HOTH.out.2⟩
 have z0:=HRES.out.c0
 have z1:=HRES.out.c1
 go_wp2
 refine bodyPost_ret (v:=.tuple #[.agg #[.slice A2 n2 c2,.slice A3 n3 c3],.bool true]) ?_ rfl HPOST.out
 simp [results,Tryz.results24,go_sem,z0,z1]

set_option maxRecDepth 100000 in
theorem do11_5 (R:zL W11) (v vg:Value) (kd:Nat) (a b:ByteArray) (z:Bool) (w:World) (ho:zo w0 w D P M G A L S) (hg:zt A L S k) (hk:k≤90) (h5:vR w0) (hR:vQ 0 R w v) (hN:NmR w vg (zb S)) (hp:ze R=zc A L S) (ha:a.size≤50) (hb5:b.size≤50) (hkd:kd % 11=5) :
  Calls Tryz.prog 24 #[.pointer (some ⟨D,0,none⟩),.agg #[v,vg],.agg #[.int .u8 (kd:Int),.string a,.string b,.bool z]] w (uN w0 D P M G k w (zc A L S) kd a.data.toList b.data.toList z (zb S)):=by
 obtain ⟨f1,f2,f3,f4⟩:=yJ hg hp
 have HRF:Hid (∀ W',Below w.heap.size w W'→Calls Tryz.prog 72 #[.agg #[v,vg],.string a,.string b] W' (yx (jh A a.data.toList b.data.toList) (drnL (zc A L S) a.data.toList b.data.toList) (zb S) W')):=fun W' hb=>by
  have hR:=hR.later hb
  have hN:=hN.later hb
  have h:=YP _ _ R _ a b W' hR hN f1 f2 (by omega) (by omega)
  rw [hp] at h
  have e:=(show _=jh A a.data.toList b.data.toList from rn_same (A:=A) (L:=L) (S:=S) _ _)
  rwa [e] at h
 have HDO:Hid (∀ W',zo w0 W' D P M G A L S→Calls Tryz.prog 73 #[.pointer (some ⟨D,0,none⟩),.string a,.string b] W' fun e w'=>e=.returned (.int .i64 (jh A a.data.toList b.data.toList))∧zE w0 W' D P M G (JY A a.data.toList b.data.toList) (JX A L a.data.toList b.data.toList) (JW A S a.data.toList b.data.toList) w'):=fun W' ho=>V1 a b ho hg (by omega) (by omega) (by omega)
 have HONE:Hid (uM (JY A a.data.toList b.data.toList) (JX A L a.data.toList b.data.toList) (JW A S a.data.toList b.data.toList) (drnL (zc A L S) a.data.toList b.data.toList) (zb S) (k+1)):=rn_one hg _ _
 have HRT:Hid (zA (zc A L S)):=zK hg.rise
 have HOTH:Hid (yE kd a.data.toList b.data.toList (zc A L S) (drnL (zc A L S) a.data.toList b.data.toList)∧ZL kd a.data.toList b.data.toList z (zc A L S) (zb S) (drnL (zc A L S) a.data.toList b.data.toList) (zb S)):=⟨oth_rn HRT.out hkd,vy hkd rfl rfl⟩
 have hrem:(kd:Int).tmod 11=5:=by
  have:(kd:Int).tmod 11=((kd % 11:Nat):Int):=rfl
  rw [this,hkd]; rfl
 have hzd:∀ w:World,(zeroValue zn).run Tryz.prog w=.ok (.agg #[.slice none 0 0,.slice none 0 0]) w:=fun w=>by kernel_rfl
 have HO:=za ho
 have HW0:Hid (w0.heap.size≤w.heap.size):=ho.below.size
 obtain ⟨A0,c,rfl⟩:=hR.rw.us.shape
 obtain ⟨A1,c1,rfl⟩:=hN.shape
 clear ho hg hR hN hp h5 f1 f2 f3 f4 hkd
 generalize R.length=n at *
 generalize (zb S).length=n1 at *
 generalize jh A a.data.toList b.data.toList=E at HRF HDO HONE HOTH
 generalize JY A a.data.toList b.data.toList=A' at HRF HDO HONE HOTH
 generalize JX A L a.data.toList b.data.toList=L' at HRF HDO HONE HOTH
 generalize JW A S a.data.toList b.data.toList=S' at HRF HDO HONE HOTH
 generalize drnL (zc A L S) a.data.toList b.data.toList=l' at HRF HDO HONE HOTH
 generalize hnx:zb S=nx at HRF HONE HOTH
 have Hd1:=za (zr w (.slice A0 n c) (.slice A1 n1 c1))
 have HLO2:Hid (w.heap.size≤w.heap.size):=by show _≤_; omega
 have HB3:Hid (Below w.heap.size w (w.alloc (.cells #[.slice A0 n c,.slice A1 n1 c1] zn))):=z7 (Below.refl _ _) _
 have Hd4:=za (Hd1.out.later (z7 (Below.refl _ _) (.cells #[.int .u8 (kd:Int),.string a,.string b,.bool z] 61)))
 have Ha5:Hid (xW ((w.alloc (.cells #[.slice A0 n c,.slice A1 n1 c1] zn)).alloc (.cells #[.int .u8 (kd:Int),.string a,.string b,.bool z] 61)) (w.heap.size+1) (kd) (a) (b) (z)):=zi (by simp)
 have HLO6:Hid (w.heap.size≤w.heap.size+1):=by show _≤_; omega
 have HB7:=za (z8 HB3.out (z7 (Below.refl _ _) (.cells #[.int .u8 (kd:Int),.string a,.string b,.bool z] 61)))
 have Hd8:=za (Hd4.out.later (z7 (Below.refl _ _) (.cells #[.slice none 0 0,.slice none 0 0] zn)))
 have Ha9:=za (Ha5.out.later (z7 (Below.refl _ _) (.cells #[.slice none 0 0,.slice none 0 0] zn)))
 have Hr10:Hid (yv (((w.alloc (.cells #[.slice A0 n c,.slice A1 n1 c1] zn)).alloc (.cells #[.int .u8 (kd:Int),.string a,.string b,.bool z] 61)).alloc (.cells #[.slice none 0 0,.slice none 0 0] zn)) (w.heap.size+2) (.slice none 0 0) (.slice none 0 0)):=zi (by simp)
 have HLO11:Hid (w.heap.size≤w.heap.size+2):=by show _≤_; omega
 have HB12:=za (z8 HB7.out (z7 (Below.refl _ _) (.cells #[.slice none 0 0,.slice none 0 0] zn)))
 go_enter Tryz.func24,Tryz.ntmps24
 have ⟨kx14,ky15,kp16,kq17⟩:=Hd8.out.q11
 have ⟨kx19,ky20,kz21,kw22⟩:=Ha9.out.q11
 have ⟨kx24,ky25,kp26,kq27⟩:=Hr10.out.q11
 go_wp2_with fail
 generalize ((w.alloc (.cells #[.slice A0 n c,.slice A1 n1 c1] zn)).alloc (.cells #[.int .u8 (kd:Int),.string a,.string b,.bool z] 61)).alloc (.cells #[.slice none 0 0,.slice none 0 0] zn)=wg28 at *
 with_reducible refine (HRF.out wg28 HB12.out).mono ?_
 rintro e w2 ⟨R2,u1,u2,rfl,hrc,hpl,hnm,hb⟩
 clear kx14 ky15 kp16 kq17 kx19 ky20 kz21 kw22 kx24 ky25 kp26 kq27
 have Hd29:=za (Hd8.out.later hb)
 have Ha30:=za (Ha9.out.later hb)
 have Hr31:=za (Hr10.out.later hb)
 have HB32:=za (z8 HB12.out hb)
 obtain ⟨A2,c2,rfl⟩:=hrc.rw.us.shape
 obtain ⟨A3,c3,rfl⟩:=hnm.shape
 have HRC:=za hrc
 have HPL:=za hpl
 have HNM:=za hnm
 clear hrc hpl hnm HRF
 obtain ⟨n2,hn2⟩:∃ m,m=R2.length:=⟨_,rfl⟩
 obtain ⟨n3,hn3⟩:∃ m,m=List.length nx:=⟨_,rfl⟩
 rw [← hn2] at HRC ⊢
 rw [← hn3] at HNM ⊢
 clear hn2 hn3
 clear hb
 have ⟨kx34,ky35,kp36,kq37⟩:=Hd29.out.q11
 have ⟨kx39,ky40,kz41,kw42⟩:=Ha30.out.q11
 have ⟨kx44,ky45,kp46,kq47⟩:=Hr31.out.q11
 have Hd48:=za (Hd29.out.set0 (.slice A2 n2 c2))
 have Ha49:=za (Ha30.out.other (c:=w.heap.size) (i:=0) (by omega) (.slice A2 n2 c2))
 have Hr50:=za (Hr31.out.other (c:=w.heap.size) (i:=0) (by omega) (.slice A2 n2 c2))
 have HB51:=za (HB32.out.setCell (p:=⟨w.heap.size,0,none⟩) HLO2.out (.slice A2 n2 c2))
 have ⟨kx53,ky54,kp55,kq56⟩:=Hd48.out.q11
 have ⟨kx58,ky59,kz60,kw61⟩:=Ha49.out.q11
 have ⟨kx63,ky64,kp65,kq66⟩:=Hr50.out.q11
 have Hd67:=za (Hd48.out.set1 (.slice A3 n3 c3))
 have Ha68:=za (Ha49.out.other (c:=w.heap.size) (i:=1) (by omega) (.slice A3 n3 c3))
 have Hr69:=za (Hr50.out.other (c:=w.heap.size) (i:=1) (by omega) (.slice A3 n3 c3))
 have HB70:=za (HB51.out.setCell (p:=⟨w.heap.size,1,none⟩) HLO2.out (.slice A3 n3 c3))
 have HKD:Hid (zR w2 ((w2.setCell ⟨w.heap.size,0,none⟩ (.slice A2 n2 c2)).setCell ⟨w.heap.size,1,none⟩ (.slice A3 n3 c3))):=(Hd29.out.keep 0 _).trans (Hd48.out.keep 1 _)
 have ⟨kx72,ky73,kp74,kq75⟩:=Hd67.out.q11
 have ⟨kx77,ky78,kz79,kw80⟩:=Ha68.out.q11
 have ⟨kx82,ky83,kp84,kq85⟩:=Hr69.out.q11
 go_wp2_with fail
 generalize (w2.setCell ⟨w.heap.size,0,none⟩ (.slice A2 n2 c2)).setCell ⟨w.heap.size,1,none⟩ (.slice A3 n3 c3)=wg86 at *
 with_reducible refine (HDO.out wg86 (HO.out.later HB70.out)).mono ?_
 rintro e w5 ⟨rfl,hgo⟩
 clear kx34 ky35 kp36 kq37 kx39 ky40 kz41 kw42 kx44 ky45 kp46 kq47 kx53 ky54 kp55 kq56 kx58 ky59 kz60 kw61 kx63 ky64 kp65 kq66 kx72 ky73 kp74 kq75 kx77 ky78 kz79 kw80 kx82 ky83 kp84 kq85
 have Hd87:Hid (yv (w5) (w.heap.size) (.slice A2 n2 c2) (.slice A3 n3 c3)):=Hd67.out.keeps11 hgo.2
 have Hr88:Hid (yv (w5) (w.heap.size+2) (.slice none 0 0) (.slice none 0 0)):=Hr69.out.keeps11 hgo.2
 have HRC5:Hid (vQ 0 R2 w5 (.slice A2 n2 c2)):=(HRC.out.keepD11 HKD.out).keeps hgo.2
 have HNM5:Hid (NmR w5 (.slice A3 n3 c3) nx):=(HNM.out.keepD11 HKD.out).keeps11 hgo.2
 have HK5:Hid (zu w w5):=(zu.of_below HB70.out).trans hgo.2
 have HO5:=za hgo.1
 clear hgo HDO HO HRC HNM HKD
 have ⟨kx90,ky91,kp92,kq93⟩:=Hd87.out.q11
 have ⟨kx95,ky96,kp97,kq98⟩:=Hr88.out.q11
 have HRES:Hid (yv ((w5.setCell ⟨w.heap.size+2,0,none⟩ (.slice A2 n2 c2)).setCell ⟨w.heap.size+2,1,none⟩ (.slice A3 n3 c3)) (w.heap.size+2) (.slice A2 n2 c2) (.slice A3 n3 c3)):=(Hr88.out.set0 _).set1 _
 have HKF:Hid (zR w5 ((w5.setCell ⟨w.heap.size+2,0,none⟩ (.slice A2 n2 c2)).setCell ⟨w.heap.size+2,1,none⟩ (.slice A3 n3 c3))):=(Hr88.out.keep 0 _).trans ((Hr88.out.set0 _).keep 1 _)
 have HOF:Hid (zo w0 ((w5.setCell ⟨w.heap.size+2,0,none⟩ (.slice A2 n2 c2)).setCell ⟨w.heap.size+2,1,none⟩ (.slice A3 n3 c3)) D P M G A' L' S'):=(HO5.out.cell11 Hr88.out (Nat.le_trans HW0.out (by omega)) _).cell11 (Hr88.out.set0 _) (Nat.le_trans HW0.out (by omega)) _
 have HKP:Hid (zu w ((w5.setCell ⟨w.heap.size+2,0,none⟩ (.slice A2 n2 c2)).setCell ⟨w.heap.size+2,1,none⟩ (.slice A3 n3 c3))):=(HK5.out.cellN11 (by omega) _).cellN11 (by omega) _
 have HPOST:Hid (uN w0 D P M G k w (zc A L S) kd a.data.toList b.data.toList z nx (.returned (.tuple #[.agg #[.slice A2 n2 c2,.slice A3 n3 c3],.bool true])) ((w5.setCell ⟨w.heap.size+2,0,none⟩ (.slice A2 n2 c2)).setCell ⟨w.heap.size+2,1,none⟩ (.slice A3 n3 c3))):=⟨_,_,_,R2,_,_,rfl,HOF.out,HONE.out.1,HRC5.out.keepD11 HKF.out,by rw [HONE.out.2.2]; exact HNM5.out.keepD11 HKF.out,by rw [HPL.out,HONE.out.2.1],HKP.out,by rw [HONE.out.2.1]; exact HOTH.out.1,by rw [HONE.out.2.1,HONE.out.2.2]; exact HOTH.out.2⟩
 have z0:=HRES.out.c0
 have z1:=HRES.out.c1
 go_wp2
 refine bodyPost_ret (v:=.tuple #[.agg #[.slice A2 n2 c2,.slice A3 n3 c3],.bool true]) ?_ rfl HPOST.out
 simp [results,Tryz.results24,go_sem,z0,z1]

set_option maxRecDepth 100000 in
theorem do11_6 (R:zL W11) (v vg:Value) (kd:Nat) (a b:ByteArray) (z:Bool) (w:World) (ho:zo w0 w D P M G A L S) (hg:zt A L S k) (hk:k≤90) (h5:vR w0) (hR:vQ 0 R w v) (hN:NmR w vg (zb S)) (hp:ze R=zc A L S) (ha:a.size≤50) (hb5:b.size≤50) (hkd:kd % 11=6) :
  Calls Tryz.prog 24 #[.pointer (some ⟨D,0,none⟩),.agg #[v,vg],.agg #[.int .u8 (kd:Int),.string a,.string b,.bool z]] w (uN w0 D P M G k w (zc A L S) kd a.data.toList b.data.toList z (zb S)):=by
 obtain ⟨f1,f2,f3,f4⟩:=yJ hg hp
 have HRF:Hid (∀ W',Below w.heap.size w W'→Calls Tryz.prog 74 #[.agg #[v,vg],.string a] W' (yx (uS S a.data.toList) (zc A L S) (jB (zb S) a.data.toList) W')):=fun W' hb=>by
  have hR:=hR.later hb
  have hN:=hN.later hb
  have h:=fN _ _ R _ a W' hR hN f3 (by omega)
  rw [hp] at h
  have e:=(show _=uS S a.data.toList from Fp (S:=S) _)
  rwa [e] at h
 have HDO:Hid (∀ W',zo w0 W' D P M G A L S→Calls Tryz.prog 75 #[.pointer (some ⟨D,0,none⟩),.string a] W' fun e w'=>e=.returned (.int .i64 (uS S a.data.toList))∧zE w0 W' D P M G (A) (L) (qu S a.data.toList) w'):=fun W' ho=>Zw a ho hg (by omega)
 have HONE:Hid (uM (A) (L) (qu S a.data.toList) (zc A L S) (jB (zb S) a.data.toList) (k+1)):=ma_one hg _
 have HRT:Hid (zA (zc A L S)):=zK hg.rise
 have HOTH:Hid (∀ T0 T',yE kd a.data.toList b.data.toList T0 T'):=fun T0 T' h6 h7=>absurd hkd (by assumption)
 have HDED:Hid (ZL kd a.data.toList b.data.toList z (zc A L S) (zb S) (zc A L S) (jB (zb S) a.data.toList)):=vy hkd rfl rfl
 have hrem:(kd:Int).tmod 11=6:=by
  have:(kd:Int).tmod 11=((kd % 11:Nat):Int):=rfl
  rw [this,hkd]; rfl
 have hzd:∀ w:World,(zeroValue zn).run Tryz.prog w=.ok (.agg #[.slice none 0 0,.slice none 0 0]) w:=fun w=>by kernel_rfl
 have HO:=za ho
 have HW0:Hid (w0.heap.size≤w.heap.size):=ho.below.size
 obtain ⟨A0,c,rfl⟩:=hR.rw.us.shape
 obtain ⟨A1,c1,rfl⟩:=hN.shape
 clear ho hg hR hN hp h5 f1 f2 f3 f4 hkd
 generalize R.length=n at *
 generalize (zb S).length=n1 at *
 generalize uS S a.data.toList=E at HRF HDO HONE HDED
 generalize qu S a.data.toList=S' at HRF HDO HONE HDED
 generalize jB (zb S) a.data.toList=N' at HRF HDO HONE HDED
 generalize hlx:zc A L S=lx at HRF HONE HDED
 have Hd1:=za (zr w (.slice A0 n c) (.slice A1 n1 c1))
 have HLO2:Hid (w.heap.size≤w.heap.size):=by show _≤_; omega
 have HB3:Hid (Below w.heap.size w (w.alloc (.cells #[.slice A0 n c,.slice A1 n1 c1] zn))):=z7 (Below.refl _ _) _
 have Hd4:=za (Hd1.out.later (z7 (Below.refl _ _) (.cells #[.int .u8 (kd:Int),.string a,.string b,.bool z] 61)))
 have Ha5:Hid (xW ((w.alloc (.cells #[.slice A0 n c,.slice A1 n1 c1] zn)).alloc (.cells #[.int .u8 (kd:Int),.string a,.string b,.bool z] 61)) (w.heap.size+1) (kd) (a) (b) (z)):=zi (by simp)
 have HLO6:Hid (w.heap.size≤w.heap.size+1):=by show _≤_; omega
 have HB7:=za (z8 HB3.out (z7 (Below.refl _ _) (.cells #[.int .u8 (kd:Int),.string a,.string b,.bool z] 61)))
 have Hd8:=za (Hd4.out.later (z7 (Below.refl _ _) (.cells #[.slice none 0 0,.slice none 0 0] zn)))
 have Ha9:=za (Ha5.out.later (z7 (Below.refl _ _) (.cells #[.slice none 0 0,.slice none 0 0] zn)))
 have Hr10:Hid (yv (((w.alloc (.cells #[.slice A0 n c,.slice A1 n1 c1] zn)).alloc (.cells #[.int .u8 (kd:Int),.string a,.string b,.bool z] 61)).alloc (.cells #[.slice none 0 0,.slice none 0 0] zn)) (w.heap.size+2) (.slice none 0 0) (.slice none 0 0)):=zi (by simp)
 have HLO11:Hid (w.heap.size≤w.heap.size+2):=by show _≤_; omega
 have HB12:=za (z8 HB7.out (z7 (Below.refl _ _) (.cells #[.slice none 0 0,.slice none 0 0] zn)))
 go_enter Tryz.func24,Tryz.ntmps24
 have ⟨kx14,ky15,kp16,kq17⟩:=Hd8.out.q11
 have ⟨kx19,ky20,kz21,kw22⟩:=Ha9.out.q11
 have ⟨kx24,ky25,kp26,kq27⟩:=Hr10.out.q11
 go_wp2_with fail
 generalize ((w.alloc (.cells #[.slice A0 n c,.slice A1 n1 c1] zn)).alloc (.cells #[.int .u8 (kd:Int),.string a,.string b,.bool z] 61)).alloc (.cells #[.slice none 0 0,.slice none 0 0] zn)=wg28 at *
 with_reducible refine (HRF.out wg28 HB12.out).mono ?_
 rintro e w2 ⟨R2,u1,u2,rfl,hrc,hpl,hnm,hb⟩
 clear kx14 ky15 kp16 kq17 kx19 ky20 kz21 kw22 kx24 ky25 kp26 kq27
 have Hd29:=za (Hd8.out.later hb)
 have Ha30:=za (Ha9.out.later hb)
 have Hr31:=za (Hr10.out.later hb)
 have HB32:=za (z8 HB12.out hb)
 obtain ⟨A2,c2,rfl⟩:=hrc.rw.us.shape
 obtain ⟨A3,c3,rfl⟩:=hnm.shape
 have HRC:=za hrc
 have HPL:=za hpl
 have HNM:=za hnm
 clear hrc hpl hnm HRF
 obtain ⟨n2,hn2⟩:∃ m,m=R2.length:=⟨_,rfl⟩
 obtain ⟨n3,hn3⟩:∃ m,m=List.length N':=⟨_,rfl⟩
 rw [← hn2] at HRC ⊢
 rw [← hn3] at HNM ⊢
 clear hn2 hn3
 clear hb
 have ⟨kx34,ky35,kp36,kq37⟩:=Hd29.out.q11
 have ⟨kx39,ky40,kz41,kw42⟩:=Ha30.out.q11
 have ⟨kx44,ky45,kp46,kq47⟩:=Hr31.out.q11
 have Hd48:=za (Hd29.out.set0 (.slice A2 n2 c2))
 have Ha49:=za (Ha30.out.other (c:=w.heap.size) (i:=0) (by omega) (.slice A2 n2 c2))
 have Hr50:=za (Hr31.out.other (c:=w.heap.size) (i:=0) (by omega) (.slice A2 n2 c2))
 have HB51:=za (HB32.out.setCell (p:=⟨w.heap.size,0,none⟩) HLO2.out (.slice A2 n2 c2))
 have ⟨kx53,ky54,kp55,kq56⟩:=Hd48.out.q11
 have ⟨kx58,ky59,kz60,kw61⟩:=Ha49.out.q11
 have ⟨kx63,ky64,kp65,kq66⟩:=Hr50.out.q11
 have Hd67:=za (Hd48.out.set1 (.slice A3 n3 c3))
 have Ha68:=za (Ha49.out.other (c:=w.heap.size) (i:=1) (by omega) (.slice A3 n3 c3))
 have Hr69:=za (Hr50.out.other (c:=w.heap.size) (i:=1) (by omega) (.slice A3 n3 c3))
 have HB70:=za (HB51.out.setCell (p:=⟨w.heap.size,1,none⟩) HLO2.out (.slice A3 n3 c3))
 have HKD:Hid (zR w2 ((w2.setCell ⟨w.heap.size,0,none⟩ (.slice A2 n2 c2)).setCell ⟨w.heap.size,1,none⟩ (.slice A3 n3 c3))):=(Hd29.out.keep 0 _).trans (Hd48.out.keep 1 _)
 have ⟨kx72,ky73,kp74,kq75⟩:=Hd67.out.q11
 have ⟨kx77,ky78,kz79,kw80⟩:=Ha68.out.q11
 have ⟨kx82,ky83,kp84,kq85⟩:=Hr69.out.q11
 go_wp2_with fail
 generalize (w2.setCell ⟨w.heap.size,0,none⟩ (.slice A2 n2 c2)).setCell ⟨w.heap.size,1,none⟩ (.slice A3 n3 c3)=wg86 at *
 with_reducible refine (HDO.out wg86 (HO.out.later HB70.out)).mono ?_
 rintro e w5 ⟨rfl,hgo⟩
 clear kx34 ky35 kp36 kq37 kx39 ky40 kz41 kw42 kx44 ky45 kp46 kq47 kx53 ky54 kp55 kq56 kx58 ky59 kz60 kw61 kx63 ky64 kp65 kq66 kx72 ky73 kp74 kq75 kx77 ky78 kz79 kw80 kx82 ky83 kp84 kq85
 have Hd87:Hid (yv (w5) (w.heap.size) (.slice A2 n2 c2) (.slice A3 n3 c3)):=Hd67.out.keeps11 hgo.2
 have Hr88:Hid (yv (w5) (w.heap.size+2) (.slice none 0 0) (.slice none 0 0)):=Hr69.out.keeps11 hgo.2
 have HRC5:Hid (vQ 0 R2 w5 (.slice A2 n2 c2)):=(HRC.out.keepD11 HKD.out).keeps hgo.2
 have HNM5:Hid (NmR w5 (.slice A3 n3 c3) N'):=(HNM.out.keepD11 HKD.out).keeps11 hgo.2
 have HK5:Hid (zu w w5):=(zu.of_below HB70.out).trans hgo.2
 have HO5:=za hgo.1
 clear hgo HDO HO HRC HNM HKD
 have ⟨kx90,ky91,kp92,kq93⟩:=Hd87.out.q11
 have ⟨kx95,ky96,kp97,kq98⟩:=Hr88.out.q11
 have HRES:Hid (yv ((w5.setCell ⟨w.heap.size+2,0,none⟩ (.slice A2 n2 c2)).setCell ⟨w.heap.size+2,1,none⟩ (.slice A3 n3 c3)) (w.heap.size+2) (.slice A2 n2 c2) (.slice A3 n3 c3)):=(Hr88.out.set0 _).set1 _
 have HKF:Hid (zR w5 ((w5.setCell ⟨w.heap.size+2,0,none⟩ (.slice A2 n2 c2)).setCell ⟨w.heap.size+2,1,none⟩ (.slice A3 n3 c3))):=(Hr88.out.keep 0 _).trans ((Hr88.out.set0 _).keep 1 _)
 have HOF:Hid (zo w0 ((w5.setCell ⟨w.heap.size+2,0,none⟩ (.slice A2 n2 c2)).setCell ⟨w.heap.size+2,1,none⟩ (.slice A3 n3 c3)) D P M G A L S'):=(HO5.out.cell11 Hr88.out (Nat.le_trans HW0.out (by omega)) _).cell11 (Hr88.out.set0 _) (Nat.le_trans HW0.out (by omega)) _
 have HKP:Hid (zu w ((w5.setCell ⟨w.heap.size+2,0,none⟩ (.slice A2 n2 c2)).setCell ⟨w.heap.size+2,1,none⟩ (.slice A3 n3 c3))):=(HK5.out.cellN11 (by omega) _).cellN11 (by omega) _
 have HPOST:Hid (uN w0 D P M G k w (lx) kd a.data.toList b.data.toList z (zb S) (.returned (.tuple #[.agg #[.slice A2 n2 c2,.slice A3 n3 c3],.bool true])) ((w5.setCell ⟨w.heap.size+2,0,none⟩ (.slice A2 n2 c2)).setCell ⟨w.heap.size+2,1,none⟩ (.slice A3 n3 c3))):=⟨_,_,_,R2,_,_,rfl,HOF.out,HONE.out.1,HRC5.out.keepD11 HKF.out,by rw [HONE.out.2.2]; exact HNM5.out.keepD11 HKF.out,by rw [HPL.out,HONE.out.2.1],HKP.out,HOTH.out _ _,by rw [HONE.out.2.1,HONE.out.2.2]; exact HDED.out⟩
 have z0:=HRES.out.c0
 have z1:=HRES.out.c1
 go_wp2
 refine bodyPost_ret (v:=.tuple #[.agg #[.slice A2 n2 c2,.slice A3 n3 c3],.bool true]) ?_ rfl HPOST.out
 simp [results,Tryz.results24,go_sem,z0,z1]

set_option maxRecDepth 100000 in
theorem do11_7 (R:zL W11) (v vg:Value) (kd:Nat) (a b:ByteArray) (z:Bool) (w:World) (ho:zo w0 w D P M G A L S) (hg:zt A L S k) (hk:k≤90) (h5:vR w0) (hR:vQ 0 R w v) (hN:NmR w vg (zb S)) (hp:ze R=zc A L S) (ha:a.size≤50) (hb5:b.size≤50) (hkd:kd % 11=7) :
  Calls Tryz.prog 24 #[.pointer (some ⟨D,0,none⟩),.agg #[v,vg],.agg #[.int .u8 (kd:Int),.string a,.string b,.bool z]] w (uN w0 D P M G k w (zc A L S) kd a.data.toList b.data.toList z (zb S)):=by
 obtain ⟨f1,f2,f3,f4⟩:=yJ hg hp
 have HRF:Hid (∀ W',Below w.heap.size w W'→Calls Tryz.prog 76 #[.agg #[v,vg],.string a] W' (yx (jY S a.data.toList) (fi (zc A L S) (zb S) a.data.toList) (jE (zb S) a.data.toList) W')):=fun W' hb=>by
  have hR:=hR.later hb
  have hN:=hN.later hb
  have h:=fT _ _ R _ a W' hR hN f1 f4 f3 (by omega)
  rw [hp] at h
  have e:=(show _=jY S a.data.toList from dr_same (S:=S) _)
  rwa [e] at h
 have HDO:Hid (∀ W',zo w0 W' D P M G A L S→Calls Tryz.prog 77 #[.pointer (some ⟨D,0,none⟩),.string a] W' fun e w'=>e=.returned (.int .i64 (jY S a.data.toList))∧zE w0 W' D P M G (A) (L) (jA S a.data.toList) w'):=fun W' ho=>qC a ho (by omega)
 have HONE:Hid (uM (A) (L) (jA S a.data.toList) (fi (zc A L S) (zb S) a.data.toList) (jE (zb S) a.data.toList) (k+1)):=dr_one hg _
 have HRT:Hid (zA (zc A L S)):=zK hg.rise
 have HOTH:Hid (∀ T0 T',yE kd a.data.toList b.data.toList T0 T'):=fun T0 T' h6 h7=>absurd hkd (by assumption)
 have HDED:Hid (ZL kd a.data.toList b.data.toList z (zc A L S) (zb S) (fi (zc A L S) (zb S) a.data.toList) (jE (zb S) a.data.toList)):=vy hkd rfl rfl
 have hrem:(kd:Int).tmod 11=7:=by
  have:(kd:Int).tmod 11=((kd % 11:Nat):Int):=rfl
  rw [this,hkd]; rfl
 have hzd:∀ w:World,(zeroValue zn).run Tryz.prog w=.ok (.agg #[.slice none 0 0,.slice none 0 0]) w:=fun w=>by kernel_rfl
 have HO:=za ho
 have HW0:Hid (w0.heap.size≤w.heap.size):=ho.below.size
 obtain ⟨A0,c,rfl⟩:=hR.rw.us.shape
 obtain ⟨A1,c1,rfl⟩:=hN.shape
 clear ho hg hR hN hp h5 f1 f2 f3 f4 hkd
 generalize R.length=n at *
 generalize (zb S).length=n1 at *
 generalize jY S a.data.toList=E at HRF HDO HONE HDED
 generalize jA S a.data.toList=S' at HRF HDO HONE HDED
 generalize fi (zc A L S) (zb S) a.data.toList=l' at HRF HDO HONE HDED
 generalize jE (zb S) a.data.toList=N' at HRF HDO HONE HDED
 have Hd1:=za (zr w (.slice A0 n c) (.slice A1 n1 c1))
 have HLO2:Hid (w.heap.size≤w.heap.size):=by show _≤_; omega
 have HB3:Hid (Below w.heap.size w (w.alloc (.cells #[.slice A0 n c,.slice A1 n1 c1] zn))):=z7 (Below.refl _ _) _
 have Hd4:=za (Hd1.out.later (z7 (Below.refl _ _) (.cells #[.int .u8 (kd:Int),.string a,.string b,.bool z] 61)))
 have Ha5:Hid (xW ((w.alloc (.cells #[.slice A0 n c,.slice A1 n1 c1] zn)).alloc (.cells #[.int .u8 (kd:Int),.string a,.string b,.bool z] 61)) (w.heap.size+1) (kd) (a) (b) (z)):=zi (by simp)
 have HLO6:Hid (w.heap.size≤w.heap.size+1):=by show _≤_; omega
 have HB7:=za (z8 HB3.out (z7 (Below.refl _ _) (.cells #[.int .u8 (kd:Int),.string a,.string b,.bool z] 61)))
 have Hd8:=za (Hd4.out.later (z7 (Below.refl _ _) (.cells #[.slice none 0 0,.slice none 0 0] zn)))
 have Ha9:=za (Ha5.out.later (z7 (Below.refl _ _) (.cells #[.slice none 0 0,.slice none 0 0] zn)))
 have Hr10:Hid (yv (((w.alloc (.cells #[.slice A0 n c,.slice A1 n1 c1] zn)).alloc (.cells #[.int .u8 (kd:Int),.string a,.string b,.bool z] 61)).alloc (.cells #[.slice none 0 0,.slice none 0 0] zn)) (w.heap.size+2) (.slice none 0 0) (.slice none 0 0)):=zi (by simp)
 have HLO11:Hid (w.heap.size≤w.heap.size+2):=by show _≤_; omega
 have HB12:=za (z8 HB7.out (z7 (Below.refl _ _) (.cells #[.slice none 0 0,.slice none 0 0] zn)))
 go_enter Tryz.func24,Tryz.ntmps24
 have ⟨kx14,ky15,kp16,kq17⟩:=Hd8.out.q11
 have ⟨kx19,ky20,kz21,kw22⟩:=Ha9.out.q11
 have ⟨kx24,ky25,kp26,kq27⟩:=Hr10.out.q11
 go_wp2_with fail
 generalize ((w.alloc (.cells #[.slice A0 n c,.slice A1 n1 c1] zn)).alloc (.cells #[.int .u8 (kd:Int),.string a,.string b,.bool z] 61)).alloc (.cells #[.slice none 0 0,.slice none 0 0] zn)=wg28 at *
 with_reducible refine (HRF.out wg28 HB12.out).mono ?_
 rintro e w2 ⟨R2,u1,u2,rfl,hrc,hpl,hnm,hb⟩
 clear kx14 ky15 kp16 kq17 kx19 ky20 kz21 kw22 kx24 ky25 kp26 kq27
 have Hd29:=za (Hd8.out.later hb)
 have Ha30:=za (Ha9.out.later hb)
 have Hr31:=za (Hr10.out.later hb)
 have HB32:=za (z8 HB12.out hb)
 obtain ⟨A2,c2,rfl⟩:=hrc.rw.us.shape
 obtain ⟨A3,c3,rfl⟩:=hnm.shape
 have HRC:=za hrc
 have HPL:=za hpl
 have HNM:=za hnm
 clear hrc hpl hnm HRF
 obtain ⟨n2,hn2⟩:∃ m,m=R2.length:=⟨_,rfl⟩
 obtain ⟨n3,hn3⟩:∃ m,m=List.length N':=⟨_,rfl⟩
 rw [← hn2] at HRC ⊢
 rw [← hn3] at HNM ⊢
 clear hn2 hn3
 clear hb
 have ⟨kx34,ky35,kp36,kq37⟩:=Hd29.out.q11
 have ⟨kx39,ky40,kz41,kw42⟩:=Ha30.out.q11
 have ⟨kx44,ky45,kp46,kq47⟩:=Hr31.out.q11
 have Hd48:=za (Hd29.out.set0 (.slice A2 n2 c2))
 have Ha49:=za (Ha30.out.other (c:=w.heap.size) (i:=0) (by omega) (.slice A2 n2 c2))
 have Hr50:=za (Hr31.out.other (c:=w.heap.size) (i:=0) (by omega) (.slice A2 n2 c2))
 have HB51:=za (HB32.out.setCell (p:=⟨w.heap.size,0,none⟩) HLO2.out (.slice A2 n2 c2))
 have ⟨kx53,ky54,kp55,kq56⟩:=Hd48.out.q11
 have ⟨kx58,ky59,kz60,kw61⟩:=Ha49.out.q11
 have ⟨kx63,ky64,kp65,kq66⟩:=Hr50.out.q11
 have Hd67:=za (Hd48.out.set1 (.slice A3 n3 c3))
 have Ha68:=za (Ha49.out.other (c:=w.heap.size) (i:=1) (by omega) (.slice A3 n3 c3))
 have Hr69:=za (Hr50.out.other (c:=w.heap.size) (i:=1) (by omega) (.slice A3 n3 c3))
 have HB70:=za (HB51.out.setCell (p:=⟨w.heap.size,1,none⟩) HLO2.out (.slice A3 n3 c3))
 have HKD:Hid (zR w2 ((w2.setCell ⟨w.heap.size,0,none⟩ (.slice A2 n2 c2)).setCell ⟨w.heap.size,1,none⟩ (.slice A3 n3 c3))):=(Hd29.out.keep 0 _).trans (Hd48.out.keep 1 _)
 have ⟨kx72,ky73,kp74,kq75⟩:=Hd67.out.q11
 have ⟨kx77,ky78,kz79,kw80⟩:=Ha68.out.q11
 have ⟨kx82,ky83,kp84,kq85⟩:=Hr69.out.q11
 go_wp2_with fail
 generalize (w2.setCell ⟨w.heap.size,0,none⟩ (.slice A2 n2 c2)).setCell ⟨w.heap.size,1,none⟩ (.slice A3 n3 c3)=wg86 at *
 with_reducible refine (HDO.out wg86 (HO.out.later HB70.out)).mono ?_
 rintro e w5 ⟨rfl,hgo⟩
 clear kx34 ky35 kp36 kq37 kx39 ky40 kz41 kw42 kx44 ky45 kp46 kq47 kx53 ky54 kp55 kq56 kx58 ky59 kz60 kw61 kx63 ky64 kp65 kq66 kx72 ky73 kp74 kq75 kx77 ky78 kz79 kw80 kx82 ky83 kp84 kq85
 have Hd87:Hid (yv (w5) (w.heap.size) (.slice A2 n2 c2) (.slice A3 n3 c3)):=Hd67.out.keeps11 hgo.2
 have Hr88:Hid (yv (w5) (w.heap.size+2) (.slice none 0 0) (.slice none 0 0)):=Hr69.out.keeps11 hgo.2
 have HRC5:Hid (vQ 0 R2 w5 (.slice A2 n2 c2)):=(HRC.out.keepD11 HKD.out).keeps hgo.2
 have HNM5:Hid (NmR w5 (.slice A3 n3 c3) N'):=(HNM.out.keepD11 HKD.out).keeps11 hgo.2
 have HK5:Hid (zu w w5):=(zu.of_below HB70.out).trans hgo.2
 have HO5:=za hgo.1
 clear hgo HDO HO HRC HNM HKD
 have ⟨kx90,ky91,kp92,kq93⟩:=Hd87.out.q11
 have ⟨kx95,ky96,kp97,kq98⟩:=Hr88.out.q11
 have HRES:Hid (yv ((w5.setCell ⟨w.heap.size+2,0,none⟩ (.slice A2 n2 c2)).setCell ⟨w.heap.size+2,1,none⟩ (.slice A3 n3 c3)) (w.heap.size+2) (.slice A2 n2 c2) (.slice A3 n3 c3)):=(Hr88.out.set0 _).set1 _
 have HKF:Hid (zR w5 ((w5.setCell ⟨w.heap.size+2,0,none⟩ (.slice A2 n2 c2)).setCell ⟨w.heap.size+2,1,none⟩ (.slice A3 n3 c3))):=(Hr88.out.keep 0 _).trans ((Hr88.out.set0 _).keep 1 _)
 have HOF:Hid (zo w0 ((w5.setCell ⟨w.heap.size+2,0,none⟩ (.slice A2 n2 c2)).setCell ⟨w.heap.size+2,1,none⟩ (.slice A3 n3 c3)) D P M G A L S'):=(HO5.out.cell11 Hr88.out (Nat.le_trans HW0.out (by omega)) _).cell11 (Hr88.out.set0 _) (Nat.le_trans HW0.out (by omega)) _
 have HKP:Hid (zu w ((w5.setCell ⟨w.heap.size+2,0,none⟩ (.slice A2 n2 c2)).setCell ⟨w.heap.size+2,1,none⟩ (.slice A3 n3 c3))):=(HK5.out.cellN11 (by omega) _).cellN11 (by omega) _
 have HPOST:Hid (uN w0 D P M G k w (zc A L S) kd a.data.toList b.data.toList z (zb S) (.returned (.tuple #[.agg #[.slice A2 n2 c2,.slice A3 n3 c3],.bool true])) ((w5.setCell ⟨w.heap.size+2,0,none⟩ (.slice A2 n2 c2)).setCell ⟨w.heap.size+2,1,none⟩ (.slice A3 n3 c3))):=⟨_,_,_,R2,_,_,rfl,HOF.out,HONE.out.1,HRC5.out.keepD11 HKF.out,by rw [HONE.out.2.2]; exact HNM5.out.keepD11 HKF.out,by rw [HPL.out,HONE.out.2.1],HKP.out,HOTH.out _ _,by rw [HONE.out.2.1,HONE.out.2.2]; exact HDED.out⟩
 have z0:=HRES.out.c0
 have z1:=HRES.out.c1
 go_wp2
 refine bodyPost_ret (v:=.tuple #[.agg #[.slice A2 n2 c2,.slice A3 n3 c3],.bool true]) ?_ rfl HPOST.out
 simp [results,Tryz.results24,go_sem,z0,z1]

set_option maxRecDepth 100000 in
theorem do11_8 (R:zL W11) (v vg:Value) (kd:Nat) (a b:ByteArray) (z:Bool) (w:World) (ho:zo w0 w D P M G A L S) (hg:zt A L S k) (hk:k≤90) (h5:vR w0) (hR:vQ 0 R w v) (hN:NmR w vg (zb S)) (hp:ze R=zc A L S) (ha:a.size≤50) (hb5:b.size≤50) (hkd:kd % 11=8) :
  Calls Tryz.prog 24 #[.pointer (some ⟨D,0,none⟩),.agg #[v,vg],.agg #[.int .u8 (kd:Int),.string a,.string b,.bool z]] w (uN w0 D P M G k w (zc A L S) kd a.data.toList b.data.toList z (zb S)):=by
 obtain ⟨f1,f2,f3,f4⟩:=yJ hg hp
 have HRF:Hid (∀ W',Below w.heap.size w W'→Calls Tryz.prog 78 #[.agg #[v,vg],.string a,.string b] W' (yx (ZC A S a.data.toList b.data.toList) (qE (zc A L S) (zb S) a.data.toList b.data.toList) (zb S) W')):=fun W' hb=>by
  have hR:=hR.later hb
  have hN:=hN.later hb
  have h:=Uh _ _ R _ a b W' hR hN f1 f2 f3 f4 (by omega) (by omega)
  rw [hp] at h
  have e:=(show _=ZC A S a.data.toList b.data.toList from jo_same hg _ _)
  rwa [e] at h
 have HDO:Hid (∀ W',zo w0 W' D P M G A L S→Calls Tryz.prog 79 #[.pointer (some ⟨D,0,none⟩),.string a,.string b] W' fun e w'=>e=.returned (.int .i64 (ZC A S a.data.toList b.data.toList))∧zE w0 W' D P M G (A) (L) (UE A S a.data.toList b.data.toList) w'):=fun W' ho=>QW a b ho hg (by omega) (by omega) (by omega)
 have HONE:Hid (uM (A) (L) (UE A S a.data.toList b.data.toList) (qE (zc A L S) (zb S) a.data.toList b.data.toList) (zb S) (k+1)):=jo_one hg _ _
 have HRT:Hid (zA (zc A L S)):=zK hg.rise
 have HOTH:Hid (yE kd a.data.toList b.data.toList (zc A L S) (qE (zc A L S) (zb S) a.data.toList b.data.toList)∧ZL kd a.data.toList b.data.toList z (zc A L S) (zb S) (qE (zc A L S) (zb S) a.data.toList b.data.toList) (zb S)):=⟨oth_jo HRT.out _ hkd,vy hkd rfl rfl⟩
 have hrem:(kd:Int).tmod 11=8:=by
  have:(kd:Int).tmod 11=((kd % 11:Nat):Int):=rfl
  rw [this,hkd]; rfl
 have hzd:∀ w:World,(zeroValue zn).run Tryz.prog w=.ok (.agg #[.slice none 0 0,.slice none 0 0]) w:=fun w=>by kernel_rfl
 have HO:=za ho
 have HW0:Hid (w0.heap.size≤w.heap.size):=ho.below.size
 obtain ⟨A0,c,rfl⟩:=hR.rw.us.shape
 obtain ⟨A1,c1,rfl⟩:=hN.shape
 clear ho hg hR hN hp h5 f1 f2 f3 f4 hkd
 generalize R.length=n at *
 generalize (zb S).length=n1 at *
 generalize ZC A S a.data.toList b.data.toList=E at HRF HDO HONE HOTH
 generalize UE A S a.data.toList b.data.toList=S' at HRF HDO HONE HOTH
 generalize qE (zc A L S) (zb S) a.data.toList b.data.toList=l' at HRF HDO HONE HOTH
 generalize hnx:zb S=nx at HRF HONE HOTH
 have Hd1:=za (zr w (.slice A0 n c) (.slice A1 n1 c1))
 have HLO2:Hid (w.heap.size≤w.heap.size):=by show _≤_; omega
 have HB3:Hid (Below w.heap.size w (w.alloc (.cells #[.slice A0 n c,.slice A1 n1 c1] zn))):=z7 (Below.refl _ _) _
 have Hd4:=za (Hd1.out.later (z7 (Below.refl _ _) (.cells #[.int .u8 (kd:Int),.string a,.string b,.bool z] 61)))
 have Ha5:Hid (xW ((w.alloc (.cells #[.slice A0 n c,.slice A1 n1 c1] zn)).alloc (.cells #[.int .u8 (kd:Int),.string a,.string b,.bool z] 61)) (w.heap.size+1) (kd) (a) (b) (z)):=zi (by simp)
 have HLO6:Hid (w.heap.size≤w.heap.size+1):=by show _≤_; omega
 have HB7:=za (z8 HB3.out (z7 (Below.refl _ _) (.cells #[.int .u8 (kd:Int),.string a,.string b,.bool z] 61)))
 have Hd8:=za (Hd4.out.later (z7 (Below.refl _ _) (.cells #[.slice none 0 0,.slice none 0 0] zn)))
 have Ha9:=za (Ha5.out.later (z7 (Below.refl _ _) (.cells #[.slice none 0 0,.slice none 0 0] zn)))
 have Hr10:Hid (yv (((w.alloc (.cells #[.slice A0 n c,.slice A1 n1 c1] zn)).alloc (.cells #[.int .u8 (kd:Int),.string a,.string b,.bool z] 61)).alloc (.cells #[.slice none 0 0,.slice none 0 0] zn)) (w.heap.size+2) (.slice none 0 0) (.slice none 0 0)):=zi (by simp)
 have HLO11:Hid (w.heap.size≤w.heap.size+2):=by show _≤_; omega
 have HB12:=za (z8 HB7.out (z7 (Below.refl _ _) (.cells #[.slice none 0 0,.slice none 0 0] zn)))
 go_enter Tryz.func24,Tryz.ntmps24
 have ⟨kx14,ky15,kp16,kq17⟩:=Hd8.out.q11
 have ⟨kx19,ky20,kz21,kw22⟩:=Ha9.out.q11
 have ⟨kx24,ky25,kp26,kq27⟩:=Hr10.out.q11
 go_wp2_with fail
 generalize ((w.alloc (.cells #[.slice A0 n c,.slice A1 n1 c1] zn)).alloc (.cells #[.int .u8 (kd:Int),.string a,.string b,.bool z] 61)).alloc (.cells #[.slice none 0 0,.slice none 0 0] zn)=wg28 at *
 with_reducible refine (HRF.out wg28 HB12.out).mono ?_
 rintro e w2 ⟨R2,u1,u2,rfl,hrc,hpl,hnm,hb⟩
 clear kx14 ky15 kp16 kq17 kx19 ky20 kz21 kw22 kx24 ky25 kp26 kq27
 have Hd29:=za (Hd8.out.later hb)
 have Ha30:=za (Ha9.out.later hb)
 have Hr31:=za (Hr10.out.later hb)
 have HB32:=za (z8 HB12.out hb)
 obtain ⟨A2,c2,rfl⟩:=hrc.rw.us.shape
 obtain ⟨A3,c3,rfl⟩:=hnm.shape
 have HRC:=za hrc
 have HPL:=za hpl
 have HNM:=za hnm
 clear hrc hpl hnm HRF
 obtain ⟨n2,hn2⟩:∃ m,m=R2.length:=⟨_,rfl⟩
 obtain ⟨n3,hn3⟩:∃ m,m=List.length nx:=⟨_,rfl⟩
 rw [← hn2] at HRC ⊢
 rw [← hn3] at HNM ⊢
 clear hn2 hn3
 clear hb
 have ⟨kx34,ky35,kp36,kq37⟩:=Hd29.out.q11
 have ⟨kx39,ky40,kz41,kw42⟩:=Ha30.out.q11
 have ⟨kx44,ky45,kp46,kq47⟩:=Hr31.out.q11
 have Hd48:=za (Hd29.out.set0 (.slice A2 n2 c2))
 have Ha49:=za (Ha30.out.other (c:=w.heap.size) (i:=0) (by omega) (.slice A2 n2 c2))
 have Hr50:=za (Hr31.out.other (c:=w.heap.size) (i:=0) (by omega) (.slice A2 n2 c2))
 have HB51:=za (HB32.out.setCell (p:=⟨w.heap.size,0,none⟩) HLO2.out (.slice A2 n2 c2))
 have ⟨kx53,ky54,kp55,kq56⟩:=Hd48.out.q11
 have ⟨kx58,ky59,kz60,kw61⟩:=Ha49.out.q11
 have ⟨kx63,ky64,kp65,kq66⟩:=Hr50.out.q11
 have Hd67:=za (Hd48.out.set1 (.slice A3 n3 c3))
 have Ha68:=za (Ha49.out.other (c:=w.heap.size) (i:=1) (by omega) (.slice A3 n3 c3))
 have Hr69:=za (Hr50.out.other (c:=w.heap.size) (i:=1) (by omega) (.slice A3 n3 c3))
 have HB70:=za (HB51.out.setCell (p:=⟨w.heap.size,1,none⟩) HLO2.out (.slice A3 n3 c3))
 have HKD:Hid (zR w2 ((w2.setCell ⟨w.heap.size,0,none⟩ (.slice A2 n2 c2)).setCell ⟨w.heap.size,1,none⟩ (.slice A3 n3 c3))):=(Hd29.out.keep 0 _).trans (Hd48.out.keep 1 _)
 have ⟨kx72,ky73,kp74,kq75⟩:=Hd67.out.q11
 have ⟨kx77,ky78,kz79,kw80⟩:=Ha68.out.q11
 have ⟨kx82,ky83,kp84,kq85⟩:=Hr69.out.q11
 go_wp2_with fail
 generalize (w2.setCell ⟨w.heap.size,0,none⟩ (.slice A2 n2 c2)).setCell ⟨w.heap.size,1,none⟩ (.slice A3 n3 c3)=wg86 at *
 with_reducible refine (HDO.out wg86 (HO.out.later HB70.out)).mono ?_
 rintro e w5 ⟨rfl,hgo⟩
 clear kx34 ky35 kp36 kq37 kx39 ky40 kz41 kw42 kx44 ky45 kp46 kq47 kx53 ky54 kp55 kq56 kx58 ky59 kz60 kw61 kx63 ky64 kp65 kq66 kx72 ky73 kp74 kq75 kx77 ky78 kz79 kw80 kx82 ky83 kp84 kq85
 have Hd87:Hid (yv (w5) (w.heap.size) (.slice A2 n2 c2) (.slice A3 n3 c3)):=Hd67.out.keeps11 hgo.2
 have Hr88:Hid (yv (w5) (w.heap.size+2) (.slice none 0 0) (.slice none 0 0)):=Hr69.out.keeps11 hgo.2
 have HRC5:Hid (vQ 0 R2 w5 (.slice A2 n2 c2)):=(HRC.out.keepD11 HKD.out).keeps hgo.2
 have HNM5:Hid (NmR w5 (.slice A3 n3 c3) nx):=(HNM.out.keepD11 HKD.out).keeps11 hgo.2
 have HK5:Hid (zu w w5):=(zu.of_below HB70.out).trans hgo.2
 have HO5:=za hgo.1
 clear hgo HDO HO HRC HNM HKD
 have ⟨kx90,ky91,kp92,kq93⟩:=Hd87.out.q11
 have ⟨kx95,ky96,kp97,kq98⟩:=Hr88.out.q11
 have HRES:Hid (yv ((w5.setCell ⟨w.heap.size+2,0,none⟩ (.slice A2 n2 c2)).setCell ⟨w.heap.size+2,1,none⟩ (.slice A3 n3 c3)) (w.heap.size+2) (.slice A2 n2 c2) (.slice A3 n3 c3)):=(Hr88.out.set0 _).set1 _
 have HKF:Hid (zR w5 ((w5.setCell ⟨w.heap.size+2,0,none⟩ (.slice A2 n2 c2)).setCell ⟨w.heap.size+2,1,none⟩ (.slice A3 n3 c3))):=(Hr88.out.keep 0 _).trans ((Hr88.out.set0 _).keep 1 _)
 have HOF:Hid (zo w0 ((w5.setCell ⟨w.heap.size+2,0,none⟩ (.slice A2 n2 c2)).setCell ⟨w.heap.size+2,1,none⟩ (.slice A3 n3 c3)) D P M G A L S'):=(HO5.out.cell11 Hr88.out (Nat.le_trans HW0.out (by omega)) _).cell11 (Hr88.out.set0 _) (Nat.le_trans HW0.out (by omega)) _
 have HKP:Hid (zu w ((w5.setCell ⟨w.heap.size+2,0,none⟩ (.slice A2 n2 c2)).setCell ⟨w.heap.size+2,1,none⟩ (.slice A3 n3 c3))):=(HK5.out.cellN11 (by omega) _).cellN11 (by omega) _
 have HPOST:Hid (uN w0 D P M G k w (zc A L S) kd a.data.toList b.data.toList z nx (.returned (.tuple #[.agg #[.slice A2 n2 c2,.slice A3 n3 c3],.bool true])) ((w5.setCell ⟨w.heap.size+2,0,none⟩ (.slice A2 n2 c2)).setCell ⟨w.heap.size+2,1,none⟩ (.slice A3 n3 c3))):=⟨_,_,_,R2,_,_,rfl,HOF.out,HONE.out.1,HRC5.out.keepD11 HKF.out,by rw [HONE.out.2.2]; exact HNM5.out.keepD11 HKF.out,by rw [HPL.out,HONE.out.2.1],HKP.out,by rw [HONE.out.2.1]; exact HOTH.out.1,by rw [HONE.out.2.1,HONE.out.2.2]; exact HOTH.out.2⟩
 have z0:=HRES.out.c0
 have z1:=HRES.out.c1
 go_wp2
 refine bodyPost_ret (v:=.tuple #[.agg #[.slice A2 n2 c2,.slice A3 n3 c3],.bool true]) ?_ rfl HPOST.out
 simp [results,Tryz.results24,go_sem,z0,z1]

set_option maxRecDepth 100000 in
theorem do11_9 (R:zL W11) (v vg:Value) (kd:Nat) (a b:ByteArray) (z:Bool) (w:World) (ho:zo w0 w D P M G A L S) (hg:zt A L S k) (hk:k≤90) (h5:vR w0) (hR:vQ 0 R w v) (hN:NmR w vg (zb S)) (hp:ze R=zc A L S) (ha:a.size≤50) (hb5:b.size≤50) (hkd:kd % 11=9) :
  Calls Tryz.prog 24 #[.pointer (some ⟨D,0,none⟩),.agg #[v,vg],.agg #[.int .u8 (kd:Int),.string a,.string b,.bool z]] w (uN w0 D P M G k w (zc A L S) kd a.data.toList b.data.toList z (zb S)):=by
 obtain ⟨f1,f2,f3,f4⟩:=yJ hg hp
 have HRF:Hid (∀ W',Below w.heap.size w W'→Calls Tryz.prog 80 #[.agg #[v,vg],.string a,.string b] W' (yx (ZA A S a.data.toList b.data.toList) (qD (zc A L S) (zb S) a.data.toList b.data.toList) (zb S) W')):=fun W' hb=>by
  have hR:=hR.later hb
  have hN:=hN.later hb
  have h:=V0 _ _ R _ a b W' hR hN f1 f2 f3 f4 (by omega) (by omega)
  rw [hp] at h
  have e:=(show _=ZA A S a.data.toList b.data.toList from le_same hg _ _)
  rwa [e] at h
 have HDO:Hid (∀ W',zo w0 W' D P M G A L S→Calls Tryz.prog 81 #[.pointer (some ⟨D,0,none⟩),.string a,.string b] W' fun e w'=>e=.returned (.int .i64 (ZA A S a.data.toList b.data.toList))∧zE w0 W' D P M G (A) (L) (UC A S a.data.toList b.data.toList) w'):=fun W' ho=>UA a b ho (by omega) (by omega)
 have HONE:Hid (uM (A) (L) (UC A S a.data.toList b.data.toList) (qD (zc A L S) (zb S) a.data.toList b.data.toList) (zb S) (k+1)):=le_one hg _ _
 have HRT:Hid (zA (zc A L S)):=zK hg.rise
 have HOTH:Hid (yE kd a.data.toList b.data.toList (zc A L S) (qD (zc A L S) (zb S) a.data.toList b.data.toList)∧ZL kd a.data.toList b.data.toList z (zc A L S) (zb S) (qD (zc A L S) (zb S) a.data.toList b.data.toList) (zb S)):=⟨oth_le HRT.out _ hkd,vy hkd rfl rfl⟩
 have hrem:(kd:Int).tmod 11=9:=by
  have:(kd:Int).tmod 11=((kd % 11:Nat):Int):=rfl
  rw [this,hkd]; rfl
 have hzd:∀ w:World,(zeroValue zn).run Tryz.prog w=.ok (.agg #[.slice none 0 0,.slice none 0 0]) w:=fun w=>by kernel_rfl
 have HO:=za ho
 have HW0:Hid (w0.heap.size≤w.heap.size):=ho.below.size
 obtain ⟨A0,c,rfl⟩:=hR.rw.us.shape
 obtain ⟨A1,c1,rfl⟩:=hN.shape
 clear ho hg hR hN hp h5 f1 f2 f3 f4 hkd
 generalize R.length=n at *
 generalize (zb S).length=n1 at *
 generalize ZA A S a.data.toList b.data.toList=E at HRF HDO HONE HOTH
 generalize UC A S a.data.toList b.data.toList=S' at HRF HDO HONE HOTH
 generalize qD (zc A L S) (zb S) a.data.toList b.data.toList=l' at HRF HDO HONE HOTH
 generalize hnx:zb S=nx at HRF HONE HOTH
 have Hd1:=za (zr w (.slice A0 n c) (.slice A1 n1 c1))
 have HLO2:Hid (w.heap.size≤w.heap.size):=by show _≤_; omega
 have HB3:Hid (Below w.heap.size w (w.alloc (.cells #[.slice A0 n c,.slice A1 n1 c1] zn))):=z7 (Below.refl _ _) _
 have Hd4:=za (Hd1.out.later (z7 (Below.refl _ _) (.cells #[.int .u8 (kd:Int),.string a,.string b,.bool z] 61)))
 have Ha5:Hid (xW ((w.alloc (.cells #[.slice A0 n c,.slice A1 n1 c1] zn)).alloc (.cells #[.int .u8 (kd:Int),.string a,.string b,.bool z] 61)) (w.heap.size+1) (kd) (a) (b) (z)):=zi (by simp)
 have HLO6:Hid (w.heap.size≤w.heap.size+1):=by show _≤_; omega
 have HB7:=za (z8 HB3.out (z7 (Below.refl _ _) (.cells #[.int .u8 (kd:Int),.string a,.string b,.bool z] 61)))
 have Hd8:=za (Hd4.out.later (z7 (Below.refl _ _) (.cells #[.slice none 0 0,.slice none 0 0] zn)))
 have Ha9:=za (Ha5.out.later (z7 (Below.refl _ _) (.cells #[.slice none 0 0,.slice none 0 0] zn)))
 have Hr10:Hid (yv (((w.alloc (.cells #[.slice A0 n c,.slice A1 n1 c1] zn)).alloc (.cells #[.int .u8 (kd:Int),.string a,.string b,.bool z] 61)).alloc (.cells #[.slice none 0 0,.slice none 0 0] zn)) (w.heap.size+2) (.slice none 0 0) (.slice none 0 0)):=zi (by simp)
 have HLO11:Hid (w.heap.size≤w.heap.size+2):=by show _≤_; omega
 have HB12:=za (z8 HB7.out (z7 (Below.refl _ _) (.cells #[.slice none 0 0,.slice none 0 0] zn)))
 go_enter Tryz.func24,Tryz.ntmps24
 have ⟨kx14,ky15,kp16,kq17⟩:=Hd8.out.q11
 have ⟨kx19,ky20,kz21,kw22⟩:=Ha9.out.q11
 have ⟨kx24,ky25,kp26,kq27⟩:=Hr10.out.q11
 go_wp2_with fail
 generalize ((w.alloc (.cells #[.slice A0 n c,.slice A1 n1 c1] zn)).alloc (.cells #[.int .u8 (kd:Int),.string a,.string b,.bool z] 61)).alloc (.cells #[.slice none 0 0,.slice none 0 0] zn)=wg28 at *
 with_reducible refine (HRF.out wg28 HB12.out).mono ?_
 rintro e w2 ⟨R2,u1,u2,rfl,hrc,hpl,hnm,hb⟩
 clear kx14 ky15 kp16 kq17 kx19 ky20 kz21 kw22 kx24 ky25 kp26 kq27
 have Hd29:=za (Hd8.out.later hb)
 have Ha30:=za (Ha9.out.later hb)
 have Hr31:=za (Hr10.out.later hb)
 have HB32:=za (z8 HB12.out hb)
 obtain ⟨A2,c2,rfl⟩:=hrc.rw.us.shape
 obtain ⟨A3,c3,rfl⟩:=hnm.shape
 have HRC:=za hrc
 have HPL:=za hpl
 have HNM:=za hnm
 clear hrc hpl hnm HRF
 obtain ⟨n2,hn2⟩:∃ m,m=R2.length:=⟨_,rfl⟩
 obtain ⟨n3,hn3⟩:∃ m,m=List.length nx:=⟨_,rfl⟩
 rw [← hn2] at HRC ⊢
 rw [← hn3] at HNM ⊢
 clear hn2 hn3
 clear hb
 have ⟨kx34,ky35,kp36,kq37⟩:=Hd29.out.q11
 have ⟨kx39,ky40,kz41,kw42⟩:=Ha30.out.q11
 have ⟨kx44,ky45,kp46,kq47⟩:=Hr31.out.q11
 have Hd48:=za (Hd29.out.set0 (.slice A2 n2 c2))
 have Ha49:=za (Ha30.out.other (c:=w.heap.size) (i:=0) (by omega) (.slice A2 n2 c2))
 have Hr50:=za (Hr31.out.other (c:=w.heap.size) (i:=0) (by omega) (.slice A2 n2 c2))
 have HB51:=za (HB32.out.setCell (p:=⟨w.heap.size,0,none⟩) HLO2.out (.slice A2 n2 c2))
 have ⟨kx53,ky54,kp55,kq56⟩:=Hd48.out.q11
 have ⟨kx58,ky59,kz60,kw61⟩:=Ha49.out.q11
 have ⟨kx63,ky64,kp65,kq66⟩:=Hr50.out.q11
 have Hd67:=za (Hd48.out.set1 (.slice A3 n3 c3))
 have Ha68:=za (Ha49.out.other (c:=w.heap.size) (i:=1) (by omega) (.slice A3 n3 c3))
 have Hr69:=za (Hr50.out.other (c:=w.heap.size) (i:=1) (by omega) (.slice A3 n3 c3))
 have HB70:=za (HB51.out.setCell (p:=⟨w.heap.size,1,none⟩) HLO2.out (.slice A3 n3 c3))
 have HKD:Hid (zR w2 ((w2.setCell ⟨w.heap.size,0,none⟩ (.slice A2 n2 c2)).setCell ⟨w.heap.size,1,none⟩ (.slice A3 n3 c3))):=(Hd29.out.keep 0 _).trans (Hd48.out.keep 1 _)
 have ⟨kx72,ky73,kp74,kq75⟩:=Hd67.out.q11
 have ⟨kx77,ky78,kz79,kw80⟩:=Ha68.out.q11
 have ⟨kx82,ky83,kp84,kq85⟩:=Hr69.out.q11
 go_wp2_with fail
 generalize (w2.setCell ⟨w.heap.size,0,none⟩ (.slice A2 n2 c2)).setCell ⟨w.heap.size,1,none⟩ (.slice A3 n3 c3)=wg86 at *
 with_reducible refine (HDO.out wg86 (HO.out.later HB70.out)).mono ?_
 rintro e w5 ⟨rfl,hgo⟩
 clear kx34 ky35 kp36 kq37 kx39 ky40 kz41 kw42 kx44 ky45 kp46 kq47 kx53 ky54 kp55 kq56 kx58 ky59 kz60 kw61 kx63 ky64 kp65 kq66 kx72 ky73 kp74 kq75 kx77 ky78 kz79 kw80 kx82 ky83 kp84 kq85
 have Hd87:Hid (yv (w5) (w.heap.size) (.slice A2 n2 c2) (.slice A3 n3 c3)):=Hd67.out.keeps11 hgo.2
 have Hr88:Hid (yv (w5) (w.heap.size+2) (.slice none 0 0) (.slice none 0 0)):=Hr69.out.keeps11 hgo.2
 have HRC5:Hid (vQ 0 R2 w5 (.slice A2 n2 c2)):=(HRC.out.keepD11 HKD.out).keeps hgo.2
 have HNM5:Hid (NmR w5 (.slice A3 n3 c3) nx):=(HNM.out.keepD11 HKD.out).keeps11 hgo.2
 have HK5:Hid (zu w w5):=(zu.of_below HB70.out).trans hgo.2
 have HO5:=za hgo.1
 clear hgo HDO HO HRC HNM HKD
 have ⟨kx90,ky91,kp92,kq93⟩:=Hd87.out.q11
 have ⟨kx95,ky96,kp97,kq98⟩:=Hr88.out.q11
 have HRES:Hid (yv ((w5.setCell ⟨w.heap.size+2,0,none⟩ (.slice A2 n2 c2)).setCell ⟨w.heap.size+2,1,none⟩ (.slice A3 n3 c3)) (w.heap.size+2) (.slice A2 n2 c2) (.slice A3 n3 c3)):=(Hr88.out.set0 _).set1 _
 have HKF:Hid (zR w5 ((w5.setCell ⟨w.heap.size+2,0,none⟩ (.slice A2 n2 c2)).setCell ⟨w.heap.size+2,1,none⟩ (.slice A3 n3 c3))):=(Hr88.out.keep 0 _).trans ((Hr88.out.set0 _).keep 1 _)
 have HOF:Hid (zo w0 ((w5.setCell ⟨w.heap.size+2,0,none⟩ (.slice A2 n2 c2)).setCell ⟨w.heap.size+2,1,none⟩ (.slice A3 n3 c3)) D P M G A L S'):=(HO5.out.cell11 Hr88.out (Nat.le_trans HW0.out (by omega)) _).cell11 (Hr88.out.set0 _) (Nat.le_trans HW0.out (by omega)) _
 have HKP:Hid (zu w ((w5.setCell ⟨w.heap.size+2,0,none⟩ (.slice A2 n2 c2)).setCell ⟨w.heap.size+2,1,none⟩ (.slice A3 n3 c3))):=(HK5.out.cellN11 (by omega) _).cellN11 (by omega) _
 have HPOST:Hid (uN w0 D P M G k w (zc A L S) kd a.data.toList b.data.toList z nx (.returned (.tuple #[.agg #[.slice A2 n2 c2,.slice A3 n3 c3],.bool true])) ((w5.setCell ⟨w.heap.size+2,0,none⟩ (.slice A2 n2 c2)).setCell ⟨w.heap.size+2,1,none⟩ (.slice A3 n3 c3))):=⟨_,_,_,R2,_,_,rfl,HOF.out,HONE.out.1,HRC5.out.keepD11 HKF.out,by rw [HONE.out.2.2]; exact HNM5.out.keepD11 HKF.out,by rw [HPL.out,HONE.out.2.1],HKP.out,by rw [HONE.out.2.1]; exact HOTH.out.1,by rw [HONE.out.2.1,HONE.out.2.2]; exact HOTH.out.2⟩
 have z0:=HRES.out.c0
 have z1:=HRES.out.c1
 go_wp2
 refine bodyPost_ret (v:=.tuple #[.agg #[.slice A2 n2 c2,.slice A3 n3 c3],.bool true]) ?_ rfl HPOST.out
 simp [results,Tryz.results24,go_sem,z0,z1]

set_option maxRecDepth 100000 in
theorem do11_10 (R:zL W11) (v vg:Value) (kd:Nat) (a b:ByteArray) (z:Bool) (w:World) (ho:zo w0 w D P M G A L S) (hg:zt A L S k) (hk:k≤90) (h5:vR w0) (hR:vQ 0 R w v) (hN:NmR w vg (zb S)) (hp:ze R=zc A L S) (ha:a.size≤50) (hb5:b.size≤50) (hkd:kd % 11=10) :
  Calls Tryz.prog 24 #[.pointer (some ⟨D,0,none⟩),.agg #[v,vg],.agg #[.int .u8 (kd:Int),.string a,.string b,.bool z]] w (uN w0 D P M G k w (zc A L S) kd a.data.toList b.data.toList z (zb S)):=by
 have HCP:Hid (∀ W',zo w0 W' D P M G A L S→Calls Tryz.prog 82 #[.pointer (some ⟨D,0,none⟩)] W' fun e w'=>∃ D' P' M' G',e=.returned (.pointer (some ⟨D',0,none⟩))∧zo W' w' D' P' M' G' A L S):=fun W' ho=>Ur ho hg.grp
 have HC1:Hid (∀ wx W' D' P' M' G',zo wx W' D' P' M' G' A L S→Calls Tryz.prog 42 #[.pointer (some ⟨D',0,none⟩),.string a,.string ⟨#[49]⟩] W' fun e w'=>∃ r A1,e=.returned (.int .i64 r)∧zo wx w' D' P' M' G' A1 L S∧zt A1 L S (k+1)):=fun wx W' D' P' M' G' ho =>
  (fj a ⟨#[49]⟩ ho hg (by omega) (by decide)).mono fun e w' ⟨he,hgo⟩=>⟨_,_,he,hgo.1,(cr_one hg _ _).1⟩
 have HC2:Hid (∀ wx W' D' P' M' G' A1,zo wx W' D' P' M' G' A1 L S→zt A1 L S (k+1)→Calls Tryz.prog 43 #[.pointer (some ⟨D',0,none⟩),.string ⟨#[97,110,110]⟩] W' fun e w'=>∃ r A2 L2 S2,e=.returned (.int .i64 r)∧zo wx w' D' P' M' G' A2 L2 S2∧zt A2 L2 S2 (k+2)):=fun wx W' D' P' M' G' A1 ho hg =>
  (fh ⟨#[97,110,110]⟩ ho hg (by decide)).mono fun e w' ⟨he,hgo⟩=>⟨_,_,_,_,he,hgo.1,(de_one11 hg _).1⟩
 have HC3:Hid (∀ wx W' D' P' M' G' A1 L1 S1,zo wx W' D' P' M' G' A1 L1 S1→zt A1 L1 S1 (k+2)→Calls Tryz.prog 77 #[.pointer (some ⟨D',0,none⟩),.string ⟨#[100,101,118]⟩] W' fun e w'=>∃ r S2,e=.returned (.int .i64 r)∧zo wx w' D' P' M' G' A1 L1 S2∧zt A1 L1 S2 (k+3)):=fun wx W' D' P' M' G' A1 L1 S1 ho hg =>
  (qC ⟨#[100,101,118]⟩ ho (by decide)).mono fun e w' ⟨he,hgo⟩=>⟨_,_,he,hgo.1,(dr_one hg _).1⟩
 have HC4:Hid (∀ wx W' D' P' M' G' A1 L1 S1,vR wx→zo wx W' D' P' M' G' A1 L1 S1→zt A1 L1 S1 (k+3)→Calls Tryz.prog 69 #[.pointer (some ⟨D',0,none⟩),.string ⟨#[98,111,98]⟩,.string ⟨#[113,64,113,46,113]⟩] W' fun e w'=>∃ r L2,e=.returned (.int .i64 r)∧zo wx w' D' P' M' G' A1 L2 S1):=fun wx W' D' P' M' G' A1 L1 S1 h5 ho hg =>
  (jd ⟨#[98,111,98]⟩ ⟨#[113,64,113,46,113]⟩ ho (by have:=hg.lfew; omega) (h5.later ho.below) (by decide) (by decide)).mono fun e w' ⟨he,hgo⟩=>⟨_,_,he,hgo.1⟩
 have hrem:(kd:Int).tmod 11=10:=by
  have:(kd:Int).tmod 11=((kd % 11:Nat):Int):=rfl
  rw [this,hkd]; rfl
 have hzd:∀ w:World,(zeroValue zn).run Tryz.prog w=.ok (.agg #[.slice none 0 0,.slice none 0 0]) w:=fun w=>by kernel_rfl
 have HOTH:Hid (yE kd a.data.toList b.data.toList (zc A L S) (zc A L S)∧ZL kd a.data.toList b.data.toList z (zc A L S) (zb S) (zc A L S) (zb S)):=⟨fun _ _ _ _ _=>rfl,vy hkd rfl rfl⟩
 have HO:=za ho
 have HG:=za hg
 have H5:=za (h5.later ho.below)
 have HW0:Hid (w0.heap.size≤w.heap.size):=ho.below.size
 have HPL:=za hp
 have HRC:=za hR
 have HNM:=za hN
 obtain ⟨A0,c,rfl⟩:=hR.rw.us.shape
 obtain ⟨A1,c1,rfl⟩:=hN.shape
 clear ho hg hR hN hp h5 hkd
 obtain ⟨n,hn2⟩:∃ m,m=R.length:=⟨_,rfl⟩
 obtain ⟨n1,hn3⟩:∃ m,m=(zb S).length:=⟨_,rfl⟩
 rw [← hn2] at HRC ⊢
 rw [← hn3] at HNM ⊢
 clear hn2 hn3
 have Hd1q:=za (zr w (.slice A0 n c) (.slice A1 n1 c1))
 have HLO2q:Hid (w.heap.size≤w.heap.size):=by show _≤_; omega
 have HB3q:Hid (Below w.heap.size w (w.alloc (.cells #[.slice A0 n c,.slice A1 n1 c1] zn))):=z7 (Below.refl _ _) _
 have Hd4q:=za (Hd1q.out.later (z7 (Below.refl _ _) (.cells #[.int .u8 (kd:Int),.string a,.string b,.bool z] 61)))
 have Ha5q:Hid (xW ((w.alloc (.cells #[.slice A0 n c,.slice A1 n1 c1] zn)).alloc (.cells #[.int .u8 (kd:Int),.string a,.string b,.bool z] 61)) (w.heap.size+1) (kd) (a) (b) (z)):=zi (by simp)
 have HLO6q:Hid (w.heap.size≤w.heap.size+1):=by show _≤_; omega
 have HB7q:=za (z8 HB3q.out (z7 (Below.refl _ _) (.cells #[.int .u8 (kd:Int),.string a,.string b,.bool z] 61)))
 have Hd8q:=za (Hd4q.out.later (z7 (Below.refl _ _) (.cells #[.slice none 0 0,.slice none 0 0] zn)))
 have Ha9q:=za (Ha5q.out.later (z7 (Below.refl _ _) (.cells #[.slice none 0 0,.slice none 0 0] zn)))
 have Hr10q:Hid (yv (((w.alloc (.cells #[.slice A0 n c,.slice A1 n1 c1] zn)).alloc (.cells #[.int .u8 (kd:Int),.string a,.string b,.bool z] 61)).alloc (.cells #[.slice none 0 0,.slice none 0 0] zn)) (w.heap.size+2) (.slice none 0 0) (.slice none 0 0)):=zi (by simp)
 have HLO11q:Hid (w.heap.size≤w.heap.size+2):=by show _≤_; omega
 have HB12q:=za (z8 HB7q.out (z7 (Below.refl _ _) (.cells #[.slice none 0 0,.slice none 0 0] zn)))
 go_enter Tryz.func24,Tryz.ntmps24
 have ⟨kx14q,ky15q,kp16q,kq17q⟩:=Hd8q.out.q11
 have ⟨kx19q,ky20q,kz21q,kw22q⟩:=Ha9q.out.q11
 have ⟨kx24q,ky25q,kp26q,kq27q⟩:=Hr10q.out.q11
 go_wp2_with fail
 generalize ((w.alloc (.cells #[.slice A0 n c,.slice A1 n1 c1] zn)).alloc (.cells #[.int .u8 (kd:Int),.string a,.string b,.bool z] 61)).alloc (.cells #[.slice none 0 0,.slice none 0 0] zn)=wx at *
 have HOX:=za (HO.out.later HB12q.out)
 have H5X:=za (H5.out.later HB12q.out)
 with_reducible refine (HCP.out wx HOX.out).mono ?_
 rintro e w2 ⟨D',P',M',G',rfl,ho2⟩
 clear kx14q ky15q kp16q kq17q kx19q ky20q kz21q kw22q kx24q ky25q kp26q kq27q
 have HO2:=za ho2
 clear ho2 HCP
 have HBXw2:=za (HO2.out).below
 have Hd28q:=za (Hd8q.out.later HBXw2.out)
 have Ha29q:=za (Ha9q.out.later HBXw2.out)
 have Hr30q:=za (Hr10q.out.later HBXw2.out)
 have HB31q:=za (z8 HB12q.out HBXw2.out)
 have ⟨kx33q,ky34q,kp35q,kq36q⟩:=Hd28q.out.q11
 have ⟨kx38q,ky39q,kz40q,kw41q⟩:=Ha29q.out.q11
 have ⟨kx43q,ky44q,kp45q,kq46q⟩:=Hr30q.out.q11
 go_wp2_with fail
 with_reducible refine (HC1.out wx w2 D' P' M' G' HO2.out).mono ?_
 rintro e w3 ⟨r3,A3,rfl,ho3,hg3⟩
 clear kx33q ky34q kp35q kq36q kx38q ky39q kz40q kw41q kx43q ky44q kp45q kq46q
 have HO3:=za ho3
 have HG3:=za hg3
 clear ho3 hg3 HC1
 have HBXw3:=za (HO3.out).below
 have Hd47q:=za (Hd8q.out.later HBXw3.out)
 have Ha48q:=za (Ha9q.out.later HBXw3.out)
 have Hr49q:=za (Hr10q.out.later HBXw3.out)
 have HB50q:=za (z8 HB12q.out HBXw3.out)
 have ⟨kx52q,ky53q,kp54q,kq55q⟩:=Hd47q.out.q11
 have ⟨kx57q,ky58q,kz59q,kw60q⟩:=Ha48q.out.q11
 have ⟨kx62q,ky63q,kp64q,kq65q⟩:=Hr49q.out.q11
 go_wp2_with fail
 with_reducible refine (HC2.out wx w3 D' P' M' G' A3 HO3.out HG3.out).mono ?_
 rintro e w4 ⟨r4,A4,L4,S4,rfl,ho4,hg4⟩
 clear kx52q ky53q kp54q kq55q kx57q ky58q kz59q kw60q kx62q ky63q kp64q kq65q
 have HO4:=za ho4
 have HG4:=za hg4
 clear ho4 hg4 HC2
 have HBXw4:=za (HO4.out).below
 have Hd66q:=za (Hd8q.out.later HBXw4.out)
 have Ha67q:=za (Ha9q.out.later HBXw4.out)
 have Hr68q:=za (Hr10q.out.later HBXw4.out)
 have HB69q:=za (z8 HB12q.out HBXw4.out)
 have ⟨kx71q,ky72q,kp73q,kq74q⟩:=Hd66q.out.q11
 have ⟨kx76q,ky77q,kz78q,kw79q⟩:=Ha67q.out.q11
 have ⟨kx81q,ky82q,kp83q,kq84q⟩:=Hr68q.out.q11
 go_wp2_with fail
 with_reducible refine (HC3.out wx w4 D' P' M' G' A4 L4 S4 HO4.out HG4.out).mono ?_
 rintro e w5 ⟨r5,S5,rfl,ho5,hg5⟩
 clear kx71q ky72q kp73q kq74q kx76q ky77q kz78q kw79q kx81q ky82q kp83q kq84q
 have HO5:=za ho5
 have HG5:=za hg5
 clear ho5 hg5 HC3
 have HBXw5:=za (HO5.out).below
 have Hd85q:=za (Hd8q.out.later HBXw5.out)
 have Ha86q:=za (Ha9q.out.later HBXw5.out)
 have Hr87q:=za (Hr10q.out.later HBXw5.out)
 have HB88q:=za (z8 HB12q.out HBXw5.out)
 have ⟨kx90q,ky91q,kp92q,kq93q⟩:=Hd85q.out.q11
 have ⟨kx95q,ky96q,kz97q,kw98q⟩:=Ha86q.out.q11
 have ⟨kx100q,ky101q,kp102q,kq103q⟩:=Hr87q.out.q11
 go_wp2_with fail
 with_reducible refine (HC4.out wx w5 D' P' M' G' A4 L4 S5 H5X.out HO5.out HG5.out).mono ?_
 rintro e w6 ⟨r6,L6,rfl,ho6⟩
 clear kx90q ky91q kp92q kq93q kx95q ky96q kz97q kw98q kx100q ky101q kp102q kq103q
 have HO6:=za ho6
 clear ho6 HC4
 have HBXw6:=za (HO6.out).below
 have Hd104q:=za (Hd8q.out.later HBXw6.out)
 have Ha105q:=za (Ha9q.out.later HBXw6.out)
 have Hr106q:=za (Hr10q.out.later HBXw6.out)
 have HB107q:=za (z8 HB12q.out HBXw6.out)
 have ⟨kx109q,ky110q,kp111q,kq112q⟩:=Hd104q.out.q11
 have ⟨kx114q,ky115q,kz116q,kw117q⟩:=Ha105q.out.q11
 have ⟨kx119q,ky120q,kp121q,kq122q⟩:=Hr106q.out.q11
 have HRES:Hid (yv ((w6.setCell ⟨w.heap.size+2,0,none⟩ (.slice A0 n c)).setCell ⟨w.heap.size+2,1,none⟩ (.slice A1 n1 c1)) (w.heap.size+2) (.slice A0 n c) (.slice A1 n1 c1)):=(Hr106q.out.set0 _).set1 _
 have HKF:Hid (zR w6 ((w6.setCell ⟨w.heap.size+2,0,none⟩ (.slice A0 n c)).setCell ⟨w.heap.size+2,1,none⟩ (.slice A1 n1 c1))):=(Hr106q.out.keep 0 _).trans ((Hr106q.out.set0 _).keep 1 _)
 have HOF:Hid (zo w0 ((w6.setCell ⟨w.heap.size+2,0,none⟩ (.slice A0 n c)).setCell ⟨w.heap.size+2,1,none⟩ (.slice A1 n1 c1)) D P M G A L S):=((HO.out.later HB107q.out).cell11 Hr106q.out (Nat.le_trans HW0.out (by omega)) _).cell11 (Hr106q.out.set0 _) (Nat.le_trans HW0.out (by omega)) _
 have HKP:Hid (zu w ((w6.setCell ⟨w.heap.size+2,0,none⟩ (.slice A0 n c)).setCell ⟨w.heap.size+2,1,none⟩ (.slice A1 n1 c1))):=((zu.of_below HB107q.out).cellN11 (by omega) _).cellN11 (by omega) _
 have HPOST:Hid (uN w0 D P M G k w (zc A L S) kd a.data.toList b.data.toList z (zb S) (.returned (.tuple #[.agg #[.slice A0 n c,.slice A1 n1 c1],.bool true])) ((w6.setCell ⟨w.heap.size+2,0,none⟩ (.slice A0 n c)).setCell ⟨w.heap.size+2,1,none⟩ (.slice A1 n1 c1))):=⟨A,L,S,R,_,_,rfl,HOF.out,HG.out.mono (Nat.le_succ _),(HRC.out.later HB107q.out).keepD11 HKF.out,(HNM.out.later HB107q.out).keepD11 HKF.out,HPL.out,HKP.out,HOTH.out⟩
 have z0:=HRES.out.c0
 have z1:=HRES.out.c1
 go_wp2
 refine bodyPost_ret (v:=.tuple #[.agg #[.slice A0 n c,.slice A1 n1 c1],.bool true]) ?_ rfl HPOST.out
 simp [results,Tryz.results24,go_sem,z0,z1]

theorem do11_calls (R:zL W11) (v vg:Value) (kd:Nat) (a b:ByteArray) (z:Bool) (w:World) (ho:zo w0 w D P M G A L S) (hg:zt A L S k) (hk:k≤90) (h5:vR w0) (hR:vQ 0 R w v) (hN:NmR w vg (zb S)) (hp:ze R=zc A L S) (ha:a.size≤50) (hb5:b.size≤50) :
  Calls Tryz.prog 24 #[.pointer (some ⟨D,0,none⟩),.agg #[v,vg],.agg #[.int .u8 (kd:Int),.string a,.string b,.bool z]] w (uN w0 D P M G k w (zc A L S) kd a.data.toList b.data.toList z (zb S)):=by
 have h11:kd % 11=0∨kd % 11=1∨kd % 11=2∨kd % 11=3∨kd % 11=4∨kd % 11=5∨kd % 11=6∨kd % 11=7∨kd % 11=8∨kd % 11=9∨kd % 11=10:=by omega
 rcases h11 with h | h | h | h | h | h | h | h | h | h | h
 ·
  exact do11_0 R v vg kd a b z w ho hg hk h5 hR hN hp ha hb5 h
 ·
  exact do11_1 R v vg kd a b z w ho hg hk h5 hR hN hp ha hb5 h
 ·
  exact do11_2 R v vg kd a b z w ho hg hk h5 hR hN hp ha hb5 h
 ·
  exact do11_3 R v vg kd a b z w ho hg hk h5 hR hN hp ha hb5 h
 ·
  exact do11_4 R v vg kd a b z w ho hg hk h5 hR hN hp ha hb5 h
 ·
  exact do11_5 R v vg kd a b z w ho hg hk h5 hR hN hp ha hb5 h
 ·
  exact do11_6 R v vg kd a b z w ho hg hk h5 hR hN hp ha hb5 h
 ·
  exact do11_7 R v vg kd a b z w ho hg hk h5 hR hN hp ha hb5 h
 ·
  exact do11_8 R v vg kd a b z w ho hg hk h5 hR hN hp ha hb5 h
 ·
  exact do11_9 R v vg kd a b z w ho hg hk h5 hR hN hp ha hb5 h
 ·
  exact do11_10 R v vg kd a b z w ho hg hk h5 hR hN hp ha hb5 h
end
end Go.Proofs.YthmomkjingcbiaaGreatDoor
namespace Go.Proofs.YthmomkjingcbiaaGreatDoor
open Go.RowKit Go.Maps Go.Shelf



def us11 (q:List UInt8×W11):Us:=⟨zI q.1,q.2.hs,q.2.ml,q.2.dis,q.2.ga,q.2.gs.map zI,q.2.gc⟩
theorem us11_cells (q:List UInt8×W11):(us11 q).cells=(fa q).toArray:=by
 unfold us11 Us.cells fa
 simp
theorem rd_us11 {w:World} {A:Option Addr} {c n:Nat} {R:zL W11} (h:fA w (.slice A n c) R):n=(R.map us11).length∧YA w A (R.map us11):=by
 obtain ⟨A',c',e,hc⟩:=h
 injection e with e1 e2 e3
 subst e1 e2 e3
 refine ⟨by simp,fun hne=>?_⟩
 have h0:0<R.length:=by
  rcases R with _ | ⟨q,r⟩
  ·
   exact absurd rfl hne
  ·
   exact Nat.succ_pos _
 obtain ⟨g,e,hg⟩:=hc 0 h0
 refine ⟨g,0,e,World.block_lt_of_cell? w _ (hg 0 _ rfl),fun i hi j u hu=>?_⟩
 have hi':i<R.length:=by simpa using hi
 obtain ⟨g',e',hg'⟩:=hc i hi'
 rw [e] at e'
 injection e' with e'
 injection e' with e'
 subst e'
 have hu':(fa R[i])[j]? = some u:=by
  rw [List.getElem_map,us11_cells] at hu
  simpa using hu
 have:=hg' j u hu'
 rwa [Nat.zero_add]
structure Short11 (T:yA):Prop where
 few:T.length≤12
 nm:∀ p∈T,p.1.length≤1000
 hs:∀ p∈T,p.2.hs.length≤1000
 ml:∀ p∈T,p.2.ml.length≤1000
 gs:∀ p∈T,∀ g∈p.2.gs,g.length≤1000
theorem short11 {A:zJ} {L:zB} {S:zw} {k:Nat} (hg:zt A L S k):Short11 (zc A L S):=by
 have hq:∀ p∈zc A L S,∃ q∈A,p=(q.1,xQ L S q.1 q.2):=fun p hp=>by
  obtain ⟨q,hq,e⟩:=List.mem_map.1 hp
  exact ⟨q,hq,e.symm⟩
 refine ⟨by rw [um]; exact hg.few,fun p hp=>?_,fun p hp=>?_,fun p hp=>?_,fun p hp g hgg=>?_⟩
 ·
  obtain ⟨q,hq,rfl⟩:=hq p hp
  exact Nat.le_trans (qt (hg.nm q hq).1) (by decide)
 ·
  obtain ⟨q,hq,rfl⟩:=hq p hp
  exact jN (hg.nm q hq).2
 ·
  obtain ⟨q,hq,rfl⟩:=hq p hp
  show (xk L q.1).length≤1000
  cases hh:xj L q.1 with
  | false=>rw [yW hh]; simp
  | true =>
   have:=hg.all _ (xU hh)
   exact Nat.le_trans (Xe this.2.1) (by decide)
 ·
  obtain ⟨q,hq,rfl⟩:=hq p hp
  have h1:=jK hgg
  obtain ⟨x,hx,rfl⟩:=List.mem_map.1 h1
  exact Nat.le_trans (qt (hg.grp.named x hx)) (by decide)
theorem us11_ok {w:World} {q:List UInt8×W11} (hr:w.ownsRow 0 9 1 (.slice q.2.ga q.2.gs.length q.2.gc) q.2.gs.length (q.2.gs.map encStr)) (h1:q.1.length≤1000) (h2:q.2.hs.size≤1000) (h3:q.2.ml.size≤1000) (h4:∀ g∈q.2.gs,g.length≤1000):(us11 q).Ok w:=by
 refine ⟨fun hne=>?_,?_,Nat.le_trans h2 (by decide),Nat.le_trans h3 (by decide),fun hn=>?_,?_,?_,fun s hs=>?_⟩
 ·
  have hn0:0<q.2.gs.length:=by
   rcases hq:q.2.gs with _ | ⟨a,r⟩
   ·
    exact absurd (show (us11 q).gs=[] by unfold us11; rw [hq]; rfl) hne
   ·
    exact Nat.succ_pos _
  obtain ⟨g,cx,e,c0⟩:=NmR.at_ (N:=q.2.gs) hr (k:=0) hn0
  injection e with e
  refine ⟨g,0,e,World.block_lt_of_cell? w _ c0,fun j hj=>?_⟩
  have hj':j<q.2.gs.length:=by have:(us11 q).gs.length=q.2.gs.length:=List.length_map _; omega
  obtain ⟨g',cx',e',cj⟩:=NmR.at_ (N:=q.2.gs) hr (k:=j) hj'
  injection e' with e'
  rw [e] at e'
  injection e' with e'
  injection e' with e'
  subst e'
  rw [Nat.zero_add,cj]
  have eg:(us11 q).gs[j]=zI q.2.gs[j]:=List.getElem_map ..
  rw [eg]
 ·
  show (zI q.1).size≤_
  rw [xF]; exact Nat.le_trans h1 (by decide)
 ·
  rcases hr.2 with ⟨e,_⟩ | ⟨g,cap,cur,e,_⟩
  ·
   injection e
  ·
   injection e with e; rw [show q.2.ga=none from hn] at e; cases e
 ·
  show (q.2.gs.map zI).length≤q.2.gc
  rw [List.length_map]
  rcases hr.2 with ⟨e,h0⟩ | ⟨g,cap,cur,e,_,_,r1,_⟩
  ·
   omega
  ·
   injection e with _ _ e; omega
 ·
  rcases hr.2 with ⟨e,h0⟩ | ⟨g,cap,cur,e,_,_,r1,r2,_⟩
  ·
   injection e with _ _ e; show q.2.gc≤_; omega
  ·
   injection e with _ _ e
   show q.2.gc≤_
   have:=r2
   unfold maxLen at this
   omega
 ·
  obtain ⟨g,hg,rfl⟩:=List.mem_map.1 hs
  rw [xF]; exact Nat.le_trans (h4 g hg) (by decide)

section
variable {w0 w:World} {D P M G:Nat} {A:zJ} {L:zB} {S:zw} {k:Nat}
end
end Go.Proofs.YthmomkjingcbiaaGreatDoor
namespace Go.Proofs.YthmomkjingcbiaaGreatDoor
open Go.ChangeShapes Go.WideShapes Go.ChangeAt Go.RowKit Go.Deep

structure ActN where
 kd:Nat
 nm:ByteArray
 hs:ByteArray
 is_:Bool
def ActN.cells (t:ActN):List Value:=[.int .u8 (t.kd:Int),.string t.nm,.string t.hs,.bool t.is_]
def RdAN (w:World) (A:Option Addr) (l:List ActN):Prop :=
 l≠[]→∃ b off,A=some ⟨b,off,none⟩∧b<w.heap.size∧∀ i (hi:i<l.length) j u,l[i].cells[j]? = some u→w.cell? ⟨b,off+i * 4+j,none⟩=some u
theorem RdAN.later {w w':World} {A:Option Addr} {l:List ActN} (h:RdAN w A l) (hb:Below w.heap.size w w'):RdAN w' A l:=fun hl=>by
 obtain ⟨b,off,rfl,hlt,hc⟩:=h hl
 exact ⟨b,off,rfl,Nat.lt_of_lt_of_le hlt hb.size,fun i hi j u hu=>(hb.cell (p:=⟨b,off+i * 4+j,none⟩) hlt).trans (hc i hi j u hu)⟩
def IsActsN (w:World) (A:Option Addr) (len:Nat) (l:List ActN):Prop:=len=l.length∧l.length≤9223372036854775807∧RdAN w A l∧∀ t∈l,t.kd<256∧t.nm.size≤9223372036854775807∧t.hs.size≤9223372036854775807

theorem cellsOfU8n:Tryz.prog.cellsOf 5=1:=by kernel_rfl
theorem FP:Tryz.prog.cellsOf 9=1:=by kernel_rfl
theorem Jq:Tryz.prog.cellsOf 4=1:=by kernel_rfl
theorem XL:Tryz.prog.cellsOf 61=4:=by kernel_rfl
theorem pick_actn (d:ActN) {φ:Nat→ActN→Prop} {m:Nat} (h:∀ i,i<m→∃ t,φ i t):∃ T:Nat→ActN,∀ i,i<m→φ i (T i):=by
 refine ⟨fun i=>if hi:i<m then Classical.choose (h i hi) else d,fun i hi=>?_⟩
 have:(if hi:i<m then Classical.choose (h i hi) else d)=Classical.choose (h i hi):=dif_pos hi
 show φ i (if hi:i<m then Classical.choose (h i hi) else d)
 rw [this]
 exact Classical.choose_spec (h i hi)
section
variable {H:Type} {enc:TypeId×Value→H} {W:World} {base:Nat} {sp:Nat→Bool} {hd:Bool} {fuel:Nat}
set_option maxRecDepth 100000 in
theorem actn_of {cs:List Value} {x:DataW H×List MemPlace} (h:DataW.trod enc Tryz.prog W base sp hd fuel 61 cs=some x) :
  ∃ t:ActN,cs=t.cells∧t.kd<256∧t.nm.size≤9223372036854775807∧t.hs.size≤9223372036854775807:=by
 obtain ⟨ys,n,_,_,hlen,hyl,hf⟩:=DataW.trod_struct Tryz.underlying61 h
 rw [XL] at hlen
 match cs,hlen,ys,hyl with
 | [c0,c1,c2,c3],_,[y0,y1,y2,y3],_ =>
  have f0:DataW.trod enc Tryz.prog W base sp hd n 5 (([c0,c1,c2,c3].drop 0).take (Tryz.prog.cellsOf 5))=some y0:=hf 0 _ rfl
  have f1:DataW.trod enc Tryz.prog W base sp hd n 9 (([c0,c1,c2,c3].drop 1).take (Tryz.prog.cellsOf 9))=some y1:=hf 1 _ rfl
  have f2:DataW.trod enc Tryz.prog W base sp hd n 9 (([c0,c1,c2,c3].drop 2).take (Tryz.prog.cellsOf 9))=some y2:=hf 2 _ rfl
  have f3:DataW.trod enc Tryz.prog W base sp hd n 4 (([c0,c1,c2,c3].drop 3).take (Tryz.prog.cellsOf 4))=some y3:=hf 3 _ rfl
  rw [Jq] at f3
  rw [cellsOfU8n] at f0
  rw [FP] at f1 f2
  obtain ⟨kd,e0,_,w0⟩:=DataW.trod_int Tryz.underlying5 f0
  obtain ⟨nm,e1,_,w1⟩:=DataW.trod_string Tryz.underlying9 f1
  obtain ⟨hs,e2,_,w2⟩:=DataW.trod_string Tryz.underlying9 f2
  obtain ⟨is_,e3,_⟩:=DataW.trod_bool Tryz.underlying4 f3
  simp only [List.drop_zero,List.drop_succ_cons,List.take_succ_cons,List.take_zero,List.cons.injEq,and_true] at e0 e1 e2 e3
  subst e0 e1 e2 e3
  have b0:=bounds_u8 w0
  obtain ⟨kn,rfl⟩:=Int.eq_ofNat_of_zero_le b0.1
  exact ⟨⟨kn,nm,hs,is_⟩,rfl,by show kn<256; omega,Nat.le_trans w1 (by decide),Nat.le_trans w2 (by decide)⟩

set_option maxRecDepth 100000 in
theorem actns_of {a:Option Addr} {len cap:Nat} {d:DataW H} {p:List MemPlace} (h:DataW.Trod enc Tryz.prog W base sp hd 54 (.slice a len cap) d p):∃ l,IsActsN W a len l:=by
 obtain ⟨fuel,hf⟩:=h
 rcases open_slice Tryz.underlying54 hf with ⟨hcs,_⟩ | ⟨x,l,c,m,n,D,Pl,hcs,_,hl,hm,hmm,_,hi⟩
 ·
  simp [Value.cells] at hcs
  obtain ⟨rfl,rfl,rfl⟩:=hcs
  exact ⟨[],rfl,by simp,fun h=>absurd rfl h,by simp⟩
 ·
  simp [Value.cells] at hcs
  obtain ⟨rfl,rfl,rfl⟩:=hcs
  have hlm:len≤m:=by rw [hmm]; split <;> omega
  rw [XL] at hi
  have hex:∀ i,i<m→∃ t:ActN,(∀ j,j<4→W.cell? ((x.add (i * 4)).add j)=t.cells[j]?)∧t.kd<256∧t.nm.size≤9223372036854775807∧t.hs.size≤9223372036854775807:=by
   intro i him
   obtain ⟨cs',hc,ht'⟩:=hi i him
   obtain ⟨t,rfl,hrest⟩:=actn_of ht'
   exact ⟨t,(World.cells?_some hc).2.2,hrest⟩
  obtain ⟨T,hT⟩:=pick_actn ⟨0,⟨#[]⟩,⟨#[]⟩,false⟩ hex
  refine ⟨(List.range len).map T,by simp,by simpa [maxLen] using Nat.le_trans hl hm,fun hne=>?_,fun t ht=>?_⟩
  ·
   have hp:0<len:=by
    rcases Nat.eq_zero_or_pos len with h | h
    ·
     subst h; simp at hne
    ·
     exact h
   have hc0:=(hT 0 (by omega)).1 0 (by omega)
   have h00:(T 0).cells[0]? = some (.int .u8 (T 0).kd):=rfl
   rw [h00,Nat.zero_mul] at hc0
   have hx:x=⟨x.block,x.off,none⟩:=by
    have hs:x.spot=none:=World.cell?_spot hc0
    rw [← hs]
   refine ⟨x.block,x.off,by rw [← hx],?_,fun i hi' j u hu=>?_⟩
   ·
    exact World.block_lt_of_cell? W _ hc0
   ·
    rw [List.length_map,List.length_range] at hi'
    have e:((List.range len).map T)[i]'(by simpa using hi')=T i:=by simp
    rw [e] at hu
    have hj:j<4:=(List.getElem?_eq_some_iff.1 hu).1
    have:=(hT i (by omega)).1 j hj
    rw [hx,Addr.add_lit,Addr.add_lit] at this
    exact this.trans hu
  ·
   obtain ⟨i,hi',rfl⟩:=List.mem_map.1 ht
   rw [List.mem_range] at hi'
   exact (hT i (by omega)).2
end
end Go.Proofs.YthmomkjingcbiaaGreatDoor
namespace Go.Proofs.YthmomkjingcbiaaGreatDoor
open Go.RowKit Go.Maps

def vw (t:ActN):Bool:=decide (t.nm.size≤50) && decide (t.hs.size≤50)
def ZZ (l:List ActN):Bool:=l.all vw && decide (l.length≤60)

set_option maxRecDepth 100000 in
theorem few11L_calls (A:Option Addr) (c n:Nat) (l:List ActN) (w:World) (hl:n=l.length) (hn:n≤9223372036854775807) (hr:RdAN w A l) :
  Calls Tryz.prog 22 #[.slice A n c] w (zY (ZZ l) w):=by
 have HR:=za hr
 have HL:=za hl
 clear hr hl
 obtain ⟨r,hr⟩:∃ r,r=ZZ l:=⟨_,rfl⟩
 rw [← hr]
 have HRR:=za hr
 clear hr
 go_enter Tryz.func22,Tryz.ntmps22
 go_wp2
 go_loopg [4,7] n (fun gg _ s7 wr=>∃ k:Nat,k≤n∧n - k≤gg∧s7=.int .i64 k∧Hid (Below w.heap.size w wr)∧Hid (∀ j (h:j<l.length),j<k→vw l[j]=true))
 case atStart=>exact ⟨0,Nat.zero_le _,by omega,rfl,Below.refl _ _,fun j _ hj=>absurd hj (Nat.not_lt_zero _)⟩
 case round =>
  obtain ⟨k,hk,hg,rfl,HW,A0⟩:=hrel
  by_cases hlt:k<n
  ·
   have hltz:(k:Int)<(n:Int):=by omega
   have hkl:k<l.length:=HL.out ▸ hlt
   obtain ⟨b,off,rfl,hb,hc⟩:=(HR.out.later HW.out) (by intro e; rw [e] at hkl; exact absurd hkl (Nat.not_lt_zero _))
   have c0:wr.cell? ⟨b,off+k * 4,none⟩=some (.int .u8 (l[k].kd:Int)):=hc k hkl 0 _ rfl
   have c1:wr.cell? ⟨b,off+k * 4+1,none⟩=some (.string l[k].nm):=hc k hkl 1 _ rfl
   have c2:wr.cell? ⟨b,off+k * 4+2,none⟩=some (.string l[k].hs):=hc k hkl 2 _ rfl
   have c3:wr.cell? ⟨b,off+k * 4+3,none⟩=some (.bool l[k].is_):=hc k hkl 3 _ rfl
   have HX:Hid (vw l[k]=true→∀ j (h:j<l.length),j<k+1→vw l[j]=true):=fun hq j h hj=>by
    by_cases e:j=k
    ·
     subst e; exact hq
    ·
     exact A0.out j h (by omega)
   have HF:Hid (vw l[k]=false→r=false):=fun hf=>by
    rw [HRR.out]
    have:l.all vw=false:=List.all_eq_false.2 ⟨l[k],List.getElem_mem hkl,by rw [hf]; simp⟩
    unfold ZZ
    rw [this]; rfl
   have HB3:=za (z8 HW.out (z7 (Below.refl wr.heap.size wr) (.cells #[.int .u8 (l[k].kd:Int),.string l[k].nm,.string l[k].hs,.bool l[k].is_] 61)))
   unfold vw at HX HF
   clear hc hb A0
   generalize l[k].kd=kd at *
   generalize l[k].nm=nm at *
   generalize l[k].hs=hs at *
   generalize l[k].is_=is_ at *
   by_cases h1:nm.size≤50
   ·
    by_cases h2:hs.size≤50
    ·
     have HY:=za (HX.out (by simp [h1,h2]))
     have z1:¬ (nm.size:Int) > 50:=by omega
     have z2:¬ (hs.size:Int) > 50:=by omega
     have y1:¬ 50<nm.size:=by omega
     have y2:¬ 50<hs.size:=by omega
     have x1:decide ((nm.size:Int) > 50)=false:=decide_eq_false z1
     have x2:decide ((hs.size:Int) > 50)=false:=decide_eq_false z2
     clear HX HF
     go_wp2
     go_roundg (n - (k+1))
     case measure=>omega
     case rel=>exact ⟨k+1,by omega,by omega,by go_num,HB3,HY⟩
    ·
     have hr:r=false:=HF.out (by simp [h2])
     subst hr
     have z1:¬ (nm.size:Int) > 50:=by omega
     have z2:(hs.size:Int) > 50:=by omega
     have y1:¬ 50<nm.size:=by omega
     have y2:50<hs.size:=by omega
     have x1:decide ((nm.size:Int) > 50)=false:=decide_eq_false z1
     have x2:decide ((hs.size:Int) > 50)=true:=decide_eq_true z2
     clear HX HF
     go_wp2
     go_ret
     exact ⟨rfl,HB3.out⟩
   ·
    have hr:r=false:=HF.out (by simp [h1])
    subst hr
    have z1:(nm.size:Int) > 50:=by omega
    have y1:50<nm.size:=by omega
    have x1:decide ((nm.size:Int) > 50)=true:=decide_eq_true z1
    clear HX HF
    go_wp2
    go_ret
    exact ⟨rfl,HB3.out⟩
  ·
   have hltz:¬ (k:Int)<(n:Int):=by omega
   obtain rfl:k=n:=by omega
   have hr0:r=decide (k≤60):=by
    rw [HRR.out]
    have:l.all vw=true:=by
     rw [List.all_eq_true]
     intro x hx
     obtain ⟨j,hj,rfl⟩:=List.getElem_of_mem hx
     exact A0.out j hj (by have:=HL.out; omega)
    unfold ZZ
    rw [this,← HL.out]; rfl
   have HZ:=za hr0
   clear A0 hr0
   by_cases h60:k≤60
   ·
    have z:(k:Int)≤60:=by omega
    go_wp2
    go_ret
    exact ⟨by rw [HZ.out,decide_eq_true h60]; rfl,HW.out⟩
   ·
    have z:¬ (k:Int)≤60:=by omega
    go_wp2
    go_ret
    exact ⟨by rw [HZ.out,decide_eq_false h60]; rfl,HW.out⟩


theorem few11L_len {l:List ActN} (h:ZZ l=true):l.length≤60:=by
 unfold ZZ at h
 simp only [Bool.and_eq_true,decide_eq_true_eq] at h
 exact h.2
theorem few11L_size {l:List ActN} (h:ZZ l=true):∀ t∈l,t.nm.size≤50∧t.hs.size≤50:=by
 unfold ZZ at h
 simp only [Bool.and_eq_true] at h
 intro t ht
 have:=List.all_eq_true.1 h.1 t ht
 unfold vw at this
 simpa using this
def Loop11 (w0:World) (D P M G Wb k:Nat) (wr:World):Prop :=
 ∃ A L S R A1 C1 A2 C2,zo w0 wr D P M G A L S∧zt A L S k∧yv wr Wb (.slice A1 (List.length R) C1) (.slice A2 (List.length (zb S)) C2)∧vQ 0 R wr (.slice A1 (List.length R) C1)∧NmR wr (.slice A2 (List.length (zb S)) C2) (zb S)∧ze R=zc A L S
end Go.Proofs.YthmomkjingcbiaaGreatDoor
namespace Go.Proofs.YthmomkjingcbiaaGreatDoor
open Go.RowKit Go.Maps
set_option linter.unusedVariables false

theorem loop11_next {w0 W w5:World} {D P M G Wb k:Nat} {A:zJ} {L:zB} {S:zw} {R:zL W11} {x1 x2:Value} {A1 A2:Option Addr} {C1 C2:Nat} (hx:yv W Wb x1 x2) (h0:w0.heap.size≤Wb) (hk:zu W w5) (ho:zo w0 w5 D P M G A L S) (hg:zt A L S k) (hr:vQ 0 R w5 (.slice A1 R.length C1)) (hn:NmR w5 (.slice A2 (zb S).length C2) (zb S)) (hp:ze R=zc A L S) :
  Loop11 w0 D P M G Wb k ((w5.setCell ⟨Wb,0,none⟩ (.slice A1 R.length C1)).setCell ⟨Wb,1,none⟩ (.slice A2 (zb S).length C2)):=by
 have hx5:=hx.keeps11 hk
 have hkg:zR w5 ((w5.setCell ⟨Wb,0,none⟩ (.slice A1 R.length C1)).setCell ⟨Wb,1,none⟩ (.slice A2 (zb S).length C2)):=(hx5.keep 0 _).trans ((hx5.set0 _).keep 1 _)
 exact ⟨A,L,S,R,A1,C1,A2,C2,(ho.cell11 hx5 h0 _).cell11 (hx5.set0 _) h0 _,hg,(hx5.set0 _).set1 _,hr.keepD11 hkg,hn.keepD11 hkg,hp⟩

end Go.Proofs.YthmomkjingcbiaaGreatDoor
namespace Go.Proofs.YthmomkjingcbiaaGreatDoor
open Go.RowKit Go.Maps

def vC (l:List Us):yA:=l.map fun u=>(u.nm.data.toList,⟨u.hs.data.toList,u.ml.data.toList,u.dis,uk u.gs⟩)
def ug (S:zw) (n:List UInt8) (T:List ByteArray):zw:=T.foldl (fun S g=>qP S g.data.toList n) S
def vL (r:Nat→Int):Nat→Nat→Int
 | _,0=>0
 | i,m+1=>if r i=0 then vL r (i+1) m else r i

theorem VI (S:zw) (n:List UInt8) {T:List ByteArray} {i:Nat} (hi:i<T.length):ug S n (T.take (i+1))=qP (ug S n (T.take i)) T[i].data.toList n:=by
 unfold ug
 rw [List.take_succ_eq_append_getElem hi,List.foldl_append]
 rfl
theorem uD:∀ {ss:List ByteArray},zX ss=true→ss.Pairwise fun a b=>bytesBefore a.data.toList b.data.toList=true
 | [],_=>List.Pairwise.nil
 | [_],_=>by simp
 | a::b::r,h=>by
  unfold zX at h
  rw [Bool.and_eq_true] at h
  have ih:=uD (ss:=b::r) h.2
  have hab:bytesBefore a.data.toList b.data.toList=true:=by
   have:=h.1
   unfold yY at this
   rwa [ux] at this
  refine List.pairwise_cons.2 ⟨fun x hx=>?_,ih⟩
  rcases List.mem_cons.1 hx with rfl | hx
  ·
   exact hab
  ·
   exact WideShapes.bytes_trans _ _ _ hab ((List.pairwise_cons.1 ih).1 x hx)
theorem bl_rise11 {G:List ByteArray} (h:zX G=true):ut (uk G):=by
 have:=uD h
 unfold ut uk
 rw [List.pairwise_map]
 exact this
theorem VJ {V:Type} {x:List UInt8×V}:∀ {A:zL V},(∀ y∈A,bytesBefore y.1 x.1=true)→Zd x A=A++[x]
 | [],_=>rfl
 | y::r,h=>by
  unfold Zd
  rw [yq (h y (by simp)),VJ (fun z hz=>h z (by simp [hz]))]
  simp
theorem Vz {V:Type} {A:zL V} {n:List UInt8} (a:V) (h:∀ y∈A,bytesBefore y.1 n=true):zP A n a=A++[(n,a)]:=by
 unfold zP
 rw [XE,VJ h]
 refine jO.2 fun hm=>?_
 obtain ⟨y,hy,e⟩:=List.mem_map.1 hm
 exact absurd e (vb (h y hy))

/-! ### groups are joined -/
structure J11 (S0 S:zw) (n:List UInt8) (T:List ByteArray) (k:Nat):Prop where
 names:zb S=zb S0
 good:zM S k
 mem:∀ x m,uO S x m=true↔uO S0 x m=true∨(m=n∧x∈uk T)
theorem joE_at11 {S0 S:zw} {n:List UInt8} {T:List ByteArray} {k i:Nat} (hi:i<T.length) (hJ:J11 S0 S n (T.take i) k) (hn:zf n=true) (h5:yy T=true) (hr:zX T=true) (hf:∀ x,uO S0 x n=false) :
  qv S T[i].data.toList n=if vl (zb S0) T[i].data.toList then 0 else 8:=by
 have e1:zx S T[i].data.toList=vl (zb S0) T[i].data.toList:=by rw [Bool.eq_iff_iff,yL,ve,hJ.names]
 have e0:zf T[i].data.toList=true:=by
  unfold yy at h5
  rw [List.all_eq_true] at h5
  exact h5 _ (List.getElem_mem hi)
 have e2:uO S T[i].data.toList n=false:=by
  rw [Bool.eq_false_iff]
  intro h
  rcases (hJ.mem _ _).1 h with h | ⟨_,h⟩
  ·
   rw [hf] at h; cases h
  ·
   obtain ⟨g,hg,e⟩:=List.mem_map.1 h
   obtain ⟨j,hj,rfl⟩:=List.getElem_of_mem hg
   have hj':j<i:=by rw [List.length_take] at hj; omega
   rw [List.getElem_take] at e
   have:=List.pairwise_iff_getElem.1 (uD hr) j i (by omega) hi hj'
   exact absurd e (vb this)
 unfold qv yF
 rw [e1,e2,e0]
 have:([n]:List (List UInt8)).all zf=true:=by simp [hn]
 rw [this]
 cases vl (zb S0) T[i].data.toList <;> rfl
theorem UD {S0:zw} {n:List UInt8} {T:List ByteArray} {k:Nat} (hg:zM S0 k) (hn:zf n=true) (h5:yy T=true) (hr:zX T=true) (hf:∀ x,uO S0 x n=false) :
  ∀ i,i≤T.length→(∀ g∈T.take i,vl (zb S0) g.data.toList=true)→J11 S0 (ug S0 n (T.take i)) n (T.take i) (k+i)
 | 0,_,_=>⟨rfl,hg,fun x m=>⟨.inl,fun h=>h.elim id (fun h=>absurd h.2 (by simp [uk]))⟩⟩
 | i+1,hi,hall=>by
  have hlt:i<T.length:=hi
  have e3:T.take (i+1)=T.take i++[T[i]]:=List.take_succ_eq_append_getElem hlt
  have ih:=UD hg hn h5 hr hf i (Nat.le_of_succ_le hi) (fun g h=>hall g (by rw [e3]; exact List.mem_append_left _ h))
  have e:=joE_at11 hlt ih hn h5 hr hf
  rw [hall T[i] (by rw [e3]; exact List.mem_append_right _ (List.mem_singleton.2 rfl)),if_pos rfl] at e
  rw [VI S0 n hlt]
  refine ⟨by rw [Xi,ih.names],js ih.good _ n,fun x m=>?_⟩
  rw [UL ih.good e,ih.mem]
  have:x∈uk (T.take (i+1))↔x∈uk (T.take i)∨x=T[i].data.toList:=by
   rw [e3]
   unfold uk
   rw [List.map_append,List.mem_append,List.map_cons,List.map_nil,List.mem_singleton]
  rw [this]
  constructor
  ·
   rintro ((h | ⟨h1,h2⟩) | ⟨h1,h2⟩)
   ·
    exact .inl h
   ·
    exact .inr ⟨h1,.inl h2⟩
   ·
    exact .inr ⟨h2,.inr h1⟩
  ·
   rintro (h | ⟨h1,h2 | h2⟩)
   ·
    exact .inl (.inl h)
   ·
    exact .inl (.inr ⟨h1,h2⟩)
   ·
    exact .inr ⟨h2,h1⟩

/-! ### users,one by one -/
def JA (A:zJ) (L:zB) (S:zw) (pre:List Us) (G:List ByteArray) (k:Nat):Prop:=uM A L S (vC pre) (uk G) k∧L.length≤pre.length
theorem plU_names (l:List Us):zb (vC l)=uk (l.map (·.nm)):=by unfold zb vC uk; rw [List.map_map,List.map_map]; rfl
theorem JA.below {A:zJ} {L:zB} {S:zw} {pre:List Us} {G:List ByteArray} {k:Nat} (h:JA A L S pre G k) {n:List UInt8} (hup:∀ v∈pre,bytesBefore v.nm.data.toList n=true):∀ y∈A,bytesBefore y.1 n=true:=by
 intro y hy
 have h1:y.1∈zb A:=List.mem_map.2 ⟨y,hy,rfl⟩
 rw [← Zk A L S,h.1.2.1,plU_names] at h1
 unfold uk at h1
 rw [List.map_map] at h1
 obtain ⟨v,hv,e⟩:=List.mem_map.1 h1
 rw [← e]
 exact hup v hv
theorem JA.len {A:zJ} {L:zB} {S:zw} {pre:List Us} {G:List ByteArray} {k:Nat} (h:JA A L S pre G k):A.length=pre.length:=by
 rw [← um A L S,h.1.2.1]; exact List.length_map _
theorem JA.free {A:zJ} {L:zB} {S:zw} {pre:List Us} {G:List ByteArray} {k:Nat} (h:JA A L S pre G k) {n:List UInt8} (hup:∀ v∈pre,bytesBefore v.nm.data.toList n=true):zx A n=false:=by
 refine jO.2 fun hm=>?_
 obtain ⟨y,hy,e⟩:=List.mem_map.1 hm
 exact absurd e (vb (h.below hup y hy))
theorem JA.fresh {A:zJ} {L:zB} {S:zw} {pre:List Us} {G:List ByteArray} {k:Nat} (h:JA A L S pre G k) {n:List UInt8} (hup:∀ v∈pre,bytesBefore v.nm.data.toList n=true) (x:List UInt8):uO S x n=false:=by
 cases hh:uO S x n with
 | false=>rfl
 | true=>have:=h.1.1.mem x n hh; rw [h.free hup] at this; cases this
theorem mail_eq11 {m:ByteArray} (h:jX m=true):yB m.data.toList=m.data.toList∧xw m.data.toList=true:=by
 unfold jX at h
 rw [Bool.or_eq_true,Bool.and_eq_true,decide_eq_true_eq,decide_eq_true_eq] at h
 rcases h with h | ⟨h1,h2⟩
 ·
  have:m.data.toList=[]:=List.length_eq_zero_iff.1 (by rw [zq]; exact h)
  rw [this]
  exact ⟨rfl,by decide⟩
 ·
  refine ⟨?_,by unfold xw; rw [h1,Bool.or_true]⟩
  have h3:(qf m.data.toList).data.toList=zO m.data.toList:=by unfold qf; rw [if_pos h1]
  unfold yB
  rw [if_pos h1,← h3,h2]
theorem YF {A:zJ} {L L':zB} {S S':zw} (h:∀ p∈A,xk L' p.1=xk L p.1∧yV S' p.1=yV S p.1) (x:List UInt8×(List UInt8×Bool)):zc (A++[x]) L' S'=zc A L S++[(x.1,xQ L' S' x.1 x.2)]:=by
 unfold zc
 rw [List.map_append]
 congr 1
 refine List.map_congr_left fun p hp=>?_
 obtain ⟨h1,h2⟩:=h p hp
 unfold xQ
 rw [h1,h2]

theorem step11 {A:zJ} {L:zB} {S:zw} {pre:List Us} {G:List ByteArray} {k:Nat} (h:JA A L S pre G k) (u:Us) (hc:xK 2 u=0) (hup:∀ v∈pre,bytesBefore v.nm.data.toList u.nm.data.toList=true) (h12:pre.length<12) (hall:u.gs.all (fun g=>vl (uk G) g.data.toList)=true) :
  je L u.nm.data.toList u.ml.data.toList=(if pre.any (fun v=>!(u.ml.data.toList == []) && (u.ml.data.toList == v.ml.data.toList)) then 9 else 0) ∧
  (je L u.nm.data.toList u.ml.data.toList=0→JA (zP A u.nm.data.toList (u.hs.data.toList,u.dis)) (Vr L u.nm.data.toList u.ml.data.toList) (ug S u.nm.data.toList u.gs) (pre++[u]) G (k+8)):=by
 obtain ⟨_,hn,hh⟩:=qF hc
 obtain ⟨hfo,h6,hns,hri⟩:=Q1 hc
 obtain ⟨hfm,him⟩:=mail_eq11 hfo
 have hbel:=h.below hup
 have hfree:=h.free hup
 have hfr:=h.fresh hup
 have hlen:=h.len
 obtain ⟨⟨hg,ht,hN⟩,hL⟩:=h
 obtain ⟨f1,f2,f3⟩:=hg.free hfree
 have hJ:=UD hg.grp hn hns hri hfr u.gs.length (Nat.le_refl _) (fun g hg'=>by
  rw [List.take_length] at hg'
  rw [hN]
  exact List.all_eq_true.1 hall g hg')
 rw [List.take_length] at hJ
 generalize hS':ug S u.nm.data.toList u.gs=S' at *
 have hA1:=Vz (u.hs.data.toList,u.dis) hbel
 have hg1:=hg.put (a:=(u.hs.data.toList,u.dis)) hn hh (by rw [hA1]; simp; omega)
 generalize hAA:zP A u.nm.data.toList (u.hs.data.toList,u.dis)=A1 at *
 have hin:zx A1 u.nm.data.toList=true:=by rw [← hAA]; exact uo.2 (.inl rfl)
 have hg2:zt A1 L S' (k+7):=⟨hg1.rise,hg1.few,hg1.nm,hg1.mir,hg1.all,hg1.has,Nat.le_trans hg.lfew (by omega),hJ.good.mono (by omega),fun x m hm=>by
  rcases (hJ.mem x m).1 hm with hm | ⟨rfl,_⟩
  ·
   exact hg1.mem x m hm
  ·
   exact hin⟩
 have hof:yV S' u.nm.data.toList=uk u.gs:=vX (xM hJ.good.rise _) (bl_rise11 hri) fun x=>by
  rw [xC hJ.good.rise,hJ.mem,hfr]
  simp
 have hof2:∀ m,m≠u.nm.data.toList→yV S' m=yV S m:=fun m hm=>ofT hg.grp.rise hJ.good.rise fun x=>by
  rw [hJ.mem]
  exact ⟨fun h=>h.elim id (fun h=>absurd h.1 hm),.inl⟩
 have hne:∀ p∈A,p.1≠u.nm.data.toList:=fun p hp=>vb (hbel p hp)
 have hsm:=(sm11_eq (A:=A1) (L:=L) u.nm.data.toList u.ml.data.toList).1 ⟨hn,him,hin⟩
 have hone:=sm_one hg2 u.nm.data.toList u.ml.data.toList
 have htl:zc A1 L S'=vC pre++[(u.nm.data.toList,⟨u.hs.data.toList,[],u.dis,uk u.gs⟩)]:=by
  rw [hA1,YF (L:=L) (S:=S) (fun p hp=>⟨rfl,hof2 _ (hne p hp)⟩),ht]
  unfold xQ
  rw [hof,f2]
 have hE:qK A1 L u.nm.data.toList u.ml.data.toList=(if pre.any (fun v=>!(u.ml.data.toList == []) && (u.ml.data.toList == v.ml.data.toList)) then 9 else 0):=by
  rw [← JR hg2]
  unfold dsmE
  rw [hn,him,vU,hin,hfm,htl]
  have:Yw (vC pre++[(u.nm.data.toList,⟨u.hs.data.toList,[],u.dis,uk u.gs⟩)]) u.nm.data.toList u.ml.data.toList=pre.any (fun v=>!(u.ml.data.toList == []) && (u.ml.data.toList == v.ml.data.toList)):=by
   unfold Yw vC
   rw [Bool.eq_iff_iff]
   simp only [List.any_append,List.any_map,List.any_cons,List.any_nil,Bool.or_false,Bool.or_eq_true,List.any_eq_true,Bool.and_eq_true,Bool.not_eq_true',beq_eq_false_iff_ne,beq_iff_eq,Function.comp]
   constructor
   ·
    rintro (⟨v,hv,⟨h1,h2⟩,h3⟩ | ⟨_,h3⟩)
    ·
     exact ⟨v,hv,h1,h2.symm⟩
    ·
     exact absurd rfl h3
   ·
    rintro ⟨v,hv,h1,h2⟩
    exact .inl ⟨v,hv,⟨h1,h2.symm⟩,vb (hup v hv)⟩
  rw [this]
  cases pre.any (fun v=>!(u.ml.data.toList == []) && (u.ml.data.toList == v.ml.data.toList)) <;> rfl
 rw [hsm.1] at hE
 refine ⟨hE,fun h0=>?_⟩
 rw [hsm.2] at hone
 obtain ⟨o1,_,o3⟩:=hone
 refine ⟨⟨o1,?_,?_⟩,?_⟩
 ·
  have hge:∀ x,xk (Vr L u.nm.data.toList u.ml.data.toList) x=if x=u.nm.data.toList then u.ml.data.toList else xk L x:=by
   intro x
   unfold Vr
   rw [if_pos h0]
   by_cases hm:u.ml.data.toList=[]
   ·
    rw [if_pos hm,Z1,hm]
   ·
    rw [if_neg hm,Yu hg.lrise]
    have:zO u.ml.data.toList=u.ml.data.toList:=by
     have hm5:yP u.ml.data.toList=true:=by
      unfold xw at him
      rw [decide_eq_false hm,Bool.false_or] at him
      exact him
     unfold yB at hfm
     rw [if_pos hm5] at hfm
     exact hfm
    rw [this]
  rw [hA1,YF (L:=L) (S:=S) (fun p hp=>⟨by rw [hge,if_neg (hne p hp)],hof2 _ (hne p hp)⟩),ht]
  unfold xQ
  rw [hof,hge,if_pos rfl]
  unfold vC
  rw [List.map_append]
  rfl
 ·
  rw [hJ.names,hN]
 ·
  have:(Vr L u.nm.data.toList u.ml.data.toList).length≤L.length+1:=by
   unfold Vr
   rw [if_pos h0]
   split
   ·
    exact Nat.le_succ_of_le (List.length_filter_le _ _)
   ·
    rw [qp hg.lrise]; split <;> omega
  rw [List.length_append]
  simp
  omega
theorem st_nil11 {S:zw} {G:List ByteArray} {k:Nat} (hg:zt [] [] S k) (hN:zb S=uk G):JA [] [] S [] G k:=⟨⟨hg,rfl,hN⟩,Nat.le_refl _⟩
theorem Fo {S:zw} {G:List ByteArray} {i:Nat} (hi:i<G.length) (h6:G.length≤6) (h5:yy G=true) (hr:zX G=true) (hg:zt [] [] S i) (hN:zb S=uk (G.take i)) :
  uS S G[i].data.toList=0∧zt [] [] (qu S G[i].data.toList) (i+1)∧zb (qu S G[i].data.toList)=uk (G.take (i+1)):=by
 have e0:zf G[i].data.toList=true:=by
  unfold yy at h5
  rw [List.all_eq_true] at h5
  exact h5 _ (List.getElem_mem hi)
 have hbel:∀ y∈S,bytesBefore y.1 G[i].data.toList=true:=fun y hy=>by
  have h1:y.1∈zb S:=List.mem_map.2 ⟨y,hy,rfl⟩
  rw [hN] at h1
  obtain ⟨g,hg,e⟩:=List.mem_map.1 h1
  obtain ⟨j,hj,rfl⟩:=List.getElem_of_mem hg
  have hj':j<i:=by rw [List.length_take] at hj; omega
  rw [List.getElem_take] at e
  rw [← e]
  exact List.pairwise_iff_getElem.1 (uD hr) j i (by omega) hi hj'
 have hfree:zx S G[i].data.toList=false:=jO.2 fun hm=>by
  obtain ⟨y,hy,e⟩:=List.mem_map.1 hm
  exact absurd e (vb (hbel y hy))
 have hlen:S.length=i:=by
  have:(zb S).length=S.length:=List.length_map _
  rw [← this,hN]
  unfold uk
  rw [List.length_map,List.length_take]
  omega
 have e:uS S G[i].data.toList=0:=by
  unfold uS
  rw [e0,hfree,if_pos rfl,if_neg (by decide),if_neg (by omega)]
 refine ⟨e,(ma_one hg G[i].data.toList).1,?_⟩
 unfold qu
 rw [if_pos e,Vz _ hbel,List.take_succ_eq_append_getElem hi]
 unfold zb uk at *
 rw [List.map_append,List.map_append,hN]
 rfl
theorem one_ev11 (G:List ByteArray) (l:List Us):∀ (m i:Nat),i+m=l.length→vL (fun j=>if hj:j<l.length then xX G (l.take j) l[j] else 0) i m=xe G (l.take i) (l.drop i)
 | 0,i,h=>by
  rw [List.drop_eq_nil_of_le (by omega)]
  rfl
 | m+1,i,h=>by
  have hi:i<l.length:=by omega
  rw [restD_step hi]
  unfold vL
  rw [dif_pos hi,one_ev11 G l m (i+1) (by omega)]
end Go.Proofs.YthmomkjingcbiaaGreatDoor
namespace Go.Proofs.YthmomkjingcbiaaGreatDoor
open Go.RowKit Go.Maps Go.Sort Go.Shelf

theorem Jd (r:Nat→Int) {k n:Nat} (h:k<n):vL r k (n - k)=if r k=0 then vL r (k+1) (n - (k+1)) else r k:=by
 obtain ⟨m,rfl⟩:∃ m,n=k+1+m:=⟨n - (k+1),by omega⟩
 rw [show k+1+m - k=m+1 by omega,show k+1+m - (k+1)=m by omega]
 rfl
set_option maxRecDepth 100000 in
theorem qg (g:Nat) (bd lb:Array Value) (A:Option Addr) (n c:Nat) (ss:List ByteArray) (w:World) (r:Nat→Int) (I:Nat→World→Prop) (J:World→Prop) (hl:n=ss.length) (hn:n≤9223372036854775807)
  (eg:∀ args w,(callFunc g args).run Tryz.prog w=.ok (.enter g args) w) (h0:I 0 w) (hr:∀ i W,I i W→RdS W A ss)
  (hs:∀ i (h:i<ss.length) W,I i W→Calls Tryz.prog g (bd++#[.string ss[i]]++lb) W fun e w'=>e=.returned (.int .i64 (r i))∧(r i=0→I (i+1) w')∧(r i≠0→J w')) :
  Calls Tryz.prog 113 #[.slice A n c,.func (.func g) bd lb] w fun e w'=>e=.returned (.int .i64 (vL r 0 n))∧(vL r 0 n=0→I n w')∧(vL r 0 n≠0→J w'):=by
 have HR:=za hr
 have HL:=za hl
 have HS:=za hs
 have H0:=za h0
 clear hr hl hs h0
 obtain ⟨x,hx⟩:∃ x,x=vL r 0 n:=⟨_,rfl⟩
 rw [← hx]
 have HX:Hid (x=vL r 0 (n - 0)):=hx
 clear hx
 go_enter Tryz.func113,Tryz.ntmps113
 go_wp2
 go_loopg [6,7,10] n (fun gg _ _ s10 wr=>∃ k:Nat,k≤n∧n - k≤gg∧s10=.int .i64 k∧Hid (I k wr)∧Hid (x=vL r k (n - k)))
 case atStart=>exact ⟨0,Nat.zero_le _,by omega,rfl,H0,HX⟩
 case round =>
  clear H0 HX
  obtain ⟨k,hk,hg,rfl,HW,HX⟩:=hrel
  by_cases hlt:k<n
  ·
   have hltz:(k:Int)<(n:Int):=by omega
   have hkl:k<ss.length:=HL.out ▸ hlt
   obtain ⟨b,off,rfl,hb,hc⟩:=(HR.out k wr HW.out) (by intro e; rw [e] at hkl; exact absurd hkl (Nat.not_lt_zero _))
   have hcell:=hc k hkl
   have HC:=za (HS.out k hkl wr HW.out)
   have hA:=HX.out
   rw [Jd r hlt] at hA
   clear hc hb HX
   generalize ss[k]=s at *
   generalize r k=y at *
   by_cases hy:y=0
   ·
    rw [if_pos hy] at hA
    have HA:=za hA
    subst hy
    clear hA
    go_wp2_with (go_at_fn g; refine HC.out.mono ?_; rintro e w' ⟨rfl,h1,_⟩; have HW2:=za (h1 rfl); clear h1)
    go_roundg (n - (k+1))
    case measure=>omega
    case rel=>exact ⟨k+1,by omega,by omega,by go_num,HW2,HA⟩
   ·
    rw [if_neg hy] at hA
    subst hA
    have hx1:(x != 0)=true:=by simpa using hy
    have HY:=za hy
    clear hy
    go_wp2_with (go_at_fn g; refine HC.out.mono ?_; rintro e w' ⟨rfl,_,h2⟩; have HW2:=za (h2 HY.out); clear h2)
    go_ret
    exact ⟨rfl,fun h=>absurd h HY.out,fun _=>HW2.out⟩
  ·
   have hltz:¬ (k:Int)<(n:Int):=by omega
   obtain rfl:k=n:=by omega
   have hA:=HX.out
   rw [Nat.sub_self] at hA
   have hA0:x=0:=hA
   subst hA0
   clear hA HX
   go_wp2
   go_ret
   exact ⟨rfl,HW.out⟩
set_option maxRecDepth 100000 in
theorem fe (g:Nat) (bd lb:Array Value) (A:Option Addr) (n c:Nat) (l:List Us) (w:World) (r:Nat→Int) (I:Nat→World→Prop) (J:World→Prop) (hl:n=l.length) (hn:n≤9223372036854775807)
  (eg:∀ args w,(callFunc g args).run Tryz.prog w=.ok (.enter g args) w) (h0:I 0 w) (hr:∀ i W,I i W→YA W A l)
  (ha:∀ i W,I i W→∀ b,I i (W.alloc b)) (hs:∀ i (h:i<l.length) W,I i W→Calls Tryz.prog g (bd++#[l[i].v]++lb) W fun e w'=>e=.returned (.int .i64 (r i))∧(r i=0→I (i+1) w')∧(r i≠0→J w')) :
  Calls Tryz.prog 108 #[.slice A n c,.func (.func g) bd lb] w fun e w'=>e=.returned (.int .i64 (vL r 0 n))∧(vL r 0 n=0→I n w')∧(vL r 0 n≠0→J w'):=by
 have HR:=za hr
 have HL:=za hl
 have HS:=za hs
 have H0:=za h0
 have HAL:=za ha
 clear hr hl hs h0 ha
 obtain ⟨x,hx⟩:∃ x,x=vL r 0 n:=⟨_,rfl⟩
 rw [← hx]
 have HX:Hid (x=vL r 0 (n - 0)):=hx
 clear hx
 go_enter Tryz.func108,Tryz.ntmps108
 go_wp2
 go_loopg [6,7,10] n (fun gg _ _ s10 wr=>∃ k:Nat,k≤n∧n - k≤gg∧s10=.int .i64 k∧Hid (I k wr)∧Hid (x=vL r k (n - k)))
 case atStart=>exact ⟨0,Nat.zero_le _,by omega,rfl,H0,HX⟩
 case round =>
  clear H0 HX
  obtain ⟨k,hk,hg,rfl,HW,HX⟩:=hrel
  by_cases hlt:k<n
  ·
   have hltz:(k:Int)<(n:Int):=by omega
   have hkl:k<l.length:=HL.out ▸ hlt
   obtain ⟨b,off,rfl,hb,hc⟩:=(HR.out k wr HW.out) (by intro e; rw [e] at hkl; exact absurd hkl (Nat.not_lt_zero _))
   have c0:wr.cell? ⟨b,off+k * 5,none⟩=some (.string l[k].nm):=hc k hkl 0 _ rfl
   have c1:wr.cell? ⟨b,off+k * 5+1,none⟩=some (.string l[k].hs):=hc k hkl 1 _ rfl
   have c2:wr.cell? ⟨b,off+k * 5+2,none⟩=some (.string l[k].ml):=hc k hkl 2 _ rfl
   have c3:wr.cell? ⟨b,off+k * 5+3,none⟩=some (.bool l[k].dis):=hc k hkl 3 _ rfl
   have c4:wr.cell? ⟨b,off+k * 5+4,none⟩=some (.slice l[k].ga l[k].gs.length l[k].gc):=hc k hkl 4 _ rfl
   have HC:Hid (Calls Tryz.prog g (bd++#[.agg #[.string l[k].nm,.string l[k].hs,.string l[k].ml,.bool l[k].dis,.slice l[k].ga l[k].gs.length l[k].gc]]++lb) (wr.alloc (.cells #[.string l[k].nm,.string l[k].hs,.string l[k].ml,.bool l[k].dis,.slice l[k].ga l[k].gs.length l[k].gc] 47)) fun e w'=>e=.returned (.int .i64 (r k))∧(r k=0→I (k+1) w')∧(r k≠0→J w')):=HS.out k hkl _ (HAL.out k wr HW.out _)
   have hA:=HX.out
   rw [Jd r hlt] at hA
   clear hc hb HX
   generalize l[k].nm=nm at *
   generalize l[k].hs=hs at *
   generalize l[k].ml=ml at *
   generalize l[k].dis=dis at *
   generalize l[k].ga=ga at *
   generalize l[k].gs.length=gl at *
   generalize l[k].gc=gc at *
   generalize r k=y at *
   by_cases hy:y=0
   ·
    rw [if_pos hy] at hA
    have HA:=za hA
    subst hy
    clear hA
    go_wp2_with (go_at_fn g; refine HC.out.mono ?_; rintro e w' ⟨rfl,h1,_⟩; have HW2:=za (h1 rfl); clear h1)
    go_roundg (n - (k+1))
    case measure=>omega
    case rel=>exact ⟨k+1,by omega,by omega,by go_num,HW2,HA⟩
   ·
    rw [if_neg hy] at hA
    subst hA
    have hx1:(x != 0)=true:=by simpa using hy
    have HY:=za hy
    clear hy
    go_wp2_with (go_at_fn g; refine HC.out.mono ?_; rintro e w' ⟨rfl,_,h2⟩; have HW2:=za (h2 HY.out); clear h2)
    go_ret
    exact ⟨rfl,fun h=>absurd h HY.out,fun _=>HW2.out⟩
  ·
   have hltz:¬ (k:Int)<(n:Int):=by omega
   obtain rfl:k=n:=by omega
   have hA:=HX.out
   rw [Nat.sub_self] at hA
   have hA0:x=0:=hA
   subst hA0
   clear hA HX
   go_wp2
   go_ret
   exact ⟨rfl,HW.out⟩
set_option maxRecDepth 100000 in
theorem Ux (u:Us) (w:World) (h:u.Ok w) (hm:vR w):Calls Tryz.prog 109 #[.agg #[.string u.nm,.string u.hs,.string u.ml,.bool u.dis,.slice u.ga u.gs.length u.gc]] w (yH (xK 2 u) w):=by
 have hb1:=z7 (Below.refl w.heap.size w) (.cells #[.string u.nm,.string u.hs,.string u.ml,.bool u.dis,.slice u.ga u.gs.length u.gc] 47)
 have HC:Hid (Calls Tryz.prog 104 #[.int .i64 2,.agg #[.string u.nm,.string u.hs,.string u.ml,.bool u.dis,.slice u.ga u.gs.length u.gc]] (w.alloc (.cells #[.string u.nm,.string u.hs,.string u.ml,.bool u.dis,.slice u.ga u.gs.length u.gc] 47)) (yH (xK 2 u) (w.alloc (.cells #[.string u.nm,.string u.hs,.string u.ml,.bool u.dis,.slice u.ga u.gs.length u.gc] 47)))):=uY 2 u _ (h.below hb1) (hm.later hb1)
 have HB:=za hb1
 clear h hm hb1
 generalize xK 2 u=x at *
 obtain ⟨nm,hs,ml,dis,ga,gs,gc⟩:=u
 dsimp only at *
 generalize gs.length=gl at *
 go_enter Tryz.func109,Tryz.ntmps109
 go_wp2_with (go_at_call 104; (with_reducible refine HC.out.mono ?_); rintro e w2 ⟨rfl,hb⟩; have HB2:=za (z8 HB.out hb); clear hb)
 go_ret
 exact ⟨rfl,HB2.out⟩

theorem UR {α:Type} (P:α→Bool) (x:Int) (hx:x≠0) (r:Nat→Int):∀ (T:List α) (i:Nat),(∀ j (hj:j<T.length),r (i+j)=if P T[j] then 0 else x)→vL r i T.length=if T.all P then 0 else x
 | [],_,_=>rfl
 | t::T,i,h=>by
  have h0:r i=if P t then 0 else x:=h 0 (by simp)
  have ih:=UR P x hx r T (i+1) (fun j hj=>by
   have:=h (j+1) (by simp; omega)
   rw [show i+1+j=i+(j+1) by omega]
   exact this)
  show (if r i=0 then vL r (i+1) T.length else r i)=_
  rw [ih,h0,List.all_cons]
  cases P t with
  | true=>simp
  | false=>simp [hx]
theorem ev_may11 (r:Nat→Int):∀ (l:List Us) (i:Nat),(∀ j (hj:j<l.length),r (i+j)=xK 2 l[j])→vL r i l.length=xY l
 | [],_,_=>rfl
 | u::l,i,h=>by
  have h0:r i=xK 2 u:=h 0 (by simp)
  have ih:=ev_may11 r l (i+1) (fun j hj=>by
   have:=h (j+1) (by simp; omega)
   rw [show i+1+j=i+(j+1) by omega]
   exact this)
  show (if r i=0 then vL r (i+1) l.length else r i)=_
  rw [ih,h0]
  rfl
theorem Jc (r:Nat→Int):∀ (m i:Nat),(∀ j,i≤j→j<i+m→r j=0)→vL r i m=0
 | 0,_,_=>rfl
 | m+1,i,h=>by
  unfold vL
  rw [if_pos (h i (Nat.le_refl _) (by omega))]
  exact Jc r m (i+1) fun j h1 h2=>h j (by omega) (by omega)
theorem Xd:∀ {l:List Us},xY l=0→∀ u∈l,xK 2 u=0
 | [],_,u,h=>by cases h
 | x::r,h,u,hu=>by
  unfold xY at h
  by_cases e:xK 2 x=0
  ·
   rw [if_pos e] at h
   rcases List.mem_cons.1 hu with rfl | hu
   ·
    exact e
   ·
    exact Xd h u hu
  ·
   rw [if_neg e] at h
   exact absurd h e
def FQ (l:List Us) (G:List ByteArray):Int:=zN [xY l,zp (zX (l.map (·.nm))) 9,zp (decide ((l.length:Int)≤12)) 7,zp (yy G) 10,zp (zX G) 9,zp (decide ((G.length:Int)≤6)) 7]
theorem first67:∀ l:List Int,uj l=zN l
 | []=>rfl
 | e::l=>by unfold uj zN; rw [first67 l]
theorem cE_of {l:List Us} {G:List ByteArray}:(FQ l G≠0→uR l G=FQ l G)∧(FQ l G=0→uR l G=xe G [] l):=by
 have h1:FQ l G=if X5 l=0 then (if yy G then (if zX G then (if G.length≤6 then 0 else 7) else 9) else 10) else X5 l:=by
  unfold FQ X5
  rw [first67]
  have h6:decide ((G.length:Int)≤6)=decide (G.length≤6):=by
   by_cases h:G.length≤6
   ·
    rw [decide_eq_true h,decide_eq_true (by omega)]
   ·
    rw [decide_eq_false h,decide_eq_false (by omega)]
  rw [h6]
  generalize xY l=e0
  generalize zp (zX (l.map (·.nm))) 9=e1
  generalize zp (decide ((l.length:Int)≤12)) 7=e2
  unfold zN zN zN zN
  by_cases h0:e0=0
  ·
   subst h0
   by_cases h1:e1=0
   ·
    subst h1
    by_cases h2:e2=0
    ·
     subst h2
     cases yy G <;> cases zX G <;> by_cases hG:G.length≤6 <;> simp [zp,zN,hG]
    ·
     simp [h2]
   ·
    simp [h1]
  ·
   simp [h0]
 rw [h1]
 unfold uR
 by_cases h:X5 l=0
 ·
  rw [if_pos h,if_pos h]
  cases yy G <;> cases zX G <;> by_cases hG:G.length≤6 <;> simp [hG]
 ·
  rw [if_neg h,if_neg h]
  exact ⟨fun _=>rfl,fun h'=>absurd h' h⟩
theorem Yv {l:List Us} {G:List ByteArray} (h:FQ l G=0):(∀ u∈l,xK 2 u=0)∧zX (l.map (·.nm))=true∧l.length≤12∧yy G=true∧zX G=true∧G.length≤6:=by
 unfold FQ at h
 have hz:=yz h
 refine ⟨Xd (hz _ (by simp)),yX (n:=9) (by decide) (hz _ (by simp)),?_,yX (n:=10) (by decide) (hz _ (by simp)),yX (n:=9) (by decide) (hz (zp (zX G) 9) (by simp)),?_⟩
 ·
  have:=yX (n:=7) (by decide) (hz (zp (decide ((l.length:Int)≤12)) 7) (by simp))
  rw [decide_eq_true_eq] at this
  omega
 ·
  have:=yX (n:=7) (by decide) (hz (zp (decide ((G.length:Int)≤6)) 7) (by simp))
  rw [decide_eq_true_eq] at this
  omega
theorem Fk (l:List Us):(l.map fun u=>Value.string u.nm)=xG (l.map (·.nm)):=by unfold xG; rw [List.map_map]; rfl

set_option maxRecDepth 100000 in
theorem Xa (A:Option Addr) (c n:Nat) (l:List Us) (w:World) (hl:n=l.length) (hn:n≤1000) (hr:YA w A l) :
  Calls Tryz.prog 111 #[.slice A n c] w fun e w'=>∃ A2 c2,e=.returned (.slice A2 n c2)∧RdS w' A2 (l.map (·.nm))∧Below w.heap.size w w':=by
 obtain ⟨i0,hi,hz0,hz1,hz2⟩:=info_parts jq
 have HR:=za hr
 have HL:=za hl
 have HN:Hid (w.ownsRow w.heap.size 9 1 (.slice none 0 0) 0 ((l.take 0).map fun u=>Value.string u.nm)):=World.ownsRow_nil _ _ _ _
 clear hr hl
 go_enter Tryz.func111,Tryz.ntmps111
 go_wp2
 go_loopg [3,5,8] n (fun gg s3 _ s8 wr=>∃ k:Nat,k≤n∧n - k≤gg∧s8=.int .i64 k∧Hid (Below w.heap.size w wr)∧Hid (wr.ownsRow w.heap.size 9 1 s3 k ((l.take k).map fun u=>Value.string u.nm)))
 case atStart=>exact ⟨0,Nat.zero_le _,by omega,rfl,Below.refl _ _,HN.out⟩
 case round =>
  clear HN
  obtain ⟨k,hk,hg,rfl,HW,HO⟩:=hrel
  by_cases hlt:k<n
  ·
   have hltz:(k:Int)<(n:Int):=by omega
   have hkl:k<l.length:=HL.out ▸ hlt
   obtain ⟨b,off,rfl,hb,hc⟩:=(HR.out.later HW.out) (by intro e; rw [e] at hkl; exact absurd hkl (Nat.not_lt_zero _))
   have c0:wr.cell? ⟨b,off+k * 5,none⟩=some (.string l[k].nm):=hc k hkl 0 _ rfl
   have c1:wr.cell? ⟨b,off+k * 5+1,none⟩=some (.string l[k].hs):=hc k hkl 1 _ rfl
   have c2:wr.cell? ⟨b,off+k * 5+2,none⟩=some (.string l[k].ml):=hc k hkl 2 _ rfl
   have c3:wr.cell? ⟨b,off+k * 5+3,none⟩=some (.bool l[k].dis):=hc k hkl 3 _ rfl
   have c4:wr.cell? ⟨b,off+k * 5+4,none⟩=some (.slice l[k].ga l[k].gs.length l[k].gc):=hc k hkl 4 _ rfl
   have HU2:=za (HO.out.alloc (.cells #[.string l[k].nm,.string l[k].hs,.string l[k].ml,.bool l[k].dis,.slice l[k].ga l[k].gs.length l[k].gc] 47))
   have HW2:=za (z8 HW.out (z7 (Below.refl wr.heap.size wr) (.cells #[.string l[k].nm,.string l[k].hs,.string l[k].ml,.bool l[k].dis,.slice l[k].ga l[k].gs.length l[k].gc] 47)))
   have HT:Hid (((l.take (k+1)).map fun u=>Value.string u.nm)=((l.take k).map fun u=>Value.string u.nm)++[.string l[k].nm]):=by
    show _=_
    rw [List.take_succ_eq_append_getElem hkl,List.map_append]
    rfl
   have hsz:=HW.out.size
   clear hc hb HO HW
   generalize l[k].nm=nm at *
   generalize l[k].hs=hs at *
   generalize l[k].ml=ml at *
   generalize l[k].dis=dis at *
   generalize l[k].ga=ga at *
   generalize l[k].gs.length=gl at *
   generalize l[k].gc=gc at *
   go_wp2_with (first
    | (at_builtin; refine wpList_append_own _ rfl _ _ 45 rfl w.heap.size 9 i0 (.string ⟨#[]⟩) 1 16 Tryz.underlying45 hi hz0 hz1 hz2 rfl (by decide) _ _ _ rfl (HU2.out.alloc _) ⟨wr.heap.size+1,0,none⟩ 1 1 [.string nm] rfl rfl (fun j u hu=>by rw [Addr.add_lit,Nat.zero_add,World.cell?_alloc_at _ _ _ _ (by simp)]; simpa using hu) (by simp [Value.oneCell']) (by unfold maxLen; omega) (by omega) (by simp; omega) ?_; intro v2 w2 hown' hgrow _; have HOw2:=za hown'; have HGw2:=za hgrow; clear hown' hgrow)
    | fail)
   have R1:=za (Vj HW2.out HU2.out HGw2.out)
   have R2:Hid (w2.ownsRow w.heap.size 9 1 v2 (k+1) ((l.take (k+1)).map fun u=>Value.string u.nm)):=by
    show World.ownsRow _ _ _ _ _ _ _
    rw [HT.out]
    exact HOw2.out
   clear HT HOw2 HGw2 HU2 HW2
   go_roundg (n - (k+1))
   case measure=>omega
   case rel=>exact ⟨k+1,by omega,by omega,by go_num,R1,R2⟩
  ·
   have hltz:¬ (k:Int)<(n:Int):=by omega
   obtain rfl:k=n:=by omega
   have hown:=HO.out
   rw [List.take_of_length_le (by have:=HL.out; omega)] at hown
   have hsh:∃ A2 c2,u3=.slice A2 k c2∧RdS wr A2 (l.map (·.nm)):=by
    have hk':k=(l.map (·.nm)).length:=by rw [List.length_map]; exact HL.out
    have hs:∃ A2 c2,u3=.slice A2 k c2:=by
     have e:(l.map fun u=>Value.string u.nm)=(l.map fun u=>u.nm.data.toList).map encStr:=by
      rw [List.map_map]
      refine List.map_congr_left fun u _=>?_
      exact (vx u.nm).symm
     rw [e] at hown
     have hk2:k=(l.map fun u=>u.nm.data.toList).length:=by rw [List.length_map]; exact HL.out
     rw [hk2] at hown ⊢
     exact xA hown
    obtain ⟨A2,c2,rfl⟩:=hs
    refine ⟨A2,c2,rfl,?_⟩
    have h2:=zC hown (Nat.zero_le _)
    rw [Fk] at h2
    rw [hk'] at h2
    exact Vy h2
   obtain ⟨A2,c2,rfl,hrd⟩:=hsh
   have HF:=za hrd
   have HB:=za HW.out
   clear hrd hown HO HW
   go_wp2
   go_ret
   exact ⟨A2,⟨c2,rfl⟩,HF.out,HB.out⟩
set_option maxRecDepth 100000 in
theorem ZR (Aa:Option Addr) (n c:Nat) (ss:List ByteArray) (w:World) (hl:n=ss.length) (hr:RdS w Aa ss) (hm:n≤9223372036854775807) :
  Calls Tryz.prog 110 #[.slice Aa n c] w fun e w'=>e=.returned (.int .i64 (zp (zX ss) 9))∧∃ q,w'=w.drewN q:=by
 have HR:=za hr
 have HL:=za hl
 clear hr hl
 obtain ⟨r,hr⟩:∃ r,r=zp (zX ss) 9:=⟨_,rfl⟩
 rw [← hr]
 have HE:=za hr
 clear hr
 go_enter Tryz.func110,Tryz.ntmps110
 go_wp2
 go_loopg [3] n (fun gg s3 wr=>∃ k:Nat,(k≤n∨k=1)∧1≤k∧n - k≤gg∧s3=.int .i64 k∧(∃ q,wr=w.drewN q)∧Hid (∀ j (h:j+1<ss.length),j+1<k→yY ss[j] ss[j+1]=true))
 case atStart=>exact ⟨1,.inr rfl,Nat.le_refl _,by omega,rfl,⟨0,rfl⟩,fun j _ hj=>absurd hj (by omega)⟩
 case round =>
  obtain ⟨k,hk,hk1,hg,rfl,⟨q,hq⟩,A⟩:=hrel
  have HQ:=za hq
  have HW:Hid (RdS wr Aa ss):=by rw [hq]; exact HR.out.below (zv (Below.refl w.heap.size w) q)
  clear hq
  by_cases hlt:k<n
  ·
   have hltz:(k:Int)<(n:Int):=by omega
   have hkl:k<ss.length:=HL.out ▸ hlt
   have hkl':k - 1<ss.length:=by omega
   obtain ⟨b,off,hA,hcell⟩:=HW.out.at6 k hkl
   obtain ⟨b',off',hA',hcell'⟩:=HW.out.at6 (k - 1) hkl'
   obtain ⟨rfl,rfl⟩:b'=b∧off'=off:=by
    rw [hA] at hA'
    simp at hA'
    exact ⟨hA'.1.symm,hA'.2.symm⟩
   subst hA
   have zk:(k:Int) - 1=((k - 1:Nat):Int):=by omega
   have z1:((k - 1:Nat):Int)<(n:Int):=by omega
   have hcw:∀ i,(wr.drewN i).cell? ⟨b',off'+k,none⟩=some (.string ss[k]):=fun i=>hcell
   have hcw':∀ i,(wr.drewN i).cell? ⟨b',off'+(k - 1),none⟩=some (.string ss[k - 1]):=fun i=>hcell'
   have HX:Hid (yY ss[k - 1] ss[k]=true→∀ j (h:j+1<ss.length),j+1<k+1→yY ss[j] ss[j+1]=true):=fun hq j h hj=>by
    by_cases e:j=k - 1
    ·
     subst e
     have e2:k - 1+1=k:=by omega
     have:ss[k - 1+1]=ss[k]:=by congr 1
     rw [this]; exact hq
    ·
     exact A.out j h (by omega)
   have HF:Hid (yY ss[k - 1] ss[k]=false→r=9):=fun hf=>by
    rw [HE.out]
    have:zX ss=false:=fP ss (k - 1) (by omega) (by
     have:ss[k - 1+1]=ss[k]:=by congr 1; omega
     rw [this]; exact hf)
    rw [this]; rfl
   have HC:Hid (∀ W,Calls Tryz.prog 138 #[.string ss[k - 1],.string ss[k]] W fun e w'=>e=.returned (.int .i64 (Lib.compareBytes ss[k - 1].data.toList ss[k].data.toList))∧w'=W):=fun W=>ur _ _ W
   have HD:Hid (yY ss[k - 1] ss[k]=decide (Lib.compareBytes ss[k - 1].data.toList ss[k].data.toList<0)):=rfl
   generalize Lib.compareBytes ss[k - 1].data.toList ss[k].data.toList=cm at *
   generalize yY ss[k - 1] ss[k]=q6 at *
   generalize ss[k]=x at *
   generalize ss[k - 1]=y at *
   clear A hcell hcell'
   have hwr:IntKind.i64.wrap ((k - 1:Nat):Int)=((k - 1:Nat):Int):=IntWalk.i64_in _ (by omega)
   by_cases hc:cm<0
   ·
    have hq:q6=true:=by rw [HD.out,decide_eq_true hc]
    have HY:=za (HX.out hq)
    have hcd:decide (cm ≥ 0)=false:=decide_eq_false (by omega)
    have hc2:¬ cm ≥ 0:=by omega
    have hc3:¬ 0≤cm:=by omega
    clear HX HF HD hq
    go_wp2
    go_quiet (first | (go_at_call 138; exact Calls.quiet_of_same (HC.out _)))
    go_wp2
    go_roundg (n - (k+1))
    case measure=>omega
    case rel=>exact ⟨k+1,.inl (by omega),by omega,by omega,by go_num,⟨q+nq,by rw [HQ.out,World.drewN_drewN]⟩,HY⟩
   ·
    have hq:q6=false:=by rw [HD.out,decide_eq_false hc]
    have hr9:r=9:=HF.out hq
    subst hr9
    have hc2:cm ≥ 0:=by omega
    have hc3:0≤cm:=by omega
    clear HX HF HD hq
    go_wp2
    go_quiet (first | (go_at_call 138; exact Calls.quiet_of_same (HC.out _)))
    go_wp2
    go_ret
    exact ⟨rfl,q+nq,by rw [HQ.out,World.drewN_drewN]⟩
  ·
   have hltz:¬ (k:Int)<(n:Int):=by omega
   have hr0:r=0:=by
    rw [HE.out]
    have:zX ss=true:=fQ ss (fun j h=>A.out j h (by have:=HL.out; omega))
    rw [this]; rfl
   subst hr0
   clear A
   go_wp2
   go_ret
   exact ⟨rfl,q,HQ.out⟩


/-! ### a user is added -/
def YJn11 (D G C1:Nat) (g n:ByteArray):Nat→Value→Prop
 | 2,v=>v=.pointer (some ⟨D,2,none⟩)
 | 3,v=>v=.pointer (some ⟨G,0,none⟩)
 | 4,v=>v=.string g
 | 5,v=>v=.pointer (some ⟨C1,0,none⟩)
 | 6,v=>v=.string n
 | _,v=>v=.pointer (some ⟨D,0,none⟩)
def YJnW11 (D G C1:Nat) (g n:ByteArray) (j:Nat) (v:Value) (_:World):Prop:=YJn11 D G C1 g n j v
section
variable {w0 w:World} {D P M G:Nat} {A:zJ} {L:zB} {S:zw} {k:Nat}
set_option maxRecDepth 100000 in
theorem Vk (C0 C1:Nat) (g n:ByteArray) (ho:zo w0 w D P M G A L S) (hk:zM S k) (h9:k≤900) (hc0:w.cell? ⟨C0,0,none⟩=some (.pointer (some ⟨D,0,none⟩))) (hc1:w.cell? ⟨C1,0,none⟩=some (.string n)) (hg:g.size≤9223372036854775807) (hn:n.size≤9223372036854775807) :
  Calls Tryz.prog 202 #[.string g,.pointer (some ⟨C0,0,none⟩),.pointer (some ⟨C1,0,none⟩)] w fun e w'=>e=.returned (.int .i64 (qv S g.data.toList n.data.toList))∧zE w0 w D P M G A L (qP S g.data.toList n.data.toList) w':=by
 have HO:=za ho
 have HST:Hid (∀ W,Below w.heap.size w W→Calls Tryz.prog 162 #[.pointer (some ⟨G,0,none⟩),.string g,.string n] W fun e w'=>e=.returned (.int .i64 (qv S g.data.toList n.data.toList))∧zE w0 w D P M G A L (qP S g.data.toList n.data.toList) w'):=fun W hb =>
  ((ho.later hb).gjoin hk h9 g n hg hn).mono fun e w' ⟨he,hgo⟩=>⟨he,hgo.ahead hb⟩
 have HC0:Hid (∀ W,Below w.heap.size w W→W.cell? ⟨C0,0,none⟩=some (.pointer (some ⟨D,0,none⟩))):=fun W hb=>(hb.cell (p:=⟨C0,0,none⟩) (World.block_lt_of_cell? w _ hc0)).trans hc0
 have HC1:Hid (∀ W,Below w.heap.size w W→W.cell? ⟨C1,0,none⟩=some (.string n)):=fun W hb=>(hb.cell (p:=⟨C1,0,none⟩) (World.block_lt_of_cell? w _ hc1)).trans hc1
 clear ho hk h9 hc0 hc1 hg hn
 generalize qv S g.data.toList n.data.toList=r at *
 generalize qP S g.data.toList n.data.toList=S' at *
 go_enter Tryz.func202,Tryz.ntmps202
 go_wp2_with fail
 refine yI (by kernel_rfl) 7 (fun W=>Below w.heap.size w W) (fun W=>zE w0 w D P M G A L S' W) (YJnW11 D G C1 g n) (fun v=>v=.int .i64 r) ?F ?hF (by kernel_rfl) (by kernel_rfl) (by kernel_rfl) (by kernel_rfl) (by decide) (zZ (Below.refl _ _)) ?step ?fin
 case hF =>
  intro x
  simp only [List.map_cons,List.map_nil,vH,Act.put,List.setIfInBounds_toArray,List.set_cons_zero,List.set_cons_succ,Nat.zero_add,Nat.reduceAdd]
  exact rfl
 case step =>
  refine ⟨?_,?_,?_,?_,?_,?_,?_,?_,?_,trivial⟩
  ·
   intro x W
   refine ⟨fun _ hW hdep K hK=>?_,(fun h=>absurd h (by decide)),(fun h=>absurd h (by decide))⟩
   have c:=HC0.out W hW
   clear hdep
   go_simp
   exact hK _ _ rfl hW (fun _ _ h=>h)
  ·
   intro x W
   refine ⟨fun _ hW hdep K hK=>?_,(fun h=>absurd h (by decide)),(fun h=>absurd h (by decide))⟩
   have h0:x 0=_:=hdep 0 rfl
   clear hdep
   simp only [h0] at hK
   go_simp
   exact hK _ _ rfl hW (fun _ _ h=>h)
  ·
   intro x W
   refine ⟨fun _ hW hdep K hK=>?_,(fun h=>absurd h (by decide)),(fun h=>absurd h (by decide))⟩
   have h1:x 1=_:=hdep 1 rfl
   clear hdep
   simp only [h1] at hK
   go_simp
   exact hK _ _ rfl hW (fun _ _ h=>h)
  ·
   intro x W
   refine ⟨fun _ hW hdep K hK=>?_,(fun h=>absurd h (by decide)),(fun h=>absurd h (by decide))⟩
   have h2:x 2=_:=hdep 2 rfl
   have c:=(HO.out.later hW).c2
   clear hdep
   simp only [h2] at hK
   go_simp
   exact hK _ _ rfl hW (fun _ _ h=>h)
  ·
   intro x W
   refine ⟨fun _ hW hdep K hK=>?_,(fun h=>absurd h (by decide)),(fun h=>absurd h (by decide))⟩
   clear hdep
   go_simp
   exact hK _ _ rfl hW (fun _ _ h=>h)
  ·
   intro x W
   refine ⟨fun _ hW hdep K hK=>?_,(fun h=>absurd h (by decide)),(fun h=>absurd h (by decide))⟩
   clear hdep
   go_simp
   exact hK _ _ rfl hW (fun _ _ h=>h)
  ·
   intro x W
   refine ⟨fun _ hW hdep K hK=>?_,(fun h=>absurd h (by decide)),(fun h=>absurd h (by decide))⟩
   have h5:x 5=_:=hdep 5 rfl
   have c:=HC1.out W hW
   clear hdep
   simp only [h5] at hK
   go_simp
   exact hK _ _ rfl hW (fun _ _ h=>h)
  ·
   intro x W
   refine ⟨(fun h=>absurd h (by decide)),fun _ hW hdep K hK=>?_,(fun h=>absurd h (by decide))⟩
   have h3:x 3=_:=hdep 3 rfl
   have h4:x 4=_:=hdep 4 rfl
   have h6:x 6=_:=hdep 6 rfl
   have hc:=HST.out W hW
   clear hdep
   simp only [h3,h4,h6] at hK
   go_simp
   refine hc.mono ?_
   rintro e W' ⟨rfl,hg⟩
   exact hK _ _ rfl hg
  ·
   intro x W
   refine ⟨(fun h=>absurd h (by decide)),(fun h=>absurd h (by decide)),fun _ hW hdep K hK=>?_⟩
   have h7:x 7=_:=hdep 7 rfl (by decide)
   clear hdep
   simp only [h7] at hK
   go_simp
   exact hK _ rfl
 case fin =>
  intro x W hW hZ
  have h8:x 8=.int .i64 r:=hZ 8 (by decide) (by decide)
  have HF:=za hW
  clear hW hZ HST HO HC0 HC1
  rw [h8]
  go_wp2
  go_ret
  exact ⟨rfl,HF.out⟩
def Jn11 (w0 w1:World) (D P M G:Nat) (A:zJ) (L:zB) (S:zw) (u:Us) (N:List (List UInt8)) (i:Nat) (W:World):Prop :=
 zo w0 W D P M G A L (ug S u.nm.data.toList (u.gs.take i))∧zu w1 W∧∀ g∈u.gs.take i,vl N g.data.toList=true
theorem Xh {w1 W:World} {b:Nat} {c:Array Value} {T:TypeId} {fr:Nat×Nat} (h:zu w1 W) (hb:w1.heap[b]? = some (.cells c T fr)) (h1:T≠108) (h2:T≠164) (h3:T≠167) (j:Nat):W.cell? ⟨b,j,none⟩=w1.cell? ⟨b,j,none⟩:=by
 have:=h b c T fr hb h1 h2 h3
 unfold World.cell?
 rw [this,hb]
set_option maxRecDepth 100000 in
theorem FV {pre:List Us} {Gs:List ByteArray} (u:Us) (ho:zo w0 w D P M G A L S) (hg:JA A L S pre Gs k) (h9:k≤800) (hc:xK 2 u=0) (hup:∀ v∈pre,bytesBefore v.nm.data.toList u.nm.data.toList=true) (h12:pre.length<12) (hu:u.Ok w0) (h5:vR w0) :
  Calls Tryz.prog 115 #[.pointer (some ⟨D,0,none⟩),.agg #[.string u.nm,.string u.hs,.string u.ml,.bool u.dis,.slice u.ga u.gs.length u.gc]] w fun e w'=>e=.returned (.int .i64 (xX Gs pre u)) ∧
   (xX Gs pre u=0→zo w0 w' D P M G (zP A u.nm.data.toList (u.hs.data.toList,u.dis)) (Vr L u.nm.data.toList u.ml.data.toList) (ug S u.nm.data.toList u.gs))∧(xX Gs pre u≠0→Below w0.heap.size w0 w'):=by
 obtain ⟨_,hn5,hh5⟩:=qF hc
 obtain ⟨hfo,h6,hns,hri⟩:=Q1 hc
 have hN:zb S=uk Gs:=hg.1.2.2
 have hst:=step11 hg u hc hup h12
 have hL:=hg.2
 have hAl:=hg.len
 have hfr:=hg.fresh hup
 have hG10:=hg.1.1.grp
 obtain ⟨w1,hw1⟩:∃ w1,w1=(w.alloc (.cells #[.pointer (some ⟨D,0,none⟩)] 39)).alloc (.cells #[.string u.nm,.string u.hs,.string u.ml,.bool u.dis,.slice u.ga u.gs.length u.gc] 47):=⟨_,rfl⟩
 have hb1:Below w.heap.size w w1:=by rw [hw1]; exact z7 (z7 (Below.refl _ _) _) _
 have ka:(w.alloc (.cells #[.pointer (some ⟨D,0,none⟩)] 39)).heap[w.heap.size]? = some (.cells #[.pointer (some ⟨D,0,none⟩)] 39 (0,0)):=(MapKept.heap_alloc w _).1
 have ks:(w.alloc (.cells #[.pointer (some ⟨D,0,none⟩)] 39)).heap.size=w.heap.size+1:=by simp
 have k0:w1.heap[w.heap.size]? = some (.cells #[.pointer (some ⟨D,0,none⟩)] 39 (0,0)):=by rw [hw1]; exact ((z7 (Below.refl _ _) _).block w.heap.size (by omega)).trans ka
 have k1:w1.heap[w.heap.size+1]? = some (.cells #[.string u.nm,.string u.hs,.string u.ml,.bool u.dis,.slice u.ga u.gs.length u.gc] 47 (0,0)):=by rw [hw1,← ks]; exact (MapKept.heap_alloc _ _).1
 have hcell0:∀ W,zu w1 W→W.cell? ⟨w.heap.size,0,none⟩=some (.pointer (some ⟨D,0,none⟩)):=fun W hk=>(Xh hk k0 (by decide) (by decide) (by decide) 0).trans (by simp [World.cell?,k0])
 have hcell1:∀ W j,zu w1 W→W.cell? ⟨w.heap.size+1,j,none⟩=(#[.string u.nm,.string u.hs,.string u.ml,.bool u.dis,.slice u.ga u.gs.length u.gc]:Array Value)[j]? := fun W j hk=>(Xh hk k1 (by decide) (by decide) (by decide) j).trans (by simp [World.cell?,k1])
 have hI0:Jn11 w0 w1 D P M G A L S u (uk Gs) 0 w1:=⟨ho.later hb1,zu.refl _,fun g hg=>by simp at hg⟩
 have hE:=qg 202 #[] #[.pointer (some ⟨w.heap.size,0,none⟩),.pointer (some ⟨w.heap.size+1,0,none⟩)] u.ga u.gs.length u.gc u.gs w1 (fun i=>if h:i<u.gs.length then (if vl (uk Gs) u.gs[i].data.toList then 0 else 8) else 0) (Jn11 w0 w1 D P M G A L S u (uk Gs)) (fun W=>Below w0.heap.size w0 W) rfl (Nat.le_trans hu.len hu.cap)
  (enters_of Tryz.func202 (by kernel_rfl) rfl) hI0 (fun i W hI=>hu.rd.below hI.1.below) (fun i hi W hI=>by
   obtain ⟨h1,h2,h3⟩:=hI
   have hJ:=UD hG10 hn5 hns hri hfr i (Nat.le_of_lt hi) (fun g hg=>by rw [hN]; exact h3 g hg)
   have hj:=joE_at11 hi hJ hn5 hns hri hfr
   rw [hN] at hj
   refine (Vk w.heap.size (w.heap.size+1) u.gs[i] u.nm h1 hJ.good (by omega) (hcell0 W h2) (by rw [hcell1 W 0 h2]; rfl) (hu.all _ (List.getElem_mem hi)) (Nat.le_trans hu.nm (by decide))).mono ?_
   rintro e w' ⟨he,hgo⟩
   rw [dif_pos hi]
   rw [hj] at he
   refine ⟨he,fun h0=>?_,fun _=>hgo.1.below⟩
   refine ⟨by rw [VI S _ hi]; exact hgo.1,h2.trans hgo.2,fun g hg=>?_⟩
   rw [List.take_succ_eq_append_getElem hi,List.mem_append] at hg
   rcases hg with hg | hg
   ·
    exact h3 g hg
   ·
    rw [List.mem_singleton] at hg
    subst hg
    by_cases hh:vl (uk Gs) u.gs[i].data.toList=true
    ·
     exact hh
    ·
     rw [if_neg hh] at h0; exact absurd h0 (by decide))
 have hev:vL (fun i=>if h:i<u.gs.length then (if vl (uk Gs) u.gs[i].data.toList then 0 else 8) else 0) 0 u.gs.length=if u.gs.all (fun g=>vl (uk Gs) g.data.toList) then 0 else 8 :=
  UR (fun g:ByteArray=>vl (uk Gs) g.data.toList) 8 (by decide) _ u.gs 0 (fun j hj=>by
   simp only [Nat.zero_add]
   rw [dif_pos hj])
 rw [hev] at hE
 have hone:xX Gs pre u=if u.gs.all (fun g=>vl (uk Gs) g.data.toList) then (if pre.any (fun v=>!(u.ml.data.toList == []) && (u.ml.data.toList == v.ml.data.toList)) then 9 else 0) else 8:=rfl
 obtain ⟨r,hr⟩:∃ r,r=xX Gs pre u:=⟨_,rfl⟩
 rw [← hr]
 rw [hone] at hr
 have HRR:=za hr
 clear hr
 have HE:=za hE
 have HNS:u.nm.size≤1000:=vh hn5
 have HHS:u.hs.size≤1000:=fs hh5
 have HML:u.ml.size≤9223372036854775807:=Nat.le_trans hu.ml (by decide)
 have HPUT:Hid (∀ W,zo w0 W D P M G A L (ug S u.nm.data.toList u.gs)→Calls Tryz.prog 119 #[.pointer (some ⟨D,0,none⟩),.string u.nm,.agg #[.string u.hs,.bool u.dis]] W fun e w'=>e=.returned (.tuple #[])∧zE w0 W D P M G (zP A u.nm.data.toList (u.hs.data.toList,u.dis)) L (ug S u.nm.data.toList u.gs) w'):=fun W h=>uE u.nm u.hs u.dis h (by omega) HNS HHS
 have HPM:Hid (∀ W,zo w0 W D P M G (zP A u.nm.data.toList (u.hs.data.toList,u.dis)) L (ug S u.nm.data.toList u.gs)→Calls Tryz.prog 148 #[.pointer (some ⟨D,0,none⟩),.string u.nm,.string u.ml] W fun e w'=>e=.returned (.int .i64 (je L u.nm.data.toList u.ml.data.toList))∧zE w0 W D P M G (zP A u.nm.data.toList (u.hs.data.toList,u.dis)) (Vr L u.nm.data.toList u.ml.data.toList) (ug S u.nm.data.toList u.gs) w'):=fun W h =>
  jm u.nm u.ml h (by omega) (h5.later h.below) HNS HML
 have HCL0:=za hcell0
 have HCL1:=za hcell1
 have HST:=za hst
 have hmf:=mkf
 clear hst hE hI0 hcell0 hcell1 hone hev hN hL hAl hfr hG10 hg hc hup h12 hu h5 hn5 hh5 hfo h6 hns hri HNS HHS HML h9 ho
 generalize (pre.any fun v=>!(u.ml.data.toList == []) && (u.ml.data.toList == v.ml.data.toList))=pm at *
 have hen1:(Tryz.prog.funcs[115]?).isSome=true:=by kernel_rfl
 clear hen1
 rw [hw1] at HE
 go_enter Tryz.func115,Tryz.ntmps115
 go_wp2_with fail
 with_reducible refine HE.out.mono ?_
 rw [← hw1]
 rintro e w2 ⟨rfl,hok,hbad⟩
 clear HE
 cases hall:u.gs.all (fun g=>vl (uk Gs) g.data.toList) with
 | false =>
  rw [hall] at hbad
  have HF:=za (hbad (by decide))
  obtain rfl:r=8:=by have:=HRR.out; rw [hall] at this; exact this
  clear hok hbad
  go_wp2
  go_ret
  exact ⟨rfl,fun h=>absurd h (by decide),fun _=>HF.out⟩
 | true =>
  rw [hall] at hok
  obtain ⟨j1,j2,_⟩:=hok rfl
  rw [List.take_length] at j1
  have hst2:=HST.out hall
  obtain rfl:r=je L u.nm.data.toList u.ml.data.toList:=by
   have:=HRR.out
   rw [hall,if_pos rfl] at this
   rw [this]
   exact hst2.1.symm
  have HO:=za j1
  have HK:=za j2
  have HP2:=za (HPUT.out w2 j1)
  have d0:=HCL0.out w2 j2
  have d1:w2.cell? ⟨w.heap.size+1,0,none⟩=some (.string u.nm):=HCL1.out w2 0 j2
  have d2:w2.cell? ⟨w.heap.size+1,1,none⟩=some (.string u.hs):=HCL1.out w2 1 j2
  have d3:w2.cell? ⟨w.heap.size+1,3,none⟩=some (.bool u.dis):=HCL1.out w2 3 j2
  clear hok hbad j1 j2 hst2 HPUT HST HO HRR
  go_wp2_with fail
  with_reducible refine HP2.out.mono ?_
  rintro e w3 ⟨rfl,hgo⟩
  have hk3:=HK.out.trans hgo.2
  have HP3:=za (HPM.out w3 hgo.1)
  have e0:=HCL0.out w3 hk3
  have e1:w3.cell? ⟨w.heap.size+1,0,none⟩=some (.string u.nm):=HCL1.out w3 0 hk3
  have e2:w3.cell? ⟨w.heap.size+1,2,none⟩=some (.string u.ml):=HCL1.out w3 2 hk3
  clear hgo hk3 HP2 HK HPM d0 d1 d2 d3
  go_wp2_with fail
  with_reducible refine HP3.out.mono ?_
  rintro e w4 ⟨rfl,hgo⟩
  have HF:=za hgo.1
  clear hgo HP3 e0 e1 e2
  go_wp2
  go_ret
  exact ⟨rfl,fun _=>HF.out,fun _=>HF.out.below⟩
end

/-! ### Of -/
def Of11 (l:List Us) (G:List ByteArray) (w:World) (e:Ending) (w':World):Prop :=
 (uR l G≠0∧e=.returned (.tuple #[.pointer none,.int .i64 (uR l G)])∧Below w.heap.size w w') ∨
 (uR l G=0∧∃ D P M Gr A L S k,e=.returned (.tuple #[.pointer (some ⟨D,0,none⟩),.int .i64 0])∧zo w w' D P M Gr A L S∧JA A L S l G k∧k≤200)
section
variable {w:World} {A A2:Option Addr} {c c2 n m:Nat} {l:List Us} {G:List ByteArray}
theorem Up (W:World) (hb:Below w.heap.size w W) (hl:n=l.length) (hn:n≤1000) (hr:YA w A l) (ho:∀ u∈l,u.Ok w) (h5:vR w) :
  Calls Tryz.prog 108 #[.slice A n c,.func (.func 109) #[] #[]] W (yH (xY l) W):=by
 have h:=fe 109 #[] #[] A n c l W (fun i=>if h:i<l.length then xK 2 l[i] else 0) (fun _ W'=>Below W.heap.size W W') (fun W'=>Below W.heap.size W W') hl (by omega)
  (enters_of Tryz.func109 (by kernel_rfl) rfl) (Below.refl _ _) (fun i W' hb'=>hr.later (z8 hb hb')) (fun i W' hb' o=>z8 hb' (z7 (Below.refl _ _) _))
  (fun i hi W' hb'=>(Ux l[i] W' ((ho _ (List.getElem_mem hi)).below (z8 hb hb')) (h5.later (z8 hb hb'))).mono fun e w' ⟨he,hb2⟩=>⟨by rw [he,dif_pos hi],fun _=>z8 hb' hb2,fun _=>z8 hb' hb2⟩)
 rw [show vL (fun i=>if h:i<l.length then xK 2 l[i] else 0) 0 n=xY l by
  rw [hl]; exact ev_may11 _ l 0 (fun j hj=>by simp only [Nat.zero_add]; rw [dif_pos hj])] at h
 refine h.mono ?_
 rintro e w' ⟨he,h1,h2⟩
 refine ⟨he,?_⟩
 by_cases h0:xY l=0
 ·
  exact h1 h0
 ·
  exact h2 h0
theorem V5 (W:World) (hb:Below w.heap.size w W) (hm:m=G.length) (hm1:m≤1000) (hg:RdS w A2 G) (hgs:∀ g∈G,g.size≤9223372036854775807) :
  Calls Tryz.prog 113 #[.slice A2 m c2,.func (.func 52) #[] #[]] W (yH (zp (yy G) 10) W):=by
 have h:=qg 52 #[] #[] A2 m c2 G W (fun i=>if h:i<G.length then zp (zf G[i].data.toList) 10 else 0) (fun _ W'=>Below W.heap.size W W') (fun W'=>Below W.heap.size W W') hm (by omega)
  (enters_of Tryz.func52 (by kernel_rfl) rfl) (Below.refl _ _) (fun i W' hb'=>hg.below (z8 hb hb'))
  (fun i hi W' hb'=>(yb G[i] W' (hgs _ (List.getElem_mem hi))).mono fun e w' ⟨he,hb2⟩=>⟨by rw [he,dif_pos hi],fun _=>z8 hb' hb2,fun _=>z8 hb' hb2⟩)
 rw [show vL (fun i=>if h:i<G.length then zp (zf G[i].data.toList) 10 else 0) 0 m=zp (yy G) 10 by
  rw [hm]; exact UR (fun g:ByteArray=>zf g.data.toList) 10 (by decide) _ G 0 (fun j hj=>by simp only [Nat.zero_add]; rw [dif_pos hj]; rfl)] at h
 refine h.mono ?_
 rintro e w' ⟨he,h1,h2⟩
 refine ⟨he,?_⟩
 by_cases h0:zp (yy G) 10=0
 ·
  exact h1 h0
 ·
  exact h2 h0
theorem V6 (D P M Gr:Nat) (W:World) (hown:zo w W D P M Gr [] [] []) (hm:m=G.length) (h6:G.length≤6) (hn6:yy G=true) (hr6:zX G=true) (hg:RdS w A2 G) (hgs:∀ g∈G,g.size≤9223372036854775807) :
  Calls Tryz.prog 113 #[.slice A2 m c2,.func (.func 114) #[.pointer (some ⟨Gr,0,none⟩)] #[]] W fun e w'=>e=.returned (.int .i64 0)∧∃ S,zo w w' D P M Gr [] [] S∧zt [] [] S m∧zb S=uk G:=by
 have h:=qg 114 #[.pointer (some ⟨Gr,0,none⟩)] #[] A2 m c2 G W (fun _=>0) (fun i W'=>∃ S,zo w W' D P M Gr [] [] S∧zt [] [] S i∧zb S=uk (G.take i)) (fun _=>True) hm (by omega)
  (enters_of Tryz.func114 (by kernel_rfl) rfl) ⟨[],hown,zt.nil,rfl⟩ (fun i W' ⟨_,h1,_⟩=>hg.below h1.below)
  (fun i hi W' ⟨S,h1,h2,h3⟩=>by
   obtain ⟨m1,m2,m3⟩:=Fo hi h6 hn6 hr6 h2 h3
   refine (h1.gmake h2.grp G[i] (hgs _ (List.getElem_mem hi))).mono ?_
   rintro e w' ⟨he,hgo⟩
   rw [m1] at he
   exact ⟨he,fun _=>⟨_,hgo.1,m2,m3⟩,fun h=>absurd rfl h⟩)
 rw [Jc (fun _=>0) m 0 (fun _ _ _=>rfl)] at h
 refine h.mono ?_
 rintro e w' ⟨he,h1,_⟩
 refine ⟨he,?_⟩
 obtain ⟨S,s1,s2,s3⟩:=h1 rfl
 rw [hm,List.take_length] at s3
 exact ⟨S,s1,s2,s3⟩
theorem Uq (D P M Gr:Nat) (S:zw) (W:World) (hown:zo w W D P M Gr [] [] S) (hG:zt [] [] S m) (hN:zb S=uk G) (hm6:m≤6) (hl:n=l.length) (h12:l.length≤12) (hc:∀ u∈l,xK 2 u=0) (hri:zX (l.map (·.nm))=true) (hr:YA w A l) (ho:∀ u∈l,u.Ok w) (h5:vR w) :
  Calls Tryz.prog 108 #[.slice A n c,.func (.func 115) #[.pointer (some ⟨D,0,none⟩)] #[]] W fun e w'=>e=.returned (.int .i64 (xe G [] l)) ∧
   (xe G [] l=0→∃ A L S k,zo w w' D P M Gr A L S∧JA A L S l G k∧k≤200)∧(xe G [] l≠0→Below w.heap.size w w'):=by
 have h:=fe 115 #[.pointer (some ⟨D,0,none⟩)] #[] A n c l W (fun j=>if hj:j<l.length then xX G (l.take j) l[j] else 0) (fun i W'=>∃ A L S k,zo w W' D P M Gr A L S∧JA A L S (l.take i) G k∧k≤6+8 * i) (fun W'=>Below w.heap.size w W') hl (by omega)
  (enters_of Tryz.func115 (by kernel_rfl) rfl) ⟨[],[],S,m,hown,st_nil11 hG hN,by omega⟩ (fun i W' ⟨_,_,_,_,h1,_⟩=>hr.later h1.below) (fun i W' ⟨A,L,S,k,h1,h2⟩ o=>⟨A,L,S,k,h1.later (z7 (Below.refl _ _) _),h2⟩)
  (fun i hi W' ⟨A,L,S,k,h1,h2,h3⟩=>by
   have hup:∀ v∈l.take i,bytesBefore v.nm.data.toList l[i].nm.data.toList=true:=fun v hv=>by
    obtain ⟨j,hj,rfl⟩:=List.getElem_of_mem hv
    have hj':j<i:=by rw [List.length_take] at hj; omega
    rw [List.getElem_take]
    have:=List.pairwise_iff_getElem.1 (uD hri) j i (by simp; omega) (by simpa using hi) hj'
    simpa using this
   have hcu:=hc _ (List.getElem_mem hi)
   have hlt:(l.take i).length<12:=by rw [List.length_take]; omega
   refine (FV l[i] h1 h2 (by omega) hcu hup hlt (ho _ (List.getElem_mem hi)) h5).mono ?_
   rintro e w' ⟨he,q1,q2⟩
   rw [dif_pos hi]
   refine ⟨he,fun h0=>?_,q2⟩
   have hone:xX G (l.take i) l[i]=if l[i].gs.all (fun g=>vl (uk G) g.data.toList) then (if (l.take i).any (fun v=>!(l[i].ml.data.toList == []) && (l[i].ml.data.toList == v.ml.data.toList)) then 9 else 0) else 8:=rfl
   have hall:l[i].gs.all (fun g=>vl (uk G) g.data.toList)=true:=by
    cases hh:l[i].gs.all (fun g=>vl (uk G) g.data.toList) with
    | true=>rfl
    | false=>rw [hone,hh] at h0; simp at h0
   obtain ⟨s1,s2⟩:=step11 h2 l[i] hcu hup hlt hall
   rw [hone,hall,if_pos rfl,← s1] at h0
   refine ⟨_,_,_,k+8,q1 (by rw [hone,hall,if_pos rfl,← s1]; exact h0),?_,?_⟩
   ·
    rw [List.take_succ_eq_append_getElem hi]
    exact s2 h0
   ·
    omega)
 rw [show vL (fun j=>if hj:j<l.length then xX G (l.take j) l[j] else 0) 0 n=xe G [] l by
  rw [hl]; exact one_ev11 G l l.length 0 (by omega)] at h
 refine h.mono ?_
 rintro e w' ⟨he,h1,h2⟩
 refine ⟨he,fun h0=>?_,h2⟩
 obtain ⟨A,L,S,k,s1,s2,s3⟩:=h1 h0
 rw [hl,List.take_length] at s2
 exact ⟨A,L,S,k,s1,s2,by omega⟩
end
set_option maxRecDepth 100000 in
theorem Fi (A A2:Option Addr) (c c2 n m:Nat) (l:List Us) (G:List ByteArray) (w:World) (hl:n=l.length) (hn:n≤1000) (hr:YA w A l) (ho:∀ u∈l,u.Ok w) (hm:m=G.length) (hm1:m≤1000) (hg:RdS w A2 G) (hgs:∀ g∈G,g.size≤9223372036854775807) (h5:vR w) :
  Calls Tryz.prog 41 #[.slice A n c,.slice A2 m c2] w (Of11 l G w):=by
 have HNW:Hid (∀ W,Calls Tryz.prog 23 #[] W fun e w'=>∃ D P M G,e=.returned (.pointer (some ⟨D,0,none⟩))∧zo W w' D P M G [] [] []):=fun W=>QI W
 have HMB:Hid (∀ W,Below w.heap.size w W→Calls Tryz.prog 108 #[.slice A n c,.func (.func 109) #[] #[]] W (yH (xY l) W)):=fun W hb=>Up W hb hl hn hr ho h5
 have HNO:Hid (∀ W,Below w.heap.size w W→Calls Tryz.prog 111 #[.slice A n c] W fun e w'=>∃ A2 c2,e=.returned (.slice A2 n c2)∧RdS w' A2 (l.map (·.nm))∧Below W.heap.size W w'):=fun W hb=>Xa A c n l W hl hn (hr.later hb)
 have HRI:Hid (∀ A3 c3 W,RdS W A3 (l.map (·.nm))→Calls Tryz.prog 110 #[.slice A3 n c3] W fun e w'=>e=.returned (.int .i64 (zp (zX (l.map (·.nm))) 9))∧∃ q,w'=W.drewN q):=fun A3 c3 W h=>ZR A3 n c3 _ W (by rw [List.length_map]; exact hl) h (by omega)
 have HFI:Hid (∀ W,Calls Tryz.prog 112 #[.int .i64 (n:Int),.int .i64 12] W fun e w'=>e=.returned (.int .i64 (zp (decide ((l.length:Int)≤12)) 7))∧w'=W):=fun W=>by rw [← hl]; exact fu _ _ W
 have HNM:Hid (∀ W,Below w.heap.size w W→Calls Tryz.prog 113 #[.slice A2 m c2,.func (.func 52) #[] #[]] W (yH (zp (yy G) 10) W)):=fun W hb=>V5 W hb hm hm1 hg hgs
 have HRG:Hid (∀ W,Below w.heap.size w W→Calls Tryz.prog 110 #[.slice A2 m c2] W fun e w'=>e=.returned (.int .i64 (zp (zX G) 9))∧∃ q,w'=W.drewN q):=fun W hb=>ZR A2 m c2 G W hm (hg.below hb) (by omega)
 have HFG:Hid (∀ W,Calls Tryz.prog 112 #[.int .i64 (m:Int),.int .i64 6] W fun e w'=>e=.returned (.int .i64 (zp (decide ((G.length:Int)≤6)) 7))∧w'=W):=fun W=>by rw [← hm]; exact fu _ _ W
 have HFS:Hid (∀ W:World,Calls Tryz.prog 51 #[.slice (some ⟨W.heap.size,0,none⟩) 6 6] (W.alloc (.cells #[.int .i64 (xY l),.int .i64 (zp (zX (l.map (·.nm))) 9),.int .i64 (zp (decide ((l.length:Int)≤12)) 7),.int .i64 (zp (yy G) 10),.int .i64 (zp (zX G) 9),.int .i64 (zp (decide ((G.length:Int)≤6)) 7)] 24)) fun e w'=>e=.returned (.int .i64 (FQ l G))∧w'=W.alloc (.cells #[.int .i64 (xY l),.int .i64 (zp (zX (l.map (·.nm))) 9),.int .i64 (zp (decide ((l.length:Int)≤12)) 7),.int .i64 (zp (yy G) 10),.int .i64 (zp (zX G) 9),.int .i64 (zp (decide ((G.length:Int)≤6)) 7)] 24)):=fun W =>
  vV W [xY l,zp (zX (l.map fun u:Us=>u.nm)) 9,zp (decide ((l.length:Int)≤12)) 7,zp (yy G) 10,zp (zX G) 9,zp (decide ((G.length:Int)≤6)) 7] 24 (by simp)
 have HF2:Hid (∀ (W:World) (x:Int),Calls Tryz.prog 51 #[.slice (some ⟨W.heap.size,0,none⟩) 2 2] (W.alloc (.cells #[.int .i64 0,.int .i64 x] 24)) fun e w'=>e=.returned (.int .i64 x)∧w'=W.alloc (.cells #[.int .i64 0,.int .i64 x] 24)):=fun W x=>by
  have:=vV W [0,x] 24 (by simp)
  rw [show zN [0,x]=x by unfold zN zN zN; by_cases h:x=0 <;> simp [h]] at this
  exact this
 have HMK:Hid (FQ l G=0→∀ D P M Gr W,zo w W D P M Gr [] [] []→Calls Tryz.prog 113 #[.slice A2 m c2,.func (.func 114) #[.pointer (some ⟨Gr,0,none⟩)] #[]] W fun e w'=>e=.returned (.int .i64 0)∧∃ S,zo w w' D P M Gr [] [] S∧zt [] [] S m∧zb S=uk G):=fun h0 D P M Gr W hown=>by
  obtain ⟨_,_,_,f4,f5,f6⟩:=Yv h0
  exact V6 D P M Gr W hown hm f6 f4 f5 hg hgs
 have HAD:Hid (FQ l G=0→∀ D P M Gr S W,zo w W D P M Gr [] [] S→zt [] [] S m→zb S=uk G→Calls Tryz.prog 108 #[.slice A n c,.func (.func 115) #[.pointer (some ⟨D,0,none⟩)] #[]] W fun e w'=>e=.returned (.int .i64 (xe G [] l)) ∧
   (xe G [] l=0→∃ A L S k,zo w w' D P M Gr A L S∧JA A L S l G k∧k≤200)∧(xe G [] l≠0→Below w.heap.size w w')):=fun h0 D P M Gr S W hown hG hN=>by
  obtain ⟨f1,f2,f3,_,_,f6⟩:=Yv h0
  exact Uq D P M Gr S W hown hG hN (by omega) hl f3 f1 f2 hr ho h5
 have HCE:=za (cE_of (l:=l) (G:=G))
 unfold Of11
 clear hl hn hr ho hm hm1 hg hgs h5
 generalize xY l=e0 at *
 generalize zp (zX (l.map (·.nm))) 9=e1 at *
 generalize zp (decide ((l.length:Int)≤12)) 7=e2 at *
 generalize zp (yy G) 10=e3 at *
 generalize zp (zX G) 9=e4 at *
 generalize zp (decide ((G.length:Int)≤6)) 7=e5 at *
 generalize FQ l G=r at *
 generalize xe G [] l=rr at *
 generalize uR l G=ro at *
 go_enter Tryz.func41,Tryz.ntmps41
 go_wp2_with fail
 with_reducible refine (HNW.out w).mono ?_
 rintro e w1 ⟨D,P,M,Gr,rfl,hown⟩
 have HO1:=za hown
 have HB1:=za hown.below
 clear hown HNW
 go_wp2_with fail
 with_reducible refine (HMB.out w1 HB1.out).mono ?_
 rintro e w2 ⟨rfl,hb⟩
 have HO2:=za (HO1.out.later hb)
 have HB2:=za (z8 HB1.out hb)
 clear hb HMB HO1 HB1
 go_wp2_with fail
 with_reducible refine (HNO.out w2 HB2.out).mono ?_
 rintro e w3 ⟨A3,c3,rfl,hrd,hb⟩
 have HRD:=za hrd
 have HO3:=za (HO2.out.later hb)
 have HB3:=za (z8 HB2.out hb)
 clear hb hrd HNO HO2 HB2
 go_wp2_with fail
 with_reducible refine (HRI.out A3 c3 w3 HRD.out).mono ?_
 rintro e w4 ⟨rfl,q,hq⟩
 have hb:Below w3.heap.size w3 w4:=by rw [hq]; exact zv (Below.refl _ _) q
 have HO4:=za (HO3.out.later hb)
 have HB4:=za (z8 HB3.out hb)
 clear hb hq HRD HRI HO3 HB3
 go_wp2_with fail
 with_reducible refine (HFI.out w4).mono ?_
 rintro e w5 ⟨rfl,rfl⟩
 go_wp2_with fail
 with_reducible refine (HNM.out w5 HB4.out).mono ?_
 rintro e w6 ⟨rfl,hb⟩
 have HO6:=za (HO4.out.later hb)
 have HB6:=za (z8 HB4.out hb)
 clear hb HNM HO4 HB4 HFI
 go_wp2_with fail
 with_reducible refine (HRG.out w6 HB6.out).mono ?_
 rintro e w7 ⟨rfl,q2,hq⟩
 have hb:Below w6.heap.size w6 w7:=by rw [hq]; exact zv (Below.refl _ _) q2
 have HO7:=za (HO6.out.later hb)
 have HB7:=za (z8 HB6.out hb)
 clear hb hq HRG HO6 HB6
 go_wp2_with fail
 with_reducible refine (HFG.out w7).mono ?_
 rintro e w8 ⟨rfl,rfl⟩
 clear HFG
 go_wp2_with fail
 with_reducible refine (HFS.out _).mono ?_
 rintro e w9 ⟨rfl,hw9⟩
 have hb:Below w8.heap.size w8 w9:=by rw [hw9]; exact z7 (Below.refl _ _) _
 have HO9:=za (HO7.out.later hb)
 have HB9:=za (z8 HB7.out hb)
 clear hb hw9 HFS HO7 HB7
 by_cases h0:r=0
 case neg =>
  have h1:(r != 0)=true:=by simpa using h0
  have h2:(r == 0)=false:=by simpa using h0
  obtain rfl:ro=r:=HCE.out.1 h0
  have H0:=za h0
  clear h0 HMK HAD HF2 HCE HO9
  go_wp2
  go_ret2
  exact .inl ⟨H0.out,rfl,HB9.out⟩
 subst h0
 obtain rfl:ro=rr:=HCE.out.2 rfl
 have HMK2:=za (HMK.out rfl D P M Gr w9 HO9.out)
 have HAD2:=za (HAD.out rfl D P M Gr)
 have hc2:=HO9.out.c2
 have hmf:=mkf
 clear HMK HAD HCE
 go_wp2_with fail
 with_reducible refine HMK2.out.mono ?_
 rintro e w10 ⟨rfl,S,s1,s2,s3⟩
 have HA2:=za (HAD2.out S w10 s1 s2 s3)
 clear s1 s2 s3 HMK2 HAD2 hc2 HO9 HB9
 go_wp2_with fail
 with_reducible refine HA2.out.mono ?_
 rintro e w11 ⟨rfl,t1,t2⟩
 have HT1:=za t1
 have HT2:=za t2
 clear t1 t2 HA2
 go_wp2_with fail
 with_reducible refine (HF2.out _ _).mono ?_
 rintro e w12 ⟨rfl,hw⟩
 have hb:Below w11.heap.size w11 w12:=by rw [hw]; exact z7 (Below.refl _ _) _
 have HB:=za hb
 clear hb hw HF2
 by_cases h0:ro=0
 case neg =>
  have h1:(ro != 0)=true:=by simpa using h0
  have HF:=za (z8 (HT2.out h0) HB.out)
  have H0:=za h0
  clear h0 HT1 HT2 HB
  go_wp2
  go_ret2
  exact .inl ⟨H0.out,rfl,HF.out⟩
 subst h0
 obtain ⟨A4,L4,S4,k4,u1,u2,u3⟩:=HT1.out rfl
 have HF:Hid (zo w w12 D P M Gr A4 L4 S4∧JA A4 L4 S4 l G k4∧k4≤200):=⟨u1.later HB.out,u2,u3⟩
 clear u1 u2 u3 HT1 HT2 HB
 go_wp2
 go_ret2
 exact ⟨D,rfl,P,M,Gr,A4,L4,S4,HF.out.1,k4,HF.out.2⟩
end Go.Proofs.YthmomkjingcbiaaGreatDoor
