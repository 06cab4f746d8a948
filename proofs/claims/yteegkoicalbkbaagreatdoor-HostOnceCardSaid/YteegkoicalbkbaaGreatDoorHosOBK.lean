/-
  The texts that the laws of this seat share, part 11: what the code and the document's own answers tell, walked function by function.
  Conditions: each theorem's own.
-/
import Derived.Test.YteegkoicalbkbaaGreatDoorHosOBJ
set_option maxHeartbeats 16000000
set_option linter.unusedVariables false
namespace Go.Proofs.YteegkoicalbkbaaGreatDoor
open Go.RowKit Go.Maps
set_option linter.unusedVariables false

theorem common_old17 (W:World) (B:Nat) (p:Option Nat) (E:zl) (F:Nat→Prop) (hd:vh W B p E) (hF:∀ i,F i↔(i=B∨p=some i)) (kd:Nat) (a b:ByteArray) (nd rl:Int) (ha:a.size≤1000) (hb:b.size≤1000) (hk:kd≤4) :
  Calls Tryz.prog 307 #[yA B,.agg #[.int .u8 (kd:Int),.string a,.string b,.int .u8 nd,.int .u8 rl]] W (zv W (yA B) F (.old E) kd a b):=by
 have hc:kd=0∨kd=1∨kd=2∨kd=3∨kd=4:=by omega
 rcases hc with hc | hc | hc | hc | hc
 ·
  exact Uc W B p E F hd hF kd a b nd rl ha hb hc
 ·
  exact Ub W B p E F hd hF kd a b nd rl ha hb hc
 ·
  exact Ua W B p E F hd hF kd a b nd rl ha hb hc
 ·
  exact U9 W B p E F hd hF kd a b nd rl ha hb hc (fun W' hW=>oldLookup17 W' B p E (hd.later hW) a ha)
 ·
  exact U8 W B p E F hd hF kd a b nd rl ha hb hc
theorem common_new17 (W:World) {D P M G:Nat} {A:zu} {p q pg:Option Nat} {L LM:zl} {T:zp} (F:Nat→Prop) (hd:ye W D P A M p q L LM G pg T) (hg:zn A L (z8 T) 12) (hF:∀ i,F i↔xg D P M p q G pg T i) (kd:Nat) (a b:ByteArray) (nd rl:Int) (ha:a.size≤1000) (hb:b.size≤1000) (hk:kd≤4) :
  Calls Tryz.prog 307 #[zH D,.agg #[.int .u8 (kd:Int),.string a,.string b,.int .u8 nd,.int .u8 rl]] W (zv W (zH D) F (.new A L (z8 T)) kd a b):=by
 have hc:kd=0∨kd=1∨kd=2∨kd=3∨kd=4:=by omega
 rcases hc with hc | hc | hc | hc | hc
 ·
  exact Uh W F hd hg hF kd a b nd rl ha hb hc
 ·
  exact Ug W F hd hg hF kd a b nd rl ha hb hc
 ·
  exact Uf W F hd hg hF kd a b nd rl ha hb hc
 ·
  exact Ue W F hd hg hF kd a b nd rl ha hb hc (fun W' hW=>newLookup17 W' (hd.later hW) hg a ha)
 ·
  exact Ud W F hd hg hF kd a b nd rl ha hb hc
theorem zv.ahead {W W1:World} {v:Value} {F:Nat→Prop} {d:D17} {kd:Nat} {a b:ByteArray} {en:Ending} {w':World} (h:zv W1 v F d kd a b en w') (hb:Below W.heap.size W W1):zv W v F d kd a b en w':=by
 obtain ⟨A,n,c,h1,h2,h3⟩:=h
 exact ⟨A,n,c,h1,h2,h3.ahead hb⟩
set_option maxRecDepth 100000 in
theorem ask_old17 (W:World) (B:Nat) (p:Option Nat) (E:zl) (F:Nat→Prop) (hd:vh W B p E) (hF:∀ i,F i↔(i=B∨p=some i)) (kd:Nat) (a b:ByteArray) (nd rl:Int) (ha:a.size≤1000) (hb:b.size≤1000) (hk:kd≤4) :
  Calls Tryz.prog 303 #[.agg #[.pointer (some ⟨B,0,none⟩)],.agg #[.int .u8 (kd:Int),.string a,.string b,.int .u8 nd,.int .u8 rl]] W (zv W (yA B) F (.old E) kd a b):=by
 have HC:Hid (∀ W',Below W.heap.size W W'→Calls Tryz.prog 307 #[.iface 80 (.agg #[.pointer (some ⟨B,0,none⟩)]),.agg #[.int .u8 (kd:Int),.string a,.string b,.int .u8 nd,.int .u8 rl]] W' (zv W' (yA B) F (.old E) kd a b)):=fun W' hW=>common_old17 W' B p E F (hd.later hW) hF kd a b nd rl ha hb hk
 have HB2:Hid (Below W.heap.size W ((W.alloc (.cells #[.pointer (some ⟨B,0,none⟩)] 80)).alloc (.cells #[.int .u8 (kd:Int),.string a,.string b,.int .u8 nd,.int .u8 rl] 47))):=ze (ze (Below.refl _ W) _) _
 have HAH:Hid (∀ w1 en w',Below W.heap.size W w1→zv w1 (yA B) F (.old E) kd a b en w'→zv W (yA B) F (.old E) kd a b en w'):=fun w1 en w' hb h=>h.ahead hb
 have HSH:Hid (∀ w1 en w',zv w1 (yA B) F (.old E) kd a b en w'→∃ A n c er,en=.returned (.tuple #[.slice A n c,.int .i64 er])):=fun w1 en w' ⟨A,n,c,h,_⟩=>⟨A,n,c,_,h⟩
 clear hd hF ha hb hk
 generalize zv W (yA B) F (.old E) kd a b=Q at *
 go_enter Tryz.func303,Tryz.ntmps303
 go_wp2_with fail
 generalize ((W.alloc (.cells #[.pointer (some ⟨B,0,none⟩)] 80)).alloc (.cells #[.int .u8 (kd:Int),.string a,.string b,.int .u8 nd,.int .u8 rl] 47))=w1 at *
 with_reducible refine (HC.out _ HB2.out).mono ?_
 intro e w2 hq
 obtain ⟨A5,n5,c5,er,rfl⟩:=HSH.out _ _ _ hq
 have HQ:=za (HAH.out _ _ _ HB2.out hq)
 clear hq HC HB2 HAH HSH
 go_wp2
 exact HQ.out
set_option maxRecDepth 100000 in
theorem ask_newc17 (W:World) {D P M G:Nat} {A:zu} {p q pg:Option Nat} {L LM:zl} {T:zp} (F:Nat→Prop) (hd:ye W D P A M p q L LM G pg T) (hgo:zn A L (z8 T) 12) (hF:∀ i,F i↔xg D P M p q G pg T i) (kd:Nat) (a b:ByteArray) (nd rl:Int) (ha:a.size≤1000) (hb:b.size≤1000) (hk:kd≤4) :
  Calls Tryz.prog 340 #[.agg #[.pointer (some ⟨D,0,none⟩)],.agg #[.int .u8 (kd:Int),.string a,.string b,.int .u8 nd,.int .u8 rl]] W (zv W (zH D) F (.new A L (z8 T)) kd a b):=by
 have HC:Hid (∀ W',Below W.heap.size W W'→Calls Tryz.prog 307 #[.iface 150 (.agg #[.pointer (some ⟨D,0,none⟩)]),.agg #[.int .u8 (kd:Int),.string a,.string b,.int .u8 nd,.int .u8 rl]] W' (zv W' (zH D) F (.new A L (z8 T)) kd a b)):=fun W' hW=>common_new17 W' F (hd.later hW) hgo hF kd a b nd rl ha hb hk
 have HB2:Hid (Below W.heap.size W ((W.alloc (.cells #[.pointer (some ⟨D,0,none⟩)] 150)).alloc (.cells #[.int .u8 (kd:Int),.string a,.string b,.int .u8 nd,.int .u8 rl] 47))):=ze (ze (Below.refl _ W) _) _
 have HAH:Hid (∀ w1 en w',Below W.heap.size W w1→zv w1 (zH D) F (.new A L (z8 T)) kd a b en w'→zv W (zH D) F (.new A L (z8 T)) kd a b en w'):=fun w1 en w' hb h=>h.ahead hb
 have q5:((kd:Int) == 5)=false:=by simp; omega
 have q6:((kd:Int) == 6)=false:=by simp; omega
 have q7:((kd:Int) == 7)=false:=by simp; omega
 have q8:((kd:Int) == 8)=false:=by simp; omega
 have q9:((kd:Int) == 9)=false:=by simp; omega
 have q10:((kd:Int) == 10)=false:=by simp; omega
 have q11:((kd:Int) == 11)=false:=by simp; omega
 have q12:((kd:Int) == 12)=false:=by simp; omega
 have q13:((kd:Int) == 13)=false:=by simp; omega
 have q14:((kd:Int) == 14)=false:=by simp; omega
 have HSH:Hid (∀ w1 en w',zv w1 (zH D) F (.new A L (z8 T)) kd a b en w'→∃ A n c er,en=.returned (.tuple #[.slice A n c,.int .i64 er])):=fun w1 en w' ⟨A,n,c,h,_⟩=>⟨A,n,c,_,h⟩
 clear hd hF ha hb hk hgo
 generalize zv W (zH D) F (.new A L (z8 T)) kd a b=Q at *
 go_enter Tryz.func340,Tryz.ntmps340
 go_wp2_with fail
 generalize ((W.alloc (.cells #[.pointer (some ⟨D,0,none⟩)] 150)).alloc (.cells #[.int .u8 (kd:Int),.string a,.string b,.int .u8 nd,.int .u8 rl] 47))=w1 at *
 with_reducible refine (HC.out _ HB2.out).mono ?_
 intro e w2 hq
 obtain ⟨A5,n5,c5,er,rfl⟩:=HSH.out _ _ _ hq
 have HQ:=za (HAH.out _ _ _ HB2.out hq)
 clear hq HC HB2 HAH HSH
 go_wp2
 exact HQ.out
set_option maxRecDepth 100000 in
theorem ask_new5_17 (W:World) {D P M G:Nat} {A:zu} {p q pg:Option Nat} {L LM:zl} {T:zp} (F:Nat→Prop) (hd:ye W D P A M p q L LM G pg T) (hgo:zn A L (z8 T) 12) (hF:∀ i,F i↔xg D P M p q G pg T i) (h5:vY W) (kd:Nat) (a b:ByteArray) (nd rl:Int) (ha:a.size≤1000) (hb:b.size≤1000) (hk:kd=5) :
  Calls Tryz.prog 340 #[.agg #[.pointer (some ⟨D,0,none⟩)],.agg #[.int .u8 (kd:Int),.string a,.string b,.int .u8 nd,.int .u8 rl]] W (zv W (zH D) F (.new A L (z8 T)) kd a b):=by
 have HC:Hid (∀ W',Below W.heap.size W W'→Calls Tryz.prog 345 #[.pointer (some ⟨D,0,none⟩),.string a,.string b] W' fun e w'=>e=.returned (.int .i64 (xh (.new A L (z8 T)) 5 a.data.toList b.data.toList))∧zw W (zH D) F (xx (.new A L (z8 T)) 5 a.data.toList b.data.toList) w'):=fun W' hW=>by
  have h:=hd.later hW
  letI:Fr11:=qt W' D P M p q G pg T
  exact (Xo a b h.all17 (by have:=hgo.lfew; omega) (h5.later hW) (by omega) (by omega)).mono fun e w' ⟨he,hg⟩=>⟨he,(h.dir17 hF hg).ahead hW⟩
 have HKD:=za hk
 have HB2:Hid (Below W.heap.size W ((W.alloc (.cells #[.pointer (some ⟨D,0,none⟩)] 150)).alloc (.cells #[.int .u8 (kd:Int),.string a,.string b,.int .u8 nd,.int .u8 rl] 47))):=ze (ze (Below.refl _ W) _) _
 have q5:((kd:Int) == 5)=true:=by rw [HKD.out]; rfl
 clear hd hF ha hb hk hgo h5
 unfold zv
 have ek:kd=5:=HKD.out
 rw [show xh (.new A L (z8 T)) kd a.data.toList b.data.toList=xh (.new A L (z8 T)) 5 a.data.toList b.data.toList by rw [ek],show xI (.new A L (z8 T)) kd a.data.toList=xI (.new A L (z8 T)) 5 a.data.toList by rw [ek],show xx (.new A L (z8 T)) kd a.data.toList b.data.toList=xx (.new A L (z8 T)) 5 a.data.toList b.data.toList by rw [ek]]
 clear ek
 have hdt:xI (.new A L (z8 T)) 5 a.data.toList=[]:=rfl
 rw [hdt]
 clear hdt
 generalize xh (.new A L (z8 T)) 5 a.data.toList b.data.toList=er at *
 generalize xx (.new A L (z8 T)) 5 a.data.toList b.data.toList=dd at *
 go_enter Tryz.func340,Tryz.ntmps340
 go_wp2_with fail
 generalize ((W.alloc (.cells #[.pointer (some ⟨D,0,none⟩)] 150)).alloc (.cells #[.int .u8 (kd:Int),.string a,.string b,.int .u8 nd,.int .u8 rl] 47))=w1 at *
 with_reducible refine (HC.out _ HB2.out).mono ?_
 rintro e w2 ⟨rfl,hg⟩
 have HGO:=za hg
 clear hg HC HB2
 go_wp2
 go_ret2
 exact ⟨none,0,0,rfl,fun _=>⟨rfl,vB.none _ _⟩,HGO.out⟩
set_option maxRecDepth 100000 in
theorem ask_new6_17 (W:World) {D P M G:Nat} {A:zu} {p q pg:Option Nat} {L LM:zl} {T:zp} (F:Nat→Prop) (hd:ye W D P A M p q L LM G pg T) (hgo:zn A L (z8 T) 12) (hF:∀ i,F i↔xg D P M p q G pg T i) (h5:vY W) (kd:Nat) (a b:ByteArray) (nd rl:Int) (ha:a.size≤1000) (hb:b.size≤1000) (hk:kd=6) :
  Calls Tryz.prog 340 #[.agg #[.pointer (some ⟨D,0,none⟩)],.agg #[.int .u8 (kd:Int),.string a,.string b,.int .u8 nd,.int .u8 rl]] W (zv W (zH D) F (.new A L (z8 T)) kd a b):=by
 have HC:Hid (∀ W',Below W.heap.size W W'→Calls Tryz.prog 346 #[.pointer (some ⟨D,0,none⟩),.string a,.bool true] W' fun e w'=>e=.returned (.int .i64 (xh (.new A L (z8 T)) 6 a.data.toList b.data.toList))∧zw W (zH D) F (xx (.new A L (z8 T)) 6 a.data.toList b.data.toList) w'):=fun W' hW=>by
  have h:=hd.later hW
  letI:Fr11:=qt W' D P M p q G pg T
  exact (jJ a true h.all17 hgo (by omega)).mono fun e w' ⟨he,hg⟩=>⟨he,(h.dir17 hF hg).ahead hW⟩
 have HKD:=za hk
 have HB2:Hid (Below W.heap.size W ((W.alloc (.cells #[.pointer (some ⟨D,0,none⟩)] 150)).alloc (.cells #[.int .u8 (kd:Int),.string a,.string b,.int .u8 nd,.int .u8 rl] 47))):=ze (ze (Below.refl _ W) _) _
 have q5:((kd:Int) == 5)=false:=by rw [HKD.out]; rfl
 have q6:((kd:Int) == 6)=true:=by rw [HKD.out]; rfl
 clear hd hF ha hb hk hgo h5
 unfold zv
 have ek:kd=6:=HKD.out
 rw [show xh (.new A L (z8 T)) kd a.data.toList b.data.toList=xh (.new A L (z8 T)) 6 a.data.toList b.data.toList by rw [ek],show xI (.new A L (z8 T)) kd a.data.toList=xI (.new A L (z8 T)) 6 a.data.toList by rw [ek],show xx (.new A L (z8 T)) kd a.data.toList b.data.toList=xx (.new A L (z8 T)) 6 a.data.toList b.data.toList by rw [ek]]
 clear ek
 have hdt:xI (.new A L (z8 T)) 6 a.data.toList=[]:=rfl
 rw [hdt]
 clear hdt
 generalize xh (.new A L (z8 T)) 6 a.data.toList b.data.toList=er at *
 generalize xx (.new A L (z8 T)) 6 a.data.toList b.data.toList=dd at *
 go_enter Tryz.func340,Tryz.ntmps340
 go_wp2_with fail
 generalize ((W.alloc (.cells #[.pointer (some ⟨D,0,none⟩)] 150)).alloc (.cells #[.int .u8 (kd:Int),.string a,.string b,.int .u8 nd,.int .u8 rl] 47))=w1 at *
 with_reducible refine (HC.out _ HB2.out).mono ?_
 rintro e w2 ⟨rfl,hg⟩
 have HGO:=za hg
 clear hg HC HB2
 go_wp2
 go_ret2
 exact ⟨none,0,0,rfl,fun _=>⟨rfl,vB.none _ _⟩,HGO.out⟩
set_option maxRecDepth 100000 in
theorem ask_new7_17 (W:World) {D P M G:Nat} {A:zu} {p q pg:Option Nat} {L LM:zl} {T:zp} (F:Nat→Prop) (hd:ye W D P A M p q L LM G pg T) (hgo:zn A L (z8 T) 12) (hF:∀ i,F i↔xg D P M p q G pg T i) (h5:vY W) (kd:Nat) (a b:ByteArray) (nd rl:Int) (ha:a.size≤1000) (hb:b.size≤1000) (hk:kd=7) :
  Calls Tryz.prog 340 #[.agg #[.pointer (some ⟨D,0,none⟩)],.agg #[.int .u8 (kd:Int),.string a,.string b,.int .u8 nd,.int .u8 rl]] W (zv W (zH D) F (.new A L (z8 T)) kd a b):=by
 have HC:Hid (∀ W',Below W.heap.size W W'→Calls Tryz.prog 346 #[.pointer (some ⟨D,0,none⟩),.string a,.bool false] W' fun e w'=>e=.returned (.int .i64 (xh (.new A L (z8 T)) 7 a.data.toList b.data.toList))∧zw W (zH D) F (xx (.new A L (z8 T)) 7 a.data.toList b.data.toList) w'):=fun W' hW=>by
  have h:=hd.later hW
  letI:Fr11:=qt W' D P M p q G pg T
  exact (jJ a false h.all17 hgo (by omega)).mono fun e w' ⟨he,hg⟩=>⟨he,(h.dir17 hF hg).ahead hW⟩
 have HKD:=za hk
 have HB2:Hid (Below W.heap.size W ((W.alloc (.cells #[.pointer (some ⟨D,0,none⟩)] 150)).alloc (.cells #[.int .u8 (kd:Int),.string a,.string b,.int .u8 nd,.int .u8 rl] 47))):=ze (ze (Below.refl _ W) _) _
 have q5:((kd:Int) == 5)=false:=by rw [HKD.out]; rfl
 have q6:((kd:Int) == 6)=false:=by rw [HKD.out]; rfl
 have q7:((kd:Int) == 7)=true:=by rw [HKD.out]; rfl
 clear hd hF ha hb hk hgo h5
 unfold zv
 have ek:kd=7:=HKD.out
 rw [show xh (.new A L (z8 T)) kd a.data.toList b.data.toList=xh (.new A L (z8 T)) 7 a.data.toList b.data.toList by rw [ek],show xI (.new A L (z8 T)) kd a.data.toList=xI (.new A L (z8 T)) 7 a.data.toList by rw [ek],show xx (.new A L (z8 T)) kd a.data.toList b.data.toList=xx (.new A L (z8 T)) 7 a.data.toList b.data.toList by rw [ek]]
 clear ek
 have hdt:xI (.new A L (z8 T)) 7 a.data.toList=[]:=rfl
 rw [hdt]
 clear hdt
 generalize xh (.new A L (z8 T)) 7 a.data.toList b.data.toList=er at *
 generalize xx (.new A L (z8 T)) 7 a.data.toList b.data.toList=dd at *
 go_enter Tryz.func340,Tryz.ntmps340
 go_wp2_with fail
 generalize ((W.alloc (.cells #[.pointer (some ⟨D,0,none⟩)] 150)).alloc (.cells #[.int .u8 (kd:Int),.string a,.string b,.int .u8 nd,.int .u8 rl] 47))=w1 at *
 with_reducible refine (HC.out _ HB2.out).mono ?_
 rintro e w2 ⟨rfl,hg⟩
 have HGO:=za hg
 clear hg HC HB2
 go_wp2
 go_ret2
 exact ⟨none,0,0,rfl,fun _=>⟨rfl,vB.none _ _⟩,HGO.out⟩
set_option maxRecDepth 100000 in
theorem ask_new8_17 (W:World) {D P M G:Nat} {A:zu} {p q pg:Option Nat} {L LM:zl} {T:zp} (F:Nat→Prop) (hd:ye W D P A M p q L LM G pg T) (hgo:zn A L (z8 T) 12) (hF:∀ i,F i↔xg D P M p q G pg T i) (h5:vY W) (kd:Nat) (a b:ByteArray) (nd rl:Int) (ha:a.size≤1000) (hb:b.size≤1000) (hk:kd=8) :
  Calls Tryz.prog 340 #[.agg #[.pointer (some ⟨D,0,none⟩)],.agg #[.int .u8 (kd:Int),.string a,.string b,.int .u8 nd,.int .u8 rl]] W (zv W (zH D) F (.new A L (z8 T)) kd a b):=by
 have HC:Hid (∀ W',Below W.heap.size W W'→Calls Tryz.prog 347 #[.pointer (some ⟨D,0,none⟩),.string a,.string b] W' fun e w'=>e=.returned (.int .i64 (xh (.new A L (z8 T)) 8 a.data.toList b.data.toList))∧zw W (zH D) F (xx (.new A L (z8 T)) 8 a.data.toList b.data.toList) w'):=fun W' hW=>by
  have h:=hd.later hW
  letI:Fr11:=qt W' D P M p q G pg T
  exact (VF a b h.all17 hgo (by decide) (by omega) (by omega)).mono fun e w' ⟨he,hg⟩=>⟨he,(h.dir17 hF hg).ahead hW⟩
 have HKD:=za hk
 have HB2:Hid (Below W.heap.size W ((W.alloc (.cells #[.pointer (some ⟨D,0,none⟩)] 150)).alloc (.cells #[.int .u8 (kd:Int),.string a,.string b,.int .u8 nd,.int .u8 rl] 47))):=ze (ze (Below.refl _ W) _) _
 have q5:((kd:Int) == 5)=false:=by rw [HKD.out]; rfl
 have q6:((kd:Int) == 6)=false:=by rw [HKD.out]; rfl
 have q7:((kd:Int) == 7)=false:=by rw [HKD.out]; rfl
 have q8:((kd:Int) == 8)=true:=by rw [HKD.out]; rfl
 clear hd hF ha hb hk hgo h5
 unfold zv
 have ek:kd=8:=HKD.out
 rw [show xh (.new A L (z8 T)) kd a.data.toList b.data.toList=xh (.new A L (z8 T)) 8 a.data.toList b.data.toList by rw [ek],show xI (.new A L (z8 T)) kd a.data.toList=xI (.new A L (z8 T)) 8 a.data.toList by rw [ek],show xx (.new A L (z8 T)) kd a.data.toList b.data.toList=xx (.new A L (z8 T)) 8 a.data.toList b.data.toList by rw [ek]]
 clear ek
 have hdt:xI (.new A L (z8 T)) 8 a.data.toList=[]:=rfl
 rw [hdt]
 clear hdt
 generalize xh (.new A L (z8 T)) 8 a.data.toList b.data.toList=er at *
 generalize xx (.new A L (z8 T)) 8 a.data.toList b.data.toList=dd at *
 go_enter Tryz.func340,Tryz.ntmps340
 go_wp2_with fail
 generalize ((W.alloc (.cells #[.pointer (some ⟨D,0,none⟩)] 150)).alloc (.cells #[.int .u8 (kd:Int),.string a,.string b,.int .u8 nd,.int .u8 rl] 47))=w1 at *
 with_reducible refine (HC.out _ HB2.out).mono ?_
 rintro e w2 ⟨rfl,hg⟩
 have HGO:=za hg
 clear hg HC HB2
 go_wp2
 go_ret2
 exact ⟨none,0,0,rfl,fun _=>⟨rfl,vB.none _ _⟩,HGO.out⟩
set_option maxRecDepth 100000 in
theorem ask_new9_17 (W:World) {D P M G:Nat} {A:zu} {p q pg:Option Nat} {L LM:zl} {T:zp} (F:Nat→Prop) (hd:ye W D P A M p q L LM G pg T) (hgo:zn A L (z8 T) 12) (hF:∀ i,F i↔xg D P M p q G pg T i) (h5:vY W) (kd:Nat) (a b:ByteArray) (nd rl:Int) (ha:a.size≤1000) (hb:b.size≤1000) (hk:kd=9) :
  Calls Tryz.prog 340 #[.agg #[.pointer (some ⟨D,0,none⟩)],.agg #[.int .u8 (kd:Int),.string a,.string b,.int .u8 nd,.int .u8 rl]] W (zv W (zH D) F (.new A L (z8 T)) kd a b):=by
 have HC:Hid (∀ W',Below W.heap.size W W'→Calls Tryz.prog 348 #[.pointer (some ⟨D,0,none⟩),.string a] W' fun e w'=>e=.returned (.int .i64 (xh (.new A L (z8 T)) 9 a.data.toList b.data.toList))∧zw W (zH D) F (xx (.new A L (z8 T)) 9 a.data.toList b.data.toList) w'):=fun W' hW=>by
  have h:=hd.later hW
  letI:Fr11:=qt W' D P M p q G pg T
  exact (Y4 a h.all17 hgo (by omega)).mono fun e w' ⟨he,hg⟩=>⟨he,(h.dir17 hF hg).ahead hW⟩
 have HKD:=za hk
 have HB2:Hid (Below W.heap.size W ((W.alloc (.cells #[.pointer (some ⟨D,0,none⟩)] 150)).alloc (.cells #[.int .u8 (kd:Int),.string a,.string b,.int .u8 nd,.int .u8 rl] 47))):=ze (ze (Below.refl _ W) _) _
 have q5:((kd:Int) == 5)=false:=by rw [HKD.out]; rfl
 have q6:((kd:Int) == 6)=false:=by rw [HKD.out]; rfl
 have q7:((kd:Int) == 7)=false:=by rw [HKD.out]; rfl
 have q8:((kd:Int) == 8)=false:=by rw [HKD.out]; rfl
 have q9:((kd:Int) == 9)=true:=by rw [HKD.out]; rfl
 clear hd hF ha hb hk hgo h5
 unfold zv
 have ek:kd=9:=HKD.out
 rw [show xh (.new A L (z8 T)) kd a.data.toList b.data.toList=xh (.new A L (z8 T)) 9 a.data.toList b.data.toList by rw [ek],show xI (.new A L (z8 T)) kd a.data.toList=xI (.new A L (z8 T)) 9 a.data.toList by rw [ek],show xx (.new A L (z8 T)) kd a.data.toList b.data.toList=xx (.new A L (z8 T)) 9 a.data.toList b.data.toList by rw [ek]]
 clear ek
 have hdt:xI (.new A L (z8 T)) 9 a.data.toList=[]:=rfl
 rw [hdt]
 clear hdt
 generalize xh (.new A L (z8 T)) 9 a.data.toList b.data.toList=er at *
 generalize xx (.new A L (z8 T)) 9 a.data.toList b.data.toList=dd at *
 go_enter Tryz.func340,Tryz.ntmps340
 go_wp2_with fail
 generalize ((W.alloc (.cells #[.pointer (some ⟨D,0,none⟩)] 150)).alloc (.cells #[.int .u8 (kd:Int),.string a,.string b,.int .u8 nd,.int .u8 rl] 47))=w1 at *
 with_reducible refine (HC.out _ HB2.out).mono ?_
 rintro e w2 ⟨rfl,hg⟩
 have HGO:=za hg
 clear hg HC HB2
 go_wp2
 go_ret2
 exact ⟨none,0,0,rfl,fun _=>⟨rfl,vB.none _ _⟩,HGO.out⟩
set_option maxRecDepth 100000 in
theorem ask_new10_17 (W:World) {D P M G:Nat} {A:zu} {p q pg:Option Nat} {L LM:zl} {T:zp} (F:Nat→Prop) (hd:ye W D P A M p q L LM G pg T) (hgo:zn A L (z8 T) 12) (hF:∀ i,F i↔xg D P M p q G pg T i) (h5:vY W) (kd:Nat) (a b:ByteArray) (nd rl:Int) (ha:a.size≤1000) (hb:b.size≤1000) (hk:kd=10) :
  Calls Tryz.prog 340 #[.agg #[.pointer (some ⟨D,0,none⟩)],.agg #[.int .u8 (kd:Int),.string a,.string b,.int .u8 nd,.int .u8 rl]] W (zv W (zH D) F (.new A L (z8 T)) kd a b):=by
 have HC:Hid (∀ W',Below W.heap.size W W'→Calls Tryz.prog 349 #[.pointer (some ⟨D,0,none⟩),.string a] W' fun e w'=>e=.returned (.int .i64 (xh (.new A L (z8 T)) 10 a.data.toList b.data.toList))∧zw W (zH D) F (xx (.new A L (z8 T)) 10 a.data.toList b.data.toList) w'):=fun W' hW=>by
  have h:=hd.later hW
  letI:Fr11:=qt W' D P M p q G pg T
  exact (Yd a h.all17 (by omega)).mono fun e w' ⟨he,hg⟩=>⟨he,(h.dir17 hF hg).ahead hW⟩
 have HKD:=za hk
 have HB2:Hid (Below W.heap.size W ((W.alloc (.cells #[.pointer (some ⟨D,0,none⟩)] 150)).alloc (.cells #[.int .u8 (kd:Int),.string a,.string b,.int .u8 nd,.int .u8 rl] 47))):=ze (ze (Below.refl _ W) _) _
 have q5:((kd:Int) == 5)=false:=by rw [HKD.out]; rfl
 have q6:((kd:Int) == 6)=false:=by rw [HKD.out]; rfl
 have q7:((kd:Int) == 7)=false:=by rw [HKD.out]; rfl
 have q8:((kd:Int) == 8)=false:=by rw [HKD.out]; rfl
 have q9:((kd:Int) == 9)=false:=by rw [HKD.out]; rfl
 have q10:((kd:Int) == 10)=true:=by rw [HKD.out]; rfl
 clear hd hF ha hb hk hgo h5
 unfold zv
 have ek:kd=10:=HKD.out
 rw [show xh (.new A L (z8 T)) kd a.data.toList b.data.toList=xh (.new A L (z8 T)) 10 a.data.toList b.data.toList by rw [ek],show xI (.new A L (z8 T)) kd a.data.toList=xI (.new A L (z8 T)) 10 a.data.toList by rw [ek],show xx (.new A L (z8 T)) kd a.data.toList b.data.toList=xx (.new A L (z8 T)) 10 a.data.toList b.data.toList by rw [ek]]
 clear ek
 have hdt:xI (.new A L (z8 T)) 10 a.data.toList=[]:=rfl
 rw [hdt]
 clear hdt
 generalize xh (.new A L (z8 T)) 10 a.data.toList b.data.toList=er at *
 generalize xx (.new A L (z8 T)) 10 a.data.toList b.data.toList=dd at *
 go_enter Tryz.func340,Tryz.ntmps340
 go_wp2_with fail
 generalize ((W.alloc (.cells #[.pointer (some ⟨D,0,none⟩)] 150)).alloc (.cells #[.int .u8 (kd:Int),.string a,.string b,.int .u8 nd,.int .u8 rl] 47))=w1 at *
 with_reducible refine (HC.out _ HB2.out).mono ?_
 rintro e w2 ⟨rfl,hg⟩
 have HGO:=za hg
 clear hg HC HB2
 go_wp2
 go_ret2
 exact ⟨none,0,0,rfl,fun _=>⟨rfl,vB.none _ _⟩,HGO.out⟩
set_option maxRecDepth 100000 in
theorem ask_new11_17 (W:World) {D P M G:Nat} {A:zu} {p q pg:Option Nat} {L LM:zl} {T:zp} (F:Nat→Prop) (hd:ye W D P A M p q L LM G pg T) (hgo:zn A L (z8 T) 12) (hF:∀ i,F i↔xg D P M p q G pg T i) (h5:vY W) (kd:Nat) (a b:ByteArray) (nd rl:Int) (ha:a.size≤1000) (hb:b.size≤1000) (hk:kd=11) :
  Calls Tryz.prog 340 #[.agg #[.pointer (some ⟨D,0,none⟩)],.agg #[.int .u8 (kd:Int),.string a,.string b,.int .u8 nd,.int .u8 rl]] W (zv W (zH D) F (.new A L (z8 T)) kd a b):=by
 have HC:Hid (∀ W',Below W.heap.size W W'→Calls Tryz.prog 350 #[.pointer (some ⟨D,0,none⟩),.string a,.string b] W' fun e w'=>e=.returned (.int .i64 (xh (.new A L (z8 T)) 11 a.data.toList b.data.toList))∧zw W (zH D) F (xx (.new A L (z8 T)) 11 a.data.toList b.data.toList) w'):=fun W' hW=>by
  have h:=hd.later hW
  letI:Fr11:=qt W' D P M p q G pg T
  exact (Fs a b h.all17 hgo (by decide) (by omega) (by omega)).mono fun e w' ⟨he,hg⟩=>⟨he,(h.dir17 hF hg).ahead hW⟩
 have HKD:=za hk
 have HB2:Hid (Below W.heap.size W ((W.alloc (.cells #[.pointer (some ⟨D,0,none⟩)] 150)).alloc (.cells #[.int .u8 (kd:Int),.string a,.string b,.int .u8 nd,.int .u8 rl] 47))):=ze (ze (Below.refl _ W) _) _
 have q5:((kd:Int) == 5)=false:=by rw [HKD.out]; rfl
 have q6:((kd:Int) == 6)=false:=by rw [HKD.out]; rfl
 have q7:((kd:Int) == 7)=false:=by rw [HKD.out]; rfl
 have q8:((kd:Int) == 8)=false:=by rw [HKD.out]; rfl
 have q9:((kd:Int) == 9)=false:=by rw [HKD.out]; rfl
 have q10:((kd:Int) == 10)=false:=by rw [HKD.out]; rfl
 have q11:((kd:Int) == 11)=true:=by rw [HKD.out]; rfl
 clear hd hF ha hb hk hgo h5
 unfold zv
 have ek:kd=11:=HKD.out
 rw [show xh (.new A L (z8 T)) kd a.data.toList b.data.toList=xh (.new A L (z8 T)) 11 a.data.toList b.data.toList by rw [ek],show xI (.new A L (z8 T)) kd a.data.toList=xI (.new A L (z8 T)) 11 a.data.toList by rw [ek],show xx (.new A L (z8 T)) kd a.data.toList b.data.toList=xx (.new A L (z8 T)) 11 a.data.toList b.data.toList by rw [ek]]
 clear ek
 have hdt:xI (.new A L (z8 T)) 11 a.data.toList=[]:=rfl
 rw [hdt]
 clear hdt
 generalize xh (.new A L (z8 T)) 11 a.data.toList b.data.toList=er at *
 generalize xx (.new A L (z8 T)) 11 a.data.toList b.data.toList=dd at *
 go_enter Tryz.func340,Tryz.ntmps340
 go_wp2_with fail
 generalize ((W.alloc (.cells #[.pointer (some ⟨D,0,none⟩)] 150)).alloc (.cells #[.int .u8 (kd:Int),.string a,.string b,.int .u8 nd,.int .u8 rl] 47))=w1 at *
 with_reducible refine (HC.out _ HB2.out).mono ?_
 rintro e w2 ⟨rfl,hg⟩
 have HGO:=za hg
 clear hg HC HB2
 go_wp2
 go_ret2
 exact ⟨none,0,0,rfl,fun _=>⟨rfl,vB.none _ _⟩,HGO.out⟩
set_option maxRecDepth 100000 in
theorem ask_new12_17 (W:World) {D P M G:Nat} {A:zu} {p q pg:Option Nat} {L LM:zl} {T:zp} (F:Nat→Prop) (hd:ye W D P A M p q L LM G pg T) (hgo:zn A L (z8 T) 12) (hF:∀ i,F i↔xg D P M p q G pg T i) (h5:vY W) (kd:Nat) (a b:ByteArray) (nd rl:Int) (ha:a.size≤1000) (hb:b.size≤1000) (hk:kd=12) :
  Calls Tryz.prog 340 #[.agg #[.pointer (some ⟨D,0,none⟩)],.agg #[.int .u8 (kd:Int),.string a,.string b,.int .u8 nd,.int .u8 rl]] W (zv W (zH D) F (.new A L (z8 T)) kd a b):=by
 have HC:Hid (∀ W',Below W.heap.size W W'→Calls Tryz.prog 351 #[.pointer (some ⟨D,0,none⟩),.string a,.string b] W' fun e w'=>e=.returned (.int .i64 (xh (.new A L (z8 T)) 12 a.data.toList b.data.toList))∧zw W (zH D) F (xx (.new A L (z8 T)) 12 a.data.toList b.data.toList) w'):=fun W' hW=>by
  have h:=hd.later hW
  letI:Fr11:=qt W' D P M p q G pg T
  exact (QN a b h.all17 (by omega) (by omega)).mono fun e w' ⟨he,hg⟩=>⟨he,(h.dir17 hF hg).ahead hW⟩
 have HKD:=za hk
 have HB2:Hid (Below W.heap.size W ((W.alloc (.cells #[.pointer (some ⟨D,0,none⟩)] 150)).alloc (.cells #[.int .u8 (kd:Int),.string a,.string b,.int .u8 nd,.int .u8 rl] 47))):=ze (ze (Below.refl _ W) _) _
 have q5:((kd:Int) == 5)=false:=by rw [HKD.out]; rfl
 have q6:((kd:Int) == 6)=false:=by rw [HKD.out]; rfl
 have q7:((kd:Int) == 7)=false:=by rw [HKD.out]; rfl
 have q8:((kd:Int) == 8)=false:=by rw [HKD.out]; rfl
 have q9:((kd:Int) == 9)=false:=by rw [HKD.out]; rfl
 have q10:((kd:Int) == 10)=false:=by rw [HKD.out]; rfl
 have q11:((kd:Int) == 11)=false:=by rw [HKD.out]; rfl
 have q12:((kd:Int) == 12)=true:=by rw [HKD.out]; rfl
 clear hd hF ha hb hk hgo h5
 unfold zv
 have ek:kd=12:=HKD.out
 rw [show xh (.new A L (z8 T)) kd a.data.toList b.data.toList=xh (.new A L (z8 T)) 12 a.data.toList b.data.toList by rw [ek],show xI (.new A L (z8 T)) kd a.data.toList=xI (.new A L (z8 T)) 12 a.data.toList by rw [ek],show xx (.new A L (z8 T)) kd a.data.toList b.data.toList=xx (.new A L (z8 T)) 12 a.data.toList b.data.toList by rw [ek]]
 clear ek
 have hdt:xI (.new A L (z8 T)) 12 a.data.toList=[]:=rfl
 rw [hdt]
 clear hdt
 generalize xh (.new A L (z8 T)) 12 a.data.toList b.data.toList=er at *
 generalize xx (.new A L (z8 T)) 12 a.data.toList b.data.toList=dd at *
 go_enter Tryz.func340,Tryz.ntmps340
 go_wp2_with fail
 generalize ((W.alloc (.cells #[.pointer (some ⟨D,0,none⟩)] 150)).alloc (.cells #[.int .u8 (kd:Int),.string a,.string b,.int .u8 nd,.int .u8 rl] 47))=w1 at *
 with_reducible refine (HC.out _ HB2.out).mono ?_
 rintro e w2 ⟨rfl,hg⟩
 have HGO:=za hg
 clear hg HC HB2
 go_wp2
 go_ret2
 exact ⟨none,0,0,rfl,fun _=>⟨rfl,vB.none _ _⟩,HGO.out⟩
set_option maxRecDepth 100000 in
theorem ask_new13_17 (W:World) {D P M G:Nat} {A:zu} {p q pg:Option Nat} {L LM:zl} {T:zp} (F:Nat→Prop) (hd:ye W D P A M p q L LM G pg T) (hgo:zn A L (z8 T) 12) (hF:∀ i,F i↔xg D P M p q G pg T i) (h5:vY W) (kd:Nat) (a b:ByteArray) (nd rl:Int) (ha:a.size≤1000) (hb:b.size≤1000) (hk:kd=13) :
  Calls Tryz.prog 340 #[.agg #[.pointer (some ⟨D,0,none⟩)],.agg #[.int .u8 (kd:Int),.string a,.string b,.int .u8 nd,.int .u8 rl]] W (zv W (zH D) F (.new A L (z8 T)) kd a b):=by
 have HG:Hid (∀ w',Below W.heap.size W w'→zw W (zH D) F (xx (.new A L (z8 T)) 13 a.data.toList b.data.toList) w'):=fun w' hw=>zw.still (d:=(.new A L (z8 T))) ⟨D,P,M,G,p,q,LM,pg,T,rfl,hd,rfl,hF⟩ hw
 have HC:Hid (∀ W',Below W.heap.size W W'→Calls Tryz.prog 352 #[.agg #[.pointer (some ⟨D,0,none⟩)],.string a] W' fun en w'=>∃ A' n c,en=.returned (.tuple #[.slice A' n c,.int .i64 (xh (.new A L (z8 T)) 13 a.data.toList b.data.toList)])∧n=(xI (.new A L (z8 T)) 13 a.data.toList).length∧vB w' A' ((xI (.new A L (z8 T)) 13 a.data.toList).map xT)∧Below W'.heap.size W' w'):=fun W' hW=>(newFind17 W' (hd.later hW) a ha (h5.later hW)).mono fun en w' ⟨A',h1,h2,h3⟩=>⟨A',1,1,h1,rfl,h2,h3⟩
 have HKD:=za hk
 have HB2:Hid (Below W.heap.size W ((W.alloc (.cells #[.pointer (some ⟨D,0,none⟩)] 150)).alloc (.cells #[.int .u8 (kd:Int),.string a,.string b,.int .u8 nd,.int .u8 rl] 47))):=ze (ze (Below.refl _ W) _) _
 have q5:((kd:Int) == 5)=false:=by rw [HKD.out]; rfl
 have q6:((kd:Int) == 6)=false:=by rw [HKD.out]; rfl
 have q7:((kd:Int) == 7)=false:=by rw [HKD.out]; rfl
 have q8:((kd:Int) == 8)=false:=by rw [HKD.out]; rfl
 have q9:((kd:Int) == 9)=false:=by rw [HKD.out]; rfl
 have q10:((kd:Int) == 10)=false:=by rw [HKD.out]; rfl
 have q11:((kd:Int) == 11)=false:=by rw [HKD.out]; rfl
 have q12:((kd:Int) == 12)=false:=by rw [HKD.out]; rfl
 have q13:((kd:Int) == 13)=true:=by rw [HKD.out]; rfl
 clear hd hF ha hb hk hgo h5
 unfold zv
 have ek:kd=13:=HKD.out
 rw [show xh (.new A L (z8 T)) kd a.data.toList b.data.toList=xh (.new A L (z8 T)) 13 a.data.toList b.data.toList by rw [ek],show xI (.new A L (z8 T)) kd a.data.toList=xI (.new A L (z8 T)) 13 a.data.toList by rw [ek],show xx (.new A L (z8 T)) kd a.data.toList b.data.toList=xx (.new A L (z8 T)) 13 a.data.toList b.data.toList by rw [ek]]
 clear ek
 generalize xI (.new A L (z8 T)) 13 a.data.toList=tx at *
 generalize xh (.new A L (z8 T)) 13 a.data.toList b.data.toList=er at *
 generalize xx (.new A L (z8 T)) 13 a.data.toList b.data.toList=dd at *
 go_enter Tryz.func340,Tryz.ntmps340
 go_wp2_with fail
 generalize ((W.alloc (.cells #[.pointer (some ⟨D,0,none⟩)] 150)).alloc (.cells #[.int .u8 (kd:Int),.string a,.string b,.int .u8 nd,.int .u8 rl] 47))=w1 at *
 with_reducible refine (HC.out _ HB2.out).mono ?_
 rintro e w2 ⟨A5,n5,c5,rfl,hn5,ht,hbl⟩
 have HT5:=za (And.intro hn5 ht)
 have HGO:=za (HG.out _ (zj HB2.out hbl))
 clear ht hn5 hbl HG HC HB2
 go_wp2
 go_ret2
 exact ⟨A5,n5,c5,rfl,fun _=>HT5.out,HGO.out⟩
set_option maxRecDepth 100000 in
theorem ask_new14_17 (W:World) {D P M G:Nat} {A:zu} {p q pg:Option Nat} {L LM:zl} {T:zp} (F:Nat→Prop) (hd:ye W D P A M p q L LM G pg T) (hgo:zn A L (z8 T) 12) (hF:∀ i,F i↔xg D P M p q G pg T i) (h5:vY W) (kd:Nat) (a b:ByteArray) (nd rl:Int) (ha:a.size≤1000) (hb:b.size≤1000) (hk:kd=14) :
  Calls Tryz.prog 340 #[.agg #[.pointer (some ⟨D,0,none⟩)],.agg #[.int .u8 (kd:Int),.string a,.string b,.int .u8 nd,.int .u8 rl]] W (zv W (zH D) F (.new A L (z8 T)) kd a b):=by
 have HG:Hid (∀ w',Below W.heap.size W w'→zw W (zH D) F (xx (.new A L (z8 T)) 14 a.data.toList b.data.toList) w'):=fun w' hw=>zw.still (d:=(.new A L (z8 T))) ⟨D,P,M,G,p,q,LM,pg,T,rfl,hd,rfl,hF⟩ hw
 have HC:Hid (∀ W',Below W.heap.size W W'→Calls Tryz.prog 353 #[.pointer (some ⟨D,0,none⟩),.string a] W' fun en w'=>∃ A' n c,en=.returned (.tuple #[.slice A' n c,.int .i64 (xh (.new A L (z8 T)) 14 a.data.toList b.data.toList)])∧n=(xI (.new A L (z8 T)) 14 a.data.toList).length∧vB w' A' ((xI (.new A L (z8 T)) 14 a.data.toList).map xT)∧Below W'.heap.size W' w'):=fun W' hW=>by
  refine (YL (w0:=jM W') a (hd.later hW).plain17 hgo.grp (by decide) (by omega)).mono fun en w' ⟨v,h1,h2,h3⟩=>?_
  have h4:=zy h2 (Nat.zero_le _)
  obtain ⟨A',c,rfl⟩:=yI h4
  refine ⟨A',_,c,h1,rfl,JW (n:=(fI (z8 T) a.data.toList).length) (c:=c) ?_ (List.length_map _).symm,h3⟩
  rw [List.map_map]
  have e:(fI (z8 T) a.data.toList).map encStr=(xI (.new A L (z8 T)) 14 a.data.toList).map (Value.string ∘ xT):=by
   apply List.map_congr_left
   intro x _
   simp [encStr,xT]
  rw [← e]
  exact h4
 have HKD:=za hk
 have HB2:Hid (Below W.heap.size W ((W.alloc (.cells #[.pointer (some ⟨D,0,none⟩)] 150)).alloc (.cells #[.int .u8 (kd:Int),.string a,.string b,.int .u8 nd,.int .u8 rl] 47))):=ze (ze (Below.refl _ W) _) _
 have q5:((kd:Int) == 5)=false:=by rw [HKD.out]; rfl
 have q6:((kd:Int) == 6)=false:=by rw [HKD.out]; rfl
 have q7:((kd:Int) == 7)=false:=by rw [HKD.out]; rfl
 have q8:((kd:Int) == 8)=false:=by rw [HKD.out]; rfl
 have q9:((kd:Int) == 9)=false:=by rw [HKD.out]; rfl
 have q10:((kd:Int) == 10)=false:=by rw [HKD.out]; rfl
 have q11:((kd:Int) == 11)=false:=by rw [HKD.out]; rfl
 have q12:((kd:Int) == 12)=false:=by rw [HKD.out]; rfl
 have q13:((kd:Int) == 13)=false:=by rw [HKD.out]; rfl
 have q14:((kd:Int) == 14)=true:=by rw [HKD.out]; rfl
 clear hd hF ha hb hk hgo h5
 unfold zv
 have ek:kd=14:=HKD.out
 rw [show xh (.new A L (z8 T)) kd a.data.toList b.data.toList=xh (.new A L (z8 T)) 14 a.data.toList b.data.toList by rw [ek],show xI (.new A L (z8 T)) kd a.data.toList=xI (.new A L (z8 T)) 14 a.data.toList by rw [ek],show xx (.new A L (z8 T)) kd a.data.toList b.data.toList=xx (.new A L (z8 T)) 14 a.data.toList b.data.toList by rw [ek]]
 clear ek
 generalize xI (.new A L (z8 T)) 14 a.data.toList=tx at *
 generalize xh (.new A L (z8 T)) 14 a.data.toList b.data.toList=er at *
 generalize xx (.new A L (z8 T)) 14 a.data.toList b.data.toList=dd at *
 go_enter Tryz.func340,Tryz.ntmps340
 go_wp2_with fail
 generalize ((W.alloc (.cells #[.pointer (some ⟨D,0,none⟩)] 150)).alloc (.cells #[.int .u8 (kd:Int),.string a,.string b,.int .u8 nd,.int .u8 rl] 47))=w1 at *
 with_reducible refine (HC.out _ HB2.out).mono ?_
 rintro e w2 ⟨A5,n5,c5,rfl,hn5,ht,hbl⟩
 have HT5:=za (And.intro hn5 ht)
 have HGO:=za (HG.out _ (zj HB2.out hbl))
 clear ht hn5 hbl HG HC HB2
 go_wp2
 go_ret2
 exact ⟨A5,n5,c5,rfl,fun _=>HT5.out,HGO.out⟩
theorem ask_new17 (W:World) {D P M G:Nat} {A:zu} {p q pg:Option Nat} {L LM:zl} {T:zp} (F:Nat→Prop) (hd:ye W D P A M p q L LM G pg T) (hgo:zn A L (z8 T) 12) (hF:∀ i,F i↔xg D P M p q G pg T i) (h5:vY W) (kd:Nat) (a b:ByteArray) (nd rl:Int) (ha:a.size≤1000) (hb:b.size≤1000) (hk:kd≤14) :
  Calls Tryz.prog 340 #[.agg #[.pointer (some ⟨D,0,none⟩)],.agg #[.int .u8 (kd:Int),.string a,.string b,.int .u8 nd,.int .u8 rl]] W (zv W (zH D) F (.new A L (z8 T)) kd a b):=by
 by_cases h4:kd≤4
 ·
  exact ask_newc17 W F hd hgo hF kd a b nd rl ha hb h4
 ·
  have hc:kd=5∨kd=6∨kd=7∨kd=8∨kd=9∨kd=10∨kd=11∨kd=12∨kd=13∨kd=14:=by omega
  rcases hc with hc | hc | hc | hc | hc | hc | hc | hc | hc | hc
  ·
   exact ask_new5_17 W F hd hgo hF h5 kd a b nd rl ha hb hc
  ·
   exact ask_new6_17 W F hd hgo hF h5 kd a b nd rl ha hb hc
  ·
   exact ask_new7_17 W F hd hgo hF h5 kd a b nd rl ha hb hc
  ·
   exact ask_new8_17 W F hd hgo hF h5 kd a b nd rl ha hb hc
  ·
   exact ask_new9_17 W F hd hgo hF h5 kd a b nd rl ha hb hc
  ·
   exact ask_new10_17 W F hd hgo hF h5 kd a b nd rl ha hb hc
  ·
   exact ask_new11_17 W F hd hgo hF h5 kd a b nd rl ha hb hc
  ·
   exact ask_new12_17 W F hd hgo hF h5 kd a b nd rl ha hb hc
  ·
   exact ask_new13_17 W F hd hgo hF h5 kd a b nd rl ha hb hc
  ·
   exact ask_new14_17 W F hd hgo hF h5 kd a b nd rl ha hb hc
end Go.Proofs.YteegkoicalbkbaaGreatDoor
namespace Go.Proofs.YteegkoicalbkbaaGreatDoor
open Go.RowKit Go.Maps
set_option linter.unusedVariables false

theorem yY.shape {W:World} {v:Value} {F:Nat→Prop} {d:D17} (h:yY W v F d):(∃ B p E,d=.old E∧v=.iface 80 (.agg #[.pointer (some ⟨B,0,none⟩)])∧vh W B p E∧∀ i,F i↔(i=B∨p=some i)) ∨
  (∃ D P M G A p q L LM pg T,d=.new A L (z8 T)∧v=.iface 150 (.agg #[.pointer (some ⟨D,0,none⟩)])∧ye W D P A M p q L LM G pg T∧∀ i,F i↔xg D P M p q G pg T i):=by
 cases d with
 | old E =>
  obtain ⟨B,p,hv,hd,hF⟩:=h
  exact .inl ⟨B,p,E,rfl,hv,hd,hF⟩
 | new A L S =>
  obtain ⟨D,P,M,G,p,q,LM,pg,T,hv,hd,rfl,hF⟩:=h
  exact .inr ⟨D,P,M,G,A,p,q,L,LM,pg,T,rfl,hv,hd,hF⟩
section
variable {W:World} {H:Nat} {F:Nat→Prop} {s:H17}
set_option maxRecDepth 100000 in
theorem xC (h:zS W H F s):Calls Tryz.prog 17 #[.pointer (some ⟨H,0,none⟩)] W (zC (.int .i64 (s.d.ver:Nat)) W):=by
 obtain ⟨v,FD,hc,hd,_⟩:=h.dir
 rcases hd.shape with ⟨B,p,E,e,rfl,_,_⟩ | ⟨D,P,M,G,A,p,q,L,LM,pg,T,e,rfl,_,_⟩
 ·
  rw [e]
  have hm:=XG B
  show Calls _ _ _ _ (zC (.int .i64 1) W)
  clear h hd e
  go_enter Tryz.func17,Tryz.ntmps17
  go_wp2
  go_ret
  exact ⟨rfl,ze (Below.refl _ _) _⟩
 ·
  rw [e]
  have hm:=XH D
  show Calls _ _ _ _ (zC (.int .i64 2) W)
  clear h hd e
  go_enter Tryz.func17,Tryz.ntmps17
  go_wp2
  go_ret
  exact ⟨rfl,ze (Below.refl _ _) _⟩
def dirB17:D17→List UInt8
 | .old E=>shotR E
 | .new A L S=>V5 (zm A L S) (zc S)
theorem qJ.ahead17 {W W1:World} {l:List UInt8} {e:Ending} {w':World} (hb:Below W.heap.size W W1) (h:qJ W1 l e w'):qJ W l e w':=by
 obtain ⟨v,h1,h2,h3,h4⟩:=h
 exact ⟨v,h1,h2,fun k hk=>Nat.le_trans hb.size (h3 k hk),zj hb h4⟩
set_option maxRecDepth 100000 in
theorem F1 {W:World} {B:Nat} {p:Option Nat} {E:zl} (hd:vh W B p E) (hg:xe E) (h5:vY W):Calls Tryz.prog 304 #[.agg #[.pointer (some ⟨B,0,none⟩)]] W (qJ W (shotR E)):=by
 have hb:=ze (Below.refl _ W) (.cells #[.pointer (some ⟨B,0,none⟩)] 80)
 have HC:=za ((bytes8_calls B p E _ (hd.later hb) hg.chk (h5.later hb)).mono fun e w' h=>qJ.ahead17 hb h)
 unfold qJ at HC ⊢
 clear hd hg h5 hb
 go_enter Tryz.func304,Tryz.ntmps304
 go_wp2_with fail
 with_reducible refine HC.out.mono ?_
 rintro e w2 ⟨v,rfl,ho,hn,hb⟩
 obtain ⟨A5,c5,rfl⟩:=yI (zy ho (Nat.zero_le _))
 have HO:=za ho
 have HN:=za hn
 have HB:=za hb
 clear ho hn hb HC
 go_wp2
 go_ret
 exact ⟨_,rfl,HO.out,HN.out,HB.out⟩
set_option maxRecDepth 100000 in
theorem Fp {W:World} {D P M G:Nat} {A:zu} {p q pg:Option Nat} {L LM:zl} {T:zp} (hd:ye W D P A M p q L LM G pg T) (hg:zn A L (z8 T) 12) (h5:vY W):Calls Tryz.prog 341 #[.agg #[.pointer (some ⟨D,0,none⟩)]] W (qJ W (V5 (zm A L (z8 T)) (zc (z8 T)))):=by
 have hb:=ze (Below.refl _ W) (.cells #[.pointer (some ⟨D,0,none⟩)] 150)
 have HC:=za ((VY (hd.later hb).plain17 hg (h5.later hb)).mono fun e w' h=>qJ.ahead17 hb h)
 unfold qJ at HC ⊢
 clear hd hg h5 hb
 generalize V5 (zm A L (z8 T)) (zc (z8 T))=bs at *
 go_enter Tryz.func341,Tryz.ntmps341
 go_wp2_with fail
 with_reducible refine HC.out.mono ?_
 rintro e w2 ⟨v,rfl,ho,hn,hb⟩
 obtain ⟨A5,c5,rfl⟩:=yI (zy ho (Nat.zero_le _))
 have HO:=za ho
 have HN:=za hn
 have HB:=za hb
 clear ho hn hb HC
 go_wp2
 go_ret
 exact ⟨_,rfl,HO.out,HN.out,HB.out⟩
set_option maxRecDepth 100000 in
theorem dir17_calls (h:zS W H F s) (hg:s.Good) (h5:vY W):Calls Tryz.prog 18 #[.pointer (some ⟨H,0,none⟩)] W (qJ W (dirB17 s.d)):=by
 obtain ⟨v,FD,hc,hd,_⟩:=h.dir
 have hgd:=hg.d
 rcases hd.shape with ⟨B,p,E,e,rfl,hd7,_⟩ | ⟨D,P,M,G,A,p,q,L,LM,pg,T,e,rfl,hd11,_⟩
 ·
  rw [e] at hgd ⊢
  have HC:=za (F1 hd7 hgd h5)
  have hm:=QE B
  show Calls _ _ _ _ (qJ W (shotR E))
  clear h hd e hg hgd h5 hd7
  unfold qJ at HC ⊢
  generalize shotR E=bs at *
  go_enter Tryz.func18,Tryz.ntmps18
  go_wp2_with fail
  with_reducible refine HC.out.mono ?_
  rintro e w2 ⟨v,rfl,ho,hn,hb⟩
  obtain ⟨A5,c5,rfl⟩:=yI (zy ho (Nat.zero_le _))
  have HO:=za ho
  have HN:=za hn
  have HB:=za hb
  clear ho hn hb HC hm hc
  go_wp2
  go_ret
  exact ⟨_,rfl,HO.out,HN.out,HB.out⟩
 ·
  rw [e] at hgd ⊢
  have HC:=za (Fp hd11 hgd h5)
  have hm:=QF D
  show Calls _ _ _ _ (qJ W (V5 (zm A L (z8 T)) (zc (z8 T))))
  clear h hd e hg hgd h5 hd11
  unfold qJ at HC ⊢
  generalize V5 (zm A L (z8 T)) (zc (z8 T))=bs at *
  go_enter Tryz.func18,Tryz.ntmps18
  go_wp2_with fail
  with_reducible refine HC.out.mono ?_
  rintro e w2 ⟨v,rfl,ho,hn,hb⟩
  obtain ⟨A5,c5,rfl⟩:=yI (zy ho (Nat.zero_le _))
  have HO:=za ho
  have HN:=za hn
  have HB:=za hb
  clear ho hn hb HC hm hc
  go_wp2
  go_ret
  exact ⟨_,rfl,HO.out,HN.out,HB.out⟩
def vW (W:World) (X:Nat→P15) (v:Value) (w':World):Prop:=∃ C T,v=.pointer (some ⟨C,0,none⟩)∧W.heap.size≤C∧vH w' (C+1) C T∧∀ i,i<8→(T i).p=X i
def jl (W:World) (b:List UInt8) (v:Value) (w':World):Prop:=∃ B A c,v=.pointer (some ⟨B,0,none⟩)∧W.heap.size≤A∧W.heap.size≤B∧qp w' B A c b
def vg (W:World) (d:D17) (v:Value) (w':World):Prop:=∃ F,yY w' v F d∧∀ i,F i→W.heap.size≤i
def vz (W:World) (s:H17) (v:Value) (w':World):Prop:=∃ H F,v=.pointer (some ⟨H,0,none⟩)∧zS w' H F s∧∀ i,F i→W.heap.size≤i
theorem vW.later {W w1 w2:World} {X:Nat→P15} {v:Value} (h:vW W X v w1) (hb:Below w1.heap.size w1 w2):vW W X v w2:=by
 obtain ⟨C,T,h1,h2,h3,h4⟩:=h
 exact ⟨C,T,h1,h2,h3.later hb,h4⟩
theorem jl.later {W w1 w2:World} {b:List UInt8} {v:Value} (h:jl W b v w1) (hb:Below w1.heap.size w1 w2):jl W b v w2:=by
 obtain ⟨B,A,c,h1,h2,h3,h4⟩:=h
 exact ⟨B,A,c,h1,h2,h3,h4.later hb⟩
theorem vg.later {W w1 w2:World} {d:D17} {v:Value} (h:vg W d v w1) (hb:Below w1.heap.size w1 w2):vg W d v w2:=by
 obtain ⟨F,h1,h2⟩:=h
 exact ⟨F,h1.later hb,h2⟩
theorem vz.later {W w1 w2:World} {s:H17} {v:Value} (h:vz W s v w1) (hb:Below w1.heap.size w1 w2):vz W s v w2:=by
 obtain ⟨H,F,h1,h2,h3⟩:=h
 exact ⟨H,F,h1,h2.later hb,h3⟩
theorem vW.low {W W1 w':World} {X:Nat→P15} {v:Value} (h:vW W1 X v w') (hb:Below W.heap.size W W1):vW W X v w':=by
 obtain ⟨C,T,h1,h2,h3,h4⟩:=h
 exact ⟨C,T,h1,Nat.le_trans hb.size h2,h3,h4⟩
theorem jl.low {W W1 w':World} {b:List UInt8} {v:Value} (h:jl W1 b v w') (hb:Below W.heap.size W W1):jl W b v w':=by
 obtain ⟨B,A,c,h1,h2,h3,h4⟩:=h
 exact ⟨B,A,c,h1,Nat.le_trans hb.size h2,Nat.le_trans hb.size h3,h4⟩
theorem vg.low {W W1 w':World} {d:D17} {v:Value} (h:vg W1 d v w') (hb:Below W.heap.size W W1):vg W d v w':=by
 obtain ⟨F,h1,h2⟩:=h
 exact ⟨F,h1,fun i e=>Nat.le_trans hb.size (h2 i e)⟩
theorem vz.make {W w1:World} {d:D17} {X:Nat→P15} {b:List UInt8} {v x y:Value} (hb:Below W.heap.size W w1) (h1:vg W d v w1) (h2:vW W X x w1) (h3:jl W b y w1) :
  vz W ⟨d,X,b⟩ (.pointer (some ⟨w1.heap.size,0,none⟩)) (w1.alloc (.cells #[v,x,y] 84)):=by
 obtain ⟨FD,a1,a2⟩:=h1
 obtain ⟨C,T,rfl,b2,b3,b4⟩:=h2
 obtain ⟨B,A,c,rfl,c2,c3,c4⟩:=h3
 refine ⟨_,_,rfl,zS.make a1 b3 b4 c4,fun i hi=>?_⟩
 rcases hi with rfl | e | rfl | rfl | rfl
 ·
  exact hb.size
 ·
  exact a2 i e
 ·
  exact b2
 ·
  exact c3
 ·
  exact c2
theorem qV {TB:Nat} {T:Nat→R15} {X:Nat→P15} (h:vH W (TB+1) TB T) (hx:∀ i,i<8→(T i).p=X i):Calls Tryz.prog 45 #[.pointer (some ⟨TB,0,none⟩)] W fun e w'=>∃ C,e=.returned (.pointer (some ⟨C,0,none⟩))∧vW W X (.pointer (some ⟨C,0,none⟩)) w'∧Below W.heap.size W w':=by
 refine (Copy15_calls h).mono fun e w' ⟨he,hb,V,hV,hp⟩=>⟨_,he,⟨_,V,rfl,Nat.le_refl _,hV,fun i hi=>(hp i hi hi).trans (hx i hi)⟩,hb⟩
theorem ji {BB BA c:Nat} {b:List UInt8} (h:qp W BB BA c b):Calls Tryz.prog 46 #[.pointer (some ⟨BB,0,none⟩)] W fun e w'=>∃ C,e=.returned (.pointer (some ⟨C,0,none⟩))∧jl W b (.pointer (some ⟨C,0,none⟩)) w'∧Below W.heap.size W w':=by
 refine (Copy16_calls h).mono fun e w' ⟨B,A,c',he,h1,h2,h3,h4⟩=>⟨B,he,⟨B,A,c',rfl,h1,h2,h4⟩,h3⟩
set_option maxRecDepth 100000 in
theorem Qf (h:zS W H F s):Calls Tryz.prog 19 #[.pointer (some ⟨H,0,none⟩)] W fun e w'=>∃ C,e=.returned (.pointer (some ⟨C,0,none⟩))∧vW W s.X (.pointer (some ⟨C,0,none⟩)) w'∧Below W.heap.size W w':=by
 obtain ⟨TB,T,hc,ht,hx,_⟩:=h.tab
 have HC:=za (qV ht hx)
 clear h ht hx
 go_enter Tryz.func19,Tryz.ntmps19
 go_wp2_with fail
 with_reducible refine HC.out.mono ?_
 rintro e w2 ⟨C,rfl,h1,h2⟩
 have H1:=za h1
 have H2:=za h2
 clear h1 h2 HC hc
 go_wp2
 go_ret
 exact ⟨C,rfl,H1.out,H2.out⟩
set_option maxRecDepth 100000 in
theorem Jp (h:zS W H F s):Calls Tryz.prog 20 #[.pointer (some ⟨H,0,none⟩)] W fun e w'=>∃ C,e=.returned (.pointer (some ⟨C,0,none⟩))∧jl W s.b (.pointer (some ⟨C,0,none⟩)) w'∧Below W.heap.size W w':=by
 obtain ⟨BB,BA,c,hc,hb,_⟩:=h.board
 have HC:=za (ji hb)
 clear h hb
 go_enter Tryz.func20,Tryz.ntmps20
 go_wp2_with fail
 with_reducible refine HC.out.mono ?_
 rintro e w2 ⟨C,rfl,h1,h2⟩
 have H1:=za h1
 have H2:=za h2
 clear h1 h2 HC hc
 go_wp2
 go_ret
 exact ⟨C,rfl,H1.out,H2.out⟩
set_option maxRecDepth 100000 in
theorem F6 {W:World} {B:Nat} {p:Option Nat} {E:zl} (hd:vh W B p E):Calls Tryz.prog 302 #[.agg #[.pointer (some ⟨B,0,none⟩)]] W fun e w'=>∃ C,e=.returned (yA C)∧vg W (.old E) (yA C) w'∧Below W.heap.size W w':=by
 have hb:=ze (Below.refl _ W) (.cells #[.pointer (some ⟨B,0,none⟩)] 80)
 have HC:Hid (Calls Tryz.prog 306 #[.pointer (some ⟨B,0,none⟩)] (W.alloc (.cells #[.pointer (some ⟨B,0,none⟩)] 80)) fun e w'=>∃ C,e=.returned (.pointer (some ⟨C,0,none⟩))∧vg W (.old E) (yA C) w'∧Below W.heap.size W w'):=by
  refine (copy7_calls B p E _ (hd.later hb)).mono fun e w' h=>?_
  obtain ⟨C,p',he,hd',h1,h2,h3⟩:=h
  refine ⟨C,he,⟨fun i=>i=C∨p'=some i,⟨C,p',rfl,hd',fun _=>Iff.rfl⟩,fun i hi=>?_⟩,zj hb h3⟩
  rcases hi with rfl | e
  ·
   exact Nat.le_trans hb.size h1
  ·
   exact Nat.le_trans hb.size (h2 i e)
 unfold yA at HC ⊢
 clear hd hb
 go_enter Tryz.func302,Tryz.ntmps302
 go_wp2_with fail
 with_reducible refine HC.out.mono ?_
 rintro e w2 ⟨C,rfl,h1,h2⟩
 have H1:=za h1
 have H2:=za h2
 clear h1 h2 HC
 go_wp2
 go_ret
 exact ⟨C,rfl,H1.out,H2.out⟩
theorem zt.dirV17 {W w':World} {D P M G:Nat} {A:zu} {L:zl} {S:zo} (h:zt W w' D P M G A L S):vg W (.new A L S) (zH D) w':=by
 obtain ⟨p,q,LM,pg,T,hn,hS,h1,_⟩:=h
 exact ⟨fun i=>xg D P M p q G pg T i,⟨D,P,M,G,p,q,LM,pg,T,rfl,hn,hS,fun _=>Iff.rfl⟩,fun i hi=>(h1 i hi).1⟩
set_option maxRecDepth 100000 in
theorem Fq {W:World} {D P M G:Nat} {A:zu} {p q pg:Option Nat} {L LM:zl} {T:zp} (hd:ye W D P A M p q L LM G pg T) (hg:zn A L (z8 T) 12):Calls Tryz.prog 339 #[.agg #[.pointer (some ⟨D,0,none⟩)]] W fun e w'=>∃ C,e=.returned (zH C)∧vg W (.new A L (z8 T)) (zH C) w'∧Below W.heap.size W w':=by
 have hb:=ze (Below.refl _ W) (.cells #[.pointer (some ⟨D,0,none⟩)] 150)
 have HC:Hid (Calls Tryz.prog 344 #[.pointer (some ⟨D,0,none⟩)] (W.alloc (.cells #[.pointer (some ⟨D,0,none⟩)] 150)) fun e w'=>∃ C,e=.returned (.pointer (some ⟨C,0,none⟩))∧vg W (.new A L (z8 T)) (zH C) w'∧Below W.heap.size W w'):=by
  refine (QD (hd.later hb).plain17 hg.grp).mono fun e w' ⟨D',P',M',G',he,ho⟩=>⟨D',he,(ho.dirV17).low hb,zj hb ho.below⟩
 unfold zH at HC ⊢
 clear hd hb hg
 go_enter Tryz.func339,Tryz.ntmps339
 go_wp2_with fail
 with_reducible refine HC.out.mono ?_
 rintro e w2 ⟨C,rfl,h1,h2⟩
 have H1:=za h1
 have H2:=za h2
 clear h1 h2 HC
 go_wp2
 go_ret
 exact ⟨C,rfl,H1.out,H2.out⟩
def YCp17 (W0:World) (H TB BB:Nat) (vd:Value) (s:H17):Nat→Value→World→Prop
 | 0,v,_=>v=.pointer (some ⟨H,0,none⟩)
 | 1,v,_=>v=.pointer (some ⟨H,0,none⟩)
 | 2,v,_=>v=.pointer (some ⟨H,0,none⟩)
 | 3,v,_=>v=vd
 | 4,v,W=>vg W0 s.d v W
 | 5,v,_=>v=.pointer (some ⟨H,0,none⟩)
 | 6,v,_=>v=.pointer (some ⟨H,0,none⟩)
 | 7,v,_=>v=.pointer (some ⟨H,1,none⟩)
 | 8,v,_=>v=.pointer (some ⟨TB,0,none⟩)
 | 9,v,W=>vW W0 s.X v W
 | 10,v,_=>v=.pointer (some ⟨H,0,none⟩)
 | 11,v,_=>v=.pointer (some ⟨H,0,none⟩)
 | 12,v,_=>v=.pointer (some ⟨H,2,none⟩)
 | 13,v,_=>v=.pointer (some ⟨BB,0,none⟩)
 | 14,v,W=>jl W0 s.b v W
 | 15,v,W=>∃ x y z,v=.agg #[x,y,z]∧vg W0 s.d x W∧vW W0 s.X y W∧jl W0 s.b z W
 | 16,v,W=>vz W0 s v W
 | 17,v,W=>vz W0 s v W
 | _,_,_=>True
theorem vM {W0:World} {H:Nat} {TB:Nat} {BB:Nat} {vd:Value} {s:H17} {W W':World} (hb:Below W.heap.size W W') (j:Nat) (z:Value) (h:YCp17 W0 H TB BB vd s j z W):YCp17 W0 H TB BB vd s j z W':=by
 match j,h with
 | 0,h=>exact h
 | 1,h=>exact h
 | 2,h=>exact h
 | 3,h=>exact h
 | 4,h=>exact h.later hb
 | 5,h=>exact h
 | 6,h=>exact h
 | 7,h=>exact h
 | 8,h=>exact h
 | 9,h=>exact h.later hb
 | 10,h=>exact h
 | 11,h=>exact h
 | 12,h=>exact h
 | 13,h=>exact h
 | 14,h=>exact h.later hb
 | 15,h=>exact by obtain ⟨x,y,z,h1,h2,h3,h4⟩:=h; exact ⟨x,y,z,h1,h2.later hb,h3.later hb,h4.later hb⟩
 | 16,h=>exact h.later hb
 | 17,h=>exact h.later hb
 | _+18,h=>exact h

theorem vg.one {W w':World} {d:D17} {v:Value} (h:vg W d v w'):∃ t x,v=.iface t x:=by
 obtain ⟨F,hd,_⟩:=h
 rcases hd.shape with ⟨B,p,E,_,e,_⟩ | ⟨D,P,M,G,A,p,q,L,LM,pg,T,_,e,_⟩
 ·
  exact ⟨_,_,e⟩
 ·
  exact ⟨_,_,e⟩
theorem vW.one {W w':World} {X:Nat→P15} {v:Value} (h:vW W X v w'):∃ a,v=.pointer a:=by
 obtain ⟨C,T,e,_⟩:=h
 exact ⟨_,e⟩
theorem jl.one {W w':World} {b:List UInt8} {v:Value} (h:jl W b v w'):∃ a,v=.pointer a:=by
 obtain ⟨B,A,c,e,_⟩:=h
 exact ⟨_,e⟩

set_option maxRecDepth 100000 in
theorem copy17_old {w0:World} {B:Nat} (h:zS w0 H F s) (hc0:w0.cell? ⟨H,0,none⟩=some (.iface 80 (.agg #[.pointer (some ⟨B,0,none⟩)])))
  (ha:∀ w0',Below w0.heap.size w0 w0'→Calls Tryz.prog 302 #[.agg #[.pointer (some ⟨B,0,none⟩)]] w0' fun e w'=>∃ C,e=.returned (yA C)∧vg w0 s.d (yA C) w'∧Below w0'.heap.size w0' w') :
  Calls Tryz.prog 21 #[.pointer (some ⟨H,0,none⟩)] w0 fun e w'=>∃ C,e=.returned (.pointer (some ⟨C,0,none⟩))∧vz w0 s (.pointer (some ⟨C,0,none⟩)) w'∧Below w0.heap.size w0 w':=by
 obtain ⟨TB,T,hc1,ht,hx,_⟩:=h.tab
 obtain ⟨BB,BA,c,hc2,hb,_⟩:=h.board
 have HX:Hid (∀ w0',Below w0.heap.size w0 w0'→w0'.cell? ⟨H,0,none⟩=some (.iface 80 (.agg #[.pointer (some ⟨B,0,none⟩)]))∧w0'.cell? ⟨H,1,none⟩=some (.pointer (some ⟨TB,0,none⟩))∧w0'.cell? ⟨H,2,none⟩=some (.pointer (some ⟨BB,0,none⟩))):=fun w0' hW =>
  have hl:=World.block_lt_of_cell? w0 _ hc0
  ⟨(hW.cell (p:=⟨H,0,none⟩) hl).trans hc0,(hW.cell (p:=⟨H,1,none⟩) hl).trans hc1,(hW.cell (p:=⟨H,2,none⟩) hl).trans hc2⟩
 have HA:=za ha
 have HT:Hid (∀ w0',Below w0.heap.size w0 w0'→Calls Tryz.prog 45 #[.pointer (some ⟨TB,0,none⟩)] w0' fun e w'=>∃ C,e=.returned (.pointer (some ⟨C,0,none⟩))∧vW w0 s.X (.pointer (some ⟨C,0,none⟩)) w'∧Below w0'.heap.size w0' w'):=fun w0' hW=>(qV (ht.later hW) hx).mono fun e w' ⟨C,h1,h2,h3⟩=>⟨C,h1,h2.low hW,h3⟩
 have HBC:Hid (∀ w0',Below w0.heap.size w0 w0'→Calls Tryz.prog 46 #[.pointer (some ⟨BB,0,none⟩)] w0' fun e w'=>∃ C,e=.returned (.pointer (some ⟨C,0,none⟩))∧jl w0 s.b (.pointer (some ⟨C,0,none⟩)) w'∧Below w0'.heap.size w0' w'):=fun w0' hW=>(ji (hb.later hW)).mono fun e w' ⟨C,h1,h2,h3⟩=>⟨C,h1,h2.low hW,h3⟩
 have HMT:=za (QG B)
 have HBW:Hid (Below w0.heap.size w0 w0):=Below.refl _ _
 unfold yA at HA
 clear h hc0 hc1 hc2 ht hx hb ha
 go_enter Tryz.func21,Tryz.ntmps21
 go_wp2_with fail
 refine yg (by kernel_rfl) (fun W=>Below w0.heap.size w0 W) (YCp17 w0 H TB BB (.iface 80 (.agg #[.pointer (some ⟨B,0,none⟩)])) s) ?F ?hF (by kernel_rfl) (by kernel_rfl) (qf (Below.refl _ _)) ?step ?fin
 case hF =>
  intro x
  simp only [List.map_cons,List.map_nil,xU,Act.put,List.setIfInBounds_toArray,List.set_cons_zero,List.set_cons_succ,Nat.zero_add,Nat.reduceAdd]
  exact rfl
 case step =>
  refine ⟨?_,?_,?_,?_,?_,?_,?_,?_,?_,?_,?_,?_,?_,?_,?_,?_,?_,?_,trivial⟩
  all_goals intro x W hW hdep K hK
  ·
   clear hdep
   go_simp
   exact hK _ _ rfl hW (fun _ _ h=>h)
  ·
   have h0:x 0=_:=hdep 0 rfl
   clear hdep
   simp only [h0] at hK
   go_simp
   exact hK _ _ rfl hW (fun _ _ h=>h)
  ·
   have h1:x 1=_:=hdep 1 rfl
   clear hdep
   simp only [h1] at hK
   go_simp
   exact hK _ _ rfl hW (fun _ _ h=>h)
  ·
   have h2:x 2=_:=hdep 2 rfl
   have c:=(HX.out W hW).1
   clear hdep
   simp only [h2] at hK
   go_simp
   exact hK _ _ rfl hW (fun _ _ h=>h)
  ·
   have h3:x 3=_:=hdep 3 rfl
   have hc:=HA.out W hW
   have hm:=HMT.out
   clear hdep
   simp only [h3] at hK
   go_simp
   refine hc.mono ?_
   rintro e W' ⟨C,rfl,h1,hb⟩
   exact hK _ _ h1 (zj hW hb) (fun j z h=>vM hb j z h)
  ·
   clear hdep
   go_simp
   exact hK _ _ rfl hW (fun _ _ h=>h)
  ·
   have h5:x 5=_:=hdep 5 rfl
   clear hdep
   simp only [h5] at hK
   go_simp
   exact hK _ _ rfl hW (fun _ _ h=>h)
  ·
   have h6:x 6=_:=hdep 6 rfl
   clear hdep
   simp only [h6] at hK
   go_simp
   exact hK _ _ rfl hW (fun _ _ h=>h)
  ·
   have h7:x 7=_:=hdep 7 rfl
   have c:=(HX.out W hW).2.1
   clear hdep
   simp only [h7] at hK
   go_simp
   exact hK _ _ rfl hW (fun _ _ h=>h)
  ·
   have h8:x 8=_:=hdep 8 rfl
   have hc:=HT.out W hW
   clear hdep
   simp only [h8] at hK
   go_simp
   refine hc.mono ?_
   rintro e W' ⟨C,rfl,h1,hb⟩
   exact hK _ _ h1 (zj hW hb) (fun j z h=>vM hb j z h)
  ·
   clear hdep
   go_simp
   exact hK _ _ rfl hW (fun _ _ h=>h)
  ·
   have h10:x 10=_:=hdep 10 rfl
   clear hdep
   simp only [h10] at hK
   go_simp
   exact hK _ _ rfl hW (fun _ _ h=>h)
  ·
   have h11:x 11=_:=hdep 11 rfl
   clear hdep
   simp only [h11] at hK
   go_simp
   exact hK _ _ rfl hW (fun _ _ h=>h)
  ·
   have h12:x 12=_:=hdep 12 rfl
   have c:=(HX.out W hW).2.2
   clear hdep
   simp only [h12] at hK
   go_simp
   exact hK _ _ rfl hW (fun _ _ h=>h)
  ·
   have h13:x 13=_:=hdep 13 rfl
   have hc:=HBC.out W hW
   clear hdep
   simp only [h13] at hK
   go_simp
   refine hc.mono ?_
   rintro e W' ⟨C,rfl,h1,hb⟩
   exact hK _ _ h1 (zj hW hb) (fun j z h=>vM hb j z h)
  ·
   have h4:=hdep 4 rfl
   have h9:=hdep 9 rfl
   have h14:=hdep 14 rfl
   obtain ⟨t4,y4,e4⟩:=vg.one h4
   obtain ⟨a9,e9⟩:=vW.one h9
   obtain ⟨a14,e14⟩:=jl.one h14
   rw [e4] at h4
   rw [e9] at h9
   rw [e14] at h14
   have H4:=za h4
   have H9:=za h9
   have H14:=za h14
   clear h4 h9 h14
   clear hdep
   simp only [e4,e9,e14] at hK
   go_simp
   exact hK _ _ ⟨_,_,_,rfl,H4.out,H9.out,H14.out⟩ hW (fun _ _ h=>h)
  ·
   obtain ⟨x1,y1,z1,h15,h4,h9,h14⟩:=hdep 15 rfl
   obtain ⟨t4,y4,rfl⟩:=vg.one h4
   obtain ⟨a9,rfl⟩:=vW.one h9
   obtain ⟨a14,rfl⟩:=jl.one h14
   have H4:=za h4
   have H9:=za h9
   have H14:=za h14
   clear h4 h9 h14
   clear hdep
   simp only [h15] at hK
   go_simp
   exact hK _ _ (vz.make (zj HBW.out hW) H4.out H9.out H14.out) (ze hW _) (fun j z h=>vM (ze (Below.refl _ _) _) j z h)
  ·
   have h16:=hdep 16 rfl
   clear hdep
   go_simp
   exact hK _ _ h16 hW (fun _ _ h=>h)
 case fin =>
  intro x W' hW hY
  have h17:vz w0 s (x 17) W':=hY 17 (by decide)
  obtain ⟨H',F',e17,h1,h2⟩:=h17
  have H17':Hid (vz w0 s (.pointer (some ⟨H',0,none⟩)) W'):=⟨H',F',rfl,h1,h2⟩
  have HBB:=za hW
  clear hY h1 h2 hW
  simp only [e17]
  go_wp2
  go_ret
  exact ⟨H',rfl,H17'.out,HBB.out⟩

set_option maxRecDepth 100000 in
theorem copy17_new {w0:World} {B:Nat} (h:zS w0 H F s) (hc0:w0.cell? ⟨H,0,none⟩=some (.iface 150 (.agg #[.pointer (some ⟨B,0,none⟩)])))
  (ha:∀ w0',Below w0.heap.size w0 w0'→Calls Tryz.prog 339 #[.agg #[.pointer (some ⟨B,0,none⟩)]] w0' fun e w'=>∃ C,e=.returned (zH C)∧vg w0 s.d (zH C) w'∧Below w0'.heap.size w0' w') :
  Calls Tryz.prog 21 #[.pointer (some ⟨H,0,none⟩)] w0 fun e w'=>∃ C,e=.returned (.pointer (some ⟨C,0,none⟩))∧vz w0 s (.pointer (some ⟨C,0,none⟩)) w'∧Below w0.heap.size w0 w':=by
 obtain ⟨TB,T,hc1,ht,hx,_⟩:=h.tab
 obtain ⟨BB,BA,c,hc2,hb,_⟩:=h.board
 have HX:Hid (∀ w0',Below w0.heap.size w0 w0'→w0'.cell? ⟨H,0,none⟩=some (.iface 150 (.agg #[.pointer (some ⟨B,0,none⟩)]))∧w0'.cell? ⟨H,1,none⟩=some (.pointer (some ⟨TB,0,none⟩))∧w0'.cell? ⟨H,2,none⟩=some (.pointer (some ⟨BB,0,none⟩))):=fun w0' hW =>
  have hl:=World.block_lt_of_cell? w0 _ hc0
  ⟨(hW.cell (p:=⟨H,0,none⟩) hl).trans hc0,(hW.cell (p:=⟨H,1,none⟩) hl).trans hc1,(hW.cell (p:=⟨H,2,none⟩) hl).trans hc2⟩
 have HA:=za ha
 have HT:Hid (∀ w0',Below w0.heap.size w0 w0'→Calls Tryz.prog 45 #[.pointer (some ⟨TB,0,none⟩)] w0' fun e w'=>∃ C,e=.returned (.pointer (some ⟨C,0,none⟩))∧vW w0 s.X (.pointer (some ⟨C,0,none⟩)) w'∧Below w0'.heap.size w0' w'):=fun w0' hW=>(qV (ht.later hW) hx).mono fun e w' ⟨C,h1,h2,h3⟩=>⟨C,h1,h2.low hW,h3⟩
 have HBC:Hid (∀ w0',Below w0.heap.size w0 w0'→Calls Tryz.prog 46 #[.pointer (some ⟨BB,0,none⟩)] w0' fun e w'=>∃ C,e=.returned (.pointer (some ⟨C,0,none⟩))∧jl w0 s.b (.pointer (some ⟨C,0,none⟩)) w'∧Below w0'.heap.size w0' w'):=fun w0' hW=>(ji (hb.later hW)).mono fun e w' ⟨C,h1,h2,h3⟩=>⟨C,h1,h2.low hW,h3⟩
 have HMT:=za (QH B)
 have HBW:Hid (Below w0.heap.size w0 w0):=Below.refl _ _
 unfold zH at HA
 clear h hc0 hc1 hc2 ht hx hb ha
 go_enter Tryz.func21,Tryz.ntmps21
 go_wp2_with fail
 refine yg (by kernel_rfl) (fun W=>Below w0.heap.size w0 W) (YCp17 w0 H TB BB (.iface 150 (.agg #[.pointer (some ⟨B,0,none⟩)])) s) ?F ?hF (by kernel_rfl) (by kernel_rfl) (qf (Below.refl _ _)) ?step ?fin
 case hF =>
  intro x
  simp only [List.map_cons,List.map_nil,xU,Act.put,List.setIfInBounds_toArray,List.set_cons_zero,List.set_cons_succ,Nat.zero_add,Nat.reduceAdd]
  exact rfl
 case step =>
  refine ⟨?_,?_,?_,?_,?_,?_,?_,?_,?_,?_,?_,?_,?_,?_,?_,?_,?_,?_,trivial⟩
  all_goals intro x W hW hdep K hK
  ·
   clear hdep
   go_simp
   exact hK _ _ rfl hW (fun _ _ h=>h)
  ·
   have h0:x 0=_:=hdep 0 rfl
   clear hdep
   simp only [h0] at hK
   go_simp
   exact hK _ _ rfl hW (fun _ _ h=>h)
  ·
   have h1:x 1=_:=hdep 1 rfl
   clear hdep
   simp only [h1] at hK
   go_simp
   exact hK _ _ rfl hW (fun _ _ h=>h)
  ·
   have h2:x 2=_:=hdep 2 rfl
   have c:=(HX.out W hW).1
   clear hdep
   simp only [h2] at hK
   go_simp
   exact hK _ _ rfl hW (fun _ _ h=>h)
  ·
   have h3:x 3=_:=hdep 3 rfl
   have hc:=HA.out W hW
   have hm:=HMT.out
   clear hdep
   simp only [h3] at hK
   go_simp
   refine hc.mono ?_
   rintro e W' ⟨C,rfl,h1,hb⟩
   exact hK _ _ h1 (zj hW hb) (fun j z h=>vM hb j z h)
  ·
   clear hdep
   go_simp
   exact hK _ _ rfl hW (fun _ _ h=>h)
  ·
   have h5:x 5=_:=hdep 5 rfl
   clear hdep
   simp only [h5] at hK
   go_simp
   exact hK _ _ rfl hW (fun _ _ h=>h)
  ·
   have h6:x 6=_:=hdep 6 rfl
   clear hdep
   simp only [h6] at hK
   go_simp
   exact hK _ _ rfl hW (fun _ _ h=>h)
  ·
   have h7:x 7=_:=hdep 7 rfl
   have c:=(HX.out W hW).2.1
   clear hdep
   simp only [h7] at hK
   go_simp
   exact hK _ _ rfl hW (fun _ _ h=>h)
  ·
   have h8:x 8=_:=hdep 8 rfl
   have hc:=HT.out W hW
   clear hdep
   simp only [h8] at hK
   go_simp
   refine hc.mono ?_
   rintro e W' ⟨C,rfl,h1,hb⟩
   exact hK _ _ h1 (zj hW hb) (fun j z h=>vM hb j z h)
  ·
   clear hdep
   go_simp
   exact hK _ _ rfl hW (fun _ _ h=>h)
  ·
   have h10:x 10=_:=hdep 10 rfl
   clear hdep
   simp only [h10] at hK
   go_simp
   exact hK _ _ rfl hW (fun _ _ h=>h)
  ·
   have h11:x 11=_:=hdep 11 rfl
   clear hdep
   simp only [h11] at hK
   go_simp
   exact hK _ _ rfl hW (fun _ _ h=>h)
  ·
   have h12:x 12=_:=hdep 12 rfl
   have c:=(HX.out W hW).2.2
   clear hdep
   simp only [h12] at hK
   go_simp
   exact hK _ _ rfl hW (fun _ _ h=>h)
  ·
   have h13:x 13=_:=hdep 13 rfl
   have hc:=HBC.out W hW
   clear hdep
   simp only [h13] at hK
   go_simp
   refine hc.mono ?_
   rintro e W' ⟨C,rfl,h1,hb⟩
   exact hK _ _ h1 (zj hW hb) (fun j z h=>vM hb j z h)
  ·
   have h4:=hdep 4 rfl
   have h9:=hdep 9 rfl
   have h14:=hdep 14 rfl
   obtain ⟨t4,y4,e4⟩:=vg.one h4
   obtain ⟨a9,e9⟩:=vW.one h9
   obtain ⟨a14,e14⟩:=jl.one h14
   rw [e4] at h4
   rw [e9] at h9
   rw [e14] at h14
   have H4:=za h4
   have H9:=za h9
   have H14:=za h14
   clear h4 h9 h14
   clear hdep
   simp only [e4,e9,e14] at hK
   go_simp
   exact hK _ _ ⟨_,_,_,rfl,H4.out,H9.out,H14.out⟩ hW (fun _ _ h=>h)
  ·
   obtain ⟨x1,y1,z1,h15,h4,h9,h14⟩:=hdep 15 rfl
   obtain ⟨t4,y4,rfl⟩:=vg.one h4
   obtain ⟨a9,rfl⟩:=vW.one h9
   obtain ⟨a14,rfl⟩:=jl.one h14
   have H4:=za h4
   have H9:=za h9
   have H14:=za h14
   clear h4 h9 h14
   clear hdep
   simp only [h15] at hK
   go_simp
   exact hK _ _ (vz.make (zj HBW.out hW) H4.out H9.out H14.out) (ze hW _) (fun j z h=>vM (ze (Below.refl _ _) _) j z h)
  ·
   have h16:=hdep 16 rfl
   clear hdep
   go_simp
   exact hK _ _ h16 hW (fun _ _ h=>h)
 case fin =>
  intro x W' hW hY
  have h17:vz w0 s (x 17) W':=hY 17 (by decide)
  obtain ⟨H',F',e17,h1,h2⟩:=h17
  have H17':Hid (vz w0 s (.pointer (some ⟨H',0,none⟩)) W'):=⟨H',F',rfl,h1,h2⟩
  have HBB:=za hW
  clear hY h1 h2 hW
  simp only [e17]
  go_wp2
  go_ret
  exact ⟨H',rfl,H17'.out,HBB.out⟩
theorem FZ (h:zS W H F s) (hg:s.Good):Calls Tryz.prog 21 #[.pointer (some ⟨H,0,none⟩)] W fun e w'=>∃ C,e=.returned (.pointer (some ⟨C,0,none⟩))∧vz W s (.pointer (some ⟨C,0,none⟩)) w'∧Below W.heap.size W w':=by
 obtain ⟨v,FD,hc,hd,_⟩:=h.dir
 have hgd:=hg.d
 rcases hd.shape with ⟨B,p,E,e,rfl,hd7,_⟩ | ⟨D,P,M,G,A,p,q,L,LM,pg,T,e,rfl,hd11,_⟩
 ·
  refine copy17_old h hc fun W' hW=>?_
  rw [e]
  exact (F6 (hd7.later hW)).mono fun e w' ⟨C,h1,h2,h3⟩=>⟨C,h1,h2.low hW,h3⟩
 ·
  rw [e] at hgd
  refine copy17_new h hc fun W' hW=>?_
  rw [e]
  exact (Fq (hd11.later hW) hgd).mono fun e w' ⟨C,h1,h2,h3⟩=>⟨C,h1,h2.low hW,h3⟩
end
end Go.Proofs.YteegkoicalbkbaaGreatDoor
namespace Go.Proofs.YteegkoicalbkbaaGreatDoor

def uT (e:Int):Prop:=e=0∨e=4∨e=7∨e=8∨e=9∨e=10∨e=11∨e=12
theorem uT.ne {e:Int} (h:uT e):e≠6∧0≤e∧e≤18:=by unfold uT at h; omega
theorem qe:∀ {l:List Int},(∀ e∈l,uT e)→uT (xX l)
 | [],_=>.inl rfl
 | e::l,h=>by
  unfold xX
  split
  ·
   exact qe fun x hx=>h x (List.mem_cons_of_mem _ hx)
  ·
   exact h e (List.mem_cons_self ..)
theorem vf (b:Bool) {n:Int} (h:uT n):uT (zi b n):=by cases b <;> simp [zi] <;> first | exact h | exact .inl rfl
theorem oE17_er (kd:Nat) (E:zl) (a b:List UInt8):uT (oE17 kd E a b):=by
 have e10:uT 10:=by unfold uT; omega
 have e4:uT 4:=by unfold uT; omega
 have e9:uT 9:=by unfold uT; omega
 have e8:uT 8:=by unfold uT; omega
 have e7:uT 7:=by unfold uT; omega
 have h1:uT (deE E a):=qe (by intro e he; simp at he; rcases he with rfl | rfl; exact vf _ e10; exact vf _ e8)
 unfold oE17
 split
 ·
  exact qe (by intro e he; simp only [List.mem_cons,List.not_mem_nil,or_false] at he; rcases he with rfl | rfl | rfl | rfl; exact vf _ e10; exact vf _ e4; exact vf _ e9; exact vf _ e7)
 ·
  split
  ·
   exact h1
  ·
   split
   ·
    exact qe (by intro e he; simp only [List.mem_cons,List.not_mem_nil,or_false] at he; rcases he with rfl | rfl | rfl; exact vf _ e10; exact vf _ e4; exact vf _ e8)
   ·
    split
    ·
     exact h1
    ·
     exact qe (by intro e he; simp only [List.mem_cons,List.not_mem_nil,or_false] at he; subst he; exact vf _ e10)
theorem Yc (S:zo) (g:List UInt8) (l:List (List UInt8)):uT (zZ S g l):=by
 unfold zZ uT
 split
 ·
  split <;> simp
 ·
  simp
theorem UZ (A:zu) (g n:List UInt8):uT (yW A g n):=by
 unfold yW uT
 split
 ·
  split
  ·
   split <;> simp
  ·
   simp
 ·
  simp
theorem nE17_er (kd:Nat) (A:zu) (L:zl) (S:zo) (a b:List UInt8):uT (nE17 kd A L S a b):=by
 have e10:uT 10:=by unfold uT; omega
 have hcr:∀ x y z t,uT (crF11 x y z t):=by intro x y z t; cases x <;> cases y <;> cases z <;> cases t <;> (unfold uT; decide)
 have hde:∀ x z,uT (deF11 x z):=by intro x z; cases x <;> cases z <;> (unfold uT; decide)
 have hsh:∀ x y z t,uT (shF11 x y z t):=by intro x y z t; cases x <;> cases y <;> cases z <;> cases t <;> (unfold uT; decide)
 have hsm:∀ x y z t,uT (smF11 x y z t):=by intro x y z t; cases x <;> cases y <;> cases z <;> cases t <;> (unfold uT; decide)
 have hdi:∀ x z t,uT (diF11 x z t):=by intro x z t; cases x <;> cases z <;> cases t <;> (unfold uT; decide)
 have hrn:∀ x y z t,uT (rnF11 x y z t):=by intro x y z t; cases x <;> cases y <;> cases z <;> cases t <;> (unfold uT; decide)
 have hdr:uT (qg S a):=Yc S a []
 match kd with
 | 0=>exact hcr _ _ _ _
 | 1=>exact hde _ _
 | 2=>exact hsh _ _ _ _
 | 3=>exact hde _ _
 | 4=>exact vf _ e10
 | 5=>exact hsm _ _ _ _
 | 6=>exact hdi _ _ _
 | 7=>exact hdi _ _ _
 | 8=>exact hrn _ _ _ _
 | 9 =>
  show uT (qE S a)
  unfold qE uT
  split
  ·
   split
   ·
    simp
   ·
    split <;> simp
  ·
   simp
 | 10=>exact hdr
 | 11 =>
  show uT (YO A S a b)
  unfold YO
  split
  ·
   unfold qF
   split
   ·
    unfold uT; split <;> simp
   ·
    exact Yc _ _ _
  ·
   exact UZ _ _ _
 | 12 =>
  show uT (YN A S a b)
  unfold YN
  split
  ·
   unfold Y7
   split
   ·
    unfold uT; split <;> simp
   ·
    exact Yc _ _ _
  ·
   exact UZ _ _ _
 | 13 =>
  show uT (fiE9 L a)
  unfold fiE9 uT
  split
  ·
   split <;> simp
  ·
   simp
 | _+14=>exact hdr
theorem dE17_er (d:D17) (kd:Nat) (a b:List UInt8):uT (xh d kd a b):=by
 cases d with
 | old E=>exact oE17_er kd E a b
 | new A L S=>exact nE17_er kd A L S a b

/-! ### what is good stays good -/
theorem D17.Good.deed {d:D17} (h:d.Good) (kd:Nat) (a b:List UInt8):(xx d kd a b).Good:=by
 cases d with
 | old E =>
  show xe (oL17 kd E a b)
  have h':xe E:=h
  unfold oL17
  split
  ·
   exact h'.create a b
  ·
   split
   ·
    exact h'.delete a
   ·
    split
    ·
     exact h'.set a b
    ·
     exact h'
 | new A L S =>
  have h':zn A L S 12:=h
  exact (now17_one h' kd a b).1.trim
theorem upA17_names (E:zl):zc (upA17 E)=E.map (·.1):=by
 unfold upA17 zc
 rw [List.map_map]
 rfl
theorem Uo {E:zl} (h:xe E):zn (upA17 E) [] [] 12:=by
 refine ⟨?_,?_,?_,⟨[],yo.nil⟩,(fun _ h=>nomatch h),(fun _ h=>nomatch h),Nat.zero_le _,zD.nil.mono (Nat.zero_le _),fun g n h=>by simp [ue,VS,qn,zz] at h⟩
 ·
  have h1:zG (Xc E):=by
   have:=h.rise
   exact List.Pairwise.map _ (fun x y hxy=>hxy) this
  exact xq (L:=Xc E) h1 (by rw [upA17_names,up_names13])
 ·
  unfold upA17; rw [List.length_map]; exact h.few
 ·
  intro p hp
  obtain ⟨q,hq,rfl⟩:=List.mem_map.1 hp
  exact h.all q hq
theorem tell_upA17 (E:zl):zm (upA17 E) [] []=Xc E:=by
 unfold zm upA17 Xc
 rw [List.map_map]
 apply List.map_congr_left
 intro q _
 rfl
theorem D17.Good.up {d:D17} (h:d.Good):(upD17 d).Good:=by
 cases d with
 | old E=>exact Uo h
 | new A L S=>exact h

theorem acc_inj17 {A A':zu} {L L':zl} {S S':zo} (h:zm A L S=zm A' L' S'):A=A':=by
 have key:∀ (A:zu) (L:zl) (S:zo),(zm A L S).map (fun q=>(q.1,(q.2.hs,q.2.dis)))=A:=fun A L S=>by
  unfold zm
  rw [List.map_map]
  conv=>rhs; rw [← List.map_id A]
  apply List.map_congr_left
  intro p _
  rfl
 rw [← key A L S,h,key]
section
variable {A:zu} {L L':zl} {S S':zo} {k k':Nat}
theorem Uq (hr:zG A) (h:zm A L S=zm A L' S') {n:List UInt8} (hn:zz A n=true):yM L n=yM L' n∧xc S n=xc S' n:=by
 obtain ⟨a,ha⟩:=je hn
 have h1:=yH (L:=L) (S:=S) hr n
 have h2:=yH (L:=L') (S:=S') hr n
 rw [h,h2,ha] at h1
 injection h1 with h1
 exact ⟨(congrArg U11.ml h1).symm,(congrArg U11.gs h1).symm⟩
theorem mails_inj17 (h1:zn A L S k) (h2:zn A L' S' k') (h:zm A L S=zm A L' S'):L=L':=by
 have hg:∀ n,yM L n=yM L' n:=fun n=>by
  cases hn:zz A n with
  | true=>exact (Uq h1.rise h hn).1
  | false=>rw [(h1.free hn).2.1,(h2.free hn).2.1]
 have key:∀ {L L':zl} {S S':zo} {k k':Nat},zn A L S k→zn A L' S' k'→(∀ n,yM L n=yM L' n)→∀ x,x∈L→x∈L':=fun g1 g2 hg x hx=>by
  have e:=jG g1.lrise hx
  have hne:=(g1.all x hx).ne2
  rw [hg] at e
  exact Ya e hne
 exact FN (V:=List UInt8) h1.lrise h2.lrise fun x=>⟨key h1 h2 hg x,key h2 h1 (fun n=>(hg n).symm) x⟩
theorem grs_inj17 (h1:zn A L S k) (h2:zn A L' S' k') (h:zm A L S=zm A L' S') (hN:zc S=zc S'):S=S':=by
 have hin:∀ g n,ue S g n=ue S' g n:=fun g n=>by
  cases hn:zz A n with
  | true =>
   have e:=(Uq h1.rise h hn).2
   rw [Bool.eq_iff_iff,← xl h1.grp.rise,← xl h2.grp.rise,e]
  | false =>
   have a1:ue S g n=false:=by
    cases hh:ue S g n with
    | false=>rfl
    | true=>rw [h1.mem g n hh] at hn; cases hn
   have a2:ue S' g n=false:=by
    cases hh:ue S' g n with
    | false=>rfl
    | true=>rw [h2.mem g n hh] at hn; cases hn
   rw [a1,a2]
 have key:∀ {L L':zl} {S S':zo} {k k':Nat},zn A L S k→zn A L' S' k'→zc S=zc S'→(∀ g n,ue S g n=ue S' g n)→∀ x,x∈S→x∈S':=fun {_ _ S S' _ _} g1 g2 hN hin x hx=>by
  have hx1:x.1∈zc S':=by rw [← hN]; exact List.mem_map.2 ⟨x,hx,rfl⟩
  obtain ⟨y,hy,e⟩:=List.mem_map.1 hx1
  have m1:=qv g1.grp.rise hx
  have m2:=qv g2.grp.rise hy
  have e2:x.2=y.2:=by
   refine FN (V:=Unit) (g1.grp.sets x hx) (g2.grp.sets y hy) fun z=>?_
   have hz:=hin x.1 z.1
   unfold ue at hz
   rw [m1,← e,m2] at hz
   have a:∀ (l:zK),z∈l↔zz l z.1=true:=fun l=>by
    rw [xV]
    constructor
    ·
     intro h; exact ⟨z,h,rfl⟩
    ·
     rintro ⟨p,hp,e⟩
     have:p=z:=Prod.ext e rfl
     exact this ▸ hp
   rw [a,a,hz]
  have:x=y:=Prod.ext e.symm e2
  exact this ▸ hy
 exact FN h1.grp.rise h2.grp.rise fun x=>⟨key h1 h2 hN hin x,key h2 h1 hN.symm (fun g n=>(hin g n).symm) x⟩
end
theorem new_inj17 {A A':zu} {L L':zl} {S S':zo} {k k':Nat} (h1:zn A L S k) (h2:zn A' L' S' k') (h:zm A L S=zm A' L' S') (hN:zc S=zc S'):A=A'∧L=L'∧S=S':=by
 have e:=acc_inj17 h
 subst e
 exact ⟨rfl,mails_inj17 h1 h2 h,grs_inj17 h1 h2 h hN⟩
end Go.Proofs.YteegkoicalbkbaaGreatDoor
namespace Go.Proofs.YteegkoicalbkbaaGreatDoor
open Go.RowKit Go.Maps
set_option linter.unusedVariables false

theorem asOlder17 (B:Nat) (w:World):(Instr.typeAssert (.iface 80 (.agg #[.pointer (some ⟨B,0,none⟩)])) 82 80 true).run Tryz.prog w=.ok (.tuple #[.agg #[.pointer (some ⟨B,0,none⟩)],.bool true]) w:=by kernel_rfl
theorem asLater17 (B:Nat) (w:World):(Instr.typeAssert (.iface 150 (.agg #[.pointer (some ⟨B,0,none⟩)])) 82 80 true).run Tryz.prog w=.ok (.tuple #[.agg #[.pointer none],.bool false]) w:=by kernel_rfl
theorem upgraded17 {E:zl} (hg:xe E) {W w':World} {D P M G:Nat} {A:zu} {L:zl} {S:zo} {k:Nat} (ho:zt W w' D P M G A L S) (h1:zn A L S k) (h2:zm A L S=Xc E) (h3:zc S=[]):vg W (upD17 (.old E)) (zH D) w':=by
 obtain ⟨e1,e2,e3⟩:=new_inj17 h1 (Uo hg) (h2.trans (tell_upA17 E).symm) h3
 subst e1 e2 e3
 exact ho.dirV17
def YAd17 (H P0 BB nd rl:Nat):Nat→Value→World→Prop
 | 3,v,_=>v=.pointer (some ⟨BB,0,none⟩)
 | 2,v,_=>v=.pointer (some ⟨H,2,none⟩)
 | 4,v,_=>v=.pointer (some ⟨P0,3,none⟩)
 | 5,v,_=>v=.int .u8 nd
 | 6,v,_=>v=.pointer (some ⟨P0,4,none⟩)
 | 7,v,_=>v=.int .u8 rl
 | _,v,_=>v=.pointer (some ⟨H,0,none⟩)
section
variable {W:World} {H:Nat} {F:Nat→Prop} {s:H17}
set_option maxRecDepth 100000 in
theorem Qa {A:zu} {L:zl} {S:zo} (h:zS W H F s) (hd:s.d=.new A L S):Calls Tryz.prog 98 #[.pointer (some ⟨H,0,none⟩)] W (zC (.int .i64 14) W):=by
 obtain ⟨v,FD,hc,hv,_⟩:=h.dir
 rw [hd] at hv
 obtain ⟨D,P,M,G,p,q,LM,pg,T,rfl,_⟩:=hv
 unfold zH at hc
 have has:=asLater17 D
 clear h hd
 go_enter Tryz.func98,Tryz.ntmps98
 go_wp2
 go_ret
 exact ⟨rfl,ze (Below.refl _ _) _⟩
set_option maxRecDepth 100000 in
theorem ZL {E:zl} (h:zS W H F s) (hd:s.d=.old E) (hr:rdy17 s.b=false):Calls Tryz.prog 98 #[.pointer (some ⟨H,0,none⟩)] W (zC (.int .i64 13) W):=by
 obtain ⟨v,FD,hc,hv,_⟩:=h.dir
 rw [hd] at hv
 obtain ⟨B,p,rfl,_⟩:=hv
 unfold yA at hc
 obtain ⟨BB,BA,c,hc2,hb,_⟩:=h.board
 have hb1:=ze (Below.refl _ W) (.cells #[.pointer (some ⟨B,0,none⟩)] 80)
 have HA:Hid (Calls Tryz.prog 25 #[.pointer (some ⟨BB,0,none⟩),.int .u8 2] (W.alloc (.cells #[.pointer (some ⟨B,0,none⟩)] 80)) fun e w'=>e=.returned (.bool false)∧Below (W.alloc (.cells #[.pointer (some ⟨B,0,none⟩)] 80)).heap.size (W.alloc (.cells #[.pointer (some ⟨B,0,none⟩)] 80)) w'):=by
  have:=Vx (hb.later hb1) 2 (by decide)
  unfold rdy17 at hr
  rwa [hr] at this
 have HB1:=za hb1
 have hx:(W.alloc (.cells #[.pointer (some ⟨B,0,none⟩)] 80)).cell? ⟨H,2,none⟩=some (.pointer (some ⟨BB,0,none⟩)):=(hb1.cell (p:=⟨H,2,none⟩) (World.block_lt_of_cell? W _ hc2)).trans hc2
 have hxb:=World.block_lt_of_cell? W _ hc2
 have has:=asOlder17 B
 clear h hd hb hb1 hr
 go_enter Tryz.func98,Tryz.ntmps98
 go_wp2_with fail
 with_reducible refine HA.out.mono ?_
 rintro e w2 ⟨rfl,hb⟩
 have HB2:=za (zj HB1.out hb)
 clear hb HA HB1 has
 go_wp2
 go_ret
 exact ⟨rfl,HB2.out⟩
set_option maxRecDepth 100000 in
theorem Xb {E:zl} (h:zS W H F s) (hgd:xe E) (hd:s.d=.old E) (hr:rdy17 s.b=true) (h5:vY W):Calls Tryz.prog 98 #[.pointer (some ⟨H,0,none⟩)] W fun e w'=>e=.returned (.int .i64 0)∧zq W H F { s with d:=upD17 (.old E) } w':=by
 obtain ⟨v,FD,hc,hv,_⟩:=h.dir
 rw [hd] at hv
 obtain ⟨B,p,rfl,hd7,_⟩:=hv
 unfold yA at hc
 obtain ⟨BB,BA,c,hc2,hb,_⟩:=h.board
 have hb1:=ze (Below.refl _ W) (.cells #[.pointer (some ⟨B,0,none⟩)] 80)
 have HA:Hid (Calls Tryz.prog 25 #[.pointer (some ⟨BB,0,none⟩),.int .u8 2] (W.alloc (.cells #[.pointer (some ⟨B,0,none⟩)] 80)) fun e w'=>e=.returned (.bool true)∧Below (W.alloc (.cells #[.pointer (some ⟨B,0,none⟩)] 80)).heap.size (W.alloc (.cells #[.pointer (some ⟨B,0,none⟩)] 80)) w'):=by
  have:=Vx (hb.later hb1) 2 (by decide)
  unfold rdy17 at hr
  rwa [hr] at this
 have HB1:=za hb1
 have hx:(W.alloc (.cells #[.pointer (some ⟨B,0,none⟩)] 80)).cell? ⟨H,2,none⟩=some (.pointer (some ⟨BB,0,none⟩)):=(hb1.cell (p:=⟨H,2,none⟩) (World.block_lt_of_cell? W _ hc2)).trans hc2
 have hxb:=World.block_lt_of_cell? W _ hc2
 have has:=asOlder17 B
 have HBX:Hid (∀ W',Below (W.alloc (.cells #[.pointer (some ⟨B,0,none⟩)] 80)).heap.size (W.alloc (.cells #[.pointer (some ⟨B,0,none⟩)] 80)) W'→W'.cell? ⟨W.heap.size,0,none⟩=some (.pointer (some ⟨B,0,none⟩))):=fun W' hW=>by
  refine (hW.cell (p:=⟨W.heap.size,0,none⟩) (by simp)).trans ?_
  rw [cell_of_row _ _ 0 _ _ (0,0) (heap_alloc_new W _)]
  rfl
 have HUP:Hid (∀ W',Below W.heap.size W W'→Calls Tryz.prog 138 #[.pointer (some ⟨B,0,none⟩)] W' fun e w'=>∃ D,e=.returned (.pointer (some ⟨D,0,none⟩))∧Below W'.heap.size W' w'∧zq W H F { s with d:=upD17 (.old E) } (w'.setCell ⟨H,0,none⟩ (.iface 150 (.agg #[.pointer (some ⟨D,0,none⟩)])))):=fun W' hW=>by
  have hown:fz (jM W') W' B E:=⟨p,hd7.later hW,Nat.zero_le _,fun _ _=>Nat.zero_le _,jL W'⟩
  refine (up13_calls hown hgd (h5.later hW)).mono fun e w' ⟨D,P,M,G,A,L,S,k,he,ho,h1,h2,h3,_⟩=>⟨D,he,ho.below,?_⟩
  obtain ⟨F',hv1,hv2⟩:=upgraded17 hgd ho h1 h2 h3
  exact h.store (zj hW ho.below) hv1 (fun i hi=>Nat.le_trans hW.size (hv2 i hi))
 have HC0:Hid (∀ W',Below W.heap.size W W'→W'.cell? ⟨H,0,none⟩=some (.iface 80 (.agg #[.pointer (some ⟨B,0,none⟩)]))∧W'.frozen? ⟨H,0,none⟩=false):=fun W' hW=>by
  obtain ⟨v',FD',TB,T,BB',BA',c',hblk,_⟩:=h.later hW
  refine ⟨(hW.cell (p:=⟨H,0,none⟩) (World.block_lt_of_cell? W _ hc)).trans hc,?_⟩
  simp [World.frozen?,hblk]
 clear h hd hb hb1 hr h5 hgd hd7
 go_enter Tryz.func98,Tryz.ntmps98
 go_wp2_with fail
 with_reducible refine HA.out.mono ?_
 rintro e w2 ⟨rfl,hb⟩
 have hcb:=HBX.out _ hb
 have HB2:=za (zj HB1.out hb)
 clear hb HA HB1 has hx hc hc2 HBX
 go_wp2_with fail
 with_reducible refine (HUP.out _ HB2.out).mono ?_
 rintro e w3 ⟨D5,rfl,hb,hgo⟩
 obtain ⟨c0,f0⟩:=HC0.out _ (zj HB2.out hb)
 have HGO:=za hgo
 clear hb hgo HUP HC0 HB2 hcb
 go_wp2
 go_ret
 exact ⟨rfl,HGO.out⟩
set_option maxRecDepth 100000 in
theorem Yh (h:zS W H F s) (cl:Nat) (o:O14):Calls Tryz.prog 99 #[.pointer (some ⟨H,0,none⟩),.int .u8 (cl:Int),o.v] W fun e w'=>e=.returned (.int .i64 (if cl=255 then (Zt s.b o.nd.toNat o.rl.toNat:Nat) else 1))∧zq W H F (if cl=255 then { s with b:=ut s.b o.nd.toNat o.rl.toNat } else s) w':=by
 unfold O14.v O14.cells
 have hb1:=ze (Below.refl _ W) (.cells #[.int .u8 o.kd.toNat,.string o.a,.string o.b,.int .u8 o.nd.toNat,.int .u8 o.rl.toNat] 47)
 by_cases hcl:cl=255
 ·
  rw [if_pos hcl,if_pos hcl]
  obtain ⟨BB,BA,c,hc2,hb,hgo⟩:=h.board
  have HN:Hid (∀ W',Below W.heap.size W W'→Calls Tryz.prog 139 #[.pointer (some ⟨BB,0,none⟩),.int .u8 (o.nd.toNat:Int),.int .u8 (o.rl.toNat:Int)] W' fun e w'=>e=.returned (.int .i64 (Zt s.b o.nd.toNat o.rl.toNat:Nat))∧zq W H F { s with b:=ut s.b o.nd.toNat o.rl.toNat } w'):=fun W' hW =>
   (Note16_calls (hb.later hW) o.nd.toNat o.rl.toNat (UInt8.toNat_lt o.nd)).mono fun e w' ⟨h1,h2,h3⟩=>⟨h1,hgo _ _ h2 ((zg.of_below hW _).next h3 (fun _ _ e=>e))⟩
  have HX:Hid (∀ W',Below W.heap.size W W'→W'.cell? ⟨H,2,none⟩=some (.pointer (some ⟨BB,0,none⟩))):=fun W' hW=>(hW.cell (p:=⟨H,2,none⟩) (World.block_lt_of_cell? W _ hc2)).trans hc2
  have HB1:=za hb1
  have ho1:xB (W.alloc (.cells #[.int .u8 o.kd.toNat,.string o.a,.string o.b,.int .u8 o.nd.toNat,.int .u8 o.rl.toNat] 47)) W.heap.size o:=heap_alloc_new W _
  have HO:=za ho1
  have HCL:=za hcl
  have hq:((cl:Int) != 255)=false:=by rw [HCL.out]; rfl
  clear h hb hgo hb1 ho1 hc2 hcl
  go_enter Tryz.func99,Tryz.ntmps99
  go_wp2_with fail
  generalize W.alloc (.cells #[.int .u8 o.kd.toNat,.string o.a,.string o.b,.int .u8 o.nd.toNat,.int .u8 o.rl.toNat] 47)=w1 at *
  generalize W.heap.size=P0 at HO
  refine zB (by kernel_rfl) 8 (fun W=>Below w1.heap.size w1 W) (fun W'=>zq W H F { s with b:=ut s.b o.nd.toNat o.rl.toNat } W') (YAd17 H P0 BB o.nd.toNat o.rl.toNat) (fun v=>v=.int .i64 (Zt s.b o.nd.toNat o.rl.toNat:Nat)) ?F ?hF (by kernel_rfl) (by kernel_rfl) (by kernel_rfl) (by kernel_rfl) (by decide) (qf (Below.refl _ _)) ?step ?fin
  case hF =>
   intro x
   simp only [List.map_cons,List.map_nil,xU,Act.put,List.setIfInBounds_toArray,List.set_cons_zero,List.set_cons_succ,Nat.zero_add,Nat.reduceAdd]
   exact rfl
  case step =>
   refine ⟨?_,?_,?_,?_,?_,?_,?_,?_,?_,?_,trivial⟩
   ·
    intro x W
    refine ⟨fun _ hW hdep K hK=>?_,(fun h=>absurd h (by decide)),(fun h=>absurd h (by decide))⟩
    clear hdep
    go_simp
    exact hK _ _ rfl hW (fun _ _ h=>h)
   ·
    intro x W
    refine ⟨fun _ hW hdep K hK=>?_,(fun h=>absurd h (by decide)),(fun h=>absurd h (by decide))⟩
    have h0:x 0=_:=hdep 0 rfl
    clear hdep
    simp only [h0] at hK
    go_simp
    exact hK _ _ rfl hW (fun _ _ h=>h)
   ·
    intro x W
    refine ⟨fun _ hW hdep K hK=>?_,(fun h=>absurd h (by decide)),(fun h=>absurd h (by decide))⟩
    have h1:x 1=_:=hdep 1 rfl
    clear hdep
    simp only [h1] at hK
    go_simp
    exact hK _ _ rfl hW (fun _ _ h=>h)
   ·
    intro x W
    refine ⟨fun _ hW hdep K hK=>?_,(fun h=>absurd h (by decide)),(fun h=>absurd h (by decide))⟩
    have h2:x 2=_:=hdep 2 rfl
    have c:=HX.out _ (zj HB1.out hW)
    clear hdep
    simp only [h2] at hK
    go_simp
    exact hK _ _ rfl hW (fun _ _ h=>h)
   ·
    intro x W
    refine ⟨fun _ hW hdep K hK=>?_,(fun h=>absurd h (by decide)),(fun h=>absurd h (by decide))⟩
    clear hdep
    go_simp
    exact hK _ _ rfl hW (fun _ _ h=>h)
   ·
    intro x W
    refine ⟨fun _ hW hdep K hK=>?_,(fun h=>absurd h (by decide)),(fun h=>absurd h (by decide))⟩
    have h4:x 4=_:=hdep 4 rfl
    have c:=(HO.out.below hW).c3
    clear hdep
    simp only [h4] at hK
    go_simp
    exact hK _ _ rfl hW (fun _ _ h=>h)
   ·
    intro x W
    refine ⟨fun _ hW hdep K hK=>?_,(fun h=>absurd h (by decide)),(fun h=>absurd h (by decide))⟩
    clear hdep
    go_simp
    exact hK _ _ rfl hW (fun _ _ h=>h)
   ·
    intro x W
    refine ⟨fun _ hW hdep K hK=>?_,(fun h=>absurd h (by decide)),(fun h=>absurd h (by decide))⟩
    have h6:x 6=_:=hdep 6 rfl
    have c:=(HO.out.below hW).c4
    clear hdep
    simp only [h6] at hK
    go_simp
    exact hK _ _ rfl hW (fun _ _ h=>h)
   ·
    intro x W
    refine ⟨(fun h=>absurd h (by decide)),fun _ hW hdep K hK=>?_,(fun h=>absurd h (by decide))⟩
    have h3:x 3=_:=hdep 3 rfl
    have h5:x 5=_:=hdep 5 rfl
    have h7:x 7=_:=hdep 7 rfl
    have hc:=HN.out _ (zj HB1.out hW)
    clear hdep
    simp only [h3,h5,h7] at hK
    go_simp
    refine hc.mono ?_
    rintro e W' ⟨rfl,hg⟩
    exact hK _ _ rfl hg
   ·
    intro x W
    refine ⟨(fun h=>absurd h (by decide)),(fun h=>absurd h (by decide)),fun _ hW hdep K hK=>?_⟩
    have h8:x 8=_:=hdep 8 rfl (by decide)
    clear hdep
    simp only [h8] at hK
    go_simp
    exact hK _ rfl
  case fin =>
   intro x W' hW hrest
   have HW:=za hW
   have h9:x 9=_:=hrest 9 (by decide) (by decide)
   clear hW hrest
   simp only [h9]
   go_wp2
   go_ret
   exact ⟨rfl,HW.out⟩
 ·
  rw [if_neg hcl,if_neg hcl]
  have HS:=za (zq.still h hb1)
  have hq:((cl:Int) != 255)=true:=by simp; omega
  clear h hb1 hcl
  go_enter Tryz.func99,Tryz.ntmps99
  go_wp2
  go_ret
  exact ⟨rfl,HS.out⟩
end
end Go.Proofs.YteegkoicalbkbaaGreatDoor
namespace Go.Proofs.YteegkoicalbkbaaGreatDoor
open Go.RowKit Go.Maps
set_option linter.unusedVariables false

set_option maxRecDepth 100000 in
theorem yB (e:Int) (w:World):Calls Tryz.prog 40 #[.int .i64 e] w (zC (.agg #[.int .i64 e,.slice none 0 0]) w):=by
 have h1:ug (w.alloc (.cells #[.int .i64 e,.slice none 0 0] 56)) w.heap.size e (.slice none 0 0):=heap_alloc_new w _
 have HR:=za h1
 clear h1
 go_enter Tryz.func40,Tryz.ntmps40
 go_wp2
 exact bodyPost_ret (results_cell_row Tryz.results40 _ _ w.heap.size _ #[.int .i64 e,.slice none 0 0] (0,0) _ rfl HR.out Tryz.underlying56 rfl xA) rfl ⟨rfl,ze (Below.refl _ _) _⟩
theorem dD17_err (d:D17) (kd:Nat) (a b:List UInt8) (h:xh d kd a b≠0):xx d kd a b=d:=by
 cases d with
 | old E =>
  have h':oE17 kd E a b≠0:=h
  show D17.old (oL17 kd E a b)=D17.old E
  congr 1
  unfold oE17 at h'
  unfold oL17
  split
  ·
   rename_i hk
   rw [if_pos hk] at h'
   unfold crL
   rw [if_neg h']
  ·
   rename_i hk
   rw [if_neg hk] at h'
   split
   ·
    rename_i hk1
    rw [if_pos hk1] at h'
    unfold deL
    rw [if_neg h']
   ·
    rename_i hk1
    rw [if_neg hk1] at h'
    split
    ·
     rename_i hk2
     rw [if_pos hk2] at h'
     unfold seL
     rw [if_neg h']
    ·
     rfl
 | new A L S =>
  have h':nE17 kd A L S a b≠0:=h
  have key:nA17 kd A a b=A∧nL17 kd A L a b=L∧nS17 kd A S a b=S:=by
   match kd,h' with
   | 0,h'=>exact ⟨if_neg h',rfl,rfl⟩
   | 1,h'=>exact ⟨if_neg h',if_neg h',if_neg h'⟩
   | 2,h'=>exact ⟨if_neg h',rfl,rfl⟩
   | 3,h'=>exact ⟨rfl,rfl,rfl⟩
   | 4,h'=>exact ⟨rfl,rfl,rfl⟩
   | 5,h'=>exact ⟨rfl,if_neg h',rfl⟩
   | 6,h'=>exact ⟨if_neg h',rfl,rfl⟩
   | 7,h'=>exact ⟨if_neg h',rfl,rfl⟩
   | 8,h'=>exact ⟨if_neg h',if_neg h',if_neg h'⟩
   | 9,h'=>exact ⟨rfl,rfl,if_neg h'⟩
   | 10,h'=>exact ⟨rfl,rfl,if_neg h'⟩
   | 11,h'=>exact ⟨rfl,rfl,joS_no h'⟩
   | 12,h'=>exact ⟨rfl,rfl,leS_no h'⟩
   | 13,h'=>exact ⟨rfl,rfl,rfl⟩
   | _+14,h'=>exact ⟨rfl,rfl,rfl⟩
  show D17.new (nA17 kd A a b) (nL17 kd A L a b) (nS17 kd A S a b)=D17.new A L S
  rw [key.1,key.2.1,key.2.2]
theorem note16_err {b:List UInt8} {nd rl:Nat} (h:Zt b nd rl≠0):ut b nd rl=b:=by
 unfold Zt at h
 unfold ut
 cases ht:uB b nd rl with
 | true=>rw [ht] at h; exact absurd rfl h
 | false=>rfl
def fV (W:World) (H:Nat) (F:Nat→Prop) (s:H17) (cl:Nat) (o:O14) (en:Ending) (w':World):Prop :=
 ∃ A n c,en=.returned (.tuple #[.slice A n c,.int .i64 (zL s cl o)])∧(zL s cl o=0→n=(xD s o).length∧vB w' A (xD s o))∧zq W H F (yt s cl o) w'
theorem ZR {W:World} {H:Nat} {F:Nat→Prop} {s:H17} {cl:Nat} {o:O14} {e:Int} {s':H17} {w':World} (he:e=zL s cl o) (hs:s'=yt s cl o) (ht:zL s cl o=0→xD s o=[]) (hg:zq W H F s' w') :
  fV W H F s cl o (.returned (.tuple #[.slice none 0 0,.int .i64 e])) w':=by
 subst hs
 exact ⟨none,0,0,by rw [he],fun h0=>by rw [ht h0]; exact ⟨rfl,vB.none _ _⟩,hg⟩
def St17 (R D:World→Prop) (m:Nat) (W:World):Prop:=if m=0 then R W else D W
def YDo17 (H:Nat) (vd vo:Value) (er:Int) (t0:List ByteArray) (tn:Nat):Nat→Value→World→Prop
 | 3,v,_=>v=vd
 | 4,v,_=>v=vo
 | 5,v,W=>∃ A n c,v=.tuple #[.slice A n c,.int .i64 er]∧(er=0→n=tn∧vB W A t0)
 | 6,v,W=>∃ A n c,v=.slice A n c∧(er=0→n=tn∧vB W A t0)
 | 7,v,_=>v=.int .i64 er
 | 8,v,W=>∃ A n c,v=.slice A n c∧(er=0→n=tn∧vB W A t0)
 | 9,v,_=>v=.int .i64 er
 | _,v,_=>v=.pointer (some ⟨H,0,none⟩)
theorem Q1 {H:Nat} {vd vo:Value} {er:Int} {t0:List ByteArray} {tn:Nat} {W W':World} {j:Nat} {z:Value} (hj:j≠5∧j≠6∧j≠8) (h:YDo17 H vd vo er t0 tn j z W):YDo17 H vd vo er t0 tn j z W':=by
 match j,hj,h with
 | 0,_,h=>exact h
 | 1,_,h=>exact h
 | 2,_,h=>exact h
 | 3,_,h=>exact h
 | 4,_,h=>exact h
 | 5,hj,h=>exact absurd rfl hj.1
 | 6,hj,h=>exact absurd rfl hj.2.1
 | 7,_,h=>exact h
 | 8,hj,h=>exact absurd rfl hj.2.2
 | 9,_,h=>exact h
 | _+10,_,h=>exact h
set_option maxRecDepth 100000 in
theorem do17_old {W:World} {H B:Nat} {F:Nat→Prop} {s:H17} (h:zS W H F s) (hc0:W.cell? ⟨H,0,none⟩=some (.iface 80 (.agg #[.pointer (some ⟨B,0,none⟩)]))) (cl:Nat) (o:O14) (hl:yc W) (hk:o.kd.toNat≤14) (hv:vn o.kd.toNat≤(s.d.ver:Int))
  (ha:∀ W',Below W.heap.size W W'→Calls Tryz.prog 303 #[.agg #[.pointer (some ⟨B,0,none⟩)],o.v] W' fun en w'=>∃ A n c,en=.returned (.tuple #[.slice A n c,.int .i64 (zL s cl o)])∧(zL s cl o=0→n=(xD s o).length∧vB w' A (xD s o))∧zq W H F (yt s cl o) w') :
  Calls Tryz.prog 71 #[.pointer (some ⟨H,0,none⟩),.int .u8 (cl:Int),o.v] W (fV W H F s cl o):=by
 unfold fV
 unfold O14.v O14.cells at ha ⊢
 have hb1:=ze (Below.refl _ W) (.cells #[.int .u8 o.kd.toNat,.string o.a,.string o.b,.int .u8 o.nd.toNat,.int .u8 o.rl.toNat] 47)
 have HFR:=za (uz (o.kd.toNat:Int) _ (hl.later hb1))
 have HVE:Hid (∀ W',Below W.heap.size W W'→Calls Tryz.prog 17 #[.pointer (some ⟨H,0,none⟩)] W' (zC (.int .i64 (s.d.ver:Nat)) W')):=fun W' hW=>xC (h.later hW)
 unfold zC at HFR HVE
 have HA:=za ha
 have HX:Hid (∀ W',Below W.heap.size W W'→W'.cell? ⟨H,0,none⟩=some (.iface 80 (.agg #[.pointer (some ⟨B,0,none⟩)]))):=fun W' hW=>(hW.cell (p:=⟨H,0,none⟩) (World.block_lt_of_cell? W _ hc0)).trans hc0
 have HMT:=za (mth_ask_old B)
 have HB1:=za hb1
 have ho1:xB (W.alloc (.cells #[.int .u8 o.kd.toNat,.string o.a,.string o.b,.int .u8 o.nd.toNat,.int .u8 o.rl.toNat] 47)) W.heap.size o:=heap_alloc_new W _
 have HO:=za ho1
 have hcv:wrap64 (o.kd.toNat:Int)=o.kd.toNat:=IntWalk.wrap64_in _ (by have:=UInt8.toNat_lt o.kd; omega)
 have hgt:decide (vn o.kd.toNat > (s.d.ver:Int))=false:=by simp; omega
 have q15:((o.kd.toNat:Int) == 15)=false:=by simp; omega
 have q16:((o.kd.toNat:Int) == 16)=false:=by simp; omega
 clear h hc0 hl hk hv ha hb1 ho1
 generalize xD s o=t0 at *
 generalize t0.length=tn at *
 generalize zL s cl o=er at *
 generalize yt s cl o=s' at *
 generalize vn o.kd.toNat=fr at *
 generalize (s.d.ver:Int)=vr at *
 go_enter Tryz.func71,Tryz.ntmps71
 go_wp2_with fail
 generalize W.alloc (.cells #[.int .u8 o.kd.toNat,.string o.a,.string o.b,.int .u8 o.nd.toNat,.int .u8 o.rl.toNat] 47)=w1 at *
 generalize W.heap.size=P0 at HO ⊢
 have c0:=HO.out.c0
 with_reducible refine HFR.out.mono ?_
 rintro e w2 ⟨rfl,hb⟩
 have HB2:=za (zj HB1.out hb)
 have HO2:=za (HO.out.below hb)
 clear hb HFR HB1 HO c0
 go_wp2_with fail
 with_reducible refine (HVE.out _ HB2.out).mono ?_
 rintro e w3 ⟨rfl,hb⟩
 have HB3:=za (zj HB2.out hb)
 have HO3:=za (HO2.out.below hb)
 have c0:=HO3.out.c0
 clear hb HVE HB2 HO2
 go_wp2_with fail
 have HG0:Hid (ju [5] (St17 (fun W'=>Below w3.heap.size w3 W') (fun W'=>zq W H F s' W')) (fun _=>false) w3.drew):=ju.start (qf (Below.refl _ w3))
 refine uq (by kernel_rfl) (YDo17 H (.iface 80 (.agg #[.pointer (some ⟨B,0,none⟩)])) (.agg #[.int .u8 o.kd.toNat,.string o.a,.string o.b,.int .u8 o.nd.toNat,.int .u8 o.rl.toNat]) er t0 tn) (ju [5] (St17 (fun W'=>Below w3.heap.size w3 W') (fun W'=>zq W H F s' W'))) ?F ?hF (by kernel_rfl) (by kernel_rfl) HG0.out ?step ?fin
 case hF =>
  intro x
  simp only [List.map_cons,List.map_nil,xU,Act.put,List.setIfInBounds_toArray,List.set_cons_zero,List.set_cons_succ,Nat.zero_add,Nat.reduceAdd]
  exact rfl
 case step =>
  refine ⟨?_,?_,?_,?_,?_,?_,?_,?_,?_,?_,trivial⟩
  all_goals intro L x W' hL hd hcl hG hY K hK
  ·
   clear hd hcl hY
   go_simp
   exact hK _ _ rfl (hG.same 0 rfl (fun _ h=>h)) (fun _ _ h=>h)
  ·
   have h0:x 0=_:=hY 0 (hd 0 rfl)
   clear hd hcl hY
   simp only [h0] at hK
   go_simp
   exact hK _ _ rfl (hG.same 1 rfl (fun _ h=>h)) (fun _ _ h=>h)
  ·
   have h1:x 1=_:=hY 1 (hd 1 rfl)
   clear hd hcl hY
   simp only [h1] at hK
   go_simp
   exact hK _ _ rfl (hG.same 2 rfl (fun _ h=>h)) (fun _ _ h=>h)
  ·
   have h2:x 2=_:=hY 2 (hd 2 rfl)
   have z5:L 5=false:=by
    cases h:L 5 with
    | false=>rfl
    | true=>exact absurd (hcl 5 _ rfl h 3 (by rfl)) (by rw [hL]; decide)
   have hW:Below w3.heap.size w3 W':=hG.at_ 0 (by decide) z5 (.inl rfl)
   clear z5
   have c:=HX.out _ (zj HB3.out hW)
   clear hd hcl hY
   simp only [h2] at hK
   go_simp
   exact hK _ _ rfl (hG.same 3 rfl (fun _ h=>h)) (fun _ _ h=>h)
  ·
   have z5:L 5=false:=by
    cases h:L 5 with
    | false=>rfl
    | true=>exact absurd (hcl 5 _ rfl h 4 (by rfl)) (by rw [hL]; decide)
   have hW:Below w3.heap.size w3 W':=hG.at_ 0 (by decide) z5 (.inl rfl)
   clear z5
   have ho:=HO3.out.below hW
   have k0:=ho.c0
   have k1:=ho.c1
   have k2:=ho.c2
   have k3:=ho.c3
   have k4:=ho.c4
   clear ho
   clear hd hcl hY
   go_simp
   exact hK _ _ rfl (hG.same 4 rfl (fun _ h=>h)) (fun _ _ h=>h)
  ·
   have h3:x 3=_:=hY 3 (hd 3 rfl)
   have h4:x 4=_:=hY 4 (hd 4 rfl)
   have hW:Below w3.heap.size w3 W':=hG.at_ 0 (by decide) hL (.inl rfl)
   have HNX:=za (fun W2 (h:zq W H F s' W2)=>hG.next (W':=W2) 0 5 (by decide) rfl hL (.inl rfl) (by decide) h)
   have n5:∀ j,L j=true→j≠5∧j≠6∧j≠8:=fun j hj=>by
    refine ⟨fun e=>?_,fun e=>?_,fun e=>?_⟩
    ·
     rw [e,hL] at hj; cases hj
    ·
     subst e; have:=hcl 6 _ rfl hj 5 (by rfl); rw [hL] at this; cases this
    ·
     subst e; have:=hcl 6 _ rfl (hcl 8 _ rfl hj 6 (by rfl)) 5 (by rfl); rw [hL] at this; cases this
   have hc:=HA.out _ (zj HB3.out hW)
   have hm:=HMT.out
   clear hW
   clear hd hcl hY
   simp only [h3,h4] at hK
   go_simp
   refine hc.mono ?_
   rintro e W2 ⟨A5,n5',c5,rfl,ht,hgo⟩
   exact hK _ _ ⟨A5,n5',c5,rfl,ht⟩ (HNX.out W2 hgo) (fun j hj h=>Q1 (n5 j hj) h)
  ·
   obtain ⟨A5,n5,c5,h5,ht⟩:=hY 5 (hd 5 rfl)
   clear hd hcl hY
   simp only [h5] at hK
   go_simp
   exact hK _ _ ⟨A5,n5,c5,rfl,ht⟩ (hG.same 6 rfl (fun _ h=>h)) (fun _ _ h=>h)
  ·
   obtain ⟨A5,n5,c5,h5,ht⟩:=hY 5 (hd 5 rfl)
   clear ht
   clear hd hcl hY
   simp only [h5] at hK
   go_simp
   exact hK _ _ rfl (hG.same 7 rfl (fun _ h=>h)) (fun _ _ h=>h)
  ·
   obtain ⟨A5,n5,c5,h6,ht⟩:=hY 6 (hd 6 rfl)
   clear hd hcl hY
   simp only [h6] at hK
   go_simp
   exact hK _ _ ⟨A5,n5,c5,rfl,ht⟩ (hG.same 8 rfl (fun _ h=>h)) (fun _ _ h=>h)
  ·
   have h7:x 7=_:=hY 7 (hd 7 rfl)
   clear hd hcl hY
   simp only [h7] at hK
   go_simp
   exact hK _ _ rfl (hG.same 9 rfl (fun _ h=>h)) (fun _ _ h=>h)
 case fin =>
  intro L x W' hall hG hY
  obtain ⟨A5,n5,c5,h8,ht⟩:=hY 8 (by decide)
  have h9:x 9=_:=hY 9 (by decide)
  have hgo:zq W H F s' W':=hG.last (fun r hr=>by match r,hr with | 0,_=>exact hall 5 (by decide))
  have HT:=za ht
  have HGO:=za hgo
  clear hY hG hall ht hgo
  simp only [h8,h9]
  go_wp2
  go_ret2
  exact ⟨A5,n5,c5,rfl,HT.out,HGO.out⟩
set_option maxRecDepth 100000 in
theorem do17_new {W:World} {H D:Nat} {F:Nat→Prop} {s:H17} (h:zS W H F s) (hc0:W.cell? ⟨H,0,none⟩=some (.iface 150 (.agg #[.pointer (some ⟨D,0,none⟩)]))) (cl:Nat) (o:O14) (hl:yc W) (hk:o.kd.toNat≤14) (hv:vn o.kd.toNat≤(s.d.ver:Int))
  (ha:∀ W',Below W.heap.size W W'→Calls Tryz.prog 340 #[.agg #[.pointer (some ⟨D,0,none⟩)],o.v] W' fun en w'=>∃ A n c,en=.returned (.tuple #[.slice A n c,.int .i64 (zL s cl o)])∧(zL s cl o=0→n=(xD s o).length∧vB w' A (xD s o))∧zq W H F (yt s cl o) w') :
  Calls Tryz.prog 71 #[.pointer (some ⟨H,0,none⟩),.int .u8 (cl:Int),o.v] W (fV W H F s cl o):=by
 unfold fV
 unfold O14.v O14.cells at ha ⊢
 have hb1:=ze (Below.refl _ W) (.cells #[.int .u8 o.kd.toNat,.string o.a,.string o.b,.int .u8 o.nd.toNat,.int .u8 o.rl.toNat] 47)
 have HFR:=za (uz (o.kd.toNat:Int) _ (hl.later hb1))
 have HVE:Hid (∀ W',Below W.heap.size W W'→Calls Tryz.prog 17 #[.pointer (some ⟨H,0,none⟩)] W' (zC (.int .i64 (s.d.ver:Nat)) W')):=fun W' hW=>xC (h.later hW)
 unfold zC at HFR HVE
 have HA:=za ha
 have HX:Hid (∀ W',Below W.heap.size W W'→W'.cell? ⟨H,0,none⟩=some (.iface 150 (.agg #[.pointer (some ⟨D,0,none⟩)]))):=fun W' hW=>(hW.cell (p:=⟨H,0,none⟩) (World.block_lt_of_cell? W _ hc0)).trans hc0
 have HMT:=za (mth_ask_new D)
 have HB1:=za hb1
 have ho1:xB (W.alloc (.cells #[.int .u8 o.kd.toNat,.string o.a,.string o.b,.int .u8 o.nd.toNat,.int .u8 o.rl.toNat] 47)) W.heap.size o:=heap_alloc_new W _
 have HO:=za ho1
 have hcv:wrap64 (o.kd.toNat:Int)=o.kd.toNat:=IntWalk.wrap64_in _ (by have:=UInt8.toNat_lt o.kd; omega)
 have hgt:decide (vn o.kd.toNat > (s.d.ver:Int))=false:=by simp; omega
 have q15:((o.kd.toNat:Int) == 15)=false:=by simp; omega
 have q16:((o.kd.toNat:Int) == 16)=false:=by simp; omega
 clear h hc0 hl hk hv ha hb1 ho1
 generalize xD s o=t0 at *
 generalize t0.length=tn at *
 generalize zL s cl o=er at *
 generalize yt s cl o=s' at *
 generalize vn o.kd.toNat=fr at *
 generalize (s.d.ver:Int)=vr at *
 go_enter Tryz.func71,Tryz.ntmps71
 go_wp2_with fail
 generalize W.alloc (.cells #[.int .u8 o.kd.toNat,.string o.a,.string o.b,.int .u8 o.nd.toNat,.int .u8 o.rl.toNat] 47)=w1 at *
 generalize W.heap.size=P0 at HO ⊢
 have c0:=HO.out.c0
 with_reducible refine HFR.out.mono ?_
 rintro e w2 ⟨rfl,hb⟩
 have HB2:=za (zj HB1.out hb)
 have HO2:=za (HO.out.below hb)
 clear hb HFR HB1 HO c0
 go_wp2_with fail
 with_reducible refine (HVE.out _ HB2.out).mono ?_
 rintro e w3 ⟨rfl,hb⟩
 have HB3:=za (zj HB2.out hb)
 have HO3:=za (HO2.out.below hb)
 have c0:=HO3.out.c0
 clear hb HVE HB2 HO2
 go_wp2_with fail
 have HG0:Hid (ju [5] (St17 (fun W'=>Below w3.heap.size w3 W') (fun W'=>zq W H F s' W')) (fun _=>false) w3.drew):=ju.start (qf (Below.refl _ w3))
 refine uq (by kernel_rfl) (YDo17 H (.iface 150 (.agg #[.pointer (some ⟨D,0,none⟩)])) (.agg #[.int .u8 o.kd.toNat,.string o.a,.string o.b,.int .u8 o.nd.toNat,.int .u8 o.rl.toNat]) er t0 tn) (ju [5] (St17 (fun W'=>Below w3.heap.size w3 W') (fun W'=>zq W H F s' W'))) ?F ?hF (by kernel_rfl) (by kernel_rfl) HG0.out ?step ?fin
 case hF =>
  intro x
  simp only [List.map_cons,List.map_nil,xU,Act.put,List.setIfInBounds_toArray,List.set_cons_zero,List.set_cons_succ,Nat.zero_add,Nat.reduceAdd]
  exact rfl
 case step =>
  refine ⟨?_,?_,?_,?_,?_,?_,?_,?_,?_,?_,trivial⟩
  all_goals intro L x W' hL hd hcl hG hY K hK
  ·
   clear hd hcl hY
   go_simp
   exact hK _ _ rfl (hG.same 0 rfl (fun _ h=>h)) (fun _ _ h=>h)
  ·
   have h0:x 0=_:=hY 0 (hd 0 rfl)
   clear hd hcl hY
   simp only [h0] at hK
   go_simp
   exact hK _ _ rfl (hG.same 1 rfl (fun _ h=>h)) (fun _ _ h=>h)
  ·
   have h1:x 1=_:=hY 1 (hd 1 rfl)
   clear hd hcl hY
   simp only [h1] at hK
   go_simp
   exact hK _ _ rfl (hG.same 2 rfl (fun _ h=>h)) (fun _ _ h=>h)
  ·
   have h2:x 2=_:=hY 2 (hd 2 rfl)
   have z5:L 5=false:=by
    cases h:L 5 with
    | false=>rfl
    | true=>exact absurd (hcl 5 _ rfl h 3 (by rfl)) (by rw [hL]; decide)
   have hW:Below w3.heap.size w3 W':=hG.at_ 0 (by decide) z5 (.inl rfl)
   clear z5
   have c:=HX.out _ (zj HB3.out hW)
   clear hd hcl hY
   simp only [h2] at hK
   go_simp
   exact hK _ _ rfl (hG.same 3 rfl (fun _ h=>h)) (fun _ _ h=>h)
  ·
   have z5:L 5=false:=by
    cases h:L 5 with
    | false=>rfl
    | true=>exact absurd (hcl 5 _ rfl h 4 (by rfl)) (by rw [hL]; decide)
   have hW:Below w3.heap.size w3 W':=hG.at_ 0 (by decide) z5 (.inl rfl)
   clear z5
   have ho:=HO3.out.below hW
   have k0:=ho.c0
   have k1:=ho.c1
   have k2:=ho.c2
   have k3:=ho.c3
   have k4:=ho.c4
   clear ho
   clear hd hcl hY
   go_simp
   exact hK _ _ rfl (hG.same 4 rfl (fun _ h=>h)) (fun _ _ h=>h)
  ·
   have h3:x 3=_:=hY 3 (hd 3 rfl)
   have h4:x 4=_:=hY 4 (hd 4 rfl)
   have hW:Below w3.heap.size w3 W':=hG.at_ 0 (by decide) hL (.inl rfl)
   have HNX:=za (fun W2 (h:zq W H F s' W2)=>hG.next (W':=W2) 0 5 (by decide) rfl hL (.inl rfl) (by decide) h)
   have n5:∀ j,L j=true→j≠5∧j≠6∧j≠8:=fun j hj=>by
    refine ⟨fun e=>?_,fun e=>?_,fun e=>?_⟩
    ·
     rw [e,hL] at hj; cases hj
    ·
     subst e; have:=hcl 6 _ rfl hj 5 (by rfl); rw [hL] at this; cases this
    ·
     subst e; have:=hcl 6 _ rfl (hcl 8 _ rfl hj 6 (by rfl)) 5 (by rfl); rw [hL] at this; cases this
   have hc:=HA.out _ (zj HB3.out hW)
   have hm:=HMT.out
   clear hW
   clear hd hcl hY
   simp only [h3,h4] at hK
   go_simp
   refine hc.mono ?_
   rintro e W2 ⟨A5,n5',c5,rfl,ht,hgo⟩
   exact hK _ _ ⟨A5,n5',c5,rfl,ht⟩ (HNX.out W2 hgo) (fun j hj h=>Q1 (n5 j hj) h)
  ·
   obtain ⟨A5,n5,c5,h5,ht⟩:=hY 5 (hd 5 rfl)
   clear hd hcl hY
   simp only [h5] at hK
   go_simp
   exact hK _ _ ⟨A5,n5,c5,rfl,ht⟩ (hG.same 6 rfl (fun _ h=>h)) (fun _ _ h=>h)
  ·
   obtain ⟨A5,n5,c5,h5,ht⟩:=hY 5 (hd 5 rfl)
   clear ht
   clear hd hcl hY
   simp only [h5] at hK
   go_simp
   exact hK _ _ rfl (hG.same 7 rfl (fun _ h=>h)) (fun _ _ h=>h)
  ·
   obtain ⟨A5,n5,c5,h6,ht⟩:=hY 6 (hd 6 rfl)
   clear hd hcl hY
   simp only [h6] at hK
   go_simp
   exact hK _ _ ⟨A5,n5,c5,rfl,ht⟩ (hG.same 8 rfl (fun _ h=>h)) (fun _ _ h=>h)
  ·
   have h7:x 7=_:=hY 7 (hd 7 rfl)
   clear hd hcl hY
   simp only [h7] at hK
   go_simp
   exact hK _ _ rfl (hG.same 9 rfl (fun _ h=>h)) (fun _ _ h=>h)
 case fin =>
  intro L x W' hall hG hY
  obtain ⟨A5,n5,c5,h8,ht⟩:=hY 8 (by decide)
  have h9:x 9=_:=hY 9 (by decide)
  have hgo:zq W H F s' W':=hG.last (fun r hr=>by match r,hr with | 0,_=>exact hall 5 (by decide))
  have HT:=za ht
  have HGO:=za hgo
  clear hY hG hall ht hgo
  simp only [h8,h9]
  go_wp2
  go_ret2
  exact ⟨A5,n5,c5,rfl,HT.out,HGO.out⟩
end Go.Proofs.YteegkoicalbkbaaGreatDoor
namespace Go.Proofs.YteegkoicalbkbaaGreatDoor
open Go.RowKit Go.Maps
set_option linter.unusedVariables false

section
variable {W:World} {H:Nat} {F:Nat→Prop} {s:H17}
set_option maxRecDepth 100000 in
theorem FT (h:zS W H F s) (cl:Nat) (o:O14) (hl:yc W) (hv:(s.d.ver:Int)<vn o.kd.toNat) :
  Calls Tryz.prog 71 #[.pointer (some ⟨H,0,none⟩),.int .u8 (cl:Int),o.v] W (fV W H F s cl o):=by
 have he:zL s cl o=6:=by unfold zL; rw [if_pos hv]
 have hs:yt s cl o=s:=by unfold yt; rw [if_pos (by rw [he]; decide)]
 have HEND:Hid (∀ w',Below W.heap.size W w'→fV W H F s cl o (.returned (.tuple #[.slice none 0 0,.int .i64 6])) w'):=fun w' hw=>ZR he.symm hs.symm (fun h0=>by rw [he] at h0; cases h0) (zq.still h hw)
 unfold O14.v O14.cells
 have hb1:=ze (Below.refl _ W) (.cells #[.int .u8 o.kd.toNat,.string o.a,.string o.b,.int .u8 o.nd.toNat,.int .u8 o.rl.toNat] 47)
 have HFR:=za (uz (o.kd.toNat:Int) _ (hl.later hb1))
 have HVE:Hid (∀ W',Below W.heap.size W W'→Calls Tryz.prog 17 #[.pointer (some ⟨H,0,none⟩)] W' (zC (.int .i64 (s.d.ver:Nat)) W')):=fun W' hW=>xC (h.later hW)
 unfold zC at HFR HVE
 have HB1:=za hb1
 have ho1:xB (W.alloc (.cells #[.int .u8 o.kd.toNat,.string o.a,.string o.b,.int .u8 o.nd.toNat,.int .u8 o.rl.toNat] 47)) W.heap.size o:=heap_alloc_new W _
 have HO:=za ho1
 have hcv:wrap64 (o.kd.toNat:Int)=o.kd.toNat:=IntWalk.wrap64_in _ (by have:=UInt8.toNat_lt o.kd; omega)
 have hgt:decide (vn o.kd.toNat > (s.d.ver:Int))=true:=by simp; omega
 clear h hl hv hb1 ho1 he hs
 generalize fV W H F s cl o=Q at *
 generalize vn o.kd.toNat=fr at *
 generalize (s.d.ver:Int)=vr at *
 go_enter Tryz.func71,Tryz.ntmps71
 go_wp2_with fail
 generalize W.alloc (.cells #[.int .u8 o.kd.toNat,.string o.a,.string o.b,.int .u8 o.nd.toNat,.int .u8 o.rl.toNat] 47)=w1 at *
 generalize W.heap.size=P0 at HO ⊢
 have c0:=HO.out.c0
 with_reducible refine HFR.out.mono ?_
 rintro e w2 ⟨rfl,hb⟩
 have HB2:=za (zj HB1.out hb)
 have HO2:=za (HO.out.below hb)
 clear hb HFR HB1 HO c0
 go_wp2_with fail
 with_reducible refine (HVE.out _ HB2.out).mono ?_
 rintro e w3 ⟨rfl,hb⟩
 have HB3:=za (zj HB2.out hb)
 have HO3:=za (HO2.out.below hb)
 have c0:=HO3.out.c0
 have c1:=HO3.out.c1
 have c2:=HO3.out.c2
 have c3:=HO3.out.c3
 have c4:=HO3.out.c4
 clear hb HVE HB2 HO2
 go_wp2
 exact HEND.out _ HB3.out
set_option maxRecDepth 100000 in
theorem do17_up (h:zS W H F s) (cl:Nat) (o:O14) (hl:yc W) (hv:vn o.kd.toNat≤(s.d.ver:Int)) (hk:o.kd.toNat=15)
  (hu:∀ W',Below W.heap.size W W'→Calls Tryz.prog 98 #[.pointer (some ⟨H,0,none⟩)] W' fun e w'=>e=.returned (.int .i64 (zL s cl o))∧zq W H F (yt s cl o) w') :
  Calls Tryz.prog 71 #[.pointer (some ⟨H,0,none⟩),.int .u8 (cl:Int),o.v] W (fV W H F s cl o):=by
 have ht:xD s o=[]:=by unfold xD; rw [if_neg (by omega)]
 have HEND:Hid (∀ w',zq W H F (yt s cl o) w'→fV W H F s cl o (.returned (.tuple #[.slice none 0 0,.int .i64 (zL s cl o)])) w'):=fun w' hw=>ZR rfl rfl (fun _=>ht) hw
 unfold O14.v O14.cells
 have hb1:=ze (Below.refl _ W) (.cells #[.int .u8 o.kd.toNat,.string o.a,.string o.b,.int .u8 o.nd.toNat,.int .u8 o.rl.toNat] 47)
 have HFR:=za (uz (o.kd.toNat:Int) _ (hl.later hb1))
 have HVE:Hid (∀ W',Below W.heap.size W W'→Calls Tryz.prog 17 #[.pointer (some ⟨H,0,none⟩)] W' (zC (.int .i64 (s.d.ver:Nat)) W')):=fun W' hW=>xC (h.later hW)
 unfold zC at HFR HVE
 have HB1:=za hb1
 have ho1:xB (W.alloc (.cells #[.int .u8 o.kd.toNat,.string o.a,.string o.b,.int .u8 o.nd.toNat,.int .u8 o.rl.toNat] 47)) W.heap.size o:=heap_alloc_new W _
 have HO:=za ho1
 have hcv:wrap64 (o.kd.toNat:Int)=o.kd.toNat:=IntWalk.wrap64_in _ (by have:=UInt8.toNat_lt o.kd; omega)
 have HU:=za hu
 have hgt:decide (vn o.kd.toNat > (s.d.ver:Int))=false:=by simp; omega
 have HKD:=za hk
 have q15:((o.kd.toNat:Int) == 15)=true:=by rw [HKD.out]; rfl
 clear h hl hv hb1 ho1 ht hk hu
 generalize zL s cl o=er at *
 generalize yt s cl o=s' at *
 generalize fV W H F s cl o=Q at *
 generalize vn o.kd.toNat=fr at *
 generalize (s.d.ver:Int)=vr at *
 go_enter Tryz.func71,Tryz.ntmps71
 go_wp2_with fail
 generalize W.alloc (.cells #[.int .u8 o.kd.toNat,.string o.a,.string o.b,.int .u8 o.nd.toNat,.int .u8 o.rl.toNat] 47)=w1 at *
 generalize W.heap.size=P0 at HO ⊢
 have c0:=HO.out.c0
 with_reducible refine HFR.out.mono ?_
 rintro e w2 ⟨rfl,hb⟩
 have HB2:=za (zj HB1.out hb)
 have HO2:=za (HO.out.below hb)
 clear hb HFR HB1 HO c0
 go_wp2_with fail
 with_reducible refine (HVE.out _ HB2.out).mono ?_
 rintro e w3 ⟨rfl,hb⟩
 have HB3:=za (zj HB2.out hb)
 have HO3:=za (HO2.out.below hb)
 have c0:=HO3.out.c0
 have c1:=HO3.out.c1
 have c2:=HO3.out.c2
 have c3:=HO3.out.c3
 have c4:=HO3.out.c4
 clear hb HVE HB2 HO2
 go_wp2_with fail
 with_reducible refine (HU.out _ HB3.out).mono ?_
 rintro e w4 ⟨rfl,hg⟩
 have HG:=za (HEND.out _ hg)
 clear hg HU HEND
 go_wp2
 exact HG.out
set_option maxRecDepth 100000 in
theorem do17_adv (h:zS W H F s) (cl:Nat) (o:O14) (hl:yc W) (hv:vn o.kd.toNat≤(s.d.ver:Int)) (hk:o.kd.toNat=16)
  (hu:∀ W',Below W.heap.size W W'→Calls Tryz.prog 99 #[.pointer (some ⟨H,0,none⟩),.int .u8 (cl:Int),o.v] W' fun e w'=>e=.returned (.int .i64 (zL s cl o))∧zq W H F (yt s cl o) w') :
  Calls Tryz.prog 71 #[.pointer (some ⟨H,0,none⟩),.int .u8 (cl:Int),o.v] W (fV W H F s cl o):=by
 have ht:xD s o=[]:=by unfold xD; rw [if_neg (by omega)]
 have HEND:Hid (∀ w',zq W H F (yt s cl o) w'→fV W H F s cl o (.returned (.tuple #[.slice none 0 0,.int .i64 (zL s cl o)])) w'):=fun w' hw=>ZR rfl rfl (fun _=>ht) hw
 unfold O14.v O14.cells at hu ⊢
 have hb1:=ze (Below.refl _ W) (.cells #[.int .u8 o.kd.toNat,.string o.a,.string o.b,.int .u8 o.nd.toNat,.int .u8 o.rl.toNat] 47)
 have HFR:=za (uz (o.kd.toNat:Int) _ (hl.later hb1))
 have HVE:Hid (∀ W',Below W.heap.size W W'→Calls Tryz.prog 17 #[.pointer (some ⟨H,0,none⟩)] W' (zC (.int .i64 (s.d.ver:Nat)) W')):=fun W' hW=>xC (h.later hW)
 unfold zC at HFR HVE
 have HB1:=za hb1
 have ho1:xB (W.alloc (.cells #[.int .u8 o.kd.toNat,.string o.a,.string o.b,.int .u8 o.nd.toNat,.int .u8 o.rl.toNat] 47)) W.heap.size o:=heap_alloc_new W _
 have HO:=za ho1
 have hcv:wrap64 (o.kd.toNat:Int)=o.kd.toNat:=IntWalk.wrap64_in _ (by have:=UInt8.toNat_lt o.kd; omega)
 have HU:=za hu
 have hgt:decide (vn o.kd.toNat > (s.d.ver:Int))=false:=by simp; omega
 have HKD:=za hk
 have q15:((o.kd.toNat:Int) == 15)=false:=by rw [HKD.out]; rfl
 have q16:((o.kd.toNat:Int) == 16)=true:=by rw [HKD.out]; rfl
 clear h hl hv hb1 ho1 ht hk hu
 generalize zL s cl o=er at *
 generalize yt s cl o=s' at *
 generalize fV W H F s cl o=Q at *
 generalize vn o.kd.toNat=fr at *
 generalize (s.d.ver:Int)=vr at *
 go_enter Tryz.func71,Tryz.ntmps71
 go_wp2_with fail
 generalize W.alloc (.cells #[.int .u8 o.kd.toNat,.string o.a,.string o.b,.int .u8 o.nd.toNat,.int .u8 o.rl.toNat] 47)=w1 at *
 generalize W.heap.size=P0 at HO ⊢
 have c0:=HO.out.c0
 with_reducible refine HFR.out.mono ?_
 rintro e w2 ⟨rfl,hb⟩
 have HB2:=za (zj HB1.out hb)
 have HO2:=za (HO.out.below hb)
 clear hb HFR HB1 HO c0
 go_wp2_with fail
 with_reducible refine (HVE.out _ HB2.out).mono ?_
 rintro e w3 ⟨rfl,hb⟩
 have HB3:=za (zj HB2.out hb)
 have HO3:=za (HO2.out.below hb)
 have c0:=HO3.out.c0
 have c1:=HO3.out.c1
 have c2:=HO3.out.c2
 have c3:=HO3.out.c3
 have c4:=HO3.out.c4
 clear hb HVE HB2 HO2
 go_wp2_with fail
 with_reducible refine (HU.out _ HB3.out).mono ?_
 rintro e w4 ⟨rfl,hg⟩
 have HG:=za (HEND.out _ hg)
 clear hg HU HEND
 go_wp2
 exact HG.out
theorem US (h:zS W H F s) (hg:s.Good) (cl:Nat) (o:O14) (hl:yc W) (h5:vY W) (hk:o.kd.toNat≤16) (ha:o.a.size≤1000) (hb:o.b.size≤1000) :
  Calls Tryz.prog 71 #[.pointer (some ⟨H,0,none⟩),.int .u8 (cl:Int),o.v] W (fV W H F s cl o):=by
 by_cases hv:(s.d.ver:Int)<vn o.kd.toNat
 ·
  exact FT h cl o hl hv
 have hv':vn o.kd.toNat≤(s.d.ver:Int):=by omega
 have hgd:=hg.d
 by_cases h15:o.kd.toNat=15
 ·
  have h16:¬ (s.d.ver:Int)<vn o.kd.toNat:=hv
  refine do17_up h cl o hl hv' h15 fun W' hW=>?_
  cases hd:s.d with
  | old E =>
   have hgE:xe E:=by rw [hd] at hgd; exact hgd
   cases hr:rdy17 s.b with
   | true =>
    have he:zL s cl o=0:=by unfold zL; rw [if_neg hv,if_pos h15,hd,hr]; rfl
    have hs:yt s cl o={ s with d:=upD17 (.old E) }:=by unfold yt; rw [if_neg (by rw [he]; decide),if_pos h15,hd]
    rw [he,hs]
    exact (Xb (h.later hW) hgE hd hr (h5.later hW)).mono fun e w' ⟨h1,h2⟩=>⟨h1,h2.ahead hW⟩
   | false =>
    have he:zL s cl o=13:=by unfold zL; rw [if_neg hv,if_pos h15,hd,hr]; rfl
    have hs:yt s cl o=s:=by unfold yt; rw [if_pos (by rw [he]; decide)]
    rw [he,hs]
    exact (ZL (h.later hW) hd hr).mono fun e w' ⟨h1,h2⟩=>⟨h1,zq.still h (zj hW h2)⟩
  | new A L S =>
   have he:zL s cl o=14:=by unfold zL; rw [if_neg hv,if_pos h15,hd]
   have hs:yt s cl o=s:=by unfold yt; rw [if_pos (by rw [he]; decide)]
   rw [he,hs]
   exact (Qa (h.later hW) hd).mono fun e w' ⟨h1,h2⟩=>⟨h1,zq.still h (zj hW h2)⟩
 by_cases h16:o.kd.toNat=16
 ·
  refine do17_adv h cl o hl hv' h16 fun W' hW=>?_
  have he:zL s cl o=(if cl=255 then ((Zt s.b o.nd.toNat o.rl.toNat:Nat):Int) else (1:Int)):=by unfold zL; rw [if_neg hv,if_neg h15,if_pos h16]
  have hs:yt s cl o=if cl=255 then { s with b:=ut s.b o.nd.toNat o.rl.toNat } else s:=by
   unfold yt
   rw [he]
   by_cases hc:cl=255
   ·
    rw [if_pos hc,if_pos hc]
    by_cases h0:((Zt s.b o.nd.toNat o.rl.toNat:Nat):Int)=0
    ·
     rw [if_neg (by rw [h0]; decide),if_neg h15,if_pos h16]
    ·
     rw [if_pos h0,note16_err (by omega)]
   ·
    rw [if_neg hc,if_neg hc]
    rfl
  rw [he,hs]
  exact (Yh (h.later hW) cl o).mono fun e w' ⟨h1,h2⟩=>⟨h1,h2.ahead hW⟩
 have h14:o.kd.toNat≤14:=by omega
 have he:zL s cl o=xh s.d o.kd.toNat o.a.data.toList o.b.data.toList:=by unfold zL; rw [if_neg hv,if_neg h15,if_neg h16]
 have hs:yt s cl o={ s with d:=xx s.d o.kd.toNat o.a.data.toList o.b.data.toList }:=by
  unfold yt
  rw [he]
  by_cases h0:xh s.d o.kd.toNat o.a.data.toList o.b.data.toList=0
  ·
   rw [if_neg (by rw [h0]; decide),if_neg h15,if_neg h16]
  ·
   rw [if_pos h0,dD17_err _ _ _ _ h0]
 have ht:xD s o=(xI s.d o.kd.toNat o.a.data.toList).map xT:=by unfold xD; rw [if_pos h14]
 obtain ⟨v,FD,hc,hd,hgo⟩:=h.dir
 have hend:∀ W',Below W.heap.size W W'→∀ en w',zv W' v FD s.d o.kd.toNat o.a o.b en w'→∃ A n c,en=.returned (.tuple #[.slice A n c,.int .i64 (zL s cl o)])∧(zL s cl o=0→n=(xD s o).length∧vB w' A (xD s o))∧zq W H F (yt s cl o) w':=fun W' hW en w' ⟨A,n,c,h1,h2,h3⟩=>by
  rw [he,hs,ht,List.length_map]
  exact ⟨A,n,c,h1,h2,hgo _ _ (h3.ahead hW)⟩
 rcases hd.shape with ⟨B,p,E,e,hv0,hd7,hF⟩ | ⟨D,P,M,G,A,p,q,L,LM,pg,T,e,hv0,hd11,hF⟩
 ·
  subst hv0
  have h4:o.kd.toNat≤4:=by
   rw [e] at hv'
   have h1:vn o.kd.toNat≤1:=hv'
   clear hend hs he ht hv hv' hd hgo
   generalize o.kd.toNat=k at *
   match k,h14,h1 with
   | 0,_,_=>omega
   | 1,_,_=>omega
   | 2,_,_=>omega
   | 3,_,_=>omega
   | 4,_,_=>omega
   | 5,_,h1=>exact absurd h1 (by decide)
   | 6,_,h1=>exact absurd h1 (by decide)
   | 7,_,h1=>exact absurd h1 (by decide)
   | 8,_,h1=>exact absurd h1 (by decide)
   | 9,_,h1=>exact absurd h1 (by decide)
   | 10,_,h1=>exact absurd h1 (by decide)
   | 11,_,h1=>exact absurd h1 (by decide)
   | 12,_,h1=>exact absurd h1 (by decide)
   | 13,_,h1=>exact absurd h1 (by decide)
   | 14,_,h1=>exact absurd h1 (by decide)
   | k+15,hk,_=>omega
  refine do17_old h hc cl o hl h14 hv' fun W' hW=>?_
  rw [e] at hend
  exact (ask_old17 W' B p E FD (hd7.later hW) hF o.kd.toNat o.a o.b o.nd.toNat o.rl.toNat ha hb h4).mono (hend W' hW)
 ·
  subst hv0
  rw [e] at hgd
  refine do17_new h hc cl o hl h14 hv' fun W' hW=>?_
  rw [e] at hend
  exact (ask_new17 W' FD (hd11.later hW) hgd hF (h5.later hW) o.kd.toNat o.a o.b o.nd.toNat o.rl.toNat ha hb h14).mono (hend W' hW)
end
end Go.Proofs.YteegkoicalbkbaaGreatDoor
namespace Go.Proofs.YteegkoicalbkbaaGreatDoor
open Go.RowKit Go.Maps
set_option linter.unusedVariables false

theorem UU {o:O14} (h:uk o=0):o.kd.toNat≤16:=by
 unfold uk at h
 split at h
 ·
  rename_i hf
  unfold FH at hf
  simp only [Bool.and_eq_true] at hf
  have hk:=hf.2.1
  unfold uf at hk
  simp at hk
  omega
 ·
  cases h
theorem zq.keeps {W w':World} {H:Nat} {F:Nat→Prop} {s s':H17} (h:zS W H F s) (hg:zq W H F s' w'):yX W w':=by
 obtain ⟨F',_,_,ht⟩:=hg
 exact h.keeps ht (fun i e=>e)
theorem yX.rep {W w':World} {R:Nat} {e:Int} {v:Value} (hk:yX W w') (h:ug W R e v):ug w' R e v:=hk R _ _ _ h (by decide)
theorem yX.op {W w':World} {R:Nat} {o:O14} (hk:yX W w') (h:xB W R o):xB w' R o:=hk R _ _ _ h (by decide)
theorem yq (w:World) (R:Nat) (x y:Value):zg (fun i=>i=R) w ((w.setCell ⟨R,0,none⟩ x).setCell ⟨R,1,none⟩ y) :=
 ((zg.refl (fun i=>i=R) w).setCell (p:=⟨R,0,none⟩) (fun _=>rfl) x).setCell (p:=⟨R,1,none⟩) (fun _=>rfl) y
theorem ug.nos17 {W:World} {R:Nat} {e:Int} {v:Value} (h:ug W R e v):fW W R:=xR h (fun s e=>by simp at e)
theorem zq.beside {W w1 w2:World} {H:Nat} {F:Nat→Prop} {s':H17} {R:Nat} (hg:zq W H F s' w1) {cs:Array Value} {X:TypeId} {fr:Nat×Nat} (hr:w1.heap[R]? = some (.cells cs X fr)) (hX:¬ TyF17 X) (hn:fW w1 R) (hlo:W.heap.size≤R) (ht:zg (fun i=>i=R) w1 w2):zq W H F s' w2:=by
 obtain ⟨F',h1,h2,h3⟩:=hg
 exact ⟨F',h1.turns ht (fun i hi e=>by subst e; exact hX (h1.ty hi hr)) (fun i e=>by subst e; exact hn),h2,h3.next ht (fun i hi e=>by subst e; omega)⟩
theorem zS.beside {w1 w2:World} {H:Nat} {F:Nat→Prop} {s:H17} {R:Nat} (h:zS w1 H F s) {cs:Array Value} {X:TypeId} {fr:Nat×Nat} (hr:w1.heap[R]? = some (.cells cs X fr)) (hX:¬ TyF17 X) (hn:fW w1 R) (ht:zg (fun i=>i=R) w1 w2):zS w2 H F s :=
 h.turns ht (fun i hi e=>by subst e; exact hX (h.ty hi hr)) (fun i e=>by subst e; exact hn)
def Vw (W:World) (H:Nat) (F:Nat→Prop) (s:H17) (cl:Nat) (o:O14) (en:Ending) (w':World):Prop :=
 ∃ A c,en=.returned (.agg #[.int .i64 (yv s cl o),.slice A (yS s cl o).length c])∧vB w' A (yS s cl o)∧zq W H F (xQ s cl o) w'
section
variable {W:World} {H:Nat} {F:Nat→Prop} {s:H17}
set_option maxRecDepth 100000 in
theorem answer17_bad (h:zS W H F s) (cl:Nat) (o:O14) (hl:yc W) (ha:o.a.size≤1000) (hb:o.b.size≤1000) (hc:uk o≠0) :
  Calls Tryz.prog 42 #[.pointer (some ⟨H,0,none⟩),.int .u8 (cl:Int),o.v] W (Vw W H F s cl o):=by
 have he:yv s cl o=uk o:=by unfold yv; rw [if_pos hc]
 have hs:xQ s cl o=s:=by unfold xQ; rw [if_pos hc]
 have ht:yS s cl o=[]:=by unfold yS; rw [he,if_neg hc]
 unfold Vw
 rw [he,hs,ht]
 have HCK:Hid (∀ W',Below W.heap.size W W'→Calls Tryz.prog 26 #[o.v] W' (zC (.int .i64 (uk o)) W')):=fun W' hW=>vV o W' (hl.later hW) ⟨by omega,by omega⟩
 have q:=HCK.out
 unfold O14.v O14.cells at HCK ⊢
 unfold zC at HCK
 have hb1:=ze (Below.refl _ W) (.cells #[.int .u8 o.kd.toNat,.string o.a,.string o.b,.int .u8 o.nd.toNat,.int .u8 o.rl.toNat] 47)
 have hb2:=ze hb1 (.cells #[.int .i64 0,.slice none 0 0] 56)
 have HR:Hid (ug ((W.alloc (.cells #[.int .u8 o.kd.toNat,.string o.a,.string o.b,.int .u8 o.nd.toNat,.int .u8 o.rl.toNat] 47)).alloc (.cells #[.int .i64 0,.slice none 0 0] 56)) (W.heap.size+1) 0 (.slice none 0 0)):=heap_alloc2_new W _ _
 have HRF:=za (fun (e:Int) W'=>yB e W')
 unfold zC at HRF
 have HB2:=za hb2
 have HH:=za h
 have hq:(uk o != 0)=true:=by simp [hc]
 clear hb1 hb2 h hl ha hb hc he hs ht q
 generalize uk o=ck at *
 go_enter Tryz.func42,Tryz.ntmps42
 go_wp2_with fail
 generalize (W.alloc (.cells #[.int .u8 o.kd.toNat,.string o.a,.string o.b,.int .u8 o.nd.toNat,.int .u8 o.rl.toNat] 47)).alloc (.cells #[.int .i64 0,.slice none 0 0] 56)=w2 at *
 with_reducible refine (HCK.out _ HB2.out).mono ?_
 rintro e w3 ⟨rfl,hb⟩
 have HB3:=za (zj HB2.out hb)
 have HR3:=za (HR.out.below hb)
 clear hb HCK HB2 HR
 go_wp2_with fail
 with_reducible refine (HRF.out _ _).mono ?_
 rintro e w4 ⟨rfl,hb⟩
 have HB4:=za (zj HB3.out hb)
 have hr4:=HR3.out.below hb
 have x0:=hr4.c0
 have x1:=hr4.c1
 have xf:=hr4.fr
 have HR4:=za hr4
 clear hb HRF HB3 HR3 hr4
 go_wp2
 refine bodyPost_ret (results_cell_row Tryz.results42 _ _ (W.heap.size+1) _ _ (0,0) _ rfl (HR4.out.setAll ck (.slice none 0 0)) Tryz.underlying56 rfl xA) rfl ⟨none,0,rfl,vB.none _ _,?_⟩
 exact (zq.still HH.out HB4.out).beside (R:=W.heap.size+1) HR4.out (by decide) HR4.out.nos17 (by omega) (yq _ _ _ _)
set_option maxRecDepth 100000 in
theorem answer17_no (h:zS W H F s) (hg:s.Good) (cl:Nat) (o:O14) (hl:yc W) (h5:vY W) (ha:o.a.size≤1000) (hb:o.b.size≤1000) (hc:uk o=0) (hr:zL s cl o≠0) :
  Calls Tryz.prog 42 #[.pointer (some ⟨H,0,none⟩),.int .u8 (cl:Int),o.v] W (Vw W H F s cl o):=by
 have hc0:¬ uk o≠0:=fun e=>e hc
 have he:yv s cl o=zL s cl o:=by unfold yv; rw [if_neg hc0]
 have hs:xQ s cl o=yt s cl o:=by unfold xQ; rw [if_neg hc0]
 have ht:yS s cl o=[]:=by unfold yS; rw [he,if_neg hr]
 unfold Vw
 rw [he,hs,ht]
 have HCK:Hid (∀ W',Below W.heap.size W W'→Calls Tryz.prog 26 #[o.v] W' (zC (.int .i64 0) W')):=fun W' hW=>by
  have:=vV o W' (hl.later hW) ⟨by omega,by omega⟩
  rwa [hc] at this
 have HDO:Hid (∀ W',Below W.heap.size W W'→Calls Tryz.prog 71 #[.pointer (some ⟨H,0,none⟩),.int .u8 (cl:Int),o.v] W' fun en w'=>∃ A n c,en=.returned (.tuple #[.slice A n c,.int .i64 (zL s cl o)])∧(zL s cl o=0→n=(xD s o).length∧vB w' A (xD s o))∧zq W H F (yt s cl o) w'∧yX W' w'):=fun W' hW =>
  (US (h.later hW) hg cl o (hl.later hW) (h5.later hW) (UU hc) ha hb).mono fun en w' ⟨A,n,c,h1,h2,h3⟩=>⟨A,n,c,h1,h2,h3.ahead hW,h3.keeps (h.later hW)⟩
 have HRF:=za (fun (e:Int) W'=>yB e W')
 unfold zC at HRF
 unfold O14.v O14.cells at HCK HDO ⊢
 unfold zC at HCK
 have hb1:=ze (Below.refl _ W) (.cells #[.int .u8 o.kd.toNat,.string o.a,.string o.b,.int .u8 o.nd.toNat,.int .u8 o.rl.toNat] 47)
 have hb2:=ze hb1 (.cells #[.int .i64 0,.slice none 0 0] 56)
 have HR:Hid (ug ((W.alloc (.cells #[.int .u8 o.kd.toNat,.string o.a,.string o.b,.int .u8 o.nd.toNat,.int .u8 o.rl.toNat] 47)).alloc (.cells #[.int .i64 0,.slice none 0 0] 56)) (W.heap.size+1) 0 (.slice none 0 0)):=heap_alloc2_new W _ _
 have HO:Hid (xB ((W.alloc (.cells #[.int .u8 o.kd.toNat,.string o.a,.string o.b,.int .u8 o.nd.toNat,.int .u8 o.rl.toNat] 47)).alloc (.cells #[.int .i64 0,.slice none 0 0] 56)) W.heap.size o):=by
  have ho:xB (W.alloc (.cells #[.int .u8 o.kd.toNat,.string o.a,.string o.b,.int .u8 o.nd.toNat,.int .u8 o.rl.toNat] 47)) W.heap.size o:=heap_alloc_new W _
  exact ho.below (ze (Below.refl _ _) _)
 have HB2:=za hb2
 have HER:Hid (zL s cl o≠0):=hr
 have hq:(zL s cl o != 0)=true:=by simp [hr]
 clear hb1 hb2 h hl ha hb hc he hs ht hc0 hg h5 hr
 generalize xD s o=t0 at *
 generalize zL s cl o=er at *
 generalize yt s cl o=s' at *
 go_enter Tryz.func42,Tryz.ntmps42
 go_wp2_with fail
 generalize (W.alloc (.cells #[.int .u8 o.kd.toNat,.string o.a,.string o.b,.int .u8 o.nd.toNat,.int .u8 o.rl.toNat] 47)).alloc (.cells #[.int .i64 0,.slice none 0 0] 56)=w2 at *
 with_reducible refine (HCK.out _ HB2.out).mono ?_
 rintro e w3 ⟨rfl,hb⟩
 have HB3:=za (zj HB2.out hb)
 have HR3:=za (HR.out.below hb)
 have ho3:=HO.out.below hb
 have y0:=ho3.c0
 have y1:=ho3.c1
 have y2:=ho3.c2
 have y3:=ho3.c3
 have y4:=ho3.c4
 clear hb HCK HB2 HR HO ho3
 go_wp2_with fail
 with_reducible refine (HDO.out _ HB3.out).mono ?_
 rintro e w4 ⟨A5,n5,c5,rfl,htx,hgo,hkp⟩
 have hr4:=hkp.rep HR3.out
 have HR4:=za hr4
 have HGO:=za hgo
 have HHS:=za hkp
 clear htx hgo hkp HDO HB3 HR3 hr4 y0 y1 y2 y3 y4
 go_wp2_with fail
 with_reducible refine (HRF.out _ _).mono ?_
 rintro e w5 ⟨rfl,hb⟩
 have hr5:=HR4.out.below hb
 have x0:=hr5.c0
 have x1:=hr5.c1
 have xf:=hr5.fr
 have HR5:=za hr5
 have HGO5:=za (HGO.out.behind hb)
 clear hb HRF HR4 HGO hr5
 go_wp2
 refine bodyPost_ret (results_cell_row Tryz.results42 _ _ (W.heap.size+1) _ _ (0,0) _ rfl (HR5.out.setAll er (.slice none 0 0)) Tryz.underlying56 rfl xA) rfl ⟨none,0,rfl,vB.none _ _,?_⟩
 exact HGO5.out.beside (R:=W.heap.size+1) HR5.out (by decide) HR5.out.nos17 (by omega) (yq _ _ _ _)
set_option maxRecDepth 100000 in
theorem answer17_yes (h:zS W H F s) (hg:s.Good) (cl:Nat) (o:O14) (hl:yc W) (h5:vY W) (ha:o.a.size≤1000) (hb:o.b.size≤1000) (hc:uk o=0) (hr:zL s cl o=0) :
  Calls Tryz.prog 42 #[.pointer (some ⟨H,0,none⟩),.int .u8 (cl:Int),o.v] W (Vw W H F s cl o):=by
 have hc0:¬ uk o≠0:=fun e=>e hc
 have he:yv s cl o=zL s cl o:=by unfold yv; rw [if_neg hc0]
 have hs:xQ s cl o=yt s cl o:=by unfold xQ; rw [if_neg hc0]
 have ht:yS s cl o=xD s o:=by unfold yS; rw [he,if_pos hr]
 unfold Vw
 rw [he,hs,ht]
 have HCK:Hid (∀ W',Below W.heap.size W W'→Calls Tryz.prog 26 #[o.v] W' (zC (.int .i64 0) W')):=fun W' hW=>by
  have:=vV o W' (hl.later hW) ⟨by omega,by omega⟩
  rwa [hc] at this
 have HDO:Hid (∀ W',Below W.heap.size W W'→Calls Tryz.prog 71 #[.pointer (some ⟨H,0,none⟩),.int .u8 (cl:Int),o.v] W' fun en w'=>∃ A n c,en=.returned (.tuple #[.slice A n c,.int .i64 (zL s cl o)])∧(zL s cl o=0→n=(xD s o).length∧vB w' A (xD s o))∧zq W H F (yt s cl o) w'∧yX W' w'):=fun W' hW =>
  (US (h.later hW) hg cl o (hl.later hW) (h5.later hW) (UU hc) ha hb).mono fun en w' ⟨A,n,c,h1,h2,h3⟩=>⟨A,n,c,h1,h2,h3.ahead hW,h3.keeps (h.later hW)⟩
 have HRF:=za (fun (e:Int) W'=>yB e W')
 unfold zC at HRF
 unfold O14.v O14.cells at HCK HDO ⊢
 unfold zC at HCK
 have hb1:=ze (Below.refl _ W) (.cells #[.int .u8 o.kd.toNat,.string o.a,.string o.b,.int .u8 o.nd.toNat,.int .u8 o.rl.toNat] 47)
 have hb2:=ze hb1 (.cells #[.int .i64 0,.slice none 0 0] 56)
 have HR:Hid (ug ((W.alloc (.cells #[.int .u8 o.kd.toNat,.string o.a,.string o.b,.int .u8 o.nd.toNat,.int .u8 o.rl.toNat] 47)).alloc (.cells #[.int .i64 0,.slice none 0 0] 56)) (W.heap.size+1) 0 (.slice none 0 0)):=heap_alloc2_new W _ _
 have HO:Hid (xB ((W.alloc (.cells #[.int .u8 o.kd.toNat,.string o.a,.string o.b,.int .u8 o.nd.toNat,.int .u8 o.rl.toNat] 47)).alloc (.cells #[.int .i64 0,.slice none 0 0] 56)) W.heap.size o):=by
  have ho:xB (W.alloc (.cells #[.int .u8 o.kd.toNat,.string o.a,.string o.b,.int .u8 o.nd.toNat,.int .u8 o.rl.toNat] 47)) W.heap.size o:=heap_alloc_new W _
  exact ho.below (ze (Below.refl _ _) _)
 have HB2:=za hb2
 have HER:Hid (zL s cl o=0):=hr
 have hq:(zL s cl o != 0)=false:=by simp [hr]
 clear hb1 hb2 h hl ha hb hc he hs ht hc0 hg h5 hr
 generalize xD s o=t0 at *
 generalize zL s cl o=er at *
 generalize yt s cl o=s' at *
 go_enter Tryz.func42,Tryz.ntmps42
 go_wp2_with fail
 generalize (W.alloc (.cells #[.int .u8 o.kd.toNat,.string o.a,.string o.b,.int .u8 o.nd.toNat,.int .u8 o.rl.toNat] 47)).alloc (.cells #[.int .i64 0,.slice none 0 0] 56)=w2 at *
 with_reducible refine (HCK.out _ HB2.out).mono ?_
 rintro e w3 ⟨rfl,hb⟩
 have HB3:=za (zj HB2.out hb)
 have HR3:=za (HR.out.below hb)
 have ho3:=HO.out.below hb
 have y0:=ho3.c0
 have y1:=ho3.c1
 have y2:=ho3.c2
 have y3:=ho3.c3
 have y4:=ho3.c4
 clear hb HCK HB2 HR HO ho3
 go_wp2_with fail
 with_reducible refine (HDO.out _ HB3.out).mono ?_
 rintro e w4 ⟨A5,n5,c5,rfl,htx,hgo,hkp⟩
 have hr4:=hkp.rep HR3.out
 obtain ⟨hn5,htx5⟩:=htx HER.out
 have er0:er=0:=HER.out
 have x0:=hr4.c0
 have x1:=hr4.c1
 have xf:=hr4.fr
 have HR4:=za hr4
 have HGO:=za hgo
 have HTX:=za htx5
 have HN5:=za hn5
 have HE0:=za er0
 clear htx hgo hkp HDO HB3 HR3 hr4 htx5 hn5 er0 y0 y1 y2 y3 y4 HRF
 go_wp2
 refine bodyPost_ret (results_cell_row Tryz.results42 _ _ (W.heap.size+1) _ _ (0,0) _ rfl (HR4.out.setAll 0 (.slice A5 n5 c5)) Tryz.underlying56 rfl xA) rfl ⟨A5,c5,by rw [HE0.out,HN5.out],?_,?_⟩
 ·
  exact HTX.out.turns (yq _ _ _ _) (fun i e=>by rw [e]; exact HR4.out.nos17)
 ·
  exact HGO.out.beside (R:=W.heap.size+1) HR4.out (by decide) HR4.out.nos17 (by omega) (yq _ _ _ _)
theorem fx (h:zS W H F s) (hg:s.Good) (cl:Nat) (o:O14) (hl:yc W) (h5:vY W) (ha:o.a.size≤1000) (hb:o.b.size≤1000) :
  Calls Tryz.prog 42 #[.pointer (some ⟨H,0,none⟩),.int .u8 (cl:Int),o.v] W (Vw W H F s cl o):=by
 by_cases hc:uk o=0
 ·
  by_cases hr:zL s cl o=0
  ·
   exact answer17_yes h hg cl o hl h5 ha hb hc hr
  ·
   exact answer17_no h hg cl o hl h5 ha hb hc hr
 ·
  exact answer17_bad h cl o hl ha hb hc
end
end Go.Proofs.YteegkoicalbkbaaGreatDoor
namespace Go.Proofs.YteegkoicalbkbaaGreatDoor

def fU (l:List (List UInt8)):Prop:=l.length≤14∧∀ t∈l,t.length≤50
theorem fU.nil:fU []:=⟨Nat.zero_le _,fun t ht=>by cases ht⟩
theorem fU.one {t:List UInt8} (h:t.length≤50):fU [t]:=⟨by simp,fun x hx=>by rw [List.mem_singleton.1 hx]; exact h⟩
theorem UL {l:List UInt8} (h:yj l=true):l.length≤12:=by
 unfold yj at h
 simp at h
 omega
theorem UN {L:zl} {k:List UInt8} (h:yM L k≠[]):(k,yM L k)∈L:=Ya rfl h
theorem XF {V:Type} {L:yT V} (hl:L.length≤12) (hn:∀ p∈L,zh p.1=true) (f:List UInt8→Bool):fU ((zc L).filter f):=by
 refine ⟨Nat.le_trans (List.length_filter_le _ _) (by unfold zc; rw [List.length_map]; omega),fun t ht=>?_⟩
 obtain ⟨p,hp,rfl⟩:=List.mem_map.1 (List.mem_filter.1 ht).1
 have:=jD (hn p hp)
 omega
theorem oT17_few {E:zl} (h:xe E) (kd:Nat) (a:List UInt8):fU (oT17 kd E a):=by
 unfold oT17
 split
 ·
  exact fU.nil
 ·
  split
  ·
   refine fU.one ?_
   unfold loS
   split
   ·
    by_cases h0:yM E a=[]
    ·
     rw [h0]; exact Nat.zero_le _
    ·
     have:=UL (h.all _ (UN h0)).2
     exact Nat.le_trans this (by decide)
   ·
    exact Nat.zero_le _
  ·
   unfold liL
   split
   ·
    exact XF (V:=List UInt8) (L:=E) h.few (fun p hp=>(h.all p hp).1) _
   ·
    exact fU.nil
theorem nT17_few {A:zu} {L:zl} {S:zo} (h:zn A L S 12) (kd:Nat) (a:List UInt8):fU (nT17 kd A L S a):=by
 have hme:fU (fI S a):=by
  unfold fI
  split
  ·
   rename_i h0
   have hh:∃ p∈S,p.1=a:=by
    unfold qg zZ at h0
    split at h0
    ·
     split at h0
     ·
      exact xV.1 (by assumption)
     ·
      cases h0
    ·
     cases h0
   obtain ⟨p,hp,rfl⟩:=hh
   rw [qv h.grp.rise hp]
   refine ⟨by unfold zc; rw [List.length_map]; have:=h.grp.little p hp; omega,fun t ht=>?_⟩
   obtain ⟨m,hm,rfl⟩:=List.mem_map.1 ht
   have:=jD (h.grp.whos p hp m hm)
   omega
  ·
   exact fU.nil
 match kd with
 | 0=>exact fU.nil
 | 1=>exact fU.nil
 | 2=>exact fU.nil
 | 3 =>
  show fU (match qn (zm A L S) a with
   | some u=>us17 u
   | none=>[])
  rw [yH h.rise]
  cases ha:qn A a with
  | none=>exact fU.nil
  | some x =>
   have hx:=(yl (k:=a) (v:=x) h.rise).1 ha
   show fU (us17 (xP L S a x))
   unfold us17 xP
   refine ⟨?_,fun t ht=>?_⟩
   ·
    have h1:=ZV S a
    have h2:=h.grp.few
    rw [List.length_append]
    show 3+(xc S a).length≤14
    omega
   ·
    rcases List.mem_append.1 ht with ht | ht
    ·
     simp only [List.mem_cons,List.not_mem_nil,or_false] at ht
     rcases ht with rfl | rfl | rfl
     ·
      have:=UL (h.nm _ hx).2
      exact Nat.le_trans this (by decide)
     ·
      by_cases h0:yM L a=[]
      ·
       rw [h0]; exact Nat.zero_le _
      ·
       have:=Zg (h.all _ (UN h0)).2.1
       exact Nat.le_trans this (by decide)
     ·
      split <;> decide
    ·
     have hg:=jW ht
     obtain ⟨p,hp,rfl⟩:=List.mem_map.1 hg
     have:=jD (h.grp.named p hp)
     omega
 | 4 =>
  show fU (QM (zc (zm A L S)) a)
  unfold QM
  split
  ·
   rw [qM]
   exact XF h.few (fun p hp=>(h.nm p hp).1) _
  ·
   exact fU.nil
 | 5=>exact fU.nil
 | 6=>exact fU.nil
 | 7=>exact fU.nil
 | 8=>exact fU.nil
 | 9=>exact fU.nil
 | 10=>exact fU.nil
 | 11=>exact fU.nil
 | 12=>exact fU.nil
 | 13 =>
  refine fU.one ?_
  show (fiS9 L a).length≤50
  unfold fiS9
  split
  ·
   unfold Vy
   split
   ·
    rename_i p hp
    have hm:=List.mem_of_find?_eq_some hp
    have:=jD (h.all p hm).1
    omega
   ·
    exact Nat.zero_le _
  ·
   exact Nat.zero_le _
 | 14=>exact hme
 | _+15=>exact fU.nil
theorem dT17_few {d:D17} (h:d.Good) (kd:Nat) (a:List UInt8):fU (xI d kd a):=by
 cases d with
 | old E=>exact oT17_few h kd a
 | new A L S=>exact nT17_few h kd a
section
variable {s:H17}
theorem Yg (h:s.Good) (cl:Nat) (o:O14):(yS s cl o).length≤14∧∀ t∈yS s cl o,t.size≤50:=by
 unfold yS
 split
 ·
  unfold xD
  split
  ·
   obtain ⟨h1,h2⟩:=dT17_few h.d o.kd.toNat o.a.data.toList
   refine ⟨by rw [List.length_map]; exact h1,fun t ht=>?_⟩
   obtain ⟨l,hl,rfl⟩:=List.mem_map.1 ht
   rw [Z4]
   exact h2 l hl
  ·
   exact ⟨Nat.zero_le _,fun t ht=>by cases ht⟩
 ·
  exact ⟨Nat.zero_le _,fun t ht=>by cases ht⟩
theorem runE17_few (s:H17) (cl:Nat) (o:O14):0≤zL s cl o∧zL s cl o≤18:=by
 unfold zL
 split
 ·
  decide
 ·
  split
  ·
   split
   ·
    split <;> decide
   ·
    decide
  ·
   split
   ·
    split
    ·
     unfold Zt
     split <;> decide
    ·
     decide
   ·
    exact (dE17_er _ _ _ _).ne.2
theorem ansE17_few (s:H17) (cl:Nat) (o:O14):0≤yv s cl o∧yv s cl o≤18:=by
 unfold yv
 split
 ·
  unfold uk
  split
  ·
   split <;> decide
  ·
   decide
 ·
  exact runE17_few s cl o
theorem uS (s:H17) (cl:Nat) (o:O14):(((yv s cl o).toNat:Nat):Int)=yv s cl o∧(yv s cl o).toNat≤18:=by
 have:=ansE17_few s cl o
 omega
theorem runS17_X (s:H17) (cl:Nat) (o:O14):(yt s cl o).X=s.X:=by
 unfold yt
 split
 ·
  rfl
 ·
  split
  ·
   rfl
  ·
   split <;> rfl
theorem ansS17_X (s:H17) (cl:Nat) (o:O14):(xQ s cl o).X=s.X:=by
 unfold xQ
 split
 ·
  rfl
 ·
  exact runS17_X s cl o
theorem H17.Good.run (h:s.Good) (cl:Nat) (o:O14):(yt s cl o).Good:=by
 unfold yt
 split
 ·
  exact h
 ·
  split
  ·
   exact ⟨h.d.up,h.b,h.x⟩
  ·
   split
   ·
    rename_i h1 h2 h3
    refine ⟨h.d,h.b.note _ ?_,h.x⟩
    exact UInt8.toNat_lt o.rl
   ·
    exact ⟨h.d.deed _ _ _,h.b,h.x⟩
theorem H17.Good.ans (h:s.Good) (cl:Nat) (o:O14):(xQ s cl o).Good:=by
 unfold xQ
 split
 ·
  exact h
 ·
  exact h.run cl o
theorem H17.Good.put (h:s.Good) {cl n e:Nat} {ss:List ByteArray} (he:e≤18) (hs:ss.length≤14∧∀ t∈ss,t.size≤50):H17.Good { s with X:=vJ s.X cl n e ss }:=by
 refine ⟨h.d,h.b,fun i hi=>?_⟩
 show MayP15 (vJ s.X cl n e ss i)
 unfold vJ
 split
 ·
  rename_i hj
  have h3:=jP hj.2
  refine ⟨h3.2.2.1,he,fun h0=>?_,fun h0=>?_,?_,?_⟩
  ·
   have:n=0:=h0
   omega
  ·
   show yP e ss=[]
   unfold yP
   have:e≠0:=h0
   rw [if_neg (by omega)]
  ·
   show (yP e ss).length≤14
   unfold yP
   split
   ·
    exact hs.1
   ·
    exact Nat.zero_le _
  ·
   show ∀ t∈yP e ss,t.size≤50
   unfold yP
   split
   ·
    exact hs.2
   ·
    intro t ht; cases ht
 ·
  exact h.x i hi
theorem H17.Good.app (h:s.Good) (cl n:Nat) (o:O14):(zF s cl n o).Good:=by
 unfold zF
 split
 ·
  split
  ·
   exact h.ans 255 o
  ·
   have:=(h.ans cl o).put (cl:=cl) (n:=n) (uS s cl o).2 (Yg h cl o)
   rwa [ansS17_X] at this
 ·
  exact h
theorem new17_good {n:Nat} (hn:XN n=true):(VL n).Good:=⟨xe.nil,qS.new hn,fun _ _=>ZZ.p⟩
end
end Go.Proofs.YteegkoicalbkbaaGreatDoor
namespace Go.Proofs.YteegkoicalbkbaaGreatDoor
open Go.RowKit Go.Maps
set_option linter.unusedVariables false

def zM (w:World) (R cl n:Nat) (o:O14):Prop:=w.heap[R]? = some (.cells #[.int .u8 (cl:Int),.int .u64 (n:Int),.int .u8 o.kd.toNat,.string o.a,.string o.b,.int .u8 o.nd.toNat,.int .u8 o.rl.toNat] 49 (0,0))
section
variable {w w':World} {R cl n:Nat} {o:O14}
theorem zM.lt (h:zM w R cl n o):R<w.heap.size:=(Array.getElem?_eq_some_iff.1 h).1
theorem zM.below (h:zM w R cl n o) (hb:Below w.heap.size w w'):zM w' R cl n o:=(hb.block R h.lt).trans h
theorem zM.turns {S:Nat→Prop} (h:zM w R cl n o) (ht:zg S w w') (hn:¬ S R):zM w' R cl n o:=(ht.block R h.lt hn).trans h
theorem zM.c0 (h:zM w R cl n o):w.cell? ⟨R,0,none⟩=some (.int .u8 (cl:Int)):=by rw [cell_of_row w R 0 _ _ (0,0) h]; rfl
theorem zM.c1 (h:zM w R cl n o):w.cell? ⟨R,1,none⟩=some (.int .u64 (n:Int)):=by rw [cell_of_row w R 1 _ _ (0,0) h]; rfl
theorem zM.c2 (h:zM w R cl n o):w.cell? ⟨R,2,none⟩=some (.int .u8 o.kd.toNat):=by rw [cell_of_row w R 2 _ _ (0,0) h]; rfl
theorem zM.c3 (h:zM w R cl n o):w.cell? ⟨R,3,none⟩=some (.string o.a):=by rw [cell_of_row w R 3 _ _ (0,0) h]; rfl
theorem zM.c4 (h:zM w R cl n o):w.cell? ⟨R,4,none⟩=some (.string o.b):=by rw [cell_of_row w R 4 _ _ (0,0) h]; rfl
theorem zM.c5 (h:zM w R cl n o):w.cell? ⟨R,5,none⟩=some (.int .u8 o.nd.toNat):=by rw [cell_of_row w R 5 _ _ (0,0) h]; rfl
theorem zM.c6 (h:zM w R cl n o):w.cell? ⟨R,6,none⟩=some (.int .u8 o.rl.toNat):=by rw [cell_of_row w R 6 _ _ (0,0) h]; rfl
theorem yX.rq {W:World} (hk:yX W w') (h:zM W R cl n o):zM w' R cl n o:=hk R _ _ _ h (by decide)
end
def vP (W:World) (H:Nat) (F:Nat→Prop) (s:H17) (cl n:Nat) (o:O14) (en:Ending) (w':World):Prop :=
 ∃ A c,en=.returned (.tuple #[.agg #[.int .i64 (yu s cl n o),.slice A (yZ s cl n o).length c],.bool (zY s cl n o)])∧vB w' A (yZ s cl n o)∧zq W H F (zF s cl n o) w'
theorem ansT17_sys (s:H17) (o:O14) (hk:o.kd.toNat=16):yS s 255 o=[]:=by
 unfold yS
 split
 ·
  unfold xD; rw [if_neg (by omega)]
 ·
  rfl
theorem J17 {T:Nat→R15} {X:Nat→P15} (h:∀ i,i<8→(T i).p=X i) (c n:Nat):J15 (qT T c).n c n=J15 (X c).n c n:=by
 rw [getT_n15]
 by_cases hc:c<8
 ·
  rw [show (T c).n=(X c).n from congrArg P15.n (h c hc)]
 ·
  unfold J15
  rw [if_neg (fun e=>hc e.1),if_neg (fun e=>hc e.1)]
section
variable {W:World} {H:Nat} {F:Nat→Prop} {s:H17}
set_option maxRecDepth 100000 in
theorem hear17_bad1 (h:zS W H F s) (n:Nat) (o:O14) (hn:n≠0):Calls Tryz.prog 38 #[.pointer (some ⟨H,0,none⟩),.agg #[.int .u8 255,.int .u64 (n:Int),.int .u8 o.kd.toNat,.string o.a,.string o.b,.int .u8 o.nd.toNat,.int .u8 o.rl.toNat]] W (vP W H F s 255 n o):=by
 have hB:zY s 255 n o=false:=by unfold zY; rw [if_pos rfl]; simp [hn]
 have hE:yu s 255 n o=1:=by unfold yu; rw [if_pos rfl,hB]; rfl
 have hT:yZ s 255 n o=[]:=by unfold yZ; rw [if_pos rfl]
 have hS:zF s 255 n o=s:=by unfold zF; rw [hB]; rfl
 unfold vP
 rw [hB,hE,hT,hS]
 have hb1:=ze (Below.refl _ W) (.cells #[.int .u8 255,.int .u64 (n:Int),.int .u8 o.kd.toNat,.string o.a,.string o.b,.int .u8 o.nd.toNat,.int .u8 o.rl.toNat] 49)
 have hb2:=ze hb1 (.cells #[.int .i64 0,.slice none 0 0] 56)
 have HR:Hid (ug ((W.alloc (.cells #[.int .u8 255,.int .u64 (n:Int),.int .u8 o.kd.toNat,.string o.a,.string o.b,.int .u8 o.nd.toNat,.int .u8 o.rl.toNat] 49)).alloc (.cells #[.int .i64 0,.slice none 0 0] 56)) (W.heap.size+1) 0 (.slice none 0 0)):=heap_alloc2_new W _ _
 have HO:Hid (zM ((W.alloc (.cells #[.int .u8 255,.int .u64 (n:Int),.int .u8 o.kd.toNat,.string o.a,.string o.b,.int .u8 o.nd.toNat,.int .u8 o.rl.toNat] 49)).alloc (.cells #[.int .i64 0,.slice none 0 0] 56)) W.heap.size 255 n o):=by
  have ho:zM (W.alloc (.cells #[.int .u8 255,.int .u64 (n:Int),.int .u8 o.kd.toNat,.string o.a,.string o.b,.int .u8 o.nd.toNat,.int .u8 o.rl.toNat] 49)) W.heap.size 255 n o:=heap_alloc_new W _
  exact ho.below (ze (Below.refl _ _) _)
 have HB2:=za hb2
 have HRF:=za (fun W'=>yB 1 W')
 unfold zC at HRF
 have HH:=za h
 have hq:((n:Int) != 0)=true:=by simp; omega
 clear h hn hB hE hT hS hb1 hb2
 go_enter Tryz.func38,Tryz.ntmps38
 go_wp2_with fail
 generalize (W.alloc (.cells #[.int .u8 255,.int .u64 (n:Int),.int .u8 o.kd.toNat,.string o.a,.string o.b,.int .u8 o.nd.toNat,.int .u8 o.rl.toNat] 49)).alloc (.cells #[.int .i64 0,.slice none 0 0] 56)=w2 at *
 with_reducible refine (HRF.out _).mono ?_
 rintro e w5 ⟨rfl,hb⟩
 have hr5:=HR.out.below hb
 have x0:=hr5.c0
 have x1:=hr5.c1
 have xf:=hr5.fr
 have HR5:=za hr5
 have HB5:=za (zj HB2.out hb)
 clear hb HRF hr5
 go_wp2
 refine bodyPost_ret (yV Tryz.results38 _ _ (W.heap.size+1) _ _ (0,0) _ rfl (HR5.out.setAll 1 (.slice none 0 0)) Tryz.underlying56 rfl xA) rfl ⟨none,0,rfl,vB.none _ _,?_⟩
 exact (zq.still HH.out HB5.out).beside (R:=W.heap.size+1) HR5.out (by decide) HR5.out.nos17 (by omega) (yq _ _ _ _)
set_option maxRecDepth 100000 in
theorem hear17_bad2 (h:zS W H F s) (n:Nat) (o:O14) (hn:n=0) (hk:o.kd.toNat≠16):Calls Tryz.prog 38 #[.pointer (some ⟨H,0,none⟩),.agg #[.int .u8 255,.int .u64 (n:Int),.int .u8 o.kd.toNat,.string o.a,.string o.b,.int .u8 o.nd.toNat,.int .u8 o.rl.toNat]] W (vP W H F s 255 n o):=by
 have hB:zY s 255 n o=false:=by unfold zY; rw [if_pos rfl]; simp [hk]
 have hE:yu s 255 n o=1:=by unfold yu; rw [if_pos rfl,hB]; rfl
 have hT:yZ s 255 n o=[]:=by unfold yZ; rw [if_pos rfl]
 have hS:zF s 255 n o=s:=by unfold zF; rw [hB]; rfl
 unfold vP
 rw [hB,hE,hT,hS]
 have hb1:=ze (Below.refl _ W) (.cells #[.int .u8 255,.int .u64 (n:Int),.int .u8 o.kd.toNat,.string o.a,.string o.b,.int .u8 o.nd.toNat,.int .u8 o.rl.toNat] 49)
 have hb2:=ze hb1 (.cells #[.int .i64 0,.slice none 0 0] 56)
 have HR:Hid (ug ((W.alloc (.cells #[.int .u8 255,.int .u64 (n:Int),.int .u8 o.kd.toNat,.string o.a,.string o.b,.int .u8 o.nd.toNat,.int .u8 o.rl.toNat] 49)).alloc (.cells #[.int .i64 0,.slice none 0 0] 56)) (W.heap.size+1) 0 (.slice none 0 0)):=heap_alloc2_new W _ _
 have HO:Hid (zM ((W.alloc (.cells #[.int .u8 255,.int .u64 (n:Int),.int .u8 o.kd.toNat,.string o.a,.string o.b,.int .u8 o.nd.toNat,.int .u8 o.rl.toNat] 49)).alloc (.cells #[.int .i64 0,.slice none 0 0] 56)) W.heap.size 255 n o):=by
  have ho:zM (W.alloc (.cells #[.int .u8 255,.int .u64 (n:Int),.int .u8 o.kd.toNat,.string o.a,.string o.b,.int .u8 o.nd.toNat,.int .u8 o.rl.toNat] 49)) W.heap.size 255 n o:=heap_alloc_new W _
  exact ho.below (ze (Below.refl _ _) _)
 have HB2:=za hb2
 have HRF:=za (fun W'=>yB 1 W')
 unfold zC at HRF
 have HH:=za h
 have HN:=za hn
 have hq:((n:Int) != 0)=false:=by rw [HN.out]; rfl
 have hq2:((o.kd.toNat:Int) != 16)=true:=by simp; omega
 clear h hn hB hE hT hS hb1 hb2 hk
 go_enter Tryz.func38,Tryz.ntmps38
 go_wp2_with fail
 generalize (W.alloc (.cells #[.int .u8 255,.int .u64 (n:Int),.int .u8 o.kd.toNat,.string o.a,.string o.b,.int .u8 o.nd.toNat,.int .u8 o.rl.toNat] 49)).alloc (.cells #[.int .i64 0,.slice none 0 0] 56)=w2 at *
 with_reducible refine (HRF.out _).mono ?_
 rintro e w5 ⟨rfl,hb⟩
 have hr5:=HR.out.below hb
 have x0:=hr5.c0
 have x1:=hr5.c1
 have xf:=hr5.fr
 have HR5:=za hr5
 have HB5:=za (zj HB2.out hb)
 clear hb HRF hr5
 go_wp2
 refine bodyPost_ret (yV Tryz.results38 _ _ (W.heap.size+1) _ _ (0,0) _ rfl (HR5.out.setAll 1 (.slice none 0 0)) Tryz.underlying56 rfl xA) rfl ⟨none,0,rfl,vB.none _ _,?_⟩
 exact (zq.still HH.out HB5.out).beside (R:=W.heap.size+1) HR5.out (by decide) HR5.out.nos17 (by omega) (yq _ _ _ _)
set_option maxRecDepth 100000 in
theorem hear17_bad3 (h:zS W H F s) (n:Nat) (o:O14) (hn:n=0) (hk:o.kd.toNat=16) (hc:uk o≠0) (hl:yc W) (ha:o.a.size≤1000) (hb:o.b.size≤1000):Calls Tryz.prog 38 #[.pointer (some ⟨H,0,none⟩),.agg #[.int .u8 255,.int .u64 (n:Int),.int .u8 o.kd.toNat,.string o.a,.string o.b,.int .u8 o.nd.toNat,.int .u8 o.rl.toNat]] W (vP W H F s 255 n o):=by
 have hB:zY s 255 n o=false:=by unfold zY; rw [if_pos rfl]; simp [hc]
 have hE:yu s 255 n o=1:=by unfold yu; rw [if_pos rfl,hB]; rfl
 have hT:yZ s 255 n o=[]:=by unfold yZ; rw [if_pos rfl]
 have hS:zF s 255 n o=s:=by unfold zF; rw [hB]; rfl
 unfold vP
 rw [hB,hE,hT,hS]
 have hb1:=ze (Below.refl _ W) (.cells #[.int .u8 255,.int .u64 (n:Int),.int .u8 o.kd.toNat,.string o.a,.string o.b,.int .u8 o.nd.toNat,.int .u8 o.rl.toNat] 49)
 have hb2:=ze hb1 (.cells #[.int .i64 0,.slice none 0 0] 56)
 have HR:Hid (ug ((W.alloc (.cells #[.int .u8 255,.int .u64 (n:Int),.int .u8 o.kd.toNat,.string o.a,.string o.b,.int .u8 o.nd.toNat,.int .u8 o.rl.toNat] 49)).alloc (.cells #[.int .i64 0,.slice none 0 0] 56)) (W.heap.size+1) 0 (.slice none 0 0)):=heap_alloc2_new W _ _
 have HO:Hid (zM ((W.alloc (.cells #[.int .u8 255,.int .u64 (n:Int),.int .u8 o.kd.toNat,.string o.a,.string o.b,.int .u8 o.nd.toNat,.int .u8 o.rl.toNat] 49)).alloc (.cells #[.int .i64 0,.slice none 0 0] 56)) W.heap.size 255 n o):=by
  have ho:zM (W.alloc (.cells #[.int .u8 255,.int .u64 (n:Int),.int .u8 o.kd.toNat,.string o.a,.string o.b,.int .u8 o.nd.toNat,.int .u8 o.rl.toNat] 49)) W.heap.size 255 n o:=heap_alloc_new W _
  exact ho.below (ze (Below.refl _ _) _)
 have HB2:=za hb2
 have HRF:=za (fun W'=>yB 1 W')
 unfold zC at HRF
 have HH:=za h
 have HN:=za hn
 have hq:((n:Int) != 0)=false:=by rw [HN.out]; rfl
 have HKD:=za hk
 have hq2:((o.kd.toNat:Int) != 16)=false:=by rw [HKD.out]; rfl
 have HCK:Hid (∀ W',Below W.heap.size W W'→Calls Tryz.prog 26 #[o.v] W' (zC (.int .i64 (uk o)) W')):=fun W' hW=>vV o W' (hl.later hW) ⟨by omega,by omega⟩
 unfold O14.v O14.cells at HCK
 unfold zC at HCK
 have hq3:(uk o != 0)=true:=by simp [hc]
 clear hl ha hb
 clear h hn hB hE hT hS hb1 hb2 hk hc
 generalize uk o=ck at *
 go_enter Tryz.func38,Tryz.ntmps38
 go_wp2_with fail
 generalize (W.alloc (.cells #[.int .u8 255,.int .u64 (n:Int),.int .u8 o.kd.toNat,.string o.a,.string o.b,.int .u8 o.nd.toNat,.int .u8 o.rl.toNat] 49)).alloc (.cells #[.int .i64 0,.slice none 0 0] 56)=w2 at *
 with_reducible refine (HCK.out _ HB2.out).mono ?_
 rintro e w3 ⟨rfl,hb⟩
 have HB3:=za (zj HB2.out hb)
 have HR3:=za (HR.out.below hb)
 clear hb HCK HB2 HR
 go_wp2_with fail
 with_reducible refine (HRF.out _).mono ?_
 rintro e w5 ⟨rfl,hb⟩
 have hr5:=HR3.out.below hb
 have x0:=hr5.c0
 have x1:=hr5.c1
 have xf:=hr5.fr
 have HR5:=za hr5
 have HB5:=za (zj HB3.out hb)
 clear hb HRF hr5
 go_wp2
 refine bodyPost_ret (yV Tryz.results38 _ _ (W.heap.size+1) _ _ (0,0) _ rfl (HR5.out.setAll 1 (.slice none 0 0)) Tryz.underlying56 rfl xA) rfl ⟨none,0,rfl,vB.none _ _,?_⟩
 exact (zq.still HH.out HB5.out).beside (R:=W.heap.size+1) HR5.out (by decide) HR5.out.nos17 (by omega) (yq _ _ _ _)
set_option maxRecDepth 100000 in
theorem hear17_good (h:zS W H F s) (hg:s.Good) (n:Nat) (o:O14) (hn:n=0) (hk:o.kd.toNat=16) (hc:uk o=0) (hl:yc W) (h5:vY W) (ha:o.a.size≤1000) (hb:o.b.size≤1000):Calls Tryz.prog 38 #[.pointer (some ⟨H,0,none⟩),.agg #[.int .u8 255,.int .u64 (n:Int),.int .u8 o.kd.toNat,.string o.a,.string o.b,.int .u8 o.nd.toNat,.int .u8 o.rl.toNat]] W (vP W H F s 255 n o):=by
 have hB:zY s 255 n o=true:=by unfold zY; rw [if_pos rfl]; simp [hn,hk,hc]
 have hE:yu s 255 n o=yv s 255 o:=by unfold yu; rw [if_pos rfl,hB]; rfl
 have hT:yZ s 255 n o=[]:=by unfold yZ; rw [if_pos rfl]
 have hS:zF s 255 n o=xQ s 255 o:=by unfold zF; rw [hB]; rfl
 unfold vP
 rw [hB,hE,hT,hS]
 have hb1:=ze (Below.refl _ W) (.cells #[.int .u8 255,.int .u64 (n:Int),.int .u8 o.kd.toNat,.string o.a,.string o.b,.int .u8 o.nd.toNat,.int .u8 o.rl.toNat] 49)
 have hb2:=ze hb1 (.cells #[.int .i64 0,.slice none 0 0] 56)
 have HR:Hid (ug ((W.alloc (.cells #[.int .u8 255,.int .u64 (n:Int),.int .u8 o.kd.toNat,.string o.a,.string o.b,.int .u8 o.nd.toNat,.int .u8 o.rl.toNat] 49)).alloc (.cells #[.int .i64 0,.slice none 0 0] 56)) (W.heap.size+1) 0 (.slice none 0 0)):=heap_alloc2_new W _ _
 have HO:Hid (zM ((W.alloc (.cells #[.int .u8 255,.int .u64 (n:Int),.int .u8 o.kd.toNat,.string o.a,.string o.b,.int .u8 o.nd.toNat,.int .u8 o.rl.toNat] 49)).alloc (.cells #[.int .i64 0,.slice none 0 0] 56)) W.heap.size 255 n o):=by
  have ho:zM (W.alloc (.cells #[.int .u8 255,.int .u64 (n:Int),.int .u8 o.kd.toNat,.string o.a,.string o.b,.int .u8 o.nd.toNat,.int .u8 o.rl.toNat] 49)) W.heap.size 255 n o:=heap_alloc_new W _
  exact ho.below (ze (Below.refl _ _) _)
 have HB2:=za hb2
 have HN:=za hn
 have hq:((n:Int) != 0)=false:=by rw [HN.out]; rfl
 have HKD:=za hk
 have hq2:((o.kd.toNat:Int) != 16)=false:=by rw [HKD.out]; rfl
 have HCK:Hid (∀ W',Below W.heap.size W W'→Calls Tryz.prog 26 #[o.v] W' (zC (.int .i64 0) W')):=fun W' hW=>by
  have:=vV o W' (hl.later hW) ⟨by omega,by omega⟩
  rwa [hc] at this
 have HAN:Hid (∀ W',Below W.heap.size W W'→Calls Tryz.prog 42 #[.pointer (some ⟨H,0,none⟩),.int .u8 255,o.v] W' fun en w'=>∃ A c,en=.returned (.agg #[.int .i64 (yv s 255 o),.slice A 0 c])∧zq W H F (xQ s 255 o) w'∧yX W' w'):=fun W' hW =>
  (fx (h.later hW) hg 255 o (hl.later hW) (h5.later hW) ha hb).mono fun en w' ⟨A,c,h1,h2,h3⟩=>by
   rw [ansT17_sys s o hk] at h1
   exact ⟨A,c,h1,h3.ahead hW,h3.keeps (h.later hW)⟩
 unfold O14.v O14.cells at HCK HAN
 unfold zC at HCK
 clear h hn hk hc hB hE hT hS hb1 hb2 hl h5 ha hb hg
 generalize yv s 255 o=er at *
 generalize xQ s 255 o=s' at *
 go_enter Tryz.func38,Tryz.ntmps38
 go_wp2_with fail
 generalize (W.alloc (.cells #[.int .u8 255,.int .u64 (n:Int),.int .u8 o.kd.toNat,.string o.a,.string o.b,.int .u8 o.nd.toNat,.int .u8 o.rl.toNat] 49)).alloc (.cells #[.int .i64 0,.slice none 0 0] 56)=w2 at *
 with_reducible refine (HCK.out _ HB2.out).mono ?_
 rintro e w3 ⟨rfl,hb⟩
 have HB3:=za (zj HB2.out hb)
 have HR3:=za (HR.out.below hb)
 have ho3:=HO.out.below hb
 have y2:=ho3.c2
 have y3:=ho3.c3
 have y4:=ho3.c4
 have y5:=ho3.c5
 have y6:=ho3.c6
 clear hb HCK HB2 HR HO ho3
 go_wp2_with fail
 with_reducible refine (HAN.out _ HB3.out).mono ?_
 rintro e w4 ⟨A5,c5,rfl,hgo,hkp⟩
 have hr4:=hkp.rep HR3.out
 have x0:=hr4.c0
 have x1:=hr4.c1
 have xf:=hr4.fr
 have HR4:=za hr4
 have HGO:=za hgo
 clear hgo hkp HAN HB3 HR3 hr4 y2 y3 y4 y5 y6
 go_wp2
 refine bodyPost_ret (yV Tryz.results38 _ _ (W.heap.size+1) _ _ (0,0) _ rfl (HR4.out.setAll er (.slice A5 0 c5)) Tryz.underlying56 rfl xA) rfl ⟨A5,c5,rfl,vB.none _ _,?_⟩
 exact HGO.out.beside (R:=W.heap.size+1) HR4.out (by decide) HR4.out.nos17 (by omega) (yq _ _ _ _)
theorem FC (h:zS W H F s) (hg:s.Good) (n:Nat) (o:O14) (hl:yc W) (h5:vY W) (ha:o.a.size≤1000) (hb:o.b.size≤1000):Calls Tryz.prog 38 #[.pointer (some ⟨H,0,none⟩),.agg #[.int .u8 255,.int .u64 (n:Int),.int .u8 o.kd.toNat,.string o.a,.string o.b,.int .u8 o.nd.toNat,.int .u8 o.rl.toNat]] W (vP W H F s 255 n o):=by
 by_cases hn:n=0
 ·
  by_cases hk:o.kd.toNat=16
  ·
   by_cases hc:uk o=0
   ·
    exact hear17_good h hg n o hn hk hc hl h5 ha hb
   ·
    exact hear17_bad3 h n o hn hk hc hl ha hb
  ·
   exact hear17_bad2 h n o hn hk
 ·
  exact hear17_bad1 h n o hn
def YJu17 (H R TB cl n:Nat) (j:Int):Nat→Value→World→Prop
 | 2,v,_=>v=.pointer (some ⟨H,1,none⟩)
 | 3,v,_=>v=.pointer (some ⟨TB,0,none⟩)
 | 4,v,_=>v=.pointer (some ⟨R,0,none⟩)
 | 5,v,_=>v=.int .u8 (cl:Int)
 | 6,v,_=>v=.pointer (some ⟨R,1,none⟩)
 | 7,v,_=>v=.int .u64 (n:Int)
 | 8,v,_=>v=.int .i64 j
 | _,v,_=>v=.pointer (some ⟨H,0,none⟩)
theorem ZE {H R TB cl n:Nat} {j0:Int} {W W':World} (j:Nat) (z:Value) (h:YJu17 H R TB cl n j0 j z W):YJu17 H R TB cl n j0 j z W':=by
 match j,h with
 | 0,h=>exact h
 | 1,h=>exact h
 | 2,h=>exact h
 | 3,h=>exact h
 | 4,h=>exact h
 | 5,h=>exact h
 | 6,h=>exact h
 | 7,h=>exact h
 | 8,h=>exact h
 | _+9,h=>exact h
set_option maxRecDepth 100000 in
theorem apply17_sys (h:zS W H F s) (hg:s.Good) (cl n:Nat) (o:O14) (hcl:cl=255) (hl:yc W) (h5:vY W) (ha:o.a.size≤1000) (hb:o.b.size≤1000):Calls Tryz.prog 15 #[.pointer (some ⟨H,0,none⟩),.agg #[.int .u8 (cl:Int),.int .u64 (n:Int),.int .u8 o.kd.toNat,.string o.a,.string o.b,.int .u8 o.nd.toNat,.int .u8 o.rl.toNat]] W (vP W H F s cl n o):=by
 subst hcl
 have hb1:=ze (Below.refl _ W) (.cells #[.int .u8 255,.int .u64 (n:Int),.int .u8 o.kd.toNat,.string o.a,.string o.b,.int .u8 o.nd.toNat,.int .u8 o.rl.toNat] 49)
 have hb2:=ze hb1 (.cells #[.int .i64 0,.slice none 0 0] 56)
 have HR:Hid (ug ((W.alloc (.cells #[.int .u8 255,.int .u64 (n:Int),.int .u8 o.kd.toNat,.string o.a,.string o.b,.int .u8 o.nd.toNat,.int .u8 o.rl.toNat] 49)).alloc (.cells #[.int .i64 0,.slice none 0 0] 56)) (W.heap.size+1) 0 (.slice none 0 0)):=heap_alloc2_new W _ _
 have HO:Hid (zM ((W.alloc (.cells #[.int .u8 255,.int .u64 (n:Int),.int .u8 o.kd.toNat,.string o.a,.string o.b,.int .u8 o.nd.toNat,.int .u8 o.rl.toNat] 49)).alloc (.cells #[.int .i64 0,.slice none 0 0] 56)) W.heap.size 255 n o):=by
  have ho:zM (W.alloc (.cells #[.int .u8 255,.int .u64 (n:Int),.int .u8 o.kd.toNat,.string o.a,.string o.b,.int .u8 o.nd.toNat,.int .u8 o.rl.toNat] 49)) W.heap.size 255 n o:=heap_alloc_new W _
  exact ho.below (ze (Below.refl _ _) _)
 have HB2:=za hb2
 have HHE:Hid (∀ W',Below W.heap.size W W'→Calls Tryz.prog 38 #[.pointer (some ⟨H,0,none⟩),.agg #[.int .u8 255,.int .u64 (n:Int),.int .u8 o.kd.toNat,.string o.a,.string o.b,.int .u8 o.nd.toNat,.int .u8 o.rl.toNat]] W' fun en w'=>∃ A c,en=.returned (.tuple #[.agg #[.int .i64 (yu s 255 n o),.slice A (yZ s 255 n o).length c],.bool (zY s 255 n o)])∧vB w' A (yZ s 255 n o)∧zq W H F (zF s 255 n o) w'∧yX W' w'):=fun W' hW =>
  (FC (h.later hW) hg n o (hl.later hW) (h5.later hW) ha hb).mono fun en w' ⟨A,c,h1,h2,h3⟩=>⟨A,c,h1,h2,h3.ahead hW,h3.keeps (h.later hW)⟩
 unfold vP
 show Calls _ _ #[_,.agg #[.int .u8 255,.int .u64 (n:Int),.int .u8 o.kd.toNat,.string o.a,.string o.b,.int .u8 o.nd.toNat,.int .u8 o.rl.toNat]] _ _
 clear h hg hl h5 ha hb hb1 hb2
 generalize yu s 255 n o=er at *
 generalize yZ s 255 n o=t0 at *
 generalize zY s 255 n o=bb at *
 generalize zF s 255 n o=s' at *
 generalize hn0:t0.length=n0 at *
 go_enter Tryz.func15,Tryz.ntmps15
 go_wp2_with fail
 generalize (W.alloc (.cells #[.int .u8 255,.int .u64 (n:Int),.int .u8 o.kd.toNat,.string o.a,.string o.b,.int .u8 o.nd.toNat,.int .u8 o.rl.toNat] 49)).alloc (.cells #[.int .i64 0,.slice none 0 0] 56)=w2 at *
 have y0:=HO.out.c0
 have y1:=HO.out.c1
 have y2:=HO.out.c2
 have y3:=HO.out.c3
 have y4:=HO.out.c4
 have y5:=HO.out.c5
 have y6:=HO.out.c6
 have HN0:=za hn0
 clear hn0
 with_reducible refine (HHE.out _ HB2.out).mono ?_
 rintro e w4 ⟨A5,c5,rfl,htx,hgo,hkp⟩
 have hr4:=hkp.rep HR.out
 have x0:=hr4.c0
 have x1:=hr4.c1
 have xf:=hr4.fr
 have HR4:=za hr4
 have HGO:=za hgo
 have HTX:=za htx
 clear hgo hkp htx HHE HB2 HR hr4 y0 y1 y2 y3 y4 y5 y6 HO
 go_wp2
 refine bodyPost_ret (yV Tryz.results15 _ _ (W.heap.size+1) _ _ (0,0) _ rfl (HR4.out.setAll er (.slice A5 n0 c5)) Tryz.underlying56 rfl xA) rfl ⟨A5,c5,rfl,?_,?_⟩
 ·
  exact HTX.out.turns (yq _ _ _ _) (fun i e=>by rw [e]; exact HR4.out.nos17)
 ·
  exact HGO.out.beside (R:=W.heap.size+1) HR4.out (by decide) HR4.out.nos17 (by omega) (yq _ _ _ _)
set_option maxRecDepth 100000 in
theorem apply17_j0 (h:zS W H F s) (hg:s.Good) (cl n:Nat) (o:O14) (hcl:cl≠255) (hj:J15 (s.X cl).n cl n=0):Calls Tryz.prog 15 #[.pointer (some ⟨H,0,none⟩),.agg #[.int .u8 (cl:Int),.int .u64 (n:Int),.int .u8 o.kd.toNat,.string o.a,.string o.b,.int .u8 o.nd.toNat,.int .u8 o.rl.toNat]] W (vP W H F s cl n o):=by
 have hB:zY s cl n o=false:=by unfold zY; rw [if_neg hcl,hj]; rfl
 have hE:yu s cl n o=1:=by unfold yu; rw [if_neg hcl,hj]; rfl
 have hT:yZ s cl n o=[]:=by unfold yZ; rw [if_neg hcl,hj]; rfl
 have hS:zF s cl n o=s:=by unfold zF; rw [hB]; rfl
 unfold vP
 rw [hB,hE,hT,hS]
 have hb1:=ze (Below.refl _ W) (.cells #[.int .u8 (cl:Int),.int .u64 (n:Int),.int .u8 o.kd.toNat,.string o.a,.string o.b,.int .u8 o.nd.toNat,.int .u8 o.rl.toNat] 49)
 have hb2:=ze hb1 (.cells #[.int .i64 0,.slice none 0 0] 56)
 have HR:Hid (ug ((W.alloc (.cells #[.int .u8 (cl:Int),.int .u64 (n:Int),.int .u8 o.kd.toNat,.string o.a,.string o.b,.int .u8 o.nd.toNat,.int .u8 o.rl.toNat] 49)).alloc (.cells #[.int .i64 0,.slice none 0 0] 56)) (W.heap.size+1) 0 (.slice none 0 0)):=heap_alloc2_new W _ _
 have HO:Hid (zM ((W.alloc (.cells #[.int .u8 (cl:Int),.int .u64 (n:Int),.int .u8 o.kd.toNat,.string o.a,.string o.b,.int .u8 o.nd.toNat,.int .u8 o.rl.toNat] 49)).alloc (.cells #[.int .i64 0,.slice none 0 0] 56)) W.heap.size cl n o):=by
  have ho:zM (W.alloc (.cells #[.int .u8 (cl:Int),.int .u64 (n:Int),.int .u8 o.kd.toNat,.string o.a,.string o.b,.int .u8 o.nd.toNat,.int .u8 o.rl.toNat] 49)) W.heap.size cl n o:=heap_alloc_new W _
  exact ho.below (ze (Below.refl _ _) _)
 have HB2:=za hb2
 obtain ⟨TB,T,hc1,hta,hxp,_⟩:=h.tab
 have HX:Hid (∀ W',Below W.heap.size W W'→W'.cell? ⟨H,1,none⟩=some (.pointer (some ⟨TB,0,none⟩))):=fun W' hW=>(hW.cell (p:=⟨H,1,none⟩) (World.block_lt_of_cell? W _ hc1)).trans hc1
 have HJ:Hid (∀ W',Below W.heap.size W W'→Calls Tryz.prog 39 #[.pointer (some ⟨TB,0,none⟩),.int .u8 (cl:Int),.int .u64 (n:Int)] W' (zC (.int .i64 0) W')):=fun W' hW=>by
  have:=vZ TB T cl n W' (hta.later hW).at_
  rw [J17 hxp,hj] at this
  exact this
 unfold zC at HJ
 have hq:((cl:Int) == 255)=false:=by simp; omega
 have HH:=za h
 have HRF:=za (fun W'=>yB 1 W')
 unfold zC at HRF
 clear h hb1 hb2 hc1 hta hxp hcl hj hg hB hE hT hS
 go_enter Tryz.func15,Tryz.ntmps15
 go_wp2_with fail
 generalize (W.alloc (.cells #[.int .u8 (cl:Int),.int .u64 (n:Int),.int .u8 o.kd.toNat,.string o.a,.string o.b,.int .u8 o.nd.toNat,.int .u8 o.rl.toNat] 49)).alloc (.cells #[.int .i64 0,.slice none 0 0] 56)=w2 at *
 refine yg (by kernel_rfl) (fun W=>Below w2.heap.size w2 W) (YJu17 H W.heap.size TB cl n 0) ?F ?hF (by kernel_rfl) (by kernel_rfl) (qf (Below.refl _ _)) ?step ?fin
 case hF =>
  intro x
  simp only [List.map_cons,List.map_nil,xU,Act.put,List.setIfInBounds_toArray,List.set_cons_zero,List.set_cons_succ,Nat.zero_add,Nat.reduceAdd]
  exact rfl
 case step =>
  refine ⟨?_,?_,?_,?_,?_,?_,?_,?_,?_,trivial⟩
  all_goals intro x W hW hdep K hK
  ·
   clear hdep
   go_simp
   exact hK _ _ rfl hW (fun _ _ h=>h)
  ·
   have h0:x 0=_:=hdep 0 rfl
   clear hdep
   simp only [h0] at hK
   go_simp
   exact hK _ _ rfl hW (fun _ _ h=>h)
  ·
   have h1:x 1=_:=hdep 1 rfl
   clear hdep
   simp only [h1] at hK
   go_simp
   exact hK _ _ rfl hW (fun _ _ h=>h)
  ·
   have h2:x 2=_:=hdep 2 rfl
   have c:=HX.out _ (zj HB2.out hW)
   clear hdep
   simp only [h2] at hK
   go_simp
   exact hK _ _ rfl hW (fun _ _ h=>h)
  ·
   clear hdep
   go_simp
   exact hK _ _ rfl hW (fun _ _ h=>h)
  ·
   have h4:x 4=_:=hdep 4 rfl
   have c:=(HO.out.below hW).c0
   clear hdep
   simp only [h4] at hK
   go_simp
   exact hK _ _ rfl hW (fun _ _ h=>h)
  ·
   clear hdep
   go_simp
   exact hK _ _ rfl hW (fun _ _ h=>h)
  ·
   have h6:x 6=_:=hdep 6 rfl
   have c:=(HO.out.below hW).c1
   clear hdep
   simp only [h6] at hK
   go_simp
   exact hK _ _ rfl hW (fun _ _ h=>h)
  ·
   have h3:x 3=_:=hdep 3 rfl
   have h5:x 5=_:=hdep 5 rfl
   have h7:x 7=_:=hdep 7 rfl
   have hc:=HJ.out _ (zj HB2.out hW)
   clear hdep
   simp only [h3,h5,h7] at hK
   go_simp
   refine hc.mono ?_
   rintro e W' ⟨rfl,hb⟩
   exact hK _ _ rfl (zj hW hb) (fun j z h=>ZE j z h)
 case fin =>
  intro x w3 hW hY
  have h8:x 8=_:=hY 8 (by decide)
  have HB3:=za (zj HB2.out hW)
  have HR3:=za (HR.out.below hW)
  have HO3:=za (HO.out.below hW)
  clear hW hY HB2 HR HO HX HJ
  simp only [h8]
  go_wp2_with fail
  with_reducible refine (HRF.out _).mono ?_
  rintro e w5 ⟨rfl,hb⟩
  have hr5:=HR3.out.below hb
  have x0:=hr5.c0
  have x1:=hr5.c1
  have xf:=hr5.fr
  have HR5:=za hr5
  have HB5:=za (zj HB3.out hb)
  clear hb HRF hr5
  go_wp2
  refine bodyPost_ret (yV Tryz.results15 _ _ (W.heap.size+1) _ _ (0,0) _ rfl (HR5.out.setAll 1 (.slice none 0 0)) Tryz.underlying56 rfl xA) rfl ⟨none,0,rfl,vB.none _ _,?_⟩
  exact (zq.still HH.out HB5.out).beside (R:=W.heap.size+1) HR5.out (by decide) HR5.out.nos17 (by omega) (yq _ _ _ _)
set_option maxRecDepth 100000 in
theorem apply17_j1 (h:zS W H F s) (hg:s.Good) (cl n:Nat) (o:O14) (hcl:cl≠255) (hj:J15 (s.X cl).n cl n=1):Calls Tryz.prog 15 #[.pointer (some ⟨H,0,none⟩),.agg #[.int .u8 (cl:Int),.int .u64 (n:Int),.int .u8 o.kd.toNat,.string o.a,.string o.b,.int .u8 o.nd.toNat,.int .u8 o.rl.toNat]] W (vP W H F s cl n o):=by
 have hB:zY s cl n o=false:=by unfold zY; rw [if_neg hcl,hj]; rfl
 have hE:yu s cl n o=12:=by unfold yu; rw [if_neg hcl,hj]; rfl
 have hT:yZ s cl n o=[]:=by unfold yZ; rw [if_neg hcl,hj]; rfl
 have hS:zF s cl n o=s:=by unfold zF; rw [hB]; rfl
 unfold vP
 rw [hB,hE,hT,hS]
 have hb1:=ze (Below.refl _ W) (.cells #[.int .u8 (cl:Int),.int .u64 (n:Int),.int .u8 o.kd.toNat,.string o.a,.string o.b,.int .u8 o.nd.toNat,.int .u8 o.rl.toNat] 49)
 have hb2:=ze hb1 (.cells #[.int .i64 0,.slice none 0 0] 56)
 have HR:Hid (ug ((W.alloc (.cells #[.int .u8 (cl:Int),.int .u64 (n:Int),.int .u8 o.kd.toNat,.string o.a,.string o.b,.int .u8 o.nd.toNat,.int .u8 o.rl.toNat] 49)).alloc (.cells #[.int .i64 0,.slice none 0 0] 56)) (W.heap.size+1) 0 (.slice none 0 0)):=heap_alloc2_new W _ _
 have HO:Hid (zM ((W.alloc (.cells #[.int .u8 (cl:Int),.int .u64 (n:Int),.int .u8 o.kd.toNat,.string o.a,.string o.b,.int .u8 o.nd.toNat,.int .u8 o.rl.toNat] 49)).alloc (.cells #[.int .i64 0,.slice none 0 0] 56)) W.heap.size cl n o):=by
  have ho:zM (W.alloc (.cells #[.int .u8 (cl:Int),.int .u64 (n:Int),.int .u8 o.kd.toNat,.string o.a,.string o.b,.int .u8 o.nd.toNat,.int .u8 o.rl.toNat] 49)) W.heap.size cl n o:=heap_alloc_new W _
  exact ho.below (ze (Below.refl _ _) _)
 have HB2:=za hb2
 obtain ⟨TB,T,hc1,hta,hxp,_⟩:=h.tab
 have HX:Hid (∀ W',Below W.heap.size W W'→W'.cell? ⟨H,1,none⟩=some (.pointer (some ⟨TB,0,none⟩))):=fun W' hW=>(hW.cell (p:=⟨H,1,none⟩) (World.block_lt_of_cell? W _ hc1)).trans hc1
 have HJ:Hid (∀ W',Below W.heap.size W W'→Calls Tryz.prog 39 #[.pointer (some ⟨TB,0,none⟩),.int .u8 (cl:Int),.int .u64 (n:Int)] W' (zC (.int .i64 1) W')):=fun W' hW=>by
  have:=vZ TB T cl n W' (hta.later hW).at_
  rw [J17 hxp,hj] at this
  exact this
 unfold zC at HJ
 have hq:((cl:Int) == 255)=false:=by simp; omega
 have HH:=za h
 have HRF:=za (fun W'=>yB 12 W')
 unfold zC at HRF
 clear h hb1 hb2 hc1 hta hxp hcl hj hg hB hE hT hS
 go_enter Tryz.func15,Tryz.ntmps15
 go_wp2_with fail
 generalize (W.alloc (.cells #[.int .u8 (cl:Int),.int .u64 (n:Int),.int .u8 o.kd.toNat,.string o.a,.string o.b,.int .u8 o.nd.toNat,.int .u8 o.rl.toNat] 49)).alloc (.cells #[.int .i64 0,.slice none 0 0] 56)=w2 at *
 refine yg (by kernel_rfl) (fun W=>Below w2.heap.size w2 W) (YJu17 H W.heap.size TB cl n 1) ?F ?hF (by kernel_rfl) (by kernel_rfl) (qf (Below.refl _ _)) ?step ?fin
 case hF =>
  intro x
  simp only [List.map_cons,List.map_nil,xU,Act.put,List.setIfInBounds_toArray,List.set_cons_zero,List.set_cons_succ,Nat.zero_add,Nat.reduceAdd]
  exact rfl
 case step =>
  refine ⟨?_,?_,?_,?_,?_,?_,?_,?_,?_,trivial⟩
  all_goals intro x W hW hdep K hK
  ·
   clear hdep
   go_simp
   exact hK _ _ rfl hW (fun _ _ h=>h)
  ·
   have h0:x 0=_:=hdep 0 rfl
   clear hdep
   simp only [h0] at hK
   go_simp
   exact hK _ _ rfl hW (fun _ _ h=>h)
  ·
   have h1:x 1=_:=hdep 1 rfl
   clear hdep
   simp only [h1] at hK
   go_simp
   exact hK _ _ rfl hW (fun _ _ h=>h)
  ·
   have h2:x 2=_:=hdep 2 rfl
   have c:=HX.out _ (zj HB2.out hW)
   clear hdep
   simp only [h2] at hK
   go_simp
   exact hK _ _ rfl hW (fun _ _ h=>h)
  ·
   clear hdep
   go_simp
   exact hK _ _ rfl hW (fun _ _ h=>h)
  ·
   have h4:x 4=_:=hdep 4 rfl
   have c:=(HO.out.below hW).c0
   clear hdep
   simp only [h4] at hK
   go_simp
   exact hK _ _ rfl hW (fun _ _ h=>h)
  ·
   clear hdep
   go_simp
   exact hK _ _ rfl hW (fun _ _ h=>h)
  ·
   have h6:x 6=_:=hdep 6 rfl
   have c:=(HO.out.below hW).c1
   clear hdep
   simp only [h6] at hK
   go_simp
   exact hK _ _ rfl hW (fun _ _ h=>h)
  ·
   have h3:x 3=_:=hdep 3 rfl
   have h5:x 5=_:=hdep 5 rfl
   have h7:x 7=_:=hdep 7 rfl
   have hc:=HJ.out _ (zj HB2.out hW)
   clear hdep
   simp only [h3,h5,h7] at hK
   go_simp
   refine hc.mono ?_
   rintro e W' ⟨rfl,hb⟩
   exact hK _ _ rfl (zj hW hb) (fun j z h=>ZE j z h)
 case fin =>
  intro x w3 hW hY
  have h8:x 8=_:=hY 8 (by decide)
  have HB3:=za (zj HB2.out hW)
  have HR3:=za (HR.out.below hW)
  have HO3:=za (HO.out.below hW)
  clear hW hY HB2 HR HO HX HJ
  simp only [h8]
  go_wp2_with fail
  with_reducible refine (HRF.out _).mono ?_
  rintro e w5 ⟨rfl,hb⟩
  have hr5:=HR3.out.below hb
  have x0:=hr5.c0
  have x1:=hr5.c1
  have xf:=hr5.fr
  have HR5:=za hr5
  have HB5:=za (zj HB3.out hb)
  clear hb HRF hr5
  go_wp2
  refine bodyPost_ret (yV Tryz.results15 _ _ (W.heap.size+1) _ _ (0,0) _ rfl (HR5.out.setAll 12 (.slice none 0 0)) Tryz.underlying56 rfl xA) rfl ⟨none,0,rfl,vB.none _ _,?_⟩
  exact (zq.still HH.out HB5.out).beside (R:=W.heap.size+1) HR5.out (by decide) HR5.out.nos17 (by omega) (yq _ _ _ _)
def YRp17 (H R TB cl:Nat) (e:Nat) (ss:List ByteArray) (m:Nat):Nat→Value→World→Prop
 | 2,v,_=>v=.pointer (some ⟨H,1,none⟩)
 | 3,v,_=>v=.pointer (some ⟨TB,0,none⟩)
 | 4,v,_=>v=.pointer (some ⟨R,0,none⟩)
 | 5,v,_=>v=.int .u8 (cl:Int)
 | 6,v,W=>∃ A q,v=.agg #[.int .i64 (e:Int),.slice A m q]∧vB W A ss
 | _,v,_=>v=.pointer (some ⟨H,0,none⟩)
theorem YRp17_keep {H R TB cl e:Nat} {ss:List ByteArray} {m:Nat} {W W':World} (hb:Below W.heap.size W W') (j:Nat) (z:Value) (h:YRp17 H R TB cl e ss m j z W):YRp17 H R TB cl e ss m j z W':=by
 match j,h with
 | 0,h=>exact h
 | 1,h=>exact h
 | 2,h=>exact h
 | 3,h=>exact h
 | 4,h=>exact h
 | 5,h=>exact h
 | 6,h=>obtain ⟨A,q,h1,h2⟩:=h; exact ⟨A,q,h1,h2.later hb⟩
 | _+7,h=>exact h
set_option maxRecDepth 100000 in
theorem apply17_j2 {W0:World} (h:zS W0 H F s) (hg:s.Good) (cl n:Nat) (o:O14) (hcl:cl≠255) (hj:J15 (s.X cl).n cl n=2):Calls Tryz.prog 15 #[.pointer (some ⟨H,0,none⟩),.agg #[.int .u8 (cl:Int),.int .u64 (n:Int),.int .u8 o.kd.toNat,.string o.a,.string o.b,.int .u8 o.nd.toNat,.int .u8 o.rl.toNat]] W0 (vP W0 H F s cl n o):=by
 have hB:zY s cl n o=false:=by unfold zY; rw [if_neg hcl,hj]; rfl
 have hE:yu s cl n o=((s.X cl).e:Nat):=by unfold yu; rw [if_neg hcl,hj]; rfl
 have hT:yZ s cl n o=(s.X cl).ss:=by unfold yZ; rw [if_neg hcl,hj]; rfl
 have hS:zF s cl n o=s:=by unfold zF; rw [hB]; rfl
 unfold vP
 rw [hB,hE,hT,hS]
 have hc8:cl<8:=by
  unfold J15 at hj
  split at hj
  ·
   rename_i h8; exact h8.1
  ·
   cases hj
 have hb1:=ze (Below.refl _ W0) (.cells #[.int .u8 (cl:Int),.int .u64 (n:Int),.int .u8 o.kd.toNat,.string o.a,.string o.b,.int .u8 o.nd.toNat,.int .u8 o.rl.toNat] 49)
 have hb2:=ze hb1 (.cells #[.int .i64 0,.slice none 0 0] 56)
 have HR:Hid (ug ((W0.alloc (.cells #[.int .u8 (cl:Int),.int .u64 (n:Int),.int .u8 o.kd.toNat,.string o.a,.string o.b,.int .u8 o.nd.toNat,.int .u8 o.rl.toNat] 49)).alloc (.cells #[.int .i64 0,.slice none 0 0] 56)) (W0.heap.size+1) 0 (.slice none 0 0)):=heap_alloc2_new W0 _ _
 have HO:Hid (zM ((W0.alloc (.cells #[.int .u8 (cl:Int),.int .u64 (n:Int),.int .u8 o.kd.toNat,.string o.a,.string o.b,.int .u8 o.nd.toNat,.int .u8 o.rl.toNat] 49)).alloc (.cells #[.int .i64 0,.slice none 0 0] 56)) W0.heap.size cl n o):=by
  have ho:zM (W0.alloc (.cells #[.int .u8 (cl:Int),.int .u64 (n:Int),.int .u8 o.kd.toNat,.string o.a,.string o.b,.int .u8 o.nd.toNat,.int .u8 o.rl.toNat] 49)) W0.heap.size cl n o:=heap_alloc_new W0 _
  exact ho.below (ze (Below.refl _ _) _)
 have HB2:=za hb2
 obtain ⟨TB,T,hc1,hta,hxp,_⟩:=h.tab
 have HX:Hid (∀ W',Below W0.heap.size W0 W'→W'.cell? ⟨H,1,none⟩=some (.pointer (some ⟨TB,0,none⟩))):=fun W' hW=>(hW.cell (p:=⟨H,1,none⟩) (World.block_lt_of_cell? W0 _ hc1)).trans hc1
 have HJ:Hid (∀ W',Below W0.heap.size W0 W'→Calls Tryz.prog 39 #[.pointer (some ⟨TB,0,none⟩),.int .u8 (cl:Int),.int .u64 (n:Int)] W' (zC (.int .i64 2) W')):=fun W' hW=>by
  have:=vZ TB T cl n W' (hta.later hW).at_
  rw [J17 hxp,hj] at this
  exact this
 unfold zC at HJ
 have hq:((cl:Int) == 255)=false:=by simp; omega
 have HH:=za h
 have HRE:Hid (∀ W',Below W0.heap.size W0 W'→Calls Tryz.prog 41 #[.pointer (some ⟨TB,0,none⟩),.int .u8 (cl:Int)] W' fun e w'=>∃ A q,e=.returned (.agg #[.int .i64 ((s.X cl).e:Nat),.slice A (s.X cl).ss.length q])∧vB w' A (s.X cl).ss∧Below W'.heap.size W' w'):=fun W' hW=>by
  have:=Ul (hta.later hW) cl
  rw [show qT T cl=T cl from if_pos hc8,show (T cl).e=(s.X cl).e from congrArg P15.e (hxp cl hc8),show (T cl).ss=(s.X cl).ss from congrArg P15.ss (hxp cl hc8)] at this
  exact this.mono fun e w' ⟨A,q,h1,h2,h3,h4⟩=>⟨A,q,h1,⟨h2.rd,fun hne a ha=>⟨Nat.zero_le _,(h3 hne a ha).2⟩⟩,h4⟩
 generalize (s.X cl).ss=t0 at *
 generalize (s.X cl).e=er at *
 generalize t0.length=m at *
 clear h hb1 hb2 hc1 hta hxp hcl hj hg hB hE hT hS hc8
 go_enter Tryz.func15,Tryz.ntmps15
 go_wp2_with fail
 generalize (W0.alloc (.cells #[.int .u8 (cl:Int),.int .u64 (n:Int),.int .u8 o.kd.toNat,.string o.a,.string o.b,.int .u8 o.nd.toNat,.int .u8 o.rl.toNat] 49)).alloc (.cells #[.int .i64 0,.slice none 0 0] 56)=w2 at *
 refine yg (by kernel_rfl) (fun W0=>Below w2.heap.size w2 W0) (YJu17 H W0.heap.size TB cl n 2) ?F ?hF (by kernel_rfl) (by kernel_rfl) (qf (Below.refl _ _)) ?step ?fin
 case hF =>
  intro x
  simp only [List.map_cons,List.map_nil,xU,Act.put,List.setIfInBounds_toArray,List.set_cons_zero,List.set_cons_succ,Nat.zero_add,Nat.reduceAdd]
  exact rfl
 case step =>
  refine ⟨?_,?_,?_,?_,?_,?_,?_,?_,?_,trivial⟩
  all_goals intro x W0 hW hdep K hK
  ·
   clear hdep
   go_simp
   exact hK _ _ rfl hW (fun _ _ h=>h)
  ·
   have h0:x 0=_:=hdep 0 rfl
   clear hdep
   simp only [h0] at hK
   go_simp
   exact hK _ _ rfl hW (fun _ _ h=>h)
  ·
   have h1:x 1=_:=hdep 1 rfl
   clear hdep
   simp only [h1] at hK
   go_simp
   exact hK _ _ rfl hW (fun _ _ h=>h)
  ·
   have h2:x 2=_:=hdep 2 rfl
   have c:=HX.out _ (zj HB2.out hW)
   clear hdep
   simp only [h2] at hK
   go_simp
   exact hK _ _ rfl hW (fun _ _ h=>h)
  ·
   clear hdep
   go_simp
   exact hK _ _ rfl hW (fun _ _ h=>h)
  ·
   have h4:x 4=_:=hdep 4 rfl
   have c:=(HO.out.below hW).c0
   clear hdep
   simp only [h4] at hK
   go_simp
   exact hK _ _ rfl hW (fun _ _ h=>h)
  ·
   clear hdep
   go_simp
   exact hK _ _ rfl hW (fun _ _ h=>h)
  ·
   have h6:x 6=_:=hdep 6 rfl
   have c:=(HO.out.below hW).c1
   clear hdep
   simp only [h6] at hK
   go_simp
   exact hK _ _ rfl hW (fun _ _ h=>h)
  ·
   have h3:x 3=_:=hdep 3 rfl
   have h5:x 5=_:=hdep 5 rfl
   have h7:x 7=_:=hdep 7 rfl
   have hc:=HJ.out _ (zj HB2.out hW)
   clear hdep
   simp only [h3,h5,h7] at hK
   go_simp
   refine hc.mono ?_
   rintro e W' ⟨rfl,hb⟩
   exact hK _ _ rfl (zj hW hb) (fun j z h=>ZE j z h)
 case fin =>
  intro x w3 hW hY
  have h8:x 8=_:=hY 8 (by decide)
  have HB3:=za (zj HB2.out hW)
  have HR3:=za (HR.out.below hW)
  have HO3:=za (HO.out.below hW)
  clear hW hY HB2 HR HO HJ
  simp only [h8]
  go_wp2_with fail
  refine zB (by kernel_rfl) 7 (fun W=>Below w3.heap.size w3 W) (fun W'=>∃ A q,ug W' (W0.heap.size+1) er (.slice A m q)∧vB W' A t0∧zq W0 H F s W') (YRp17 H W0.heap.size TB cl er t0 m) (fun v=>v=.bool false) ?F9 ?hF9 (by kernel_rfl) (by kernel_rfl) (by kernel_rfl) (by kernel_rfl) (by decide) (qf (Below.refl _ _)) ?step9 ?fin9
  case hF9 =>
   intro x
   simp only [List.map_cons,List.map_nil,xU,Act.put,List.setIfInBounds_toArray,List.set_cons_zero,List.set_cons_succ,Nat.zero_add,Nat.reduceAdd]
   exact rfl
  case step9 =>
   refine ⟨?_,?_,?_,?_,?_,?_,?_,?_,?_,trivial⟩
   ·
    intro x W
    refine ⟨fun _ hW hdep K hK=>?_,(fun h=>absurd h (by decide)),(fun h=>absurd h (by decide))⟩
    clear hdep
    go_simp
    exact hK _ _ rfl hW (fun _ _ h=>h)
   ·
    intro x W
    refine ⟨fun _ hW hdep K hK=>?_,(fun h=>absurd h (by decide)),(fun h=>absurd h (by decide))⟩
    have h0:x 0=_:=hdep 0 rfl
    clear hdep
    simp only [h0] at hK
    go_simp
    exact hK _ _ rfl hW (fun _ _ h=>h)
   ·
    intro x W
    refine ⟨fun _ hW hdep K hK=>?_,(fun h=>absurd h (by decide)),(fun h=>absurd h (by decide))⟩
    have h1:x 1=_:=hdep 1 rfl
    clear hdep
    simp only [h1] at hK
    go_simp
    exact hK _ _ rfl hW (fun _ _ h=>h)
   ·
    intro x W
    refine ⟨fun _ hW hdep K hK=>?_,(fun h=>absurd h (by decide)),(fun h=>absurd h (by decide))⟩
    have h2:x 2=_:=hdep 2 rfl
    have c:=HX.out _ (zj HB3.out hW)
    clear hdep
    simp only [h2] at hK
    go_simp
    exact hK _ _ rfl hW (fun _ _ h=>h)
   ·
    intro x W
    refine ⟨fun _ hW hdep K hK=>?_,(fun h=>absurd h (by decide)),(fun h=>absurd h (by decide))⟩
    clear hdep
    go_simp
    exact hK _ _ rfl hW (fun _ _ h=>h)
   ·
    intro x W
    refine ⟨fun _ hW hdep K hK=>?_,(fun h=>absurd h (by decide)),(fun h=>absurd h (by decide))⟩
    have h4:x 4=_:=hdep 4 rfl
    have c:=(HO3.out.below hW).c0
    clear hdep
    simp only [h4] at hK
    go_simp
    exact hK _ _ rfl hW (fun _ _ h=>h)
   ·
    intro x W
    refine ⟨fun _ hW hdep K hK=>?_,(fun h=>absurd h (by decide)),(fun h=>absurd h (by decide))⟩
    have h3:x 3=_:=hdep 3 rfl
    have h5:x 5=_:=hdep 5 rfl
    have hc:=HRE.out _ (zj HB3.out hW)
    clear hdep
    simp only [h3,h5] at hK
    go_simp
    refine hc.mono ?_
    rintro e W' ⟨A5,q5,rfl,ht,hb⟩
    exact hK _ _ ⟨A5,q5,rfl,ht⟩ (zj hW hb) (fun j z h=>YRp17_keep hb j z h)
   ·
    intro x W
    refine ⟨(fun h=>absurd h (by decide)),fun _ hW hdep K hK=>?_,(fun h=>absurd h (by decide))⟩
    obtain ⟨A5,q5,h6,ht⟩:=hdep 6 rfl
    have hr:=HR3.out.below hW
    have k0:=hr.c0
    have k1:=hr.c1
    have kf:=hr.fr
    have HRR:=za hr
    have HTT:=za ht
    have HWW:=za (zj HB3.out hW)
    clear hr ht
    clear hdep
    simp only [h6] at hK
    go_simp
    exact hK (.bool false) _ rfl ⟨A5,q5,HRR.out.setAll er (.slice A5 m q5),HTT.out.turns (yq _ _ _ _) (fun i e=>by rw [e]; exact HRR.out.nos17),(zq.still HH.out HWW.out).beside (R:=W0.heap.size+1) HRR.out (by decide) HRR.out.nos17 (by omega) (yq _ _ _ _)⟩
   ·
    intro x W
    refine ⟨(fun h=>absurd h (by decide)),(fun h=>absurd h (by decide)),fun _ hW hdep K hK=>?_⟩
    clear hdep
    go_simp
    exact hK _ rfl
  case fin9 =>
   intro x W' hD hrest
   obtain ⟨A5,q5,hr,ht,hg⟩:=hD
   have h8:x 8=_:=hrest 8 (by decide) (by decide)
   have HR4:=za hr
   have HT4:=za ht
   have HG4:=za hg
   clear hr ht hg hrest
   simp only [h8]
   go_wp2
   exact bodyPost_ret (yV Tryz.results15 _ _ (W0.heap.size+1) _ _ (0,0) _ rfl HR4.out Tryz.underlying56 rfl xA) rfl ⟨A5,q5,rfl,HT4.out,HG4.out⟩
def YPu17 (H R TB cl n:Nat) (vr:Value):Nat→Value→World→Prop
 | 2,v,_=>v=.pointer (some ⟨H,1,none⟩)
 | 3,v,_=>v=.pointer (some ⟨TB,0,none⟩)
 | 4,v,_=>v=.pointer (some ⟨R,0,none⟩)
 | 5,v,_=>v=.int .u8 (cl:Int)
 | 6,v,_=>v=.pointer (some ⟨R,1,none⟩)
 | 7,v,_=>v=.int .u64 (n:Int)
 | 8,v,_=>v=vr
 | 9,_,_=>True
 | _,v,_=>v=.pointer (some ⟨H,0,none⟩)
theorem zq.trans17 {W w5 w':World} {H:Nat} {F F':Nat→Prop} {s2:H17} (h2:∀ i,F' i→F i∨W.heap.size≤i) (h3:zg F W w5) (hg:zq w5 H F' s2 w'):zq W H F s2 w':=by
 obtain ⟨F2,a1,a2,a3⟩:=hg
 refine ⟨F2,a1,fun i hi=>?_,h3.next a3 (fun i hi e=>?_)⟩
 ·
  rcases a2 i hi with e | e
  ·
   exact h2 i e
  ·
   exact .inr (Nat.le_trans h3.size e)
 ·
  rcases h2 i e with e | e
  ·
   exact e
  ·
   omega
theorem hput17 {W w5:World} {H:Nat} {F:Nat→Prop} {s1:H17} {X:Nat→P15} (hg:zq W H F s1 w5) (hX:s1.X=X) (cl n e:Nat) (A:Option Addr) (c:Nat) (ss:List ByteArray) (hc8:cl<8) (ht:vB w5 A ss) (he:e≤18) (hs:ss.length≤14∧∀ t∈ss,t.size≤50) :
  ∃ TB,w5.cell? ⟨H,1,none⟩=some (.pointer (some ⟨TB,0,none⟩))∧∀ W',Below w5.heap.size w5 W'→Calls Tryz.prog 43 #[.pointer (some ⟨TB,0,none⟩),.int .u8 (cl:Int),.int .u64 (n:Int),.agg #[.int .i64 (e:Int),.slice A ss.length c]] W' fun en w' =>
   ∃ q:Int,en=.returned (.int .i64 q)∧zq W H F { s1 with X:=vJ X cl n e ss } w'∧yX w5 w'∧vB w' A ss:=by
 obtain ⟨F',h1,h2,h3⟩:=hg
 obtain ⟨TB,T,hc,hta,hxp,hgo⟩:=h1.tab
 refine ⟨TB,hc,fun W' hW=>(Put15_calls (hta.later hW) cl n e A c ss (ht.later hW).1 he hs).mono fun en w' ⟨h,T',a1,a2,a3⟩=>⟨_,h,?_⟩⟩
 have hx:∀ i,i<8→(T' i).p=vJ X cl n e ss i:=fun i hi=>by
  rw [a3 i hi]
  unfold vJ
  show (if i=cl∧J15 (T cl).p.n cl n=3 then _ else (T i).p)=_
  rw [show (T cl).p=X cl by rw [hxp cl hc8,hX],show (T i).p=X i by rw [hxp i hi,hX]]
 have htn:zg (fun k=>k=TB) w5 w':=(zg.of_below hW _).next a2 (fun _ _ e=>e)
 have hgg:=hgo T' (vJ X cl n e ss) w' a1 htn hx
 refine ⟨zq.trans17 h2 h3 hgg,hgg.keeps h1,ht.turns htn (fun i e=>?_)⟩
 rw [e]
 exact JH hta
set_option maxRecDepth 100000 in
theorem apply17_j3 {W0:World} (h:zS W0 H F s) (hg:s.Good) (cl n:Nat) (o:O14) (hcl:cl≠255) (hj:J15 (s.X cl).n cl n=3) (hl:yc W0) (h5:vY W0) (ha:o.a.size≤1000) (hb:o.b.size≤1000):Calls Tryz.prog 15 #[.pointer (some ⟨H,0,none⟩),.agg #[.int .u8 (cl:Int),.int .u64 (n:Int),.int .u8 o.kd.toNat,.string o.a,.string o.b,.int .u8 o.nd.toNat,.int .u8 o.rl.toNat]] W0 (vP W0 H F s cl n o):=by
 have hB:zY s cl n o=true:=by unfold zY; rw [if_neg hcl,hj]; rfl
 have hE:yu s cl n o=yv s cl o:=by unfold yu; rw [if_neg hcl,hj]; rfl
 have hT:yZ s cl n o=yS s cl o:=by unfold yZ; rw [if_neg hcl,hj]; rfl
 have hS:zF s cl n o={ xQ s cl o with X:=vJ s.X cl n (yv s cl o).toNat (yS s cl o) }:=by unfold zF; rw [hB,if_pos rfl,if_neg hcl]
 unfold vP
 rw [hB,hE,hT,hS]
 have hc8:cl<8:=(jP hj).1
 have hb1:=ze (Below.refl _ W0) (.cells #[.int .u8 (cl:Int),.int .u64 (n:Int),.int .u8 o.kd.toNat,.string o.a,.string o.b,.int .u8 o.nd.toNat,.int .u8 o.rl.toNat] 49)
 have hb2:=ze hb1 (.cells #[.int .i64 0,.slice none 0 0] 56)
 have HR:Hid (ug ((W0.alloc (.cells #[.int .u8 (cl:Int),.int .u64 (n:Int),.int .u8 o.kd.toNat,.string o.a,.string o.b,.int .u8 o.nd.toNat,.int .u8 o.rl.toNat] 49)).alloc (.cells #[.int .i64 0,.slice none 0 0] 56)) (W0.heap.size+1) 0 (.slice none 0 0)):=heap_alloc2_new W0 _ _
 have HO:Hid (zM ((W0.alloc (.cells #[.int .u8 (cl:Int),.int .u64 (n:Int),.int .u8 o.kd.toNat,.string o.a,.string o.b,.int .u8 o.nd.toNat,.int .u8 o.rl.toNat] 49)).alloc (.cells #[.int .i64 0,.slice none 0 0] 56)) W0.heap.size cl n o):=by
  have ho:zM (W0.alloc (.cells #[.int .u8 (cl:Int),.int .u64 (n:Int),.int .u8 o.kd.toNat,.string o.a,.string o.b,.int .u8 o.nd.toNat,.int .u8 o.rl.toNat] 49)) W0.heap.size cl n o:=heap_alloc_new W0 _
  exact ho.below (ze (Below.refl _ _) _)
 have HB2:=za hb2
 obtain ⟨TB,T,hc1,hta,hxp,_⟩:=h.tab
 have HX:Hid (∀ W',Below W0.heap.size W0 W'→W'.cell? ⟨H,1,none⟩=some (.pointer (some ⟨TB,0,none⟩))):=fun W' hW=>(hW.cell (p:=⟨H,1,none⟩) (World.block_lt_of_cell? W0 _ hc1)).trans hc1
 have HJ:Hid (∀ W',Below W0.heap.size W0 W'→Calls Tryz.prog 39 #[.pointer (some ⟨TB,0,none⟩),.int .u8 (cl:Int),.int .u64 (n:Int)] W' (zC (.int .i64 3) W')):=fun W' hW=>by
  have:=vZ TB T cl n W' (hta.later hW).at_
  rw [J17 hxp,hj] at this
  exact this
 unfold zC at HJ
 have hq:((cl:Int) == 255)=false:=by simp; omega
 have HH:=za h
 have HAN:Hid (∀ W',Below W0.heap.size W0 W'→Calls Tryz.prog 42 #[.pointer (some ⟨H,0,none⟩),.int .u8 (cl:Int),o.v] W' fun en w'=>∃ A c,en=.returned (.agg #[.int .i64 ((yv s cl o).toNat:Nat),.slice A (yS s cl o).length c])∧vB w' A (yS s cl o)∧zq W0 H F (xQ s cl o) w'∧yX W' w'):=fun W' hW=>by
  rw [(uS s cl o).1]
  exact (fx (h.later hW) hg cl o (hl.later hW) (h5.later hW) ha hb).mono fun en w' ⟨A,c,h1,h2,h3⟩=>⟨A,c,h1,h2,h3.ahead hW,h3.keeps (h.later hW)⟩
 have HPP:Hid (∀ w5 A c,zq W0 H F (xQ s cl o) w5→vB w5 A (yS s cl o)→∃ TB,w5.cell? ⟨H,1,none⟩=some (.pointer (some ⟨TB,0,none⟩))∧∀ W',Below w5.heap.size w5 W'→Calls Tryz.prog 43 #[.pointer (some ⟨TB,0,none⟩),.int .u8 (cl:Int),.int .u64 (n:Int),.agg #[.int .i64 ((yv s cl o).toNat:Nat),.slice A (yS s cl o).length c]] W' fun en w' =>
   ∃ q:Int,en=.returned (.int .i64 q)∧zq W0 H F { xQ s cl o with X:=vJ s.X cl n (yv s cl o).toNat (yS s cl o) } w'∧yX w5 w'∧vB w' A (yS s cl o)):=fun w5 A c h1 h2 =>
  hput17 h1 (ansS17_X s cl o) cl n (yv s cl o).toNat A c (yS s cl o) hc8 h2 (uS s cl o).2 (Yg hg cl o)
 generalize ({ xQ s cl o with X:=vJ s.X cl n (yv s cl o).toNat (yS s cl o) }:H17)=s2 at *
 rw [← (uS s cl o).1]
 unfold O14.v O14.cells at HAN
 generalize (yv s cl o).toNat=er at *
 generalize xQ s cl o=s1 at *
 generalize yS s cl o=t0 at *
 generalize t0.length=m at *
 clear h hb1 hb2 hc1 hta hxp hcl hj hg hB hE hT hS hc8 hl h5 ha hb
 go_enter Tryz.func15,Tryz.ntmps15
 go_wp2_with fail
 generalize (W0.alloc (.cells #[.int .u8 (cl:Int),.int .u64 (n:Int),.int .u8 o.kd.toNat,.string o.a,.string o.b,.int .u8 o.nd.toNat,.int .u8 o.rl.toNat] 49)).alloc (.cells #[.int .i64 0,.slice none 0 0] 56)=w2 at *
 refine yg (by kernel_rfl) (fun W0=>Below w2.heap.size w2 W0) (YJu17 H W0.heap.size TB cl n 3) ?F ?hF (by kernel_rfl) (by kernel_rfl) (qf (Below.refl _ _)) ?step ?fin
 case hF =>
  intro x
  simp only [List.map_cons,List.map_nil,xU,Act.put,List.setIfInBounds_toArray,List.set_cons_zero,List.set_cons_succ,Nat.zero_add,Nat.reduceAdd]
  exact rfl
 case step =>
  refine ⟨?_,?_,?_,?_,?_,?_,?_,?_,?_,trivial⟩
  all_goals intro x W0 hW hdep K hK
  ·
   clear hdep
   go_simp
   exact hK _ _ rfl hW (fun _ _ h=>h)
  ·
   have h0:x 0=_:=hdep 0 rfl
   clear hdep
   simp only [h0] at hK
   go_simp
   exact hK _ _ rfl hW (fun _ _ h=>h)
  ·
   have h1:x 1=_:=hdep 1 rfl
   clear hdep
   simp only [h1] at hK
   go_simp
   exact hK _ _ rfl hW (fun _ _ h=>h)
  ·
   have h2:x 2=_:=hdep 2 rfl
   have c:=HX.out _ (zj HB2.out hW)
   clear hdep
   simp only [h2] at hK
   go_simp
   exact hK _ _ rfl hW (fun _ _ h=>h)
  ·
   clear hdep
   go_simp
   exact hK _ _ rfl hW (fun _ _ h=>h)
  ·
   have h4:x 4=_:=hdep 4 rfl
   have c:=(HO.out.below hW).c0
   clear hdep
   simp only [h4] at hK
   go_simp
   exact hK _ _ rfl hW (fun _ _ h=>h)
  ·
   clear hdep
   go_simp
   exact hK _ _ rfl hW (fun _ _ h=>h)
  ·
   have h6:x 6=_:=hdep 6 rfl
   have c:=(HO.out.below hW).c1
   clear hdep
   simp only [h6] at hK
   go_simp
   exact hK _ _ rfl hW (fun _ _ h=>h)
  ·
   have h3:x 3=_:=hdep 3 rfl
   have h5:x 5=_:=hdep 5 rfl
   have h7:x 7=_:=hdep 7 rfl
   have hc:=HJ.out _ (zj HB2.out hW)
   clear hdep
   simp only [h3,h5,h7] at hK
   go_simp
   refine hc.mono ?_
   rintro e W' ⟨rfl,hb⟩
   exact hK _ _ rfl (zj hW hb) (fun j z h=>ZE j z h)
 case fin =>
  intro x w3 hW hY
  have h8:x 8=_:=hY 8 (by decide)
  have HB3:=za (zj HB2.out hW)
  have HR3:=za (HR.out.below hW)
  have HO3:=za (HO.out.below hW)
  clear hW hY HB2 HR HO HX HJ
  simp only [h8]
  have y0:=HO3.out.c0
  have y1:=HO3.out.c1
  have y2:=HO3.out.c2
  have y3:=HO3.out.c3
  have y4:=HO3.out.c4
  have y5:=HO3.out.c5
  have y6:=HO3.out.c6
  go_wp2_with fail
  with_reducible refine (HAN.out _ HB3.out).mono ?_
  rintro e w4 ⟨A5,c5,rfl,htx,hgo,hkp⟩
  have hr4:=hkp.rep HR3.out
  have ho4:=hkp.rq HO3.out
  have HGO5:Hid (zq W0 H F s1 (w4.alloc (.cells #[.int .i64 (er:Int),.slice A5 m c5] 56))):=hgo.behind (ze (Below.refl _ _) _)
  have HTX5:Hid (vB (w4.alloc (.cells #[.int .i64 (er:Int),.slice A5 m c5] 56)) A5 t0):=htx.later (ze (Below.refl _ _) _)
  have HR5:Hid (ug (w4.alloc (.cells #[.int .i64 (er:Int),.slice A5 m c5] 56)) (W0.heap.size+1) 0 (.slice none 0 0)):=hr4.below (ze (Below.refl _ _) _)
  have HO5:Hid (zM (w4.alloc (.cells #[.int .i64 (er:Int),.slice A5 m c5] 56)) W0.heap.size cl n o):=ho4.below (ze (Below.refl _ _) _)
  have HQ5:Hid (ug (w4.alloc (.cells #[.int .i64 (er:Int),.slice A5 m c5] 56)) w4.heap.size er (.slice A5 m c5)):=heap_alloc_new w4 _
  clear htx hgo hkp HAN HB3 HR3 HO3 hr4 ho4 y0 y1 y2 y3 y4 y5 y6
  go_wp2_with fail
  generalize w4.alloc (.cells #[.int .i64 (er:Int),.slice A5 m c5] 56)=w5 at *
  generalize w4.heap.size=Q6 at *
  obtain ⟨TB5,hcT,hpt⟩:=HPP.out w5 A5 c5 HGO5.out HTX5.out
  have HX5:Hid (∀ W',Below w5.heap.size w5 W'→W'.cell? ⟨H,1,none⟩=some (.pointer (some ⟨TB5,0,none⟩))):=fun W' hW=>(hW.cell (p:=⟨H,1,none⟩) (World.block_lt_of_cell? w5 _ hcT)).trans hcT
  have HPT:=za hpt
  clear hcT hpt HPP HGO5 HTX5
  refine zB (by kernel_rfl) 9 (fun W=>Below w5.heap.size w5 W) (fun W'=>zq W0 H F s2 W'∧yX w5 W'∧vB W' A5 t0) (YPu17 H W0.heap.size TB5 cl n (.agg #[.int .i64 (er:Int),.slice A5 m c5])) (fun _=>True) ?F11 ?hF11 (by kernel_rfl) (by kernel_rfl) (by kernel_rfl) (by kernel_rfl) (by decide) (qf (Below.refl _ _)) ?step11 ?fin11
  case hF11 =>
   intro x
   simp only [List.map_cons,List.map_nil,xU,Act.put,List.setIfInBounds_toArray,List.set_cons_zero,List.set_cons_succ,Nat.zero_add,Nat.reduceAdd]
   exact rfl
  case step11 =>
   refine ⟨?_,?_,?_,?_,?_,?_,?_,?_,?_,?_,trivial⟩
   ·
    intro x W
    refine ⟨fun _ hW hdep K hK=>?_,(fun h=>absurd h (by decide)),(fun h=>absurd h (by decide))⟩
    clear hdep
    go_simp
    exact hK _ _ rfl hW (fun _ _ h=>h)
   ·
    intro x W
    refine ⟨fun _ hW hdep K hK=>?_,(fun h=>absurd h (by decide)),(fun h=>absurd h (by decide))⟩
    have h0:x 0=_:=hdep 0 rfl
    clear hdep
    simp only [h0] at hK
    go_simp
    exact hK _ _ rfl hW (fun _ _ h=>h)
   ·
    intro x W
    refine ⟨fun _ hW hdep K hK=>?_,(fun h=>absurd h (by decide)),(fun h=>absurd h (by decide))⟩
    have h1:x 1=_:=hdep 1 rfl
    clear hdep
    simp only [h1] at hK
    go_simp
    exact hK _ _ rfl hW (fun _ _ h=>h)
   ·
    intro x W
    refine ⟨fun _ hW hdep K hK=>?_,(fun h=>absurd h (by decide)),(fun h=>absurd h (by decide))⟩
    have h2:x 2=_:=hdep 2 rfl
    have c:=HX5.out _ hW
    clear hdep
    simp only [h2] at hK
    go_simp
    exact hK _ _ rfl hW (fun _ _ h=>h)
   ·
    intro x W
    refine ⟨fun _ hW hdep K hK=>?_,(fun h=>absurd h (by decide)),(fun h=>absurd h (by decide))⟩
    clear hdep
    go_simp
    exact hK _ _ rfl hW (fun _ _ h=>h)
   ·
    intro x W
    refine ⟨fun _ hW hdep K hK=>?_,(fun h=>absurd h (by decide)),(fun h=>absurd h (by decide))⟩
    have h4:x 4=_:=hdep 4 rfl
    have c:=(HO5.out.below hW).c0
    clear hdep
    simp only [h4] at hK
    go_simp
    exact hK _ _ rfl hW (fun _ _ h=>h)
   ·
    intro x W
    refine ⟨fun _ hW hdep K hK=>?_,(fun h=>absurd h (by decide)),(fun h=>absurd h (by decide))⟩
    clear hdep
    go_simp
    exact hK _ _ rfl hW (fun _ _ h=>h)
   ·
    intro x W
    refine ⟨fun _ hW hdep K hK=>?_,(fun h=>absurd h (by decide)),(fun h=>absurd h (by decide))⟩
    have h6:x 6=_:=hdep 6 rfl
    have c:=(HO5.out.below hW).c1
    clear hdep
    simp only [h6] at hK
    go_simp
    exact hK _ _ rfl hW (fun _ _ h=>h)
   ·
    intro x W
    refine ⟨fun _ hW hdep K hK=>?_,(fun h=>absurd h (by decide)),(fun h=>absurd h (by decide))⟩
    have hr:=HQ5.out.below hW
    have k0:=hr.c0
    have k1:=hr.c1
    clear hr
    clear hdep
    go_simp
    exact hK _ _ rfl hW (fun _ _ h=>h)
   ·
    intro x W
    refine ⟨(fun h=>absurd h (by decide)),fun _ hW hdep K hK=>?_,(fun h=>absurd h (by decide))⟩
    have h3:x 3=_:=hdep 3 rfl
    have h5:x 5=_:=hdep 5 rfl
    have h7:x 7=_:=hdep 7 rfl
    have h8:x 8=_:=hdep 8 rfl
    have hc:=HPT.out _ hW
    clear hdep
    simp only [h3,h5,h7,h8] at hK
    go_simp
    refine hc.mono ?_
    rintro e W' ⟨q9,rfl,hd9⟩
    exact hK _ _ trivial hd9
  case fin11 =>
   intro x W' hD hrest
   obtain ⟨hgo,hkp,htx⟩:=hD
   have hq:=hkp.rep HQ5.out
   have hr:=hkp.rep HR5.out
   have k0:=hq.c0
   have k1:=hq.c1
   have x0:=hr.c0
   have x1:=hr.c1
   have xf:=hr.fr
   have HR6:=za hr
   have HG6:=za hgo
   have HT6:=za htx
   clear hgo hkp htx hq hr hrest HPT HX5 HO5
   go_wp2
   refine bodyPost_ret (yV Tryz.results15 _ _ (W0.heap.size+1) _ _ (0,0) _ rfl (HR6.out.setAll er (.slice A5 m c5)) Tryz.underlying56 rfl xA) rfl ⟨A5,c5,rfl,?_,?_⟩
   ·
    exact HT6.out.turns (yq _ _ _ _) (fun i e=>by rw [e]; exact HR6.out.nos17)
   ·
    exact HG6.out.beside (R:=W0.heap.size+1) HR6.out (by decide) HR6.out.nos17 (by omega) (yq _ _ _ _)
theorem ZB (h:zS W H F s) (hg:s.Good) (cl n:Nat) (o:O14) (hl:yc W) (h5:vY W) (ha:o.a.size≤1000) (hb:o.b.size≤1000):Calls Tryz.prog 15 #[.pointer (some ⟨H,0,none⟩),.agg #[.int .u8 (cl:Int),.int .u64 (n:Int),.int .u8 o.kd.toNat,.string o.a,.string o.b,.int .u8 o.nd.toNat,.int .u8 o.rl.toNat]] W (vP W H F s cl n o):=by
 by_cases hcl:cl=255
 ·
  exact apply17_sys h hg cl n o hcl hl h5 ha hb
 ·
  have hj:J15 (s.X cl).n cl n=0∨J15 (s.X cl).n cl n=1∨J15 (s.X cl).n cl n=2∨J15 (s.X cl).n cl n=3:=by
   unfold J15
   split
   ·
    split
    ·
     exact .inr (.inl rfl)
    ·
     split
     ·
      exact .inr (.inr (.inl rfl))
     ·
      exact .inr (.inr (.inr rfl))
   ·
    exact .inl rfl
  rcases hj with hj | hj | hj | hj
  ·
   exact apply17_j0 h hg cl n o hcl hj
  ·
   exact apply17_j1 h hg cl n o hcl hj
  ·
   exact apply17_j2 h hg cl n o hcl hj
  ·
   exact apply17_j3 h hg cl n o hcl hj hl h5 ha hb
end
end Go.Proofs.YteegkoicalbkbaaGreatDoor
