/-
  The texts that the laws of this seat share, part 10: what the code and the document's own answers tell, walked function by function.
  Conditions: each theorem's own.
-/
import Derived.Test.YthmomkjingcbiaaGreatDoorMigDBI
set_option maxHeartbeats 16000000
namespace Go.Proofs.YthmomkjingcbiaaGreatDoor
open Go.RowKit Go.Maps

theorem mailT_fold (l:List UInt8):qf l=zI (yB l):=by
 unfold qf yB
 cases yP l <;> rfl
set_option maxRecDepth 100000 in
theorem Y7 (v vg:Value) (R:zL W11) (N:List (List UInt8)) (s m:ByteArray) (w:World) (hR:vQ 0 R w v) (hN:NmR w vg N) (h12:R.length≤12) (hr:zA R) (hm:m.size≤1000) (hn:s.size≤1000) :
  Calls Tryz.prog 68 #[.agg #[v,vg],.string s,.string m] w (yx (dsmE (ze R) s.data.toList m.data.toList) (dsmL (ze R) s.data.toList m.data.toList) N w):=by
 have hnot:∀ (x:Bool) (w:World),(Op.unary .not (.bool x)).run Tryz.prog w=.ok (.bool (!x)) w:=fun _ _=>rfl
 have hzu:=uz
 obtain ⟨A,c,rfl⟩:=hR.rw.us.shape
 obtain ⟨A1,c1,rfl⟩:=hN.shape
 have HU0:Hid (∀ W,Below w.heap.size w W→Calls Tryz.prog 143 #[.agg #[.slice A R.length c,.slice A1 N.length c1],.string s] W (qG R s W)):=fun W hb=>xR _ _ R N s W (hR.later hb) (hN.later hb) h12 hr hn
 have HM0:Hid (∀ W,Calls Tryz.prog 146 #[.string m] W (FY (yP m.data.toList) (qf m.data.toList) W)):=fun W=>JZ m W hm
 have HPT0:Hid (∀ (x:W11) W,Below w.heap.size w W→Calls Tryz.prog 145 #[.agg #[.slice A R.length c,.slice A1 N.length c1],zV s x] W fun e w'=>∃ v',e=.returned (.agg #[v',.slice A1 N.length c1])∧vP (zP R s.data.toList x) w' v'∧Below W.heap.size W w'):=fun x W hb=>vp _ _ R N s x W (hR.rw.later hb) (hN.later hb) h12 hr
 have HRC:=za hR
 have HNN:=za hN
 have HRI:=za hr
 clear hR hN
 obtain ⟨n,hlen⟩:∃ n,n=R.length:=⟨_,rfl⟩
 obtain ⟨n1,hlen1⟩:∃ n,n=N.length:=⟨_,rfl⟩
 have HLR:=za hlen
 have HLN:=za hlen1
 unfold qG at HU0
 unfold FY at HM0
 rw [mailT_fold] at HM0
 rw [← hlen] at HU0 HPT0 HRC ⊢
 rw [← hlen1] at HU0 HPT0 HNN ⊢
 clear hlen hlen1
 have HE:Hid (dsmE (ze R) s.data.toList m.data.toList=JS (zf s.data.toList) (xw m.data.toList) (zx R s.data.toList) (Yw (ze R) s.data.toList (yB m.data.toList))):=by
  show _=_
  unfold dsmE; rw [xq]
 have HL2:Hid (dsmL (ze R) s.data.toList m.data.toList=if JS (zf s.data.toList) (xw m.data.toList) (zx R s.data.toList) (Yw (ze R) s.data.toList (yB m.data.toList))=0 then fL (ze R) s.data.toList (fun u=>{ u with ml:=yB m.data.toList }) else ze R):=by
  show _=_
  unfold dsmL; rw [HE.out]
 have HMT:Hid ((zI (yB m.data.toList)).data.toList=yB m.data.toList):=zy _
 have HM1:Hid (m.toList≠[]→xw m.data.toList=yP m.data.toList):=fun h=>by
  unfold xw
  rw [decide_eq_false (fun e=>h (by rw [ByteArray.toList_eq]; exact e)),Bool.false_or]
 have HM2:Hid (m.toList=[]→xw m.data.toList=true∧yP m.data.toList=false):=fun h=>by
  rw [ByteArray.toList_eq] at h
  rw [h]
  exact ⟨rfl,QV⟩
 generalize dsmE (ze R) s.data.toList m.data.toList=E at *
 generalize dsmL (ze R) s.data.toList m.data.toList=L' at *
 cases hname:zf s.data.toList with
 | false =>
  rw [hname] at HU0
  generalize yP m.data.toList=mb at HM0
  generalize zI (yB m.data.toList)=mt at HM0
  have e1:E=10:=by
   have:=HE.out
   rw [hname] at this
   exact this
  have e2:L'=ze R:=by
   have:=HL2.out
   rw [hname] at this
   exact this
  rw [e1]
  clear e1
  clear HE HL2 HPT0 HM1 HM2 HMT
  have Hd1a:=za (zr w (.slice A n c) (.slice A1 n1 c1))
  have HLO2a:Hid (w.heap.size≤w.heap.size):=Nat.le_refl _
  have HB3a:Hid (Below w.heap.size w (w.alloc (.cells #[.slice A n c,.slice A1 n1 c1] zn))):=z7 (Below.refl _ _) _
  have Hd4a:=za (Hd1a.out.later (z7 (Below.refl _ _) (.cells #[.slice none 0 0,.slice none 0 0] zn)))
  have Hr5a:Hid (yv ((w.alloc (.cells #[.slice A n c,.slice A1 n1 c1] zn)).alloc (.cells #[.slice none 0 0,.slice none 0 0] zn)) (w.heap.size+1) (.slice none 0 0) (.slice none 0 0)):=zi (by simp)
  have HLO6a:Hid (w.heap.size≤w.heap.size+1):=by have:=HB3a.out.size; show _≤_; simp at this; omega
  have HB7a:=za (z8 HB3a.out (z7 (Below.refl _ _) (.cells #[.slice none 0 0,.slice none 0 0] zn)))
  go_enter Tryz.func68,Tryz.ntmps68
  have ⟨kx9a,ky10a,kp11a,kq12a⟩:=Hd4a.out.q11
  have ⟨kx14a,ky15a,kp16a,kq17a⟩:=Hr5a.out.q11
  go_wp2_with fail
  generalize (w.alloc (.cells #[.slice A n c,.slice A1 n1 c1] zn)).alloc (.cells #[.slice none 0 0,.slice none 0 0] zn)=wg18a at *
  with_reducible refine (HU0.out wg18a HB7a.out).mono ?_
  rintro e w3 ⟨t,x,he,hyes,hno,hb⟩
  clear kx9a ky10a kp11a kq12a kx14a ky15a kp16a kq17a
  have Hd19a:=za (Hd4a.out.later hb)
  have Hr20a:=za (Hr5a.out.later hb)
  have HB21a:=za (z8 HB7a.out hb)
  clear hb
  have he':e=.returned (.tuple #[.agg #[.string ⟨#[]⟩,.string ⟨#[]⟩,.string ⟨#[]⟩,.bool false,.slice none 0 0],.int .i64 10]):=by
   obtain ⟨h1,h2⟩:=hno (by show (10:Int)≠0; decide)
   rw [he,h1,h2]; rfl
  subst he'
  clear he hyes hno
  have HLT22a:=za (Hd19a.out.lt)
  have HLT23a:=za (Hr20a.out.lt)
  have Hd24a:=za (Hd19a.out.later (z7 (Below.refl _ _) (.cells #[.string ⟨#[]⟩,.string ⟨#[]⟩,.string ⟨#[]⟩,.bool false,.slice none 0 0] 47)))
  have Hr25a:=za (Hr20a.out.later (z7 (Below.refl _ _) (.cells #[.string ⟨#[]⟩,.string ⟨#[]⟩,.string ⟨#[]⟩,.bool false,.slice none 0 0] 47)))
  have Hu26a:Hid (yf (w3.alloc (.cells #[.string ⟨#[]⟩,.string ⟨#[]⟩,.string ⟨#[]⟩,.bool false,.slice none 0 0] 47)) (w3.heap.size) (.string ⟨#[]⟩) (.string ⟨#[]⟩) (.string ⟨#[]⟩) (.bool false) (.slice none 0 0)):=heap_alloc_new w3 _
  have HLO27a:Hid (w.heap.size≤w3.heap.size):=by have:=HB21a.out.size; show _≤_; exact this
  have HB28a:=za (z8 HB21a.out (z7 (Below.refl _ _) (.cells #[.string ⟨#[]⟩,.string ⟨#[]⟩,.string ⟨#[]⟩,.bool false,.slice none 0 0] 47)))
  have ⟨kx30a,ky31a,kp32a,kq33a⟩:=Hd24a.out.q11
  have ⟨kx35a,ky36a,kp37a,kq38a⟩:=Hr25a.out.q11
  have hu39a:=Hu26a.out
  have kf40a:=hu39a.free
  have kc41a:_=some (.string ⟨#[]⟩:Value):=hu39a.at_ 0
  have kc42a:_=some (.string ⟨#[]⟩:Value):=hu39a.at_ 1
  have kc43a:_=some (.string ⟨#[]⟩:Value):=hu39a.at_ 2
  have kc44a:_=some (.bool false:Value):=hu39a.at_ 3
  have kc45a:_=some (.slice none 0 0:Value):=hu39a.at_ 4
  clear hu39a
  go_wp2_with fail
  generalize w3.alloc (.cells #[.string ⟨#[]⟩,.string ⟨#[]⟩,.string ⟨#[]⟩,.bool false,.slice none 0 0] 47)=wg46a at *
  with_reducible refine (HM0.out _).mono ?_
  rintro e w4 ⟨rfl,qd,hwd⟩
  have hb:Below wg46a.heap.size wg46a w4:=by rw [hwd]; exact zv (Below.refl _ _) _
  clear hwd
  clear kx30a ky31a kp32a kq33a kx35a ky36a kp37a kq38a kf40a kc41a kc42a kc43a kc44a kc45a
  have Hd47a:=za (Hd24a.out.later hb)
  have Hr48a:=za (Hr25a.out.later hb)
  have Hu49a:=za (zh Hu26a.out hb)
  have HB50a:=za (z8 HB28a.out hb)
  clear hb
  have ⟨kx52a,ky53a,kp54a,kq55a⟩:=Hd47a.out.q11
  have ⟨kx57a,ky58a,kp59a,kq60a⟩:=Hr48a.out.q11
  have hu61a:=Hu49a.out
  have kf62a:=hu61a.free
  have kc63a:_=some (.string ⟨#[]⟩:Value):=hu61a.at_ 0
  have kc64a:_=some (.string ⟨#[]⟩:Value):=hu61a.at_ 1
  have kc65a:_=some (.string ⟨#[]⟩:Value):=hu61a.at_ 2
  have kc66a:_=some (.bool false:Value):=hu61a.at_ 3
  have kc67a:_=some (.slice none 0 0:Value):=hu61a.at_ 4
  clear hu61a
  have HS:=yt HB50a.out Hr48a.out HLO6a.out (.slice A n c) (.slice A1 n1 c1)
  have z0:=HS.1.c0
  have z1:=HS.1.c1
  have HPOST:=za (show yx 10 L' N w (.returned (.tuple #[.agg #[.slice A n c,.slice A1 n1 c1],.int .i64 10])) _ from ⟨R,_,_,rfl,HRC.out.later HS.2.1,e2.symm,HNN.out.later HS.2.1,HS.2.1⟩)
  clear HS
  go_wp2
  refine bodyPost_ret (v:=.tuple #[.agg #[.slice A n c,.slice A1 n1 c1],.int .i64 10]) ?_ rfl HPOST.out
  simp [results,Tryz.results68,go_sem,z0,z1]
 | true =>
  rw [hname] at HU0
  by_cases hbm:xw m.data.toList=true
  case neg =>
   have hbm2:xw m.data.toList=false:=by simpa using hbm
   have hme:¬ m.toList=[]:=fun h=>hbm (HM2.out h).1
   have hmb:yP m.data.toList=false:=by rw [← HM1.out hme]; exact hbm2
   have hme2:m.toList.isEmpty=false:=by simpa using hme
   rw [hmb] at HM0
   have HMB2:=za hbm2
   clear hbm hmb hbm2
   generalize zI (yB m.data.toList)=mt at HM0
   have e1:E=11:=by
    have:=HE.out
    rw [hname] at this
    rw [HMB2.out] at this
    exact this
   have e2:L'=ze R:=by
    have:=HL2.out
    rw [hname] at this
    rw [HMB2.out] at this
    exact this
   rw [e1]
   clear e1
   clear HE HL2 HPT0 HM1 HM2 HMT
   cases hh:zx R s.data.toList with
   | false =>
    rw [hh] at HU0
    have Hd1bf:=za (zr w (.slice A n c) (.slice A1 n1 c1))
    have HLO2bf:Hid (w.heap.size≤w.heap.size):=Nat.le_refl _
    have HB3bf:Hid (Below w.heap.size w (w.alloc (.cells #[.slice A n c,.slice A1 n1 c1] zn))):=z7 (Below.refl _ _) _
    have Hd4bf:=za (Hd1bf.out.later (z7 (Below.refl _ _) (.cells #[.slice none 0 0,.slice none 0 0] zn)))
    have Hr5bf:Hid (yv ((w.alloc (.cells #[.slice A n c,.slice A1 n1 c1] zn)).alloc (.cells #[.slice none 0 0,.slice none 0 0] zn)) (w.heap.size+1) (.slice none 0 0) (.slice none 0 0)):=zi (by simp)
    have HLO6bf:Hid (w.heap.size≤w.heap.size+1):=by have:=HB3bf.out.size; show _≤_; simp at this; omega
    have HB7bf:=za (z8 HB3bf.out (z7 (Below.refl _ _) (.cells #[.slice none 0 0,.slice none 0 0] zn)))
    go_enter Tryz.func68,Tryz.ntmps68
    have ⟨kx9bf,ky10bf,kp11bf,kq12bf⟩:=Hd4bf.out.q11
    have ⟨kx14bf,ky15bf,kp16bf,kq17bf⟩:=Hr5bf.out.q11
    go_wp2_with fail
    generalize (w.alloc (.cells #[.slice A n c,.slice A1 n1 c1] zn)).alloc (.cells #[.slice none 0 0,.slice none 0 0] zn)=wg18bf at *
    with_reducible refine (HU0.out wg18bf HB7bf.out).mono ?_
    rintro e w3 ⟨t,x,he,hyes,hno,hb⟩
    clear kx9bf ky10bf kp11bf kq12bf kx14bf ky15bf kp16bf kq17bf
    have Hd19bf:=za (Hd4bf.out.later hb)
    have Hr20bf:=za (Hr5bf.out.later hb)
    have HB21bf:=za (z8 HB7bf.out hb)
    clear hb
    have he':e=.returned (.tuple #[.agg #[.string ⟨#[]⟩,.string ⟨#[]⟩,.string ⟨#[]⟩,.bool false,.slice none 0 0],.int .i64 8]):=by
     obtain ⟨h1,h2⟩:=hno (by show (8:Int)≠0; decide)
     rw [he,h1,h2]; rfl
    subst he'
    clear he hyes hno
    have HLT22bf:=za (Hd19bf.out.lt)
    have HLT23bf:=za (Hr20bf.out.lt)
    have Hd24bf:=za (Hd19bf.out.later (z7 (Below.refl _ _) (.cells #[.string ⟨#[]⟩,.string ⟨#[]⟩,.string ⟨#[]⟩,.bool false,.slice none 0 0] 47)))
    have Hr25bf:=za (Hr20bf.out.later (z7 (Below.refl _ _) (.cells #[.string ⟨#[]⟩,.string ⟨#[]⟩,.string ⟨#[]⟩,.bool false,.slice none 0 0] 47)))
    have Hu26bf:Hid (yf (w3.alloc (.cells #[.string ⟨#[]⟩,.string ⟨#[]⟩,.string ⟨#[]⟩,.bool false,.slice none 0 0] 47)) (w3.heap.size) (.string ⟨#[]⟩) (.string ⟨#[]⟩) (.string ⟨#[]⟩) (.bool false) (.slice none 0 0)):=heap_alloc_new w3 _
    have HLO27bf:Hid (w.heap.size≤w3.heap.size):=by have:=HB21bf.out.size; show _≤_; exact this
    have HB28bf:=za (z8 HB21bf.out (z7 (Below.refl _ _) (.cells #[.string ⟨#[]⟩,.string ⟨#[]⟩,.string ⟨#[]⟩,.bool false,.slice none 0 0] 47)))
    have ⟨kx30bf,ky31bf,kp32bf,kq33bf⟩:=Hd24bf.out.q11
    have ⟨kx35bf,ky36bf,kp37bf,kq38bf⟩:=Hr25bf.out.q11
    have hu39bf:=Hu26bf.out
    have kf40bf:=hu39bf.free
    have kc41bf:_=some (.string ⟨#[]⟩:Value):=hu39bf.at_ 0
    have kc42bf:_=some (.string ⟨#[]⟩:Value):=hu39bf.at_ 1
    have kc43bf:_=some (.string ⟨#[]⟩:Value):=hu39bf.at_ 2
    have kc44bf:_=some (.bool false:Value):=hu39bf.at_ 3
    have kc45bf:_=some (.slice none 0 0:Value):=hu39bf.at_ 4
    clear hu39bf
    go_wp2_with fail
    generalize w3.alloc (.cells #[.string ⟨#[]⟩,.string ⟨#[]⟩,.string ⟨#[]⟩,.bool false,.slice none 0 0] 47)=wg46bf at *
    with_reducible refine (HM0.out _).mono ?_
    rintro e w4 ⟨rfl,qd,hwd⟩
    have hb:Below wg46bf.heap.size wg46bf w4:=by rw [hwd]; exact zv (Below.refl _ _) _
    clear hwd
    clear kx30bf ky31bf kp32bf kq33bf kx35bf ky36bf kp37bf kq38bf kf40bf kc41bf kc42bf kc43bf kc44bf kc45bf
    have Hd47bf:=za (Hd24bf.out.later hb)
    have Hr48bf:=za (Hr25bf.out.later hb)
    have Hu49bf:=za (zh Hu26bf.out hb)
    have HB50bf:=za (z8 HB28bf.out hb)
    clear hb
    have ⟨kx52bf,ky53bf,kp54bf,kq55bf⟩:=Hd47bf.out.q11
    have ⟨kx57bf,ky58bf,kp59bf,kq60bf⟩:=Hr48bf.out.q11
    have hu61bf:=Hu49bf.out
    have kf62bf:=hu61bf.free
    have kc63bf:_=some (.string ⟨#[]⟩:Value):=hu61bf.at_ 0
    have kc64bf:_=some (.string ⟨#[]⟩:Value):=hu61bf.at_ 1
    have kc65bf:_=some (.string ⟨#[]⟩:Value):=hu61bf.at_ 2
    have kc66bf:_=some (.bool false:Value):=hu61bf.at_ 3
    have kc67bf:_=some (.slice none 0 0:Value):=hu61bf.at_ 4
    clear hu61bf
    have HS:=yt HB50bf.out Hr48bf.out HLO6bf.out (.slice A n c) (.slice A1 n1 c1)
    have z0:=HS.1.c0
    have z1:=HS.1.c1
    have HPOST:=za (show yx 11 L' N w (.returned (.tuple #[.agg #[.slice A n c,.slice A1 n1 c1],.int .i64 11])) _ from ⟨R,_,_,rfl,HRC.out.later HS.2.1,e2.symm,HNN.out.later HS.2.1,HS.2.1⟩)
    clear HS
    go_wp2
    refine bodyPost_ret (v:=.tuple #[.agg #[.slice A n c,.slice A1 n1 c1],.int .i64 11]) ?_ rfl HPOST.out
    simp [results,Tryz.results68,go_sem,z0,z1]
   | true =>
    rw [hh] at HU0
    have Hd1bt:=za (zr w (.slice A n c) (.slice A1 n1 c1))
    have HLO2bt:Hid (w.heap.size≤w.heap.size):=Nat.le_refl _
    have HB3bt:Hid (Below w.heap.size w (w.alloc (.cells #[.slice A n c,.slice A1 n1 c1] zn))):=z7 (Below.refl _ _) _
    have Hd4bt:=za (Hd1bt.out.later (z7 (Below.refl _ _) (.cells #[.slice none 0 0,.slice none 0 0] zn)))
    have Hr5bt:Hid (yv ((w.alloc (.cells #[.slice A n c,.slice A1 n1 c1] zn)).alloc (.cells #[.slice none 0 0,.slice none 0 0] zn)) (w.heap.size+1) (.slice none 0 0) (.slice none 0 0)):=zi (by simp)
    have HLO6bt:Hid (w.heap.size≤w.heap.size+1):=by have:=HB3bt.out.size; show _≤_; simp at this; omega
    have HB7bt:=za (z8 HB3bt.out (z7 (Below.refl _ _) (.cells #[.slice none 0 0,.slice none 0 0] zn)))
    go_enter Tryz.func68,Tryz.ntmps68
    have ⟨kx9bt,ky10bt,kp11bt,kq12bt⟩:=Hd4bt.out.q11
    have ⟨kx14bt,ky15bt,kp16bt,kq17bt⟩:=Hr5bt.out.q11
    go_wp2_with fail
    generalize (w.alloc (.cells #[.slice A n c,.slice A1 n1 c1] zn)).alloc (.cells #[.slice none 0 0,.slice none 0 0] zn)=wg18bt at *
    with_reducible refine (HU0.out wg18bt HB7bt.out).mono ?_
    rintro e w3 ⟨t,x,he,hyes,hno,hb⟩
    clear kx9bt ky10bt kp11bt kq12bt kx14bt ky15bt kp16bt kq17bt
    have Hd19bt:=za (Hd4bt.out.later hb)
    have Hr20bt:=za (Hr5bt.out.later hb)
    have HB21bt:=za (z8 HB7bt.out hb)
    clear hb
    obtain ⟨ht,hx⟩:=hyes rfl
    obtain ⟨xh,xm,xd,xa,xg,xc⟩:=x
    obtain ⟨xl,hxl⟩:∃ l,l=xg.length:=⟨_,rfl⟩
    have he':e=.returned (.tuple #[.agg #[.string s,.string xh,.string xm,.bool xd,.slice xa xl xc],.int .i64 0]):=by
     rw [he,ht,hxl]; rfl
    subst he'
    have HXx:=za hx
    have HLx:=za hxl
    clear he hyes hno ht hx hxl
    have HLT22bt:=za (Hd19bt.out.lt)
    have HLT23bt:=za (Hr20bt.out.lt)
    have Hd24bt:=za (Hd19bt.out.later (z7 (Below.refl _ _) (.cells #[.string s,.string xh,.string xm,.bool xd,.slice xa xl xc] 47)))
    have Hr25bt:=za (Hr20bt.out.later (z7 (Below.refl _ _) (.cells #[.string s,.string xh,.string xm,.bool xd,.slice xa xl xc] 47)))
    have Hu26bt:Hid (yf (w3.alloc (.cells #[.string s,.string xh,.string xm,.bool xd,.slice xa xl xc] 47)) (w3.heap.size) (.string s) (.string xh) (.string xm) (.bool xd) (.slice xa xl xc)):=heap_alloc_new w3 _
    have HLO27bt:Hid (w.heap.size≤w3.heap.size):=by have:=HB21bt.out.size; show _≤_; exact this
    have HB28bt:=za (z8 HB21bt.out (z7 (Below.refl _ _) (.cells #[.string s,.string xh,.string xm,.bool xd,.slice xa xl xc] 47)))
    have ⟨kx30bt,ky31bt,kp32bt,kq33bt⟩:=Hd24bt.out.q11
    have ⟨kx35bt,ky36bt,kp37bt,kq38bt⟩:=Hr25bt.out.q11
    have hu39bt:=Hu26bt.out
    have kf40bt:=hu39bt.free
    have kc41bt:_=some (.string s:Value):=hu39bt.at_ 0
    have kc42bt:_=some (.string xh:Value):=hu39bt.at_ 1
    have kc43bt:_=some (.string xm:Value):=hu39bt.at_ 2
    have kc44bt:_=some (.bool xd:Value):=hu39bt.at_ 3
    have kc45bt:_=some (.slice xa xl xc:Value):=hu39bt.at_ 4
    clear hu39bt
    go_wp2_with fail
    generalize w3.alloc (.cells #[.string s,.string xh,.string xm,.bool xd,.slice xa xl xc] 47)=wg46bt at *
    with_reducible refine (HM0.out _).mono ?_
    rintro e w4 ⟨rfl,qd,hwd⟩
    have hb:Below wg46bt.heap.size wg46bt w4:=by rw [hwd]; exact zv (Below.refl _ _) _
    clear hwd
    clear kx30bt ky31bt kp32bt kq33bt kx35bt ky36bt kp37bt kq38bt kf40bt kc41bt kc42bt kc43bt kc44bt kc45bt
    have Hd47bt:=za (Hd24bt.out.later hb)
    have Hr48bt:=za (Hr25bt.out.later hb)
    have Hu49bt:=za (zh Hu26bt.out hb)
    have HB50bt:=za (z8 HB28bt.out hb)
    clear hb
    have ⟨kx52bt,ky53bt,kp54bt,kq55bt⟩:=Hd47bt.out.q11
    have ⟨kx57bt,ky58bt,kp59bt,kq60bt⟩:=Hr48bt.out.q11
    have hu61bt:=Hu49bt.out
    have kf62bt:=hu61bt.free
    have kc63bt:_=some (.string s:Value):=hu61bt.at_ 0
    have kc64bt:_=some (.string xh:Value):=hu61bt.at_ 1
    have kc65bt:_=some (.string xm:Value):=hu61bt.at_ 2
    have kc66bt:_=some (.bool xd:Value):=hu61bt.at_ 3
    have kc67bt:_=some (.slice xa xl xc:Value):=hu61bt.at_ 4
    clear hu61bt
    have HS:=yt HB50bt.out Hr48bt.out HLO6bt.out (.slice A n c) (.slice A1 n1 c1)
    have z0:=HS.1.c0
    have z1:=HS.1.c1
    have HPOST:=za (show yx 11 L' N w (.returned (.tuple #[.agg #[.slice A n c,.slice A1 n1 c1],.int .i64 11])) _ from ⟨R,_,_,rfl,HRC.out.later HS.2.1,e2.symm,HNN.out.later HS.2.1,HS.2.1⟩)
    clear HS
    go_wp2
    refine bodyPost_ret (v:=.tuple #[.agg #[.slice A n c,.slice A1 n1 c1],.int .i64 11]) ?_ rfl HPOST.out
    simp [results,Tryz.results68,go_sem,z0,z1]
  have HOK:Hid (m.toList=[]∨(¬ m.toList=[]∧yP m.data.toList=true)):=by
   by_cases h:m.toList=[]
   ·
    exact .inl h
   ·
    exact .inr ⟨h,by rw [← HM1.out h]; exact hbm⟩
  have HBM:=za hbm
  clear hbm HM1 HM2
  cases hh:zx R s.data.toList with
  | false =>
   rw [hh] at HU0
   have e1:E=8:=by
    have:=HE.out
    rw [hname] at this
    rw [HBM.out] at this
    rw [hh] at this
    exact this
   have e2:L'=ze R:=by
    have:=HL2.out
    rw [hname] at this
    rw [HBM.out] at this
    rw [hh] at this
    exact this
   rw [e1]
   clear e1
   clear HE HL2 HPT0 HMT
   generalize zI (yB m.data.toList)=mt at HM0
   rcases HOK.out with hme | ⟨hme,hmb⟩
   ·
    have hme2:m.toList.isEmpty=true:=by simpa using hme
    generalize yP m.data.toList=mb at HM0
    clear HOK
    have Hd1cx:=za (zr w (.slice A n c) (.slice A1 n1 c1))
    have HLO2cx:Hid (w.heap.size≤w.heap.size):=Nat.le_refl _
    have HB3cx:Hid (Below w.heap.size w (w.alloc (.cells #[.slice A n c,.slice A1 n1 c1] zn))):=z7 (Below.refl _ _) _
    have Hd4cx:=za (Hd1cx.out.later (z7 (Below.refl _ _) (.cells #[.slice none 0 0,.slice none 0 0] zn)))
    have Hr5cx:Hid (yv ((w.alloc (.cells #[.slice A n c,.slice A1 n1 c1] zn)).alloc (.cells #[.slice none 0 0,.slice none 0 0] zn)) (w.heap.size+1) (.slice none 0 0) (.slice none 0 0)):=zi (by simp)
    have HLO6cx:Hid (w.heap.size≤w.heap.size+1):=by have:=HB3cx.out.size; show _≤_; simp at this; omega
    have HB7cx:=za (z8 HB3cx.out (z7 (Below.refl _ _) (.cells #[.slice none 0 0,.slice none 0 0] zn)))
    go_enter Tryz.func68,Tryz.ntmps68
    have ⟨kx9cx,ky10cx,kp11cx,kq12cx⟩:=Hd4cx.out.q11
    have ⟨kx14cx,ky15cx,kp16cx,kq17cx⟩:=Hr5cx.out.q11
    go_wp2_with fail
    generalize (w.alloc (.cells #[.slice A n c,.slice A1 n1 c1] zn)).alloc (.cells #[.slice none 0 0,.slice none 0 0] zn)=wg18cx at *
    with_reducible refine (HU0.out wg18cx HB7cx.out).mono ?_
    rintro e w3 ⟨t,x,he,hyes,hno,hb⟩
    clear kx9cx ky10cx kp11cx kq12cx kx14cx ky15cx kp16cx kq17cx
    have Hd19cx:=za (Hd4cx.out.later hb)
    have Hr20cx:=za (Hr5cx.out.later hb)
    have HB21cx:=za (z8 HB7cx.out hb)
    clear hb
    have he':e=.returned (.tuple #[.agg #[.string ⟨#[]⟩,.string ⟨#[]⟩,.string ⟨#[]⟩,.bool false,.slice none 0 0],.int .i64 8]):=by
     obtain ⟨h1,h2⟩:=hno (by show (8:Int)≠0; decide)
     rw [he,h1,h2]; rfl
    subst he'
    clear he hyes hno
    have HLT22cx:=za (Hd19cx.out.lt)
    have HLT23cx:=za (Hr20cx.out.lt)
    have Hd24cx:=za (Hd19cx.out.later (z7 (Below.refl _ _) (.cells #[.string ⟨#[]⟩,.string ⟨#[]⟩,.string ⟨#[]⟩,.bool false,.slice none 0 0] 47)))
    have Hr25cx:=za (Hr20cx.out.later (z7 (Below.refl _ _) (.cells #[.string ⟨#[]⟩,.string ⟨#[]⟩,.string ⟨#[]⟩,.bool false,.slice none 0 0] 47)))
    have Hu26cx:Hid (yf (w3.alloc (.cells #[.string ⟨#[]⟩,.string ⟨#[]⟩,.string ⟨#[]⟩,.bool false,.slice none 0 0] 47)) (w3.heap.size) (.string ⟨#[]⟩) (.string ⟨#[]⟩) (.string ⟨#[]⟩) (.bool false) (.slice none 0 0)):=heap_alloc_new w3 _
    have HLO27cx:Hid (w.heap.size≤w3.heap.size):=by have:=HB21cx.out.size; show _≤_; exact this
    have HB28cx:=za (z8 HB21cx.out (z7 (Below.refl _ _) (.cells #[.string ⟨#[]⟩,.string ⟨#[]⟩,.string ⟨#[]⟩,.bool false,.slice none 0 0] 47)))
    have ⟨kx30cx,ky31cx,kp32cx,kq33cx⟩:=Hd24cx.out.q11
    have ⟨kx35cx,ky36cx,kp37cx,kq38cx⟩:=Hr25cx.out.q11
    have hu39cx:=Hu26cx.out
    have kf40cx:=hu39cx.free
    have kc41cx:_=some (.string ⟨#[]⟩:Value):=hu39cx.at_ 0
    have kc42cx:_=some (.string ⟨#[]⟩:Value):=hu39cx.at_ 1
    have kc43cx:_=some (.string ⟨#[]⟩:Value):=hu39cx.at_ 2
    have kc44cx:_=some (.bool false:Value):=hu39cx.at_ 3
    have kc45cx:_=some (.slice none 0 0:Value):=hu39cx.at_ 4
    clear hu39cx
    go_wp2_with fail
    generalize w3.alloc (.cells #[.string ⟨#[]⟩,.string ⟨#[]⟩,.string ⟨#[]⟩,.bool false,.slice none 0 0] 47)=wg46cx at *
    with_reducible refine (HM0.out _).mono ?_
    rintro e w4 ⟨rfl,qd,hwd⟩
    have hb:Below wg46cx.heap.size wg46cx w4:=by rw [hwd]; exact zv (Below.refl _ _) _
    clear hwd
    clear kx30cx ky31cx kp32cx kq33cx kx35cx ky36cx kp37cx kq38cx kf40cx kc41cx kc42cx kc43cx kc44cx kc45cx
    have Hd47cx:=za (Hd24cx.out.later hb)
    have Hr48cx:=za (Hr25cx.out.later hb)
    have Hu49cx:=za (zh Hu26cx.out hb)
    have HB50cx:=za (z8 HB28cx.out hb)
    clear hb
    have ⟨kx52cx,ky53cx,kp54cx,kq55cx⟩:=Hd47cx.out.q11
    have ⟨kx57cx,ky58cx,kp59cx,kq60cx⟩:=Hr48cx.out.q11
    have hu61cx:=Hu49cx.out
    have kf62cx:=hu61cx.free
    have kc63cx:_=some (.string ⟨#[]⟩:Value):=hu61cx.at_ 0
    have kc64cx:_=some (.string ⟨#[]⟩:Value):=hu61cx.at_ 1
    have kc65cx:_=some (.string ⟨#[]⟩:Value):=hu61cx.at_ 2
    have kc66cx:_=some (.bool false:Value):=hu61cx.at_ 3
    have kc67cx:_=some (.slice none 0 0:Value):=hu61cx.at_ 4
    clear hu61cx
    have HS:=yt HB50cx.out Hr48cx.out HLO6cx.out (.slice A n c) (.slice A1 n1 c1)
    have z0:=HS.1.c0
    have z1:=HS.1.c1
    have HPOST:=za (show yx 8 L' N w (.returned (.tuple #[.agg #[.slice A n c,.slice A1 n1 c1],.int .i64 8])) _ from ⟨R,_,_,rfl,HRC.out.later HS.2.1,e2.symm,HNN.out.later HS.2.1,HS.2.1⟩)
    clear HS
    go_wp2
    refine bodyPost_ret (v:=.tuple #[.agg #[.slice A n c,.slice A1 n1 c1],.int .i64 8]) ?_ rfl HPOST.out
    simp [results,Tryz.results68,go_sem,z0,z1]
   ·
    have hme2:m.toList.isEmpty=false:=by simpa using hme
    rw [hmb] at HM0
    clear hmb
    clear HOK
    have Hd1cy:=za (zr w (.slice A n c) (.slice A1 n1 c1))
    have HLO2cy:Hid (w.heap.size≤w.heap.size):=Nat.le_refl _
    have HB3cy:Hid (Below w.heap.size w (w.alloc (.cells #[.slice A n c,.slice A1 n1 c1] zn))):=z7 (Below.refl _ _) _
    have Hd4cy:=za (Hd1cy.out.later (z7 (Below.refl _ _) (.cells #[.slice none 0 0,.slice none 0 0] zn)))
    have Hr5cy:Hid (yv ((w.alloc (.cells #[.slice A n c,.slice A1 n1 c1] zn)).alloc (.cells #[.slice none 0 0,.slice none 0 0] zn)) (w.heap.size+1) (.slice none 0 0) (.slice none 0 0)):=zi (by simp)
    have HLO6cy:Hid (w.heap.size≤w.heap.size+1):=by have:=HB3cy.out.size; show _≤_; simp at this; omega
    have HB7cy:=za (z8 HB3cy.out (z7 (Below.refl _ _) (.cells #[.slice none 0 0,.slice none 0 0] zn)))
    go_enter Tryz.func68,Tryz.ntmps68
    have ⟨kx9cy,ky10cy,kp11cy,kq12cy⟩:=Hd4cy.out.q11
    have ⟨kx14cy,ky15cy,kp16cy,kq17cy⟩:=Hr5cy.out.q11
    go_wp2_with fail
    generalize (w.alloc (.cells #[.slice A n c,.slice A1 n1 c1] zn)).alloc (.cells #[.slice none 0 0,.slice none 0 0] zn)=wg18cy at *
    with_reducible refine (HU0.out wg18cy HB7cy.out).mono ?_
    rintro e w3 ⟨t,x,he,hyes,hno,hb⟩
    clear kx9cy ky10cy kp11cy kq12cy kx14cy ky15cy kp16cy kq17cy
    have Hd19cy:=za (Hd4cy.out.later hb)
    have Hr20cy:=za (Hr5cy.out.later hb)
    have HB21cy:=za (z8 HB7cy.out hb)
    clear hb
    have he':e=.returned (.tuple #[.agg #[.string ⟨#[]⟩,.string ⟨#[]⟩,.string ⟨#[]⟩,.bool false,.slice none 0 0],.int .i64 8]):=by
     obtain ⟨h1,h2⟩:=hno (by show (8:Int)≠0; decide)
     rw [he,h1,h2]; rfl
    subst he'
    clear he hyes hno
    have HLT22cy:=za (Hd19cy.out.lt)
    have HLT23cy:=za (Hr20cy.out.lt)
    have Hd24cy:=za (Hd19cy.out.later (z7 (Below.refl _ _) (.cells #[.string ⟨#[]⟩,.string ⟨#[]⟩,.string ⟨#[]⟩,.bool false,.slice none 0 0] 47)))
    have Hr25cy:=za (Hr20cy.out.later (z7 (Below.refl _ _) (.cells #[.string ⟨#[]⟩,.string ⟨#[]⟩,.string ⟨#[]⟩,.bool false,.slice none 0 0] 47)))
    have Hu26cy:Hid (yf (w3.alloc (.cells #[.string ⟨#[]⟩,.string ⟨#[]⟩,.string ⟨#[]⟩,.bool false,.slice none 0 0] 47)) (w3.heap.size) (.string ⟨#[]⟩) (.string ⟨#[]⟩) (.string ⟨#[]⟩) (.bool false) (.slice none 0 0)):=heap_alloc_new w3 _
    have HLO27cy:Hid (w.heap.size≤w3.heap.size):=by have:=HB21cy.out.size; show _≤_; exact this
    have HB28cy:=za (z8 HB21cy.out (z7 (Below.refl _ _) (.cells #[.string ⟨#[]⟩,.string ⟨#[]⟩,.string ⟨#[]⟩,.bool false,.slice none 0 0] 47)))
    have ⟨kx30cy,ky31cy,kp32cy,kq33cy⟩:=Hd24cy.out.q11
    have ⟨kx35cy,ky36cy,kp37cy,kq38cy⟩:=Hr25cy.out.q11
    have hu39cy:=Hu26cy.out
    have kf40cy:=hu39cy.free
    have kc41cy:_=some (.string ⟨#[]⟩:Value):=hu39cy.at_ 0
    have kc42cy:_=some (.string ⟨#[]⟩:Value):=hu39cy.at_ 1
    have kc43cy:_=some (.string ⟨#[]⟩:Value):=hu39cy.at_ 2
    have kc44cy:_=some (.bool false:Value):=hu39cy.at_ 3
    have kc45cy:_=some (.slice none 0 0:Value):=hu39cy.at_ 4
    clear hu39cy
    go_wp2_with fail
    generalize w3.alloc (.cells #[.string ⟨#[]⟩,.string ⟨#[]⟩,.string ⟨#[]⟩,.bool false,.slice none 0 0] 47)=wg46cy at *
    with_reducible refine (HM0.out _).mono ?_
    rintro e w4 ⟨rfl,qd,hwd⟩
    have hb:Below wg46cy.heap.size wg46cy w4:=by rw [hwd]; exact zv (Below.refl _ _) _
    clear hwd
    clear kx30cy ky31cy kp32cy kq33cy kx35cy ky36cy kp37cy kq38cy kf40cy kc41cy kc42cy kc43cy kc44cy kc45cy
    have Hd47cy:=za (Hd24cy.out.later hb)
    have Hr48cy:=za (Hr25cy.out.later hb)
    have Hu49cy:=za (zh Hu26cy.out hb)
    have HB50cy:=za (z8 HB28cy.out hb)
    clear hb
    have ⟨kx52cy,ky53cy,kp54cy,kq55cy⟩:=Hd47cy.out.q11
    have ⟨kx57cy,ky58cy,kp59cy,kq60cy⟩:=Hr48cy.out.q11
    have hu61cy:=Hu49cy.out
    have kf62cy:=hu61cy.free
    have kc63cy:_=some (.string ⟨#[]⟩:Value):=hu61cy.at_ 0
    have kc64cy:_=some (.string ⟨#[]⟩:Value):=hu61cy.at_ 1
    have kc65cy:_=some (.string ⟨#[]⟩:Value):=hu61cy.at_ 2
    have kc66cy:_=some (.bool false:Value):=hu61cy.at_ 3
    have kc67cy:_=some (.slice none 0 0:Value):=hu61cy.at_ 4
    clear hu61cy
    have HS:=yt HB50cy.out Hr48cy.out HLO6cy.out (.slice A n c) (.slice A1 n1 c1)
    have z0:=HS.1.c0
    have z1:=HS.1.c1
    have HPOST:=za (show yx 8 L' N w (.returned (.tuple #[.agg #[.slice A n c,.slice A1 n1 c1],.int .i64 8])) _ from ⟨R,_,_,rfl,HRC.out.later HS.2.1,e2.symm,HNN.out.later HS.2.1,HS.2.1⟩)
    clear HS
    go_wp2
    refine bodyPost_ret (v:=.tuple #[.agg #[.slice A n c,.slice A1 n1 c1],.int .i64 8]) ?_ rfl HPOST.out
    simp [results,Tryz.results68,go_sem,z0,z1]
  | true =>
   rw [hh] at HU0
   have HE3:Hid (E=if Yw (ze R) s.data.toList (yB m.data.toList) then 9 else 0):=by
    have:=HE.out
    rw [hname,HBM.out,hh] at this
    exact this
   have HL3:Hid (L'=if Yw (ze R) s.data.toList (yB m.data.toList) then ze R else fL (ze R) s.data.toList (fun u=>{ u with ml:=yB m.data.toList })):=by
    have:=HL2.out
    rw [hname,HBM.out,hh] at this
    rw [this]
    cases Yw (ze R) s.data.toList (yB m.data.toList) <;> rfl
   clear HE HL2
   rw [← HMT.out] at HE3 HL3
   generalize hfm:yB m.data.toList=fm at *
   generalize hmt:zI fm=mt at *
   have HFM:=za hfm
   clear hfm hmt
   have HBAD:Hid (∀ j (h:j<R.length),Yw (ze R) s.data.toList mt.data.toList=false→¬ (mt.data.toList≠[]∧R[j].2.ml.data.toList=mt.data.toList∧R[j].1≠s.data.toList)):=fun j h hb=>by
    rintro ⟨h1,h2,h3⟩
    unfold Yw at hb
    have:=List.any_eq_false.1 hb (R[j].1,R[j].2.u) (List.mem_map.2 ⟨R[j],List.getElem_mem h,rfl⟩)
    have hn:mt.data≠#[]:=fun e=>h1 (by rw [e])
    simp [W11.u,h2,h3,hn] at this
   have HGOOD:Hid ((∀ j (h:j<R.length),¬ (mt.data.toList≠[]∧R[j].2.ml.data.toList=mt.data.toList∧R[j].1≠s.data.toList))→Yw (ze R) s.data.toList mt.data.toList=false):=fun h=>by
    unfold Yw
    refine List.any_eq_false.2 fun p hp=>?_
    obtain ⟨q,hq,rfl⟩:=List.mem_map.1 hp
    obtain ⟨j,hj,rfl⟩:=List.getElem_of_mem hq
    have:=h j hj
    simp [W11.u] at this ⊢
    exact this
   have HUS:=za HRC.out.rw.us
   rcases HOK.out with hme | ⟨hme,hmb⟩
   ·
    have hme2:m.toList.isEmpty=true:=by simpa using hme
    generalize yP m.data.toList=mb at HM0
    clear HOK
    have Hd1ex:=za (zr w (.slice A n c) (.slice A1 n1 c1))
    have HLO2ex:Hid (w.heap.size≤w.heap.size):=Nat.le_refl _
    have HB3ex:Hid (Below w.heap.size w (w.alloc (.cells #[.slice A n c,.slice A1 n1 c1] zn))):=z7 (Below.refl _ _) _
    have Hd4ex:=za (Hd1ex.out.later (z7 (Below.refl _ _) (.cells #[.slice none 0 0,.slice none 0 0] zn)))
    have Hr5ex:Hid (yv ((w.alloc (.cells #[.slice A n c,.slice A1 n1 c1] zn)).alloc (.cells #[.slice none 0 0,.slice none 0 0] zn)) (w.heap.size+1) (.slice none 0 0) (.slice none 0 0)):=zi (by simp)
    have HLO6ex:Hid (w.heap.size≤w.heap.size+1):=by have:=HB3ex.out.size; show _≤_; simp at this; omega
    have HB7ex:=za (z8 HB3ex.out (z7 (Below.refl _ _) (.cells #[.slice none 0 0,.slice none 0 0] zn)))
    go_enter Tryz.func68,Tryz.ntmps68
    have ⟨kx9ex,ky10ex,kp11ex,kq12ex⟩:=Hd4ex.out.q11
    have ⟨kx14ex,ky15ex,kp16ex,kq17ex⟩:=Hr5ex.out.q11
    go_wp2_with fail
    generalize (w.alloc (.cells #[.slice A n c,.slice A1 n1 c1] zn)).alloc (.cells #[.slice none 0 0,.slice none 0 0] zn)=wg18ex at *
    with_reducible refine (HU0.out wg18ex HB7ex.out).mono ?_
    rintro e w3 ⟨t,x,he,hyes,hno,hb⟩
    clear kx9ex ky10ex kp11ex kq12ex kx14ex ky15ex kp16ex kq17ex
    have Hd19ex:=za (Hd4ex.out.later hb)
    have Hr20ex:=za (Hr5ex.out.later hb)
    have HB21ex:=za (z8 HB7ex.out hb)
    clear hb
    obtain ⟨ht,hx⟩:=hyes rfl
    obtain ⟨xh,xm,xd,xa,xg,xc⟩:=x
    obtain ⟨xl,hxl⟩:∃ l,l=xg.length:=⟨_,rfl⟩
    have he':e=.returned (.tuple #[.agg #[.string s,.string xh,.string xm,.bool xd,.slice xa xl xc],.int .i64 0]):=by
     rw [he,ht,hxl]; rfl
    subst he'
    have HXx:=za hx
    have HLx:=za hxl
    clear he hyes hno ht hx hxl
    have HLT22ex:=za (Hd19ex.out.lt)
    have HLT23ex:=za (Hr20ex.out.lt)
    have Hd24ex:=za (Hd19ex.out.later (z7 (Below.refl _ _) (.cells #[.string s,.string xh,.string xm,.bool xd,.slice xa xl xc] 47)))
    have Hr25ex:=za (Hr20ex.out.later (z7 (Below.refl _ _) (.cells #[.string s,.string xh,.string xm,.bool xd,.slice xa xl xc] 47)))
    have Hu26ex:Hid (yf (w3.alloc (.cells #[.string s,.string xh,.string xm,.bool xd,.slice xa xl xc] 47)) (w3.heap.size) (.string s) (.string xh) (.string xm) (.bool xd) (.slice xa xl xc)):=heap_alloc_new w3 _
    have HLO27ex:Hid (w.heap.size≤w3.heap.size):=by have:=HB21ex.out.size; show _≤_; exact this
    have HB28ex:=za (z8 HB21ex.out (z7 (Below.refl _ _) (.cells #[.string s,.string xh,.string xm,.bool xd,.slice xa xl xc] 47)))
    have ⟨kx30ex,ky31ex,kp32ex,kq33ex⟩:=Hd24ex.out.q11
    have ⟨kx35ex,ky36ex,kp37ex,kq38ex⟩:=Hr25ex.out.q11
    have hu39ex:=Hu26ex.out
    have kf40ex:=hu39ex.free
    have kc41ex:_=some (.string s:Value):=hu39ex.at_ 0
    have kc42ex:_=some (.string xh:Value):=hu39ex.at_ 1
    have kc43ex:_=some (.string xm:Value):=hu39ex.at_ 2
    have kc44ex:_=some (.bool xd:Value):=hu39ex.at_ 3
    have kc45ex:_=some (.slice xa xl xc:Value):=hu39ex.at_ 4
    clear hu39ex
    go_wp2_with fail
    generalize w3.alloc (.cells #[.string s,.string xh,.string xm,.bool xd,.slice xa xl xc] 47)=wg46ex at *
    with_reducible refine (HM0.out _).mono ?_
    rintro e w4 ⟨rfl,qd,hwd⟩
    have hb:Below wg46ex.heap.size wg46ex w4:=by rw [hwd]; exact zv (Below.refl _ _) _
    clear hwd
    clear kx30ex ky31ex kp32ex kq33ex kx35ex ky36ex kp37ex kq38ex kf40ex kc41ex kc42ex kc43ex kc44ex kc45ex
    have Hd47ex:=za (Hd24ex.out.later hb)
    have Hr48ex:=za (Hr25ex.out.later hb)
    have Hu49ex:=za (zh Hu26ex.out hb)
    have HB50ex:=za (z8 HB28ex.out hb)
    clear hb
    have ⟨kx52ex,ky53ex,kp54ex,kq55ex⟩:=Hd47ex.out.q11
    have ⟨kx57ex,ky58ex,kp59ex,kq60ex⟩:=Hr48ex.out.q11
    have hu61ex:=Hu49ex.out
    have kf62ex:=hu61ex.free
    have kc63ex:_=some (.string s:Value):=hu61ex.at_ 0
    have kc64ex:_=some (.string xh:Value):=hu61ex.at_ 1
    have kc65ex:_=some (.string xm:Value):=hu61ex.at_ 2
    have kc66ex:_=some (.bool xd:Value):=hu61ex.at_ 3
    have kc67ex:_=some (.slice xa xl xc:Value):=hu61ex.at_ 4
    clear hu61ex
    go_wp2
    clear kx52ex ky53ex kp54ex kq55ex kx57ex ky58ex kp59ex kq60ex kf62ex kc63ex kc64ex kc65ex kc66ex kc67ex
    go_loopg [13,43] n (fun gg _ s43 wr=>∃ k:Nat,k≤n∧n - k≤gg∧s43=.int .i64 k∧Hid (Below w4.heap.size w4 wr)∧Hid (∀ j (h:j<R.length),j<k→¬ (mt.data.toList≠[]∧R[j].2.ml.data.toList=mt.data.toList∧R[j].1≠s.data.toList)))
    case atStart=>exact ⟨0,Nat.zero_le _,by omega,rfl,Below.refl _ _,fun j _ hj=>absurd hj (Nat.not_lt_zero _)⟩
    case round =>
     obtain ⟨k,hk,hg,rfl,HW,A0⟩:=hrel
     by_cases hlt:k<n
     ·
      have Hd68ex:=za (Hd47ex.out.later HW.out)
      have Hr69ex:=za (Hr48ex.out.later HW.out)
      have Hu70ex:=za (zh Hu49ex.out HW.out)
      have HB71ex:=za (z8 HB50ex.out HW.out)
      have hltz:(k:Int)<(n:Int):=by omega
      have hkl:k<R.length:=by have:=HLR.out; omega
      obtain ⟨g,rfl,kd0,kd1,kd2,kd3,kd4⟩:=(HUS.out.later HB71ex.out).at_ k hkl
      have HSTEP:Hid (¬ (mt.data.toList≠[]∧R[k].2.ml.data.toList=mt.data.toList∧R[k].1≠s.data.toList)→∀ j (h:j<R.length),j<k+1→¬ (mt.data.toList≠[]∧R[j].2.ml.data.toList=mt.data.toList∧R[j].1≠s.data.toList)):=fun hq j h hj=>by
       by_cases e:j=k
       ·
        subst e; exact hq
       ·
        exact A0.out j h (by omega)
      have HNM:Hid ((zI R[k].1).data.toList=R[k].1):=zy _
      have HBD:Hid (Yw (ze R) s.data.toList mt.data.toList=false→¬ (mt.data.toList≠[]∧R[k].2.ml.data.toList=mt.data.toList∧R[k].1≠s.data.toList)):=HBAD.out k hkl
      rw [← HNM.out] at HSTEP HBD
      generalize zI R[k].1=kn at *
      generalize R[k].2=kx at *
      obtain ⟨yh,ym,yd,ya,yg,yc⟩:=kx
      dsimp only at kd1 kd2 kd3 kd4 HSTEP HBD
      generalize yg.length=yl at *
      clear HNM A0
      have HLT72ex:=za (Hd68ex.out.lt)
      have HLT73ex:=za (Hr69ex.out.lt)
      have HLT74ex:=za (Hu70ex.out.lt)
      have Hd75ex:=za (Hd68ex.out.later (z7 (Below.refl _ _) (.cells #[.string kn,.string yh,.string ym,.bool yd,.slice ya yl yc] 47)))
      have Hr76ex:=za (Hr69ex.out.later (z7 (Below.refl _ _) (.cells #[.string kn,.string yh,.string ym,.bool yd,.slice ya yl yc] 47)))
      have Hu77ex:=za (zh Hu70ex.out (z7 (Below.refl _ _) (.cells #[.string kn,.string yh,.string ym,.bool yd,.slice ya yl yc] 47)))
      have Ht78ex:Hid (yf (wr.alloc (.cells #[.string kn,.string yh,.string ym,.bool yd,.slice ya yl yc] 47)) (wr.heap.size) (.string kn) (.string yh) (.string ym) (.bool yd) (.slice ya yl yc)):=heap_alloc_new wr _
      have HLO79ex:Hid (w.heap.size≤wr.heap.size):=by have:=HB71ex.out.size; show _≤_; exact this
      have HB80ex:=za (z8 HB71ex.out (z7 (Below.refl _ _) (.cells #[.string kn,.string yh,.string ym,.bool yd,.slice ya yl yc] 47)))
      have ⟨kx82ex,ky83ex,kp84ex,kq85ex⟩:=Hd75ex.out.q11
      have ⟨kx87ex,ky88ex,kp89ex,kq90ex⟩:=Hr76ex.out.q11
      have hu91ex:=Hu77ex.out
      have kf92ex:=hu91ex.free
      have kc93ex:_=some (.string s:Value):=hu91ex.at_ 0
      have kc94ex:_=some (.string xh:Value):=hu91ex.at_ 1
      have kc95ex:_=some (.string xm:Value):=hu91ex.at_ 2
      have kc96ex:_=some (.bool xd:Value):=hu91ex.at_ 3
      have kc97ex:_=some (.slice xa xl xc:Value):=hu91ex.at_ 4
      clear hu91ex
      have ht98ex:=Ht78ex.out
      have kf99ex:=ht98ex.free
      have kc100ex:_=some (.string kn:Value):=ht98ex.at_ 0
      have kc101ex:_=some (.string yh:Value):=ht98ex.at_ 1
      have kc102ex:_=some (.string ym:Value):=ht98ex.at_ 2
      have kc103ex:_=some (.bool yd:Value):=ht98ex.at_ 3
      have kc104ex:_=some (.slice ya yl yc:Value):=ht98ex.at_ 4
      clear ht98ex
      by_cases q1:mt.toList=[]
      ·
       have q1b:mt.toList.isEmpty=true:=by simpa using q1
       have HX:=za (HSTEP.out (fun h=>h.1 (by rw [← ByteArray.toList_eq]; exact q1)))
       clear HSTEP HBD
       go_wp2
       go_roundg (n - (k+1))
       case measure=>omega
       case rel=>exact ⟨k+1,by omega,by omega,by go_num,z8 HW.out (z7 (Below.refl _ _) _),HX⟩
      have q1b:mt.toList.isEmpty=false:=by simpa using q1
      by_cases q2:ym.toList=mt.toList
      case neg =>
       have q2b:(ym.toList == mt.toList)=false:=by simpa using q2
       have HX:=za (HSTEP.out (fun h=>q2 (by rw [ByteArray.toList_eq,ByteArray.toList_eq]; exact h.2.1)))
       clear HSTEP HBD
       go_wp2
       go_roundg (n - (k+1))
       case measure=>omega
       case rel=>exact ⟨k+1,by omega,by omega,by go_num,z8 HW.out (z7 (Below.refl _ _) _),HX⟩
      have q2b:(ym.toList == mt.toList)=true:=by simpa using q2
      by_cases q3:kn.toList=s.toList
      ·
       have q3b:(kn.toList != s.toList)=false:=by simpa using q3
       have q3c:(kn.toList == s.toList)=true:=by simpa using q3
       have HX:=za (HSTEP.out (fun h=>h.2.2 (by rw [← ByteArray.toList_eq,← ByteArray.toList_eq]; exact q3)))
       clear HSTEP HBD
       go_wp2
       go_roundg (n - (k+1))
       case measure=>omega
       case rel=>exact ⟨k+1,by omega,by omega,by go_num,z8 HW.out (z7 (Below.refl _ _) _),HX⟩
      have q3b:(kn.toList != s.toList)=true:=by simpa using q3
      have q3c:(kn.toList == s.toList)=false:=by simpa using q3
      have hbad:Yw (ze R) s.data.toList mt.data.toList=true:=by
       cases hq:Yw (ze R) s.data.toList mt.data.toList with
       | true=>rfl
       | false=>exact absurd ⟨(fun h=>q1 (by rw [ByteArray.toList_eq]; exact h)),(by rw [← ByteArray.toList_eq,← ByteArray.toList_eq]; exact q2),(fun h=>q3 (by rw [ByteArray.toList_eq,ByteArray.toList_eq]; exact h))⟩ (HBD.out hq)
      have e1:E=9:=by have:=HE3.out; rw [hbad] at this; exact this
      have e2:L'=ze R:=by have:=HL3.out; rw [hbad] at this; exact this
      replace e1:=e1.symm
      subst e1
      clear HE3 HL3 hbad HBD HSTEP HPT0 HBAD HGOOD
      have ⟨kx106ex,ky107ex,kp108ex,kq109ex⟩:=Hd75ex.out.q11
      have ⟨kx111ex,ky112ex,kp113ex,kq114ex⟩:=Hr76ex.out.q11
      have hu115ex:=Hu77ex.out
      have kf116ex:=hu115ex.free
      have kc117ex:_=some (.string s:Value):=hu115ex.at_ 0
      have kc118ex:_=some (.string xh:Value):=hu115ex.at_ 1
      have kc119ex:_=some (.string xm:Value):=hu115ex.at_ 2
      have kc120ex:_=some (.bool xd:Value):=hu115ex.at_ 3
      have kc121ex:_=some (.slice xa xl xc:Value):=hu115ex.at_ 4
      clear hu115ex
      have ht122ex:=Ht78ex.out
      have kf123ex:=ht122ex.free
      have kc124ex:_=some (.string kn:Value):=ht122ex.at_ 0
      have kc125ex:_=some (.string yh:Value):=ht122ex.at_ 1
      have kc126ex:_=some (.string ym:Value):=ht122ex.at_ 2
      have kc127ex:_=some (.bool yd:Value):=ht122ex.at_ 3
      have kc128ex:_=some (.slice ya yl yc:Value):=ht122ex.at_ 4
      clear ht122ex
      have HS:=yt HB80ex.out Hr76ex.out HLO6ex.out (.slice (some ⟨g,0,none⟩) n c) (.slice A1 n1 c1)
      have z0:=HS.1.c0
      have z1:=HS.1.c1
      have HPOST:=za (show yx 9 L' N w (.returned (.tuple #[.agg #[.slice (some ⟨g,0,none⟩) n c,.slice A1 n1 c1],.int .i64 9])) _ from ⟨R,_,_,rfl,HRC.out.later HS.2.1,e2.symm,HNN.out.later HS.2.1,HS.2.1⟩)
      clear HS
      go_wp2
      refine bodyPost_ret (v:=.tuple #[.agg #[.slice (some ⟨g,0,none⟩) n c,.slice A1 n1 c1],.int .i64 9]) ?_ rfl HPOST.out
      simp [results,Tryz.results68,go_sem,z0,z1]
     ·
      have hltz:¬ (k:Int)<(n:Int):=by omega
      obtain rfl:k=n:=by omega
      have Hd129ex:=za (Hd47ex.out.later HW.out)
      have Hr130ex:=za (Hr48ex.out.later HW.out)
      have Hu131ex:=za (zh Hu49ex.out HW.out)
      have HB132ex:=za (z8 HB50ex.out HW.out)
      have hbad:Yw (ze R) s.data.toList mt.data.toList=false:=HGOOD.out (fun j h=>A0.out j h (by have:=HLR.out; omega))
      have e1:E=0:=by have:=HE3.out; rw [hbad] at this; exact this
      have e2:L'=zP (ze R) s.data.toList (W11.u ⟨xh,mt,xd,xa,xg,xc⟩):=by
       have:=HL3.out
       rw [hbad] at this
       rw [this]
       show fL _ _ _=_
       unfold fL
       rw [xr,HXx.out]
       rfl
      replace e1:=e1.symm
      subst e1
      have HE2:=za e2
      clear HE3 HL3 hbad HBAD HGOOD A0 e2
      have ⟨kx134ex,ky135ex,kp136ex,kq137ex⟩:=Hd129ex.out.q11
      have ⟨kx139ex,ky140ex,kp141ex,kq142ex⟩:=Hr130ex.out.q11
      have hu143ex:=Hu131ex.out
      have kf144ex:=hu143ex.free
      have kc145ex:_=some (.string s:Value):=hu143ex.at_ 0
      have kc146ex:_=some (.string xh:Value):=hu143ex.at_ 1
      have kc147ex:_=some (.string xm:Value):=hu143ex.at_ 2
      have kc148ex:_=some (.bool xd:Value):=hu143ex.at_ 3
      have kc149ex:_=some (.slice xa xl xc:Value):=hu143ex.at_ 4
      clear hu143ex
      have Hd150ex:=za (Hd129ex.out.other (c:=w3.heap.size) (i:=2) (by have:=HLT22ex.out; omega) (.string mt))
      have Hr151ex:=za (Hr130ex.out.other (c:=w3.heap.size) (i:=2) (by have:=HLT23ex.out; omega) (.string mt))
      have Hu152ex:=za (Hu131ex.out.put211 (.string mt))
      have HB153ex:=za (HB132ex.out.setCell (p:=⟨w3.heap.size,2,none⟩) HLO27ex.out (.string mt))
      have HPT:Hid (∀ W,Below w.heap.size w W→Calls Tryz.prog 145 #[.agg #[.slice A k c,.slice A1 n1 c1],.agg #[.string s,.string xh,.string mt,.bool xd,.slice xa xl xc]] W fun e w'=>∃ v',e=.returned (.agg #[v',.slice A1 n1 c1])∧vP (zP R s.data.toList ⟨xh,mt,xd,xa,xg,xc⟩) w' v'∧Below W.heap.size W w'):=fun W hb=>by
       have:=HPT0.out ⟨xh,mt,xd,xa,xg,xc⟩ W hb
       unfold zV at this
       dsimp only at this
       rw [← HLx.out] at this
       exact this
      clear HPT0
      have ⟨kx155ex,ky156ex,kp157ex,kq158ex⟩:=Hd150ex.out.q11
      have ⟨kx160ex,ky161ex,kp162ex,kq163ex⟩:=Hr151ex.out.q11
      have hu164ex:=Hu152ex.out
      have kf165ex:=hu164ex.free
      have kc166ex:_=some (.string s:Value):=hu164ex.at_ 0
      have kc167ex:_=some (.string xh:Value):=hu164ex.at_ 1
      have kc168ex:_=some (.string mt:Value):=hu164ex.at_ 2
      have kc169ex:_=some (.bool xd:Value):=hu164ex.at_ 3
      have kc170ex:_=some (.slice xa xl xc:Value):=hu164ex.at_ 4
      clear hu164ex
      go_wp2_with fail
      generalize wr.setCell ⟨w3.heap.size,2,none⟩ (.string mt)=wg171ex at *
      with_reducible refine (HPT.out wg171ex HB153ex.out).mono ?_
      rintro e w6 ⟨v5,rfl,hp,hb⟩
      clear kx134ex ky135ex kp136ex kq137ex kx139ex ky140ex kp141ex kq142ex kf144ex kc145ex kc146ex kc147ex kc148ex kc149ex kx155ex ky156ex kp157ex kq158ex kx160ex ky161ex kp162ex kq163ex kf165ex kc166ex kc167ex kc168ex kc169ex kc170ex
      have Hd172ex:=za (Hd150ex.out.later hb)
      have Hr173ex:=za (Hr151ex.out.later hb)
      have Hu174ex:=za (zh Hu152ex.out hb)
      have HB175ex:=za (z8 HB153ex.out hb)
      obtain ⟨A5,c5,rfl⟩:=hp.us.shape
      have HP:=za hp
      clear hp
      obtain ⟨n5,hn5⟩:∃ m,m=(zP R s.data.toList (⟨xh,mt,xd,xa,xg,xc⟩:W11)).length:=⟨_,rfl⟩
      rw [← hn5] at HP ⊢
      clear hn5
      clear hb
      have HG5:Hid (qI 0 w6 (zP R s.data.toList ⟨xh,mt,xd,xa,xg,xc⟩)):=((HRC.out.later HB175ex.out).2).put _ _ ((HRC.out.later HB175ex.out).2 (s.data.toList,⟨xh,xm,xd,xa,xg,xc⟩) ((zH HRI.out).1 HXx.out))
      have HPL:Hid (ze (zP R s.data.toList ⟨xh,mt,xd,xa,xg,xc⟩)=L'):=by
       show _=_
       rw [HE2.out,xS]
      have ⟨kx177ex,ky178ex,kp179ex,kq180ex⟩:=Hd172ex.out.q11
      have ⟨kx182ex,ky183ex,kp184ex,kq185ex⟩:=Hr173ex.out.q11
      have hu186ex:=Hu174ex.out
      have kf187ex:=hu186ex.free
      have kc188ex:_=some (.string s:Value):=hu186ex.at_ 0
      have kc189ex:_=some (.string xh:Value):=hu186ex.at_ 1
      have kc190ex:_=some (.string mt:Value):=hu186ex.at_ 2
      have kc191ex:_=some (.bool xd:Value):=hu186ex.at_ 3
      have kc192ex:_=some (.slice xa xl xc:Value):=hu186ex.at_ 4
      clear hu186ex
      have HS:=yt HB175ex.out Hr173ex.out HLO6ex.out (.slice A5 n5 c5) (.slice A1 n1 c1)
      have z0:=HS.1.c0
      have z1:=HS.1.c1
      have HPOST:=za (show yx 0 L' N w (.returned (.tuple #[.agg #[.slice A5 n5 c5,.slice A1 n1 c1],.int .i64 0])) _ from ⟨_,_,_,rfl,⟨HP.out.keepD11 HS.2.2,HG5.out.keepD11 HS.2.2⟩,HPL.out,HNN.out.later HS.2.1,HS.2.1⟩)
      clear HS
      go_wp2
      refine bodyPost_ret (v:=.tuple #[.agg #[.slice A5 n5 c5,.slice A1 n1 c1],.int .i64 0]) ?_ rfl HPOST.out
      simp [results,Tryz.results68,go_sem,z0,z1]
   ·
    have hme2:m.toList.isEmpty=false:=by simpa using hme
    rw [hmb] at HM0
    clear hmb
    clear HOK
    have Hd1ey:=za (zr w (.slice A n c) (.slice A1 n1 c1))
    have HLO2ey:Hid (w.heap.size≤w.heap.size):=Nat.le_refl _
    have HB3ey:Hid (Below w.heap.size w (w.alloc (.cells #[.slice A n c,.slice A1 n1 c1] zn))):=z7 (Below.refl _ _) _
    have Hd4ey:=za (Hd1ey.out.later (z7 (Below.refl _ _) (.cells #[.slice none 0 0,.slice none 0 0] zn)))
    have Hr5ey:Hid (yv ((w.alloc (.cells #[.slice A n c,.slice A1 n1 c1] zn)).alloc (.cells #[.slice none 0 0,.slice none 0 0] zn)) (w.heap.size+1) (.slice none 0 0) (.slice none 0 0)):=zi (by simp)
    have HLO6ey:Hid (w.heap.size≤w.heap.size+1):=by have:=HB3ey.out.size; show _≤_; simp at this; omega
    have HB7ey:=za (z8 HB3ey.out (z7 (Below.refl _ _) (.cells #[.slice none 0 0,.slice none 0 0] zn)))
    go_enter Tryz.func68,Tryz.ntmps68
    have ⟨kx9ey,ky10ey,kp11ey,kq12ey⟩:=Hd4ey.out.q11
    have ⟨kx14ey,ky15ey,kp16ey,kq17ey⟩:=Hr5ey.out.q11
    go_wp2_with fail
    generalize (w.alloc (.cells #[.slice A n c,.slice A1 n1 c1] zn)).alloc (.cells #[.slice none 0 0,.slice none 0 0] zn)=wg18ey at *
    with_reducible refine (HU0.out wg18ey HB7ey.out).mono ?_
    rintro e w3 ⟨t,x,he,hyes,hno,hb⟩
    clear kx9ey ky10ey kp11ey kq12ey kx14ey ky15ey kp16ey kq17ey
    have Hd19ey:=za (Hd4ey.out.later hb)
    have Hr20ey:=za (Hr5ey.out.later hb)
    have HB21ey:=za (z8 HB7ey.out hb)
    clear hb
    obtain ⟨ht,hx⟩:=hyes rfl
    obtain ⟨xh,xm,xd,xa,xg,xc⟩:=x
    obtain ⟨xl,hxl⟩:∃ l,l=xg.length:=⟨_,rfl⟩
    have he':e=.returned (.tuple #[.agg #[.string s,.string xh,.string xm,.bool xd,.slice xa xl xc],.int .i64 0]):=by
     rw [he,ht,hxl]; rfl
    subst he'
    have HXx:=za hx
    have HLx:=za hxl
    clear he hyes hno ht hx hxl
    have HLT22ey:=za (Hd19ey.out.lt)
    have HLT23ey:=za (Hr20ey.out.lt)
    have Hd24ey:=za (Hd19ey.out.later (z7 (Below.refl _ _) (.cells #[.string s,.string xh,.string xm,.bool xd,.slice xa xl xc] 47)))
    have Hr25ey:=za (Hr20ey.out.later (z7 (Below.refl _ _) (.cells #[.string s,.string xh,.string xm,.bool xd,.slice xa xl xc] 47)))
    have Hu26ey:Hid (yf (w3.alloc (.cells #[.string s,.string xh,.string xm,.bool xd,.slice xa xl xc] 47)) (w3.heap.size) (.string s) (.string xh) (.string xm) (.bool xd) (.slice xa xl xc)):=heap_alloc_new w3 _
    have HLO27ey:Hid (w.heap.size≤w3.heap.size):=by have:=HB21ey.out.size; show _≤_; exact this
    have HB28ey:=za (z8 HB21ey.out (z7 (Below.refl _ _) (.cells #[.string s,.string xh,.string xm,.bool xd,.slice xa xl xc] 47)))
    have ⟨kx30ey,ky31ey,kp32ey,kq33ey⟩:=Hd24ey.out.q11
    have ⟨kx35ey,ky36ey,kp37ey,kq38ey⟩:=Hr25ey.out.q11
    have hu39ey:=Hu26ey.out
    have kf40ey:=hu39ey.free
    have kc41ey:_=some (.string s:Value):=hu39ey.at_ 0
    have kc42ey:_=some (.string xh:Value):=hu39ey.at_ 1
    have kc43ey:_=some (.string xm:Value):=hu39ey.at_ 2
    have kc44ey:_=some (.bool xd:Value):=hu39ey.at_ 3
    have kc45ey:_=some (.slice xa xl xc:Value):=hu39ey.at_ 4
    clear hu39ey
    go_wp2_with fail
    generalize w3.alloc (.cells #[.string s,.string xh,.string xm,.bool xd,.slice xa xl xc] 47)=wg46ey at *
    with_reducible refine (HM0.out _).mono ?_
    rintro e w4 ⟨rfl,qd,hwd⟩
    have hb:Below wg46ey.heap.size wg46ey w4:=by rw [hwd]; exact zv (Below.refl _ _) _
    clear hwd
    clear kx30ey ky31ey kp32ey kq33ey kx35ey ky36ey kp37ey kq38ey kf40ey kc41ey kc42ey kc43ey kc44ey kc45ey
    have Hd47ey:=za (Hd24ey.out.later hb)
    have Hr48ey:=za (Hr25ey.out.later hb)
    have Hu49ey:=za (zh Hu26ey.out hb)
    have HB50ey:=za (z8 HB28ey.out hb)
    clear hb
    have ⟨kx52ey,ky53ey,kp54ey,kq55ey⟩:=Hd47ey.out.q11
    have ⟨kx57ey,ky58ey,kp59ey,kq60ey⟩:=Hr48ey.out.q11
    have hu61ey:=Hu49ey.out
    have kf62ey:=hu61ey.free
    have kc63ey:_=some (.string s:Value):=hu61ey.at_ 0
    have kc64ey:_=some (.string xh:Value):=hu61ey.at_ 1
    have kc65ey:_=some (.string xm:Value):=hu61ey.at_ 2
    have kc66ey:_=some (.bool xd:Value):=hu61ey.at_ 3
    have kc67ey:_=some (.slice xa xl xc:Value):=hu61ey.at_ 4
    clear hu61ey
    go_wp2
    clear kx52ey ky53ey kp54ey kq55ey kx57ey ky58ey kp59ey kq60ey kf62ey kc63ey kc64ey kc65ey kc66ey kc67ey
    go_loopg [13,43] n (fun gg _ s43 wr=>∃ k:Nat,k≤n∧n - k≤gg∧s43=.int .i64 k∧Hid (Below w4.heap.size w4 wr)∧Hid (∀ j (h:j<R.length),j<k→¬ (mt.data.toList≠[]∧R[j].2.ml.data.toList=mt.data.toList∧R[j].1≠s.data.toList)))
    case atStart=>exact ⟨0,Nat.zero_le _,by omega,rfl,Below.refl _ _,fun j _ hj=>absurd hj (Nat.not_lt_zero _)⟩
    case round =>
     obtain ⟨k,hk,hg,rfl,HW,A0⟩:=hrel
     by_cases hlt:k<n
     ·
      have Hd68ey:=za (Hd47ey.out.later HW.out)
      have Hr69ey:=za (Hr48ey.out.later HW.out)
      have Hu70ey:=za (zh Hu49ey.out HW.out)
      have HB71ey:=za (z8 HB50ey.out HW.out)
      have hltz:(k:Int)<(n:Int):=by omega
      have hkl:k<R.length:=by have:=HLR.out; omega
      obtain ⟨g,rfl,kd0,kd1,kd2,kd3,kd4⟩:=(HUS.out.later HB71ey.out).at_ k hkl
      have HSTEP:Hid (¬ (mt.data.toList≠[]∧R[k].2.ml.data.toList=mt.data.toList∧R[k].1≠s.data.toList)→∀ j (h:j<R.length),j<k+1→¬ (mt.data.toList≠[]∧R[j].2.ml.data.toList=mt.data.toList∧R[j].1≠s.data.toList)):=fun hq j h hj=>by
       by_cases e:j=k
       ·
        subst e; exact hq
       ·
        exact A0.out j h (by omega)
      have HNM:Hid ((zI R[k].1).data.toList=R[k].1):=zy _
      have HBD:Hid (Yw (ze R) s.data.toList mt.data.toList=false→¬ (mt.data.toList≠[]∧R[k].2.ml.data.toList=mt.data.toList∧R[k].1≠s.data.toList)):=HBAD.out k hkl
      rw [← HNM.out] at HSTEP HBD
      generalize zI R[k].1=kn at *
      generalize R[k].2=kx at *
      obtain ⟨yh,ym,yd,ya,yg,yc⟩:=kx
      dsimp only at kd1 kd2 kd3 kd4 HSTEP HBD
      generalize yg.length=yl at *
      clear HNM A0
      have HLT72ey:=za (Hd68ey.out.lt)
      have HLT73ey:=za (Hr69ey.out.lt)
      have HLT74ey:=za (Hu70ey.out.lt)
      have Hd75ey:=za (Hd68ey.out.later (z7 (Below.refl _ _) (.cells #[.string kn,.string yh,.string ym,.bool yd,.slice ya yl yc] 47)))
      have Hr76ey:=za (Hr69ey.out.later (z7 (Below.refl _ _) (.cells #[.string kn,.string yh,.string ym,.bool yd,.slice ya yl yc] 47)))
      have Hu77ey:=za (zh Hu70ey.out (z7 (Below.refl _ _) (.cells #[.string kn,.string yh,.string ym,.bool yd,.slice ya yl yc] 47)))
      have Ht78ey:Hid (yf (wr.alloc (.cells #[.string kn,.string yh,.string ym,.bool yd,.slice ya yl yc] 47)) (wr.heap.size) (.string kn) (.string yh) (.string ym) (.bool yd) (.slice ya yl yc)):=heap_alloc_new wr _
      have HLO79ey:Hid (w.heap.size≤wr.heap.size):=by have:=HB71ey.out.size; show _≤_; exact this
      have HB80ey:=za (z8 HB71ey.out (z7 (Below.refl _ _) (.cells #[.string kn,.string yh,.string ym,.bool yd,.slice ya yl yc] 47)))
      have ⟨kx82ey,ky83ey,kp84ey,kq85ey⟩:=Hd75ey.out.q11
      have ⟨kx87ey,ky88ey,kp89ey,kq90ey⟩:=Hr76ey.out.q11
      have hu91ey:=Hu77ey.out
      have kf92ey:=hu91ey.free
      have kc93ey:_=some (.string s:Value):=hu91ey.at_ 0
      have kc94ey:_=some (.string xh:Value):=hu91ey.at_ 1
      have kc95ey:_=some (.string xm:Value):=hu91ey.at_ 2
      have kc96ey:_=some (.bool xd:Value):=hu91ey.at_ 3
      have kc97ey:_=some (.slice xa xl xc:Value):=hu91ey.at_ 4
      clear hu91ey
      have ht98ey:=Ht78ey.out
      have kf99ey:=ht98ey.free
      have kc100ey:_=some (.string kn:Value):=ht98ey.at_ 0
      have kc101ey:_=some (.string yh:Value):=ht98ey.at_ 1
      have kc102ey:_=some (.string ym:Value):=ht98ey.at_ 2
      have kc103ey:_=some (.bool yd:Value):=ht98ey.at_ 3
      have kc104ey:_=some (.slice ya yl yc:Value):=ht98ey.at_ 4
      clear ht98ey
      by_cases q1:mt.toList=[]
      ·
       have q1b:mt.toList.isEmpty=true:=by simpa using q1
       have HX:=za (HSTEP.out (fun h=>h.1 (by rw [← ByteArray.toList_eq]; exact q1)))
       clear HSTEP HBD
       go_wp2
       go_roundg (n - (k+1))
       case measure=>omega
       case rel=>exact ⟨k+1,by omega,by omega,by go_num,z8 HW.out (z7 (Below.refl _ _) _),HX⟩
      have q1b:mt.toList.isEmpty=false:=by simpa using q1
      by_cases q2:ym.toList=mt.toList
      case neg =>
       have q2b:(ym.toList == mt.toList)=false:=by simpa using q2
       have HX:=za (HSTEP.out (fun h=>q2 (by rw [ByteArray.toList_eq,ByteArray.toList_eq]; exact h.2.1)))
       clear HSTEP HBD
       go_wp2
       go_roundg (n - (k+1))
       case measure=>omega
       case rel=>exact ⟨k+1,by omega,by omega,by go_num,z8 HW.out (z7 (Below.refl _ _) _),HX⟩
      have q2b:(ym.toList == mt.toList)=true:=by simpa using q2
      by_cases q3:kn.toList=s.toList
      ·
       have q3b:(kn.toList != s.toList)=false:=by simpa using q3
       have q3c:(kn.toList == s.toList)=true:=by simpa using q3
       have HX:=za (HSTEP.out (fun h=>h.2.2 (by rw [← ByteArray.toList_eq,← ByteArray.toList_eq]; exact q3)))
       clear HSTEP HBD
       go_wp2
       go_roundg (n - (k+1))
       case measure=>omega
       case rel=>exact ⟨k+1,by omega,by omega,by go_num,z8 HW.out (z7 (Below.refl _ _) _),HX⟩
      have q3b:(kn.toList != s.toList)=true:=by simpa using q3
      have q3c:(kn.toList == s.toList)=false:=by simpa using q3
      have hbad:Yw (ze R) s.data.toList mt.data.toList=true:=by
       cases hq:Yw (ze R) s.data.toList mt.data.toList with
       | true=>rfl
       | false=>exact absurd ⟨(fun h=>q1 (by rw [ByteArray.toList_eq]; exact h)),(by rw [← ByteArray.toList_eq,← ByteArray.toList_eq]; exact q2),(fun h=>q3 (by rw [ByteArray.toList_eq,ByteArray.toList_eq]; exact h))⟩ (HBD.out hq)
      have e1:E=9:=by have:=HE3.out; rw [hbad] at this; exact this
      have e2:L'=ze R:=by have:=HL3.out; rw [hbad] at this; exact this
      replace e1:=e1.symm
      subst e1
      clear HE3 HL3 hbad HBD HSTEP HPT0 HBAD HGOOD
      have ⟨kx106ey,ky107ey,kp108ey,kq109ey⟩:=Hd75ey.out.q11
      have ⟨kx111ey,ky112ey,kp113ey,kq114ey⟩:=Hr76ey.out.q11
      have hu115ey:=Hu77ey.out
      have kf116ey:=hu115ey.free
      have kc117ey:_=some (.string s:Value):=hu115ey.at_ 0
      have kc118ey:_=some (.string xh:Value):=hu115ey.at_ 1
      have kc119ey:_=some (.string xm:Value):=hu115ey.at_ 2
      have kc120ey:_=some (.bool xd:Value):=hu115ey.at_ 3
      have kc121ey:_=some (.slice xa xl xc:Value):=hu115ey.at_ 4
      clear hu115ey
      have ht122ey:=Ht78ey.out
      have kf123ey:=ht122ey.free
      have kc124ey:_=some (.string kn:Value):=ht122ey.at_ 0
      have kc125ey:_=some (.string yh:Value):=ht122ey.at_ 1
      have kc126ey:_=some (.string ym:Value):=ht122ey.at_ 2
      have kc127ey:_=some (.bool yd:Value):=ht122ey.at_ 3
      have kc128ey:_=some (.slice ya yl yc:Value):=ht122ey.at_ 4
      clear ht122ey
      have HS:=yt HB80ey.out Hr76ey.out HLO6ey.out (.slice (some ⟨g,0,none⟩) n c) (.slice A1 n1 c1)
      have z0:=HS.1.c0
      have z1:=HS.1.c1
      have HPOST:=za (show yx 9 L' N w (.returned (.tuple #[.agg #[.slice (some ⟨g,0,none⟩) n c,.slice A1 n1 c1],.int .i64 9])) _ from ⟨R,_,_,rfl,HRC.out.later HS.2.1,e2.symm,HNN.out.later HS.2.1,HS.2.1⟩)
      clear HS
      go_wp2
      refine bodyPost_ret (v:=.tuple #[.agg #[.slice (some ⟨g,0,none⟩) n c,.slice A1 n1 c1],.int .i64 9]) ?_ rfl HPOST.out
      simp [results,Tryz.results68,go_sem,z0,z1]
     ·
      have hltz:¬ (k:Int)<(n:Int):=by omega
      obtain rfl:k=n:=by omega
      have Hd129ey:=za (Hd47ey.out.later HW.out)
      have Hr130ey:=za (Hr48ey.out.later HW.out)
      have Hu131ey:=za (zh Hu49ey.out HW.out)
      have HB132ey:=za (z8 HB50ey.out HW.out)
      have hbad:Yw (ze R) s.data.toList mt.data.toList=false:=HGOOD.out (fun j h=>A0.out j h (by have:=HLR.out; omega))
      have e1:E=0:=by have:=HE3.out; rw [hbad] at this; exact this
      have e2:L'=zP (ze R) s.data.toList (W11.u ⟨xh,mt,xd,xa,xg,xc⟩):=by
       have:=HL3.out
       rw [hbad] at this
       rw [this]
       show fL _ _ _=_
       unfold fL
       rw [xr,HXx.out]
       rfl
      replace e1:=e1.symm
      subst e1
      have HE2:=za e2
      clear HE3 HL3 hbad HBAD HGOOD A0 e2
      have ⟨kx134ey,ky135ey,kp136ey,kq137ey⟩:=Hd129ey.out.q11
      have ⟨kx139ey,ky140ey,kp141ey,kq142ey⟩:=Hr130ey.out.q11
      have hu143ey:=Hu131ey.out
      have kf144ey:=hu143ey.free
      have kc145ey:_=some (.string s:Value):=hu143ey.at_ 0
      have kc146ey:_=some (.string xh:Value):=hu143ey.at_ 1
      have kc147ey:_=some (.string xm:Value):=hu143ey.at_ 2
      have kc148ey:_=some (.bool xd:Value):=hu143ey.at_ 3
      have kc149ey:_=some (.slice xa xl xc:Value):=hu143ey.at_ 4
      clear hu143ey
      have Hd150ey:=za (Hd129ey.out.other (c:=w3.heap.size) (i:=2) (by have:=HLT22ey.out; omega) (.string mt))
      have Hr151ey:=za (Hr130ey.out.other (c:=w3.heap.size) (i:=2) (by have:=HLT23ey.out; omega) (.string mt))
      have Hu152ey:=za (Hu131ey.out.put211 (.string mt))
      have HB153ey:=za (HB132ey.out.setCell (p:=⟨w3.heap.size,2,none⟩) HLO27ey.out (.string mt))
      have HPT:Hid (∀ W,Below w.heap.size w W→Calls Tryz.prog 145 #[.agg #[.slice A k c,.slice A1 n1 c1],.agg #[.string s,.string xh,.string mt,.bool xd,.slice xa xl xc]] W fun e w'=>∃ v',e=.returned (.agg #[v',.slice A1 n1 c1])∧vP (zP R s.data.toList ⟨xh,mt,xd,xa,xg,xc⟩) w' v'∧Below W.heap.size W w'):=fun W hb=>by
       have:=HPT0.out ⟨xh,mt,xd,xa,xg,xc⟩ W hb
       unfold zV at this
       dsimp only at this
       rw [← HLx.out] at this
       exact this
      clear HPT0
      have ⟨kx155ey,ky156ey,kp157ey,kq158ey⟩:=Hd150ey.out.q11
      have ⟨kx160ey,ky161ey,kp162ey,kq163ey⟩:=Hr151ey.out.q11
      have hu164ey:=Hu152ey.out
      have kf165ey:=hu164ey.free
      have kc166ey:_=some (.string s:Value):=hu164ey.at_ 0
      have kc167ey:_=some (.string xh:Value):=hu164ey.at_ 1
      have kc168ey:_=some (.string mt:Value):=hu164ey.at_ 2
      have kc169ey:_=some (.bool xd:Value):=hu164ey.at_ 3
      have kc170ey:_=some (.slice xa xl xc:Value):=hu164ey.at_ 4
      clear hu164ey
      go_wp2_with fail
      generalize wr.setCell ⟨w3.heap.size,2,none⟩ (.string mt)=wg171ey at *
      with_reducible refine (HPT.out wg171ey HB153ey.out).mono ?_
      rintro e w6 ⟨v5,rfl,hp,hb⟩
      clear kx134ey ky135ey kp136ey kq137ey kx139ey ky140ey kp141ey kq142ey kf144ey kc145ey kc146ey kc147ey kc148ey kc149ey kx155ey ky156ey kp157ey kq158ey kx160ey ky161ey kp162ey kq163ey kf165ey kc166ey kc167ey kc168ey kc169ey kc170ey
      have Hd172ey:=za (Hd150ey.out.later hb)
      have Hr173ey:=za (Hr151ey.out.later hb)
      have Hu174ey:=za (zh Hu152ey.out hb)
      have HB175ey:=za (z8 HB153ey.out hb)
      obtain ⟨A5,c5,rfl⟩:=hp.us.shape
      have HP:=za hp
      clear hp
      obtain ⟨n5,hn5⟩:∃ m,m=(zP R s.data.toList (⟨xh,mt,xd,xa,xg,xc⟩:W11)).length:=⟨_,rfl⟩
      rw [← hn5] at HP ⊢
      clear hn5
      clear hb
      have HG5:Hid (qI 0 w6 (zP R s.data.toList ⟨xh,mt,xd,xa,xg,xc⟩)):=((HRC.out.later HB175ey.out).2).put _ _ ((HRC.out.later HB175ey.out).2 (s.data.toList,⟨xh,xm,xd,xa,xg,xc⟩) ((zH HRI.out).1 HXx.out))
      have HPL:Hid (ze (zP R s.data.toList ⟨xh,mt,xd,xa,xg,xc⟩)=L'):=by
       show _=_
       rw [HE2.out,xS]
      have ⟨kx177ey,ky178ey,kp179ey,kq180ey⟩:=Hd172ey.out.q11
      have ⟨kx182ey,ky183ey,kp184ey,kq185ey⟩:=Hr173ey.out.q11
      have hu186ey:=Hu174ey.out
      have kf187ey:=hu186ey.free
      have kc188ey:_=some (.string s:Value):=hu186ey.at_ 0
      have kc189ey:_=some (.string xh:Value):=hu186ey.at_ 1
      have kc190ey:_=some (.string mt:Value):=hu186ey.at_ 2
      have kc191ey:_=some (.bool xd:Value):=hu186ey.at_ 3
      have kc192ey:_=some (.slice xa xl xc:Value):=hu186ey.at_ 4
      clear hu186ey
      have HS:=yt HB175ey.out Hr173ey.out HLO6ey.out (.slice A5 n5 c5) (.slice A1 n1 c1)
      have z0:=HS.1.c0
      have z1:=HS.1.c1
      have HPOST:=za (show yx 0 L' N w (.returned (.tuple #[.agg #[.slice A5 n5 c5,.slice A1 n1 c1],.int .i64 0])) _ from ⟨_,_,_,rfl,⟨HP.out.keepD11 HS.2.2,HG5.out.keepD11 HS.2.2⟩,HPL.out,HNN.out.later HS.2.1,HS.2.1⟩)
      clear HS
      go_wp2
      refine bodyPost_ret (v:=.tuple #[.agg #[.slice A5 n5 c5,.slice A1 n1 c1],.int .i64 0]) ?_ rfl HPOST.out
      simp [results,Tryz.results68,go_sem,z0,z1]

theorem fW {w:World} {b size n:Nat} {e:TypeId} {v:Value} {xs:List Value} (h:w.ownsRow b e size v n xs) {B:Nat} (hne:∀ j,v.ownBlock=some j→j≠B) (i:Nat) (x:Value):(w.setCell ⟨B,i,none⟩ x).ownsRow b e size v n xs:=by
  refine ⟨h.1,?_⟩
  rcases h.2 with hn | ⟨g,cap,cur,e1,h0,hg,hr⟩
  · exact .inl hn
  · exact .inr ⟨g,cap,cur,e1,h0,(Below.heap_setCell _ _ _ _ (hne g (by rw [e1]; rfl))).trans hg,hr⟩
theorem qI.set11 {w:World} {b B:Nat} {R:zL W11} {a1 a2 a3 a4 a5:Value} (h:qI b w R) (hu:yf w B a1 a2 a3 a4 a5) (i:Nat) (x:Value):qI b (w.setCell ⟨B,i,none⟩ x) R:=fun p hp=>fW (h p hp) (fun j hj e=>by
  subst e
  rcases (h p hp).2 with ⟨e1,_⟩ | ⟨g,cap,cur,e1,h0,hg,hr⟩
  · rw [e1] at hj; cases hj
  · rw [e1] at hj
    injection hj with hj
    subst hj
    rw [show w.heap[g]? = _ from hu] at hg
    injection hg with hg
    injection hg with _ h
    exact absurd h (by decide)) i x

set_option maxRecDepth 100000 in
theorem fN (v vg:Value) (R:zL W11) (N:List (List UInt8)) (g:ByteArray) (w:World) (hR:vQ 0 R w v) (hN:NmR w vg N) (hN9:N.length≤900) (hg:g.size≤1000) :
    Calls Tryz.prog 74 #[.agg #[v,vg],.string g] w (yx (VU N g.data.toList) (ze R) (jB N g.data.toList) w):=by
  have hzu:=uz
  obtain ⟨i0,hi,hz0,hz1,hz2⟩:=info_parts qw
  obtain ⟨A,c,rfl⟩:=hR.rw.us.shape
  obtain ⟨A1,c1,rfl⟩:=hN.shape
  have HMK:Hid (∀ W,Below w.heap.size w W→Calls Tryz.prog 155 #[.agg #[.slice A1 N.length c1,.slice none 0 0],.string g] W (XR (VU N g.data.toList) (jB N g.data.toList) [] W)):=fun W hb=>Uf _ _ N [] g W hN9 hg (hN.later hb) (MbR.nil W)
  have HRC:=za hR
  have HNN:=za hN
  clear hR hN
  obtain ⟨n,hlen⟩:∃ n,n=R.length:=⟨_,rfl⟩
  obtain ⟨n1,hlen1⟩:∃ n,n=N.length:=⟨_,rfl⟩
  have HLR:=za hlen
  rw [← hlen] at HRC ⊢
  rw [← hlen1] at HMK HNN ⊢
  clear hlen hlen1
  unfold XR at HMK
  generalize VU N g.data.toList=E at *
  generalize jB N g.data.toList=N' at *
  have Hd1a:=za (zr w (.slice A n c) (.slice A1 n1 c1))
  have HLO2a:Hid (w.heap.size≤w.heap.size):=Nat.le_refl _
  have HB3a:Hid (Below w.heap.size w (w.alloc (.cells #[.slice A n c,.slice A1 n1 c1] zn))):=z7 (Below.refl _ _) _
  have Hd4a:=za (Hd1a.out.later (z7 (Below.refl _ _) (.cells #[.slice none 0 0,.slice none 0 0] zn)))
  have Hr5a:Hid (yv ((w.alloc (.cells #[.slice A n c,.slice A1 n1 c1] zn)).alloc (.cells #[.slice none 0 0,.slice none 0 0] zn)) (w.heap.size+1) (.slice none 0 0) (.slice none 0 0)):=zi (by simp)
  have HLO6a:Hid (w.heap.size≤w.heap.size+1):=by have:=HB3a.out.size; show _≤_; simp at this; omega
  have HB7a:=za (z8 HB3a.out (z7 (Below.refl _ _) (.cells #[.slice none 0 0,.slice none 0 0] zn)))
  go_enter Tryz.func74,Tryz.ntmps74
  have ⟨kx9a,ky10a,kp11a,kq12a⟩:=Hd4a.out.q11
  have ⟨kx14a,ky15a,kp16a,kq17a⟩:=Hr5a.out.q11
  go_wp2_with fail
  generalize (w.alloc (.cells #[.slice A n c,.slice A1 n1 c1] zn)).alloc (.cells #[.slice none 0 0,.slice none 0 0] zn)=wg18a at *
  with_reducible refine (HMK.out wg18a HB7a.out).mono ?_
  rintro e w3 ⟨u1,u2,rfl,hn1,hm1,hb⟩
  clear kx9a ky10a kp11a kq12a kx14a ky15a kp16a kq17a
  have Hd19a:=za (Hd4a.out.later hb)
  have Hr20a:=za (Hr5a.out.later hb)
  have HB21a:=za (z8 HB7a.out hb)
  have HN3:=za hn1
  obtain ⟨A3,c3,rfl⟩:=hn1.shape
  obtain ⟨A4,c4,rfl⟩:=hm1.shape
  clear hn1 hm1 HMK
  obtain ⟨n3,hn3⟩:∃ m,m=N'.length:=⟨_,rfl⟩
  rw [← hn3] at HN3 ⊢
  have HNL:=za hn3
  clear hn3
  generalize ([]:List vc).length=n4
  clear hb
  have HLT22a:=za (Hd19a.out.lt)
  have HLT23a:=za (Hr20a.out.lt)
  have Hd24a:=za (Hd19a.out.later (z7 (Below.refl _ _) (.cells #[.slice A3 n3 c3,.slice A4 n4 c4] 178)))
  have Hr25a:=za (Hr20a.out.later (z7 (Below.refl _ _) (.cells #[.slice A3 n3 c3,.slice A4 n4 c4] 178)))
  have Hg26a:Hid (uZ (w3.alloc (.cells #[.slice A3 n3 c3,.slice A4 n4 c4] 178)) (w3.heap.size) (.slice A3 n3 c3) (.slice A4 n4 c4)):=qV w3 _ _
  have HLO27a:Hid (w.heap.size≤w3.heap.size):=by have:=HB21a.out.size; show _≤_; exact this
  have HB28a:=za (z8 HB21a.out (z7 (Below.refl _ _) (.cells #[.slice A3 n3 c3,.slice A4 n4 c4] 178)))
  have ⟨kx30a,ky31a,kp32a,kq33a⟩:=Hd24a.out.q11
  have ⟨kx35a,ky36a,kp37a,kq38a⟩:=Hr25a.out.q11
  have hg39a:=Hg26a.out
  have kx40a:=hg39a.c0
  have ky41a:=hg39a.c1
  have kp42a:=hg39a.f0
  have kq43a:=hg39a.f1
  clear hg39a
  have Hd44a:=za (Hd24a.out.set1 (.slice A3 n3 c3))
  have Hr45a:=za (Hr25a.out.other (c:=w.heap.size) (i:=1) (by omega) (.slice A3 n3 c3))
  have Hg46a:Hid (uZ ((w3.alloc (.cells #[.slice A3 n3 c3,.slice A4 n4 c4] 178)).setCell ⟨w.heap.size,1,none⟩ (.slice A3 n3 c3)) (w3.heap.size) (.slice A3 n3 c3) (.slice A4 n4 c4)):=Hg26a.out.other (by have:=HLT22a.out; omega) _
  have HB47a:=za (HB28a.out.setCell (p:=⟨w.heap.size,1,none⟩) HLO2a.out (.slice A3 n3 c3))
  have ⟨kx49a,ky50a,kp51a,kq52a⟩:=Hd44a.out.q11
  have ⟨kx54a,ky55a,kp56a,kq57a⟩:=Hr45a.out.q11
  have hg58a:=Hg46a.out
  have kx59a:=hg58a.c0
  have ky60a:=hg58a.c1
  have kp61a:=hg58a.f0
  have kq62a:=hg58a.f1
  clear hg58a
  have HS:=yt HB47a.out Hr45a.out HLO6a.out (.slice A n c) (.slice A3 n3 c3)
  have z0:=HS.1.c0
  have z1:=HS.1.c1
  have HPOST:=za (show yx E (ze R) N' w (.returned (.tuple #[.agg #[.slice A n c,.slice A3 n3 c3],.int .i64 E])) _ from ⟨R,_,_,rfl,HRC.out.later HS.2.1,rfl,((HN3.out.later (z7 (Below.refl _ _) _)).keepD11 (Hd24a.out.keep 1 _)).keepD11 HS.2.2,HS.2.1⟩)
  clear HS
  go_wp2
  refine bodyPost_ret (v:=.tuple #[.agg #[.slice A n c,.slice A3 n3 c3],.int .i64 E]) ?_ rfl HPOST.out
  simp [results,Tryz.results74,go_sem,z0,z1]

set_option maxRecDepth 100000 in
theorem fT (v vg:Value) (R:zL W11) (N:List (List UInt8)) (g:ByteArray) (w:World) (hR:vQ 0 R w v) (hN:NmR w vg N) (h12:R.length≤12) (hgl:∀ p∈R,p.2.gs.length≤12) (hN9:N.length≤900) (hg:g.size≤1000) :
    Calls Tryz.prog 76 #[.agg #[v,vg],.string g] w (yx (Z6 N g.data.toList) (fi (ze R) N g.data.toList) (jE N g.data.toList) w):=by
  have hzu:=uz
  obtain ⟨i0,hi,hz0,hz1,hz2⟩:=info_parts qw
  obtain ⟨A,c,rfl⟩:=hR.rw.us.shape
  obtain ⟨A1,c1,rfl⟩:=hN.shape
  have HMK:Hid (∀ W,Below w.heap.size w W→Calls Tryz.prog 156 #[.agg #[.slice A1 N.length c1,.slice none 0 0],.string g] W (XR (Z6 N g.data.toList) (jE N g.data.toList) [] W)):=fun W hb=>by
    have h:=Ul _ _ N [] g W hN9 (by simp) hg (hN.later hb) (MbR.nil W)
    have e:ddrM N [] g.data.toList=[]:=by unfold ddrM; split <;> rfl
    rw [e] at h
    exact h
  have HRC:=za hR
  have HNN:=za hN
  have HGL:=za hgl
  have HWO:Hid (∀ W p,p∈R→Below w.heap.size w W→Calls Tryz.prog 157 #[.slice p.2.ga p.2.gs.length p.2.gc,.string g] W fun e w'=>∃ v',e=.returned v'∧NmR w' v' (xZ p.2.gs g.data.toList)∧Below W.heap.size W w'):=fun W p hp hb=>qW _ p.2.gs g W (by have:=hgl p hp; omega) ((hR.later hb).2 p hp)
  have HLQ:Hid (fi (ze R) N g.data.toList=if Z6 N g.data.toList=0 then Xz (ze R) g.data.toList else ze R):=rfl
  have HNQ:Hid (jE N g.data.toList=if Z6 N g.data.toList=0 then xZ N g.data.toList else N):=rfl
  clear hgl
  clear hR hN
  obtain ⟨n,hlen⟩:∃ n,n=R.length:=⟨_,rfl⟩
  obtain ⟨n1,hlen1⟩:∃ n,n=N.length:=⟨_,rfl⟩
  have HLR:=za hlen
  rw [← hlen] at HRC h12 ⊢
  rw [← hlen1] at HMK HNN ⊢
  clear hlen hlen1
  unfold XR at HMK
  generalize Z6 N g.data.toList=E at *
  generalize jE N g.data.toList=N' at *
  generalize fi (ze R) N g.data.toList=L' at *
  by_cases h0:E=0
  case neg =>
    have q1:(E != 0)=true:=by simpa using h0
    have e2:L'=ze R:=by rw [HLQ.out,if_neg h0]
    have e3:N'=N:=by rw [HNQ.out,if_neg h0]
    clear HLQ HNQ HWO HGL
    have Hd1a:=za (zr w (.slice A n c) (.slice A1 n1 c1))
    have HLO2a:Hid (w.heap.size≤w.heap.size):=Nat.le_refl _
    have HB3a:Hid (Below w.heap.size w (w.alloc (.cells #[.slice A n c,.slice A1 n1 c1] zn))):=z7 (Below.refl _ _) _
    have Hd4a:=za (Hd1a.out.later (z7 (Below.refl _ _) (.cells #[.slice none 0 0,.slice none 0 0] zn)))
    have Hr5a:Hid (yv ((w.alloc (.cells #[.slice A n c,.slice A1 n1 c1] zn)).alloc (.cells #[.slice none 0 0,.slice none 0 0] zn)) (w.heap.size+1) (.slice none 0 0) (.slice none 0 0)):=zi (by simp)
    have HLO6a:Hid (w.heap.size≤w.heap.size+1):=by have:=HB3a.out.size; show _≤_; simp at this; omega
    have HB7a:=za (z8 HB3a.out (z7 (Below.refl _ _) (.cells #[.slice none 0 0,.slice none 0 0] zn)))
    go_enter Tryz.func76,Tryz.ntmps76
    have ⟨kx9a,ky10a,kp11a,kq12a⟩:=Hd4a.out.q11
    have ⟨kx14a,ky15a,kp16a,kq17a⟩:=Hr5a.out.q11
    go_wp2_with fail
    generalize (w.alloc (.cells #[.slice A n c,.slice A1 n1 c1] zn)).alloc (.cells #[.slice none 0 0,.slice none 0 0] zn)=wg18a at *
    with_reducible refine (HMK.out wg18a HB7a.out).mono ?_
    rintro e w3 ⟨u1,u2,rfl,hn1,hm1,hb⟩
    clear kx9a ky10a kp11a kq12a kx14a ky15a kp16a kq17a
    have Hd19a:=za (Hd4a.out.later hb)
    have Hr20a:=za (Hr5a.out.later hb)
    have HB21a:=za (z8 HB7a.out hb)
    have HN3:=za hn1
    obtain ⟨A3,c3,rfl⟩:=hn1.shape
    obtain ⟨A4,c4,rfl⟩:=hm1.shape
    clear hn1 hm1 HMK
    obtain ⟨n3,hn3⟩:∃ m,m=N'.length:=⟨_,rfl⟩
    rw [← hn3] at HN3 ⊢
    have HNL:=za hn3
    clear hn3
    generalize ([]:List vc).length=n4
    clear hb
    have HLT22a:=za (Hd19a.out.lt)
    have HLT23a:=za (Hr20a.out.lt)
    have Hd24a:=za (Hd19a.out.later (z7 (Below.refl _ _) (.cells #[.slice A3 n3 c3,.slice A4 n4 c4] 178)))
    have Hr25a:=za (Hr20a.out.later (z7 (Below.refl _ _) (.cells #[.slice A3 n3 c3,.slice A4 n4 c4] 178)))
    have Hg26a:Hid (uZ (w3.alloc (.cells #[.slice A3 n3 c3,.slice A4 n4 c4] 178)) (w3.heap.size) (.slice A3 n3 c3) (.slice A4 n4 c4)):=qV w3 _ _
    have HLO27a:Hid (w.heap.size≤w3.heap.size):=by have:=HB21a.out.size; show _≤_; exact this
    have HB28a:=za (z8 HB21a.out (z7 (Below.refl _ _) (.cells #[.slice A3 n3 c3,.slice A4 n4 c4] 178)))
    have ⟨kx30a,ky31a,kp32a,kq33a⟩:=Hd24a.out.q11
    have ⟨kx35a,ky36a,kp37a,kq38a⟩:=Hr25a.out.q11
    have hg39a:=Hg26a.out
    have kx40a:=hg39a.c0
    have ky41a:=hg39a.c1
    have kp42a:=hg39a.f0
    have kq43a:=hg39a.f1
    clear hg39a
    have HS:=yt HB28a.out Hr25a.out HLO6a.out (.slice A n c) (.slice A1 n1 c1)
    have z0:=HS.1.c0
    have z1:=HS.1.c1
    have HPOST:=za (show yx E L' N' w (.returned (.tuple #[.agg #[.slice A n c,.slice A1 n1 c1],.int .i64 E])) _ from ⟨R,_,_,rfl,HRC.out.later HS.2.1,e2.symm,by rw [e3]; exact HNN.out.later HS.2.1,HS.2.1⟩)
    clear HS
    go_wp2
    refine bodyPost_ret (v:=.tuple #[.agg #[.slice A n c,.slice A1 n1 c1],.int .i64 E]) ?_ rfl HPOST.out
    simp [results,Tryz.results76,go_sem,z0,z1]
  have Hd1b:=za (zr w (.slice A n c) (.slice A1 n1 c1))
  have HLO2b:Hid (w.heap.size≤w.heap.size):=Nat.le_refl _
  have HB3b:Hid (Below w.heap.size w (w.alloc (.cells #[.slice A n c,.slice A1 n1 c1] zn))):=z7 (Below.refl _ _) _
  have Hd4b:=za (Hd1b.out.later (z7 (Below.refl _ _) (.cells #[.slice none 0 0,.slice none 0 0] zn)))
  have Hr5b:Hid (yv ((w.alloc (.cells #[.slice A n c,.slice A1 n1 c1] zn)).alloc (.cells #[.slice none 0 0,.slice none 0 0] zn)) (w.heap.size+1) (.slice none 0 0) (.slice none 0 0)):=zi (by simp)
  have HLO6b:Hid (w.heap.size≤w.heap.size+1):=by have:=HB3b.out.size; show _≤_; simp at this; omega
  have HB7b:=za (z8 HB3b.out (z7 (Below.refl _ _) (.cells #[.slice none 0 0,.slice none 0 0] zn)))
  go_enter Tryz.func76,Tryz.ntmps76
  have ⟨kx9b,ky10b,kp11b,kq12b⟩:=Hd4b.out.q11
  have ⟨kx14b,ky15b,kp16b,kq17b⟩:=Hr5b.out.q11
  go_wp2_with fail
  generalize (w.alloc (.cells #[.slice A n c,.slice A1 n1 c1] zn)).alloc (.cells #[.slice none 0 0,.slice none 0 0] zn)=wg18b at *
  with_reducible refine (HMK.out wg18b HB7b.out).mono ?_
  rintro e w3 ⟨u1,u2,rfl,hn1,hm1,hb⟩
  clear kx9b ky10b kp11b kq12b kx14b ky15b kp16b kq17b
  have Hd19b:=za (Hd4b.out.later hb)
  have Hr20b:=za (Hr5b.out.later hb)
  have HB21b:=za (z8 HB7b.out hb)
  have HN3:=za hn1
  obtain ⟨A3,c3,rfl⟩:=hn1.shape
  obtain ⟨A4,c4,rfl⟩:=hm1.shape
  clear hn1 hm1 HMK
  obtain ⟨n3,hn3⟩:∃ m,m=N'.length:=⟨_,rfl⟩
  rw [← hn3] at HN3 ⊢
  have HNL:=za hn3
  clear hn3
  generalize ([]:List vc).length=n4
  clear hb
  have HLT22b:=za (Hd19b.out.lt)
  have HLT23b:=za (Hr20b.out.lt)
  have Hd24b:=za (Hd19b.out.later (z7 (Below.refl _ _) (.cells #[.slice A3 n3 c3,.slice A4 n4 c4] 178)))
  have Hr25b:=za (Hr20b.out.later (z7 (Below.refl _ _) (.cells #[.slice A3 n3 c3,.slice A4 n4 c4] 178)))
  have Hg26b:Hid (uZ (w3.alloc (.cells #[.slice A3 n3 c3,.slice A4 n4 c4] 178)) (w3.heap.size) (.slice A3 n3 c3) (.slice A4 n4 c4)):=qV w3 _ _
  have HLO27b:Hid (w.heap.size≤w3.heap.size):=by have:=HB21b.out.size; show _≤_; exact this
  have HB28b:=za (z8 HB21b.out (z7 (Below.refl _ _) (.cells #[.slice A3 n3 c3,.slice A4 n4 c4] 178)))
  have e2:L'=Xz (ze R) g.data.toList:=by rw [HLQ.out,if_pos h0]
  have HE2:=za e2
  subst h0
  clear HLQ HNQ e2
  have ⟨kx30b,ky31b,kp32b,kq33b⟩:=Hd24b.out.q11
  have ⟨kx35b,ky36b,kp37b,kq38b⟩:=Hr25b.out.q11
  have hg39b:=Hg26b.out
  have kx40b:=hg39b.c0
  have ky41b:=hg39b.c1
  have kp42b:=hg39b.f0
  have kq43b:=hg39b.f1
  clear hg39b
  have Hd44b:=za (Hd24b.out.set1 (.slice A3 n3 c3))
  have Hr45b:=za (Hr25b.out.other (c:=w.heap.size) (i:=1) (by omega) (.slice A3 n3 c3))
  have Hg46b:Hid (uZ ((w3.alloc (.cells #[.slice A3 n3 c3,.slice A4 n4 c4] 178)).setCell ⟨w.heap.size,1,none⟩ (.slice A3 n3 c3)) (w3.heap.size) (.slice A3 n3 c3) (.slice A4 n4 c4)):=Hg26b.out.other (by have:=HLT22b.out; omega) _
  have HB47b:=za (HB28b.out.setCell (p:=⟨w.heap.size,1,none⟩) HLO2b.out (.slice A3 n3 c3))
  have HN4:Hid (NmR ((w3.alloc (.cells #[.slice A3 n3 c3,.slice A4 n4 c4] 178)).setCell ⟨w.heap.size,1,none⟩ (.slice A3 n3 c3)) (.slice A3 n3 c3) N'):=(HN3.out.later (z7 (Below.refl _ _) _)).keepD11 (Hd24b.out.keep 1 _)
  clear HN3
  have ⟨kx49b,ky50b,kp51b,kq52b⟩:=Hd44b.out.q11
  have ⟨kx54b,ky55b,kp56b,kq57b⟩:=Hr45b.out.q11
  have hg58b:=Hg46b.out
  have kx59b:=hg58b.c0
  have ky60b:=hg58b.c1
  have kp61b:=hg58b.f0
  have kq62b:=hg58b.f1
  clear hg58b
  go_wp2
  generalize (w3.alloc (.cells #[.slice A3 n3 c3,.slice A4 n4 c4] 178)).setCell ⟨w.heap.size,1,none⟩ (.slice A3 n3 c3)=wg at *
  clear kx30b ky31b kp32b kq33b kx35b ky36b kp37b kq38b kx40b ky41b kp42b kq43b kx49b ky50b kp51b kq52b kx54b ky55b kp56b kq57b kx59b ky60b kp61b kq62b
  have HUS:=za HRC.out.rw.us
  go_loopg [8,10,29] n (fun gg s8 _ s29 wr=>∃ k:Nat,k≤n∧n - k≤gg∧s29=.int .i64 k∧Hid (Below wg.heap.size wg wr)∧∃ Rk:zL W11,Rk.length=k∧Hid (ze Rk=(Xz (ze R) g.data.toList).take k)∧Hid (wr.ownsRow wg.heap.size 47 5 s8 k (Rk.flatMap fa))∧Hid (qI 0 wr Rk))
  case atStart=>exact ⟨0,Nat.zero_le _,by omega,rfl,Below.refl _ _,[],rfl,rfl,World.ownsRow_nil _ _ _ _,(fun _ h=>nomatch h)⟩
  case round =>
    obtain ⟨k,hk,hgg,rfl,HW,Rk,hRl,HPL,HU,HGS⟩:=hrel
    by_cases hlt:k<n
    · have hltz:(k:Int)<(n:Int):=by omega
      have hkl:k<R.length:=by have:=HLR.out; omega
      have hbw:=z8 HB47b.out HW.out
      obtain ⟨ga,rfl,c0,c1',c2,c3',c4'⟩:=(HUS.out.later hbw).at_ k hkl
      have HWK:=za (HWO.out)
      have hmem:R[k]∈R:=List.getElem_mem hkl
      have HWK2:Hid (∀ W,Below w.heap.size w W→Calls Tryz.prog 157 #[.slice R[k].2.ga R[k].2.gs.length R[k].2.gc,.string g] W fun e w'=>∃ v',e=.returned v'∧NmR w' v' (xZ R[k].2.gs g.data.toList)∧Below W.heap.size W w'):=fun W hb=>HWO.out W R[k] hmem hb
      have HTT:Hid ((Xz (ze R) g.data.toList).take (k+1)=(Xz (ze R) g.data.toList).take k++[(R[k].1,{ R[k].2.u with gs:=xZ R[k].2.gs g.data.toList })]):=by
        have hkt:k<(Xz (ze R) g.data.toList).length:=by unfold Xz; rw [List.length_map,jJ]; exact hkl
        show _=_
        rw [List.take_succ_eq_append_getElem hkt]
        congr 1
        simp [Xz,ze,W11.u]
      have HNM:Hid ((zI R[k].1).data.toList=R[k].1):=zy _
      have HTX:Hid (.string (zI R[k].1)=(.string (zI R[k].1):Value)):=rfl
      clear HWK hmem
      generalize hkx:R[k].2=kx at *
      generalize hkn:R[k].1=kn at *
      generalize hks:zI kn=ks at *
      have HKS:=za hks
      obtain ⟨yh,ym,yd,ya,yg,yc⟩:=kx
      dsimp only at c1' c2 c3' c4' HWK2 HTT
      generalize hyl:yg.length=yl at *
      clear hkx hkn hks hyl HTX
      have HB1:=za hbw
      have HURL:Hid (∀ j,Value.ownBlock u8=some j→j<wr.heap.size):=fun j hj=>(HU.out.lt j hj).2
      clear hbw
      have Hu63b:Hid (yf (wr.alloc (.cells #[.string ks,.string yh,.string ym,.bool yd,.slice ya yl yc] 47)) (wr.heap.size) (.string ks) (.string yh) (.string ym) (.bool yd) (.slice ya yl yc)):=heap_alloc_new wr _
      have HLO64b:Hid (w.heap.size≤wr.heap.size):=by have:=HB1.out.size; show _≤_; exact this
      have HB65b:=za (z8 HB1.out (z7 (Below.refl _ _) (.cells #[.string ks,.string yh,.string ym,.bool yd,.slice ya yl yc] 47)))
      have HBQ:Hid (Below wr.heap.size wr (wr.alloc (.cells #[.string ks,.string yh,.string ym,.bool yd,.slice ya yl yc] 47))):=z7 (Below.refl _ _) _
      have hu66b:=Hu63b.out
      have kf67b:=hu66b.free
      have kc68b:_=some (.string ks:Value):=hu66b.at_ 0
      have kc69b:_=some (.string yh:Value):=hu66b.at_ 1
      have kc70b:_=some (.string ym:Value):=hu66b.at_ 2
      have kc71b:_=some (.bool yd:Value):=hu66b.at_ 3
      have kc72b:_=some (.slice ya yl yc:Value):=hu66b.at_ 4
      clear hu66b
      go_wp2_with fail
      generalize wr.alloc (.cells #[.string ks,.string yh,.string ym,.bool yd,.slice ya yl yc] 47)=wg73b at *
      with_reducible refine (HWK2.out wg73b HB65b.out).mono ?_
      rintro e w5 ⟨v5,rfl,hv5,hb⟩
      clear kf67b kc68b kc69b kc70b kc71b kc72b
      have Hu74b:=za (zh Hu63b.out hb)
      have HB75b:=za (z8 HB65b.out hb)
      have HB5:=za (z8 HBQ.out hb)
      have HV5:=za hv5
      obtain ⟨A5,c5,rfl⟩:=hv5.shape
      clear hv5
      obtain ⟨zg,hzg⟩:∃ z,z=xZ yg g.data.toList:=⟨_,rfl⟩
      rw [← hzg] at HV5 ⊢
      have HZG:=za hzg
      obtain ⟨zl,hzl⟩:∃ z,z=zg.length:=⟨_,rfl⟩
      rw [← hzl] at HV5 ⊢
      have HZL:=za hzl
      clear hzg hzl
      clear hb
      have hu76b:=Hu74b.out
      have kf77b:=hu76b.free
      have kc78b:_=some (.string ks:Value):=hu76b.at_ 0
      have kc79b:_=some (.string yh:Value):=hu76b.at_ 1
      have kc80b:_=some (.string ym:Value):=hu76b.at_ 2
      have kc81b:_=some (.bool yd:Value):=hu76b.at_ 3
      have kc82b:_=some (.slice ya yl yc:Value):=hu76b.at_ 4
      clear hu76b
      have HU6:Hid ((w5.setCell ⟨wr.heap.size,4,none⟩ (.slice A5 zl c5)).ownsRow wg.heap.size 47 5 u8 k (Rk.flatMap fa)):=fW (zG HU.out HB5.out) (fun j hj=>Nat.ne_of_lt (HURL.out j hj)) _ _
      have HG6:Hid (qI 0 (w5.setCell ⟨wr.heap.size,4,none⟩ (.slice A5 zl c5)) Rk):=(HGS.out.later HB5.out).set11 Hu74b.out _ _
      have HV6:Hid (NmR (w5.setCell ⟨wr.heap.size,4,none⟩ (.slice A5 zl c5)) (.slice A5 zl c5) zg):=X8 HV5.out Hu74b.out _ _
      have HB6:Hid (Below wr.heap.size wr (w5.setCell ⟨wr.heap.size,4,none⟩ (.slice A5 zl c5))):=HB5.out.setCell (p:=⟨wr.heap.size,4,none⟩) (Nat.le_refl _) _
      have hk12:k≤12:=by omega
      have hu83b:=Hu74b.out
      have kf84b:=hu83b.free
      have kc85b:_=some (.string ks:Value):=hu83b.at_ 0
      have kc86b:_=some (.string yh:Value):=hu83b.at_ 1
      have kc87b:_=some (.string ym:Value):=hu83b.at_ 2
      have kc88b:_=some (.bool yd:Value):=hu83b.at_ 3
      have kc89b:_=some (.slice ya yl yc:Value):=hu83b.at_ 4
      clear hu83b
      have Hu90b:=za (Hu74b.out.put411 (.slice A5 zl c5))
      have HB91b:=za (HB75b.out.setCell (p:=⟨wr.heap.size,4,none⟩) HLO64b.out (.slice A5 zl c5))
      have hu92b:=Hu90b.out
      have kf93b:=hu92b.free
      have kc94b:_=some (.string ks:Value):=hu92b.at_ 0
      have kc95b:_=some (.string yh:Value):=hu92b.at_ 1
      have kc96b:_=some (.string ym:Value):=hu92b.at_ 2
      have kc97b:_=some (.bool yd:Value):=hu92b.at_ 3
      have kc98b:_=some (.slice A5 zl c5:Value):=hu92b.at_ 4
      clear hu92b
      go_wp2_with (first
        | (at_builtin; refine wpList_append_own _ rfl _ _ 57 rfl wg.heap.size 47 i0 (.agg #[.string ⟨#[]⟩,.string ⟨#[]⟩,.string ⟨#[]⟩,.bool false,.slice none 0 0]) 5 80 Tryz.underlying57 hi hz0 hz1 hz2 rfl (by decide) _ _ _ rfl (HU6.out.alloc _) ⟨w5.heap.size,0,none⟩ 1 1 [.string ks,.string yh,.string ym,.bool yd,.slice A5 zl c5] rfl (by first | rfl | simp)
            (fun j u hu=>by rw [Addr.add_lit,Nat.zero_add,World.cell?_alloc_at _ _ _ _ (by first | rfl | simp)]; simpa using hu) (by simp [Value.oneCell']) (by unfold maxLen; omega) (by omega) (by have:=HB6.out.size; have:=HW.out.size; simp at *; omega) ?_
           intro v' w7 hown' hgrow _
           have HO:=za hown'
           have HGW:=za hgrow
           clear hown' hgrow)
        | fail)
      have HBG:=za (z8 HW.out HB6.out)
      go_roundg (n - (k+1))
      case measure=>omega
      case rel =>
        refine ⟨k+1,by omega,by omega,by go_num,(show Hid _ from ?_),Rk++[(kn,⟨yh,ym,yd,A5,zg,c5⟩)],by rw [List.length_append,hRl]; rfl,(show Hid _ from ?_),(show Hid _ from ?_),(show Hid _ from ?_)⟩
        · exact (z8 HBG.out (z7 (Below.refl _ _) _)).grown HGW.out (by have:=HBG.out.size; simp at *; omega) (fun j hj=>(HU6.out.lt j hj).1)
        · show ze _=_
          rw [HTT.out,← HPL.out]
          unfold ze
          rw [List.map_append]
          show _++[(kn,W11.u ⟨yh,ym,yd,A5,zg,c5⟩)]=_
          unfold W11.u
          rw [HZG.out]
        · rw [List.flatMap_append]
          have ho:=HO.out
          have e:[(kn,(⟨yh,ym,yd,A5,zg,c5⟩:W11))].flatMap fa=[.string ks,.string yh,.string ym,.bool yd,.slice A5 zl c5]:=by
            simp [fa,HKS.out,HZL.out]
          rw [e]
          exact ho
        · intro p hp
          rcases List.mem_append.1 hp with hp | hp
          · have h:=HG6.out p hp
            exact (h.alloc _).kept HGW.out (vW h HU6.out (by decide))
          · obtain rfl:=List.mem_singleton.1 hp
            have h:=HV6.out
            show World.ownsRow _ _ _ _ (.slice A5 zg.length c5) zg.length (zg.map encStr)
            unfold NmR at h
            rw [← HZL.out] at h ⊢
            exact (h.alloc _).kept HGW.out (vW h HU6.out (by decide))
    · have hltz:¬ (k:Int)<(n:Int):=by omega
      obtain rfl:k=n:=by omega
      have Hd63b:=za (Hd44b.out.later HW.out)
      have Hr64b:=za (Hr45b.out.later HW.out)
      have Hg65b:Hid (uZ (wr) (w3.heap.size) (.slice A3 n3 c3) (.slice A4 n4 c4)):=Hg46b.out.later HW.out
      have HB66b:=za (z8 HB47b.out HW.out)
      have hu8:=HU.out
      rw [← hRl] at hu8
      have HRW:Hid (vP Rk wr u8):=vP.of_own hu8
      obtain ⟨A8,c8,e8⟩:=HRW.out.us.shape
      rw [hRl] at e8
      subst e8
      clear hu8
      have HPL2:Hid (ze Rk=L'):=by
        have:=HPL.out
        rw [List.take_of_length_le (by unfold Xz; rw [List.length_map,jJ,← HLR.out]; exact Nat.le_refl _)] at this
        show _=_
        rw [this,HE2.out]
      have HN5:=za (HN4.out.later HW.out)
      clear HPL HN4 HWO HGL HU
      have ⟨kx68b,ky69b,kp70b,kq71b⟩:=Hd63b.out.q11
      have ⟨kx73b,ky74b,kp75b,kq76b⟩:=Hr64b.out.q11
      have hg77b:=Hg65b.out
      have kx78b:=hg77b.c0
      have ky79b:=hg77b.c1
      have kp80b:=hg77b.f0
      have kq81b:=hg77b.f1
      clear hg77b
      have Hd82b:=za (Hd63b.out.set0 (.slice A8 k c8))
      have Hr83b:=za (Hr64b.out.other (c:=w.heap.size) (i:=0) (by omega) (.slice A8 k c8))
      have Hg84b:Hid (uZ (wr.setCell ⟨w.heap.size,0,none⟩ (.slice A8 k c8)) (w3.heap.size) (.slice A3 n3 c3) (.slice A4 n4 c4)):=Hg65b.out.other (by have:=HLT22b.out; omega) _
      have HB85b:=za (HB66b.out.setCell (p:=⟨w.heap.size,0,none⟩) HLO2b.out (.slice A8 k c8))
      have ⟨kx87b,ky88b,kp89b,kq90b⟩:=Hd82b.out.q11
      have ⟨kx92b,ky93b,kp94b,kq95b⟩:=Hr83b.out.q11
      have hg96b:=Hg84b.out
      have kx97b:=hg96b.c0
      have ky98b:=hg96b.c1
      have kp99b:=hg96b.f0
      have kq100b:=hg96b.f1
      clear hg96b
      have HS:=yt HB85b.out Hr83b.out HLO6b.out (.slice A8 k c8) (.slice A3 n3 c3)
      have z0:=HS.1.c0
      have z1:=HS.1.c1
      have HKD2:Hid (zR wr _):=(Hd63b.out.keep 0 _).trans HS.2.2
      have HPOST:=za (show yx 0 L' N' w (.returned (.tuple #[.agg #[.slice A8 k c8,.slice A3 n3 c3],.int .i64 0])) _ from ⟨Rk,_,_,rfl,⟨HRW.out.keepD11 HKD2.out,HGS.out.keepD11 HKD2.out⟩,HPL2.out,HN5.out.keepD11 HKD2.out,HS.2.1⟩)
      clear HS
      go_wp2
      refine bodyPost_ret (v:=.tuple #[.agg #[.slice A8 k c8,.slice A3 n3 c3],.int .i64 0]) ?_ rfl HPOST.out
      simp [results,Tryz.results76,go_sem,z0,z1]

def yE (kd:Nat) (a b:List UInt8) (T T':yA):Prop:=kd % 11≠6→kd % 11≠7→∀ n,n≠(if 8≤kd % 11 then b else a)→zx T n=true→xJ T' n=xJ T n
section
variable {T:yA} {kd:Nat} {a b:List UInt8}
theorem qx (hr:zA T) {n x:List UInt8} (f:U11→U11) (h:n≠x):xJ (fL T x f) n=xJ T n:=by
 unfold fL
 cases xJ T x with
 | none=>rfl
 | some u=>show xJ (zP T x (f u)) n=_; rw [vY hr,if_neg h]
theorem oth_cr (hr:zA T) (h:kd % 11=0):yE kd a b T (dcrL T a b):=fun _ _ n hn _=>by
 rw [h,if_neg (by decide)] at hn
 unfold dcrL
 split
 ·
  rw [vY hr,if_neg hn]
 ·
  rfl
theorem oth_de (hr:zA T) (h:kd % 11=1):yE kd a b T (JD T a):=fun _ _ n hn _=>by
 rw [h,if_neg (by decide)] at hn
 unfold JD
 split
 ·
  rw [qy hr,if_neg hn]
 ·
  rfl
theorem oth_sh (hr:zA T) (h:kd % 11=2):yE kd a b T (dshL T a b):=fun _ _ n hn _=>by
 rw [h,if_neg (by decide)] at hn
 unfold dshL
 split
 ·
  exact qx hr _ hn
 ·
  rfl
theorem oth_sm (hr:zA T) (h:kd % 11=3):yE kd a b T (dsmL T a b):=fun _ _ n hn _=>by
 rw [h,if_neg (by decide)] at hn
 unfold dsmL
 split
 ·
  exact qx hr _ hn
 ·
  rfl
theorem oth_di (hr:zA T) (z:Bool) (h:kd % 11=4):yE kd a b T (ddiL T a z):=fun _ _ n hn _=>by
 rw [h,if_neg (by decide)] at hn
 unfold ddiL
 split
 ·
  exact qx hr _ hn
 ·
  rfl
theorem oth_rn (hr:zA T) (h:kd % 11=5):yE kd a b T (drnL T a b):=fun _ _ n hn hh=>by
 rw [h,if_neg (by decide)] at hn
 unfold drnL
 split
 ·
  rename_i he
  have hb:zx T b=false:=(Yn he).2.2.2
  have hnb:n≠b:=fun e=>by rw [e,hb] at hh; cases hh
  cases xJ T a with
  | none=>rfl
  | some u =>
   show xJ (zP (yu T a) b u) n=_
   rw [vY (yj hr a),if_neg hnb,qy hr,if_neg hn]
 ·
  rfl
theorem oth_jo (hr:zA T) (N:List (List UInt8)) (h:kd % 11=8):yE kd a b T (qE T N a b):=fun _ _ n hn _=>by
 rw [h,if_pos (by decide)] at hn
 unfold qE
 split
 ·
  exact qx hr _ hn
 ·
  rfl
theorem oth_le (hr:zA T) (N:List (List UInt8)) (h:kd % 11=9):yE kd a b T (qD T N a b):=fun _ _ n hn _=>by
 rw [h,if_pos (by decide)] at hn
 unfold qD
 split
 ·
  exact qx hr _ hn
 ·
  rfl
end
end Go.Proofs.YthmomkjingcbiaaGreatDoor
