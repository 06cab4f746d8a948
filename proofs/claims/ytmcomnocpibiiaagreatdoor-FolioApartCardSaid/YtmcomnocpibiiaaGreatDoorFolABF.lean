/-
  The texts that the laws of this seat share, part 6: what the code and the document's own answers tell, walked function by function.
  Conditions: each theorem's own.
-/
import Derived.Test.YtmcomnocpibiiaaGreatDoorFolABE
set_option maxHeartbeats 16000000
namespace Go.Proofs.YtmcomnocpibiiaaGreatDoor
open Go.RowKit Go.Maps

def dmaE (N:List (List UInt8)) (g:List UInt8):Int:=if zf g then (if vo N g then 9 else if 6≤N.length then 7 else 0) else 10
def dmaN (N:List (List UInt8)) (g:List UInt8):List (List UInt8):=if dmaE N g=0 then xp (N++[g]) else N
def XH (E:Int) (N:List (List UInt8)) (M:List xZ) (w:World) (e:Ending) (w':World):Prop :=
 ∃ u1 u2,e=.returned (.tuple #[.agg #[u1,u2],.int .i64 E])∧NmR w' u1 N∧MbR w' u2 M∧Below w.heap.size w w'
theorem YZ (W:World) (T:TypeId) (size:Nat):(W.alloc (.cells #[] T)).ownsRow W.heap.size T size (.slice (some ⟨W.heap.size,0,none⟩) 0 0) 0 [] :=
 ⟨by simp,.inr ⟨W.heap.size,0,#[],rfl,Nat.le_refl _,(MapKept.heap_alloc W _).1,Nat.le_refl _,Nat.zero_le _,by simp,by simp⟩⟩

set_option maxRecDepth 100000 in
theorem Ua (v1 v2:Value) (N:List (List UInt8)) (M:List xZ) (s:ByteArray) (w:World) (hN:N.length≤900) (hs:s.size≤1000) (h1:NmR w v1 N) (h2:MbR w v2 M) :
  Calls Tryz.prog 125 #[.agg #[v1,v2],.string s] w (XH (dmaE N s.data.toList) (dmaN N s.data.toList) M w):=by
 obtain ⟨i0,hi,hz0,hz1,hz2⟩:=info_parts jj
 obtain ⟨A1,c1,rfl⟩:=h1.shape
 obtain ⟨A,c,rfl⟩:=h2.shape
 have hb0:Below w.heap.size w (w.alloc (.cells #[.slice A1 N.length c1,.slice A M.length c] TG)):=z7 (Below.refl _ _) _
 have hbx:uS (w.alloc (.cells #[.slice A1 N.length c1,.slice A M.length c] TG)) w.heap.size (.slice A1 N.length c1) (.slice A M.length c):=qN _ _ _
 have HN1:=za h1
 have HA:=za h2
 have HB0:=za hb0
 have HBX:=za hbx
 clear h1 h2 hb0 hbx
 obtain ⟨n1,hn1⟩:∃ n1,n1=N.length:=⟨_,rfl⟩
 obtain ⟨n,hn⟩:∃ n,n=M.length:=⟨_,rfl⟩
 rw [← hn1] at HN1 HB0 HBX hN ⊢
 rw [← hn] at HA HB0 HBX ⊢
 have HL1:=za hn1
 have HL:=za hn
 clear hn hn1

 have HR0:Hid (uS ((w.alloc (.cells #[.slice A1 n1 c1,.slice A n c] TG)).alloc (.cells #[.slice none 0 0,.slice none 0 0] TG)) (w.heap.size+1) (.slice none 0 0) (.slice none 0 0)):=by
  have:=qN (w.alloc (.cells #[.slice A1 n1 c1,.slice A n c] TG)) (.slice none 0 0) (.slice none 0 0)
  rwa [World.size_alloc] at this
 have HBX2:=za (HBX.out.later (z7 (Below.refl _ _) (.cells #[.slice none 0 0,.slice none 0 0] TG)))
 have HB2:=za (z8 HB0.out (z7 (Below.refl _ _) (.cells #[.slice none 0 0,.slice none 0 0] TG)))
 have HN:=za (fun W=>vd s W hs)
 have HHS:Hid (∀ W,Below w.heap.size w W→Calls Tryz.prog 183 #[.slice A1 n1 c1,.string s] W (zV (vo N s.data.toList) W)):=fun W hb=>je _ N s W (by have:=HL1.out; omega) (HN1.out.later hb)
 unfold dmaN dmaE
 cases hname:zf s.data.toList with
 | false =>
  rw [hname] at HN
  clear hname HHS
  show Calls _ _ _ _ (XH 10 N M w)
  go_enter Tryz.func125,Tryz.ntmps125
  go_wp2_with fail
  generalize (w.alloc (.cells #[.slice A1 n1 c1,.slice A n c] TG)).alloc (.cells #[.slice none 0 0,.slice none 0 0] TG)=w1 at *
  with_reducible refine (HN.out _).mono ?_
  rintro e w2 ⟨rfl,hw⟩
  replace hw:=hw.symm
  subst hw
  have hx:=HBX2.out.later (Below.refl _ _)
  have hr:=HR0.out.later (Below.refl _ _)
  have k0:=hx.c0
  have k1:=hx.c1
  have r0:=hr.c0
  have r1:=hr.c1
  have rf0:=hr.f0
  have rf1:=hr.f1
  have HF:=za (fin2 HB2.out hr (Nat.le_succ _) (.slice A1 n1 c1) (.slice A n c))
  have HQ1:=za (HN1.out.later HB2.out)
  have HQ2:=za (HA.out.later HB2.out)
  clear hx hr
  go_wp2
  have z0:=HF.out.1.c0
  have z1:=HF.out.1.c1
  refine bodyPost_ret (v:=.tuple #[.agg #[.slice A1 n1 c1,.slice A n c],.int .i64 10]) ?_ rfl ⟨_,_,rfl,HQ1.out.keepG HF.out.2.2,HQ2.out.keepG HF.out.2.2,HF.out.2.1⟩
  simp [results,Tryz.results125,go_sem,z0,z1]
 | true =>
  rw [hname] at HN
  clear hname
  cases hh:vo N s.data.toList with
  | true =>
   rw [hh] at HHS
   clear hh
   show Calls _ _ _ _ (XH 9 N M w)
   go_enter Tryz.func125,Tryz.ntmps125
   go_wp2_with fail
   generalize (w.alloc (.cells #[.slice A1 n1 c1,.slice A n c] TG)).alloc (.cells #[.slice none 0 0,.slice none 0 0] TG)=w1 at *
   with_reducible refine (HN.out _).mono ?_
   rintro e w2 ⟨rfl,hw⟩
   replace hw:=hw.symm
   subst hw
   have k9:=HBX2.out.c0
   have HH:=za (HHS.out w1 HB2.out)
   clear HHS
   go_wp2_with fail
   with_reducible refine HH.out.mono ?_
   rintro e w3 ⟨rfl,hb⟩
   have HB3:=za (z8 HB2.out hb)
   clear HH k9
   have hx:=HBX2.out.later hb
   have hr:=HR0.out.later hb
   have k0:=hx.c0
   have k1:=hx.c1
   have r0:=hr.c0
   have r1:=hr.c1
   have rf0:=hr.f0
   have rf1:=hr.f1
   have HF:=za (fin2 HB3.out hr (Nat.le_succ _) (.slice A1 n1 c1) (.slice A n c))
   have HQ1:=za (HN1.out.later HB3.out)
   have HQ2:=za (HA.out.later HB3.out)
   clear hx hr hb
   go_wp2
   have z0:=HF.out.1.c0
   have z1:=HF.out.1.c1
   refine bodyPost_ret (v:=.tuple #[.agg #[.slice A1 n1 c1,.slice A n c],.int .i64 9]) ?_ rfl ⟨_,_,rfl,HQ1.out.keepG HF.out.2.2,HQ2.out.keepG HF.out.2.2,HF.out.2.1⟩
   simp [results,Tryz.results125,go_sem,z0,z1]
  | false =>
   rw [hh] at HHS
   clear hh
   by_cases h6:6≤N.length
   ·
    have e7:(if true=true then if false=true then (9:Int) else if 6≤N.length then 7 else 0 else 10)=7:=by simp [h6]
    rw [e7,if_neg (by decide)]
    have z6:(n1:Int) ≥ 6:=by have:=HL1.out; omega
    have x6:decide ((n1:Int) ≥ 6)=true:=decide_eq_true z6
    clear e7 h6
    go_enter Tryz.func125,Tryz.ntmps125
    go_wp2_with fail
    generalize (w.alloc (.cells #[.slice A1 n1 c1,.slice A n c] TG)).alloc (.cells #[.slice none 0 0,.slice none 0 0] TG)=w1 at *
    with_reducible refine (HN.out _).mono ?_
    rintro e w2 ⟨rfl,hw⟩
    replace hw:=hw.symm
    subst hw
    have k9:=HBX2.out.c0
    have HH:=za (HHS.out w1 HB2.out)
    clear HHS
    go_wp2_with fail
    with_reducible refine HH.out.mono ?_
    rintro e w3 ⟨rfl,hb⟩
    have HB3:=za (z8 HB2.out hb)
    clear HH k9
    have hx:=HBX2.out.later hb
    have hr:=HR0.out.later hb
    have k0:=hx.c0
    have k1:=hx.c1
    have r0:=hr.c0
    have r1:=hr.c1
    have rf0:=hr.f0
    have rf1:=hr.f1
    have HF:=za (fin2 HB3.out hr (Nat.le_succ _) (.slice A1 n1 c1) (.slice A n c))
    have HQ1:=za (HN1.out.later HB3.out)
    have HQ2:=za (HA.out.later HB3.out)
    clear hx hr hb
    go_wp2
    have z0:=HF.out.1.c0
    have z1:=HF.out.1.c1
    refine bodyPost_ret (v:=.tuple #[.agg #[.slice A1 n1 c1,.slice A n c],.int .i64 7]) ?_ rfl ⟨_,_,rfl,HQ1.out.keepG HF.out.2.2,HQ2.out.keepG HF.out.2.2,HF.out.2.1⟩
    simp [results,Tryz.results125,go_sem,z0,z1]
   ·
    have e0:(if true=true then if false=true then (9:Int) else if 6≤N.length then 7 else 0 else 10)=0:=by simp [h6]
    rw [e0,if_pos rfl]
    have z6:¬ (n1:Int) ≥ 6:=by have:=HL1.out; omega
    have x6:decide ((n1:Int) ≥ 6)=false:=decide_eq_false z6
    clear e0 h6
    go_enter Tryz.func125,Tryz.ntmps125
    go_wp2_with fail
    generalize (w.alloc (.cells #[.slice A1 n1 c1,.slice A n c] TG)).alloc (.cells #[.slice none 0 0,.slice none 0 0] TG)=w1 at *
    with_reducible refine (HN.out _).mono ?_
    rintro e w2 ⟨rfl,hw⟩
    replace hw:=hw.symm
    subst hw
    have k9:=HBX2.out.c0
    have HH:=za (HHS.out w1 HB2.out)
    clear HHS
    go_wp2_with fail
    with_reducible refine HH.out.mono ?_
    rintro e w3 ⟨rfl,hb⟩
    have HB3:=za (z8 HB2.out hb)
    clear HH k9
    have k0:=(HBX2.out.later hb).c0
    have kl:=(HBX2.out.later hb).lt
    have HEM:Hid ((w3.alloc (.cells #[] 9)).ownsRow 0 9 1 (.slice (some ⟨w3.heap.size,0,none⟩) 0 0) 0 []):=zA (YZ w3 9 1) (Nat.zero_le _)
    have HUP:Hid (∀ A4 c4 (w4:World),w4.ownsRow 0 9 1 (.slice A4 (0+n1) c4) (0+n1) ([]++N.map encStr)→(w3.alloc (.cells #[] 9)).grownBy w4 (Value.ownBlock (.slice (some ⟨w3.heap.size,0,none⟩) 0 0))→(Value.ownBlock (.slice A4 (0+n1) c4)=Value.ownBlock (.slice (some ⟨w3.heap.size,0,none⟩) 0 0)∨Value.ownBlock (.slice A4 (0+n1) c4)=some (w3.alloc (.cells #[] 9)).heap.size) →
      w4.ownsRow w3.heap.size 9 1 (.slice A4 n1 c4) n1 (N.map encStr)∧Below w3.heap.size w3 w4):=fun A4 c4 w4 h1 h2 h3=>by
     rw [Nat.zero_add,List.nil_append] at h1
     rw [Nat.zero_add] at h3
     refine ⟨FR h1 (fun j hj=>?_),(z7 (Below.refl _ _) _).grown h2 (by simp) (fun j hj=>by cases hj; exact Nat.le_refl _)⟩
     rcases h3 with h3 | h3
     ·
      rw [h3] at hj; cases hj; exact Nat.le_refl _
     ·
      rw [h3] at hj; injection hj with hj; rw [← hj]; simp
    have HSRC:Hid (Src Tryz.prog 1 28 (.slice A1 n1 c1) n1 (N.map encStr) (w3.alloc (.cells #[] 9))):=by
     have:=((HN1.out.later HB3.out).later (z7 (Below.refl _ _) (.cells #[] 9))).src
     rwa [← HL1.out] at this
    have HBX3:=za (HBX2.out.later hb)
    have HR3:=za (HR0.out.later hb)
    clear hb
    go_wp2_with (first
    | (at_builtin; refine xe _ rfl (.tmp 20) (.tmp 22) 28 28 (by rfl) 9 i0 _ 1 16 Tryz.underlying28 hi hz0 hz1 hz2 rfl (.slice (some ⟨w3.heap.size,0,none⟩) 0 0) 0 [] (by rfl) HEM.out (.slice A1 n1 c1) n1 (N.map encStr) (by rfl) HSRC.out (by simp only [maxLen]; omega) (by omega) ?_; intro A4 c4 w4 ho4 hg4 ha4; have HO4:=za (HUP.out A4 c4 w4 ho4 hg4 ha4).1; have HB4:=za (HUP.out A4 c4 w4 ho4 hg4 ha4).2; clear ho4 hg4 ha4)
    | (at_builtin; refine wpList_append_own _ rfl (.tmp 23) (.tmp 25) 28 rfl w3.heap.size 9 i0 (.string ⟨#[]⟩) 1 16 Tryz.underlying28 hi hz0 hz1 hz2 rfl (by decide) _ _ _ rfl (HO4.out.alloc _) ⟨w4.heap.size,0,none⟩ 1 1 [.string s] rfl rfl (fun j u hu=>by rw [Addr.add_lit,Nat.zero_add,World.cell?_alloc_at _ _ _ _ (by simp)]; simpa using hu) (by simp [Value.oneCell']) (by unfold maxLen; omega) (by omega) (by have:=HB4.out.size; simp; omega) ?_; intro v5 w5 ho5 hg5 _; have HO5:=za ho5; have HB5:=za (Vf HB4.out HO4.out hg5); clear ho5 hg5)
    | fail)
    have hrow:NmR w5 v5 (N++[s.data.toList]):=by
     have:=zA HO5.out (Nat.zero_le _)
     rw [← vA s] at this
     show World.ownsRow _ _ _ _ _ _ _
     rw [List.length_append,← HL1.out]
     simpa using this
    have HSR:=za (qZ v5 (N++[s.data.toList]) w5 (by rw [List.length_append,← HL1.out]; simp; omega) hrow)
    obtain ⟨A5,c5,rfl⟩:=hrow.shape
    clear hrow
    go_wp2_with fail
    with_reducible refine HSR.out.mono ?_
    rintro e w6 ⟨v6,rfl,hr6,hb6⟩
    have HNM:Hid (NmR w6 v6 (xp (N++[s.data.toList]))):=NmR.of hr6
    obtain ⟨A6,c6,rfl⟩:=HNM.out.shape
    have HB36:=za (z8 HB5.out hb6)
    have HB6:=za (z8 HB3.out HB36.out)
    have HML:=za (HA.out.later HB6.out)
    have hx:=HBX3.out.later HB36.out
    have hr:=HR3.out.later HB36.out
    have k0:=hx.c0
    have k1:=hx.c1
    have kf0:=hx.f0
    have r0:=hr.c0
    have r1:=hr.c1
    have rf0:=hr.f0
    have rf1:=hr.f1
    have HF:=za (fin3 (i:=0) HB6.out hx hr (Nat.le_refl _) (Nat.le_succ _) (by omega) (.slice A6 (xp (N++[s.data.toList])).length c6) (.slice A6 (xp (N++[s.data.toList])).length c6) (.slice A n c))
    clear hx hr hr6 hb6 HSR
    generalize (xp (N++[s.data.toList])).length=q6 at *
    go_wp2
    have z0:=HF.out.1.c0
    have z1:=HF.out.1.c1
    refine bodyPost_ret (v:=.tuple #[.agg #[.slice A6 q6 c6,.slice A n c],.int .i64 0]) ?_ rfl ⟨_,_,rfl,HNM.out.keepG HF.out.2.2,HML.out.keepG HF.out.2.2,HF.out.2.1⟩
    simp [results,Tryz.results125,go_sem,z0,z1]

def ddrN (N:List (List UInt8)) (g:List UInt8):List (List UInt8):=if ddrE N g=0 then xV N g else N
def ddrM (N:List (List UInt8)) (M:List xZ) (g:List UInt8):List xZ:=if ddrE N g=0 then dropM M g else M

set_option maxRecDepth 100000 in
theorem Uf (v1 v2:Value) (N:List (List UInt8)) (M:List xZ) (s:ByteArray) (w:World) (hN:N.length≤900) (hM:M.length≤900) (hs:s.size≤1000) (h1:NmR w v1 N) (h2:MbR w v2 M) :
  Calls Tryz.prog 126 #[.agg #[v1,v2],.string s] w (XH (ddrE N s.data.toList) (ddrN N s.data.toList) (ddrM N M s.data.toList) w):=by
 obtain ⟨i0,hi,hz0,hz1,hz2⟩:=info_parts jj
 obtain ⟨A1,c1,rfl⟩:=h1.shape
 obtain ⟨A,c,rfl⟩:=h2.shape
 have hb0:Below w.heap.size w (w.alloc (.cells #[.slice A1 N.length c1,.slice A M.length c] TG)):=z7 (Below.refl _ _) _
 have hbx:uS (w.alloc (.cells #[.slice A1 N.length c1,.slice A M.length c] TG)) w.heap.size (.slice A1 N.length c1) (.slice A M.length c):=qN _ _ _
 have HN1:=za h1
 have HA:=za h2
 have HB0:=za hb0
 have HBX:=za hbx
 clear h1 h2 hb0 hbx
 obtain ⟨n1,hn1⟩:∃ n1,n1=N.length:=⟨_,rfl⟩
 obtain ⟨n,hn⟩:∃ n,n=M.length:=⟨_,rfl⟩
 rw [← hn1] at HN1 HB0 HBX hN ⊢
 rw [← hn] at HA HB0 HBX hM ⊢
 have HL1:=za hn1
 have HL:=za hn
 clear hn hn1

 have HR0:Hid (uS ((w.alloc (.cells #[.slice A1 n1 c1,.slice A n c] TG)).alloc (.cells #[.slice none 0 0,.slice none 0 0] TG)) (w.heap.size+1) (.slice none 0 0) (.slice none 0 0)):=by
  have:=qN (w.alloc (.cells #[.slice A1 n1 c1,.slice A n c] TG)) (.slice none 0 0) (.slice none 0 0)
  rwa [World.size_alloc] at this
 have HBX2:=za (HBX.out.later (z7 (Below.refl _ _) (.cells #[.slice none 0 0,.slice none 0 0] TG)))
 have HB2:=za (z8 HB0.out (z7 (Below.refl _ _) (.cells #[.slice none 0 0,.slice none 0 0] TG)))
 have HN:=za (fun W=>vd s W hs)
 have HHS:Hid (∀ W,Below w.heap.size w W→Calls Tryz.prog 183 #[.slice A1 n1 c1,.string s] W (zV (vo N s.data.toList) W)):=fun W hb=>je _ N s W (by have:=HL1.out; omega) (HN1.out.later hb)
 unfold ddrN ddrM ddrE
 cases hname:zf s.data.toList with
 | false =>
  rw [hname] at HN
  clear hname HHS
  show Calls _ _ _ _ (XH 10 N M w)
  go_enter Tryz.func126,Tryz.ntmps126
  go_wp2_with fail
  generalize (w.alloc (.cells #[.slice A1 n1 c1,.slice A n c] TG)).alloc (.cells #[.slice none 0 0,.slice none 0 0] TG)=w1 at *
  with_reducible refine (HN.out _).mono ?_
  rintro e w2 ⟨rfl,hw⟩
  replace hw:=hw.symm
  subst hw
  have hx:=HBX2.out.later (Below.refl _ _)
  have hr:=HR0.out.later (Below.refl _ _)
  have k0:=hx.c0
  have k1:=hx.c1
  have r0:=hr.c0
  have r1:=hr.c1
  have rf0:=hr.f0
  have rf1:=hr.f1
  have HF:=za (fin2 HB2.out hr (Nat.le_succ _) (.slice A1 n1 c1) (.slice A n c))
  have HQ1:=za (HN1.out.later HB2.out)
  have HQ2:=za (HA.out.later HB2.out)
  clear hx hr
  go_wp2
  have z0:=HF.out.1.c0
  have z1:=HF.out.1.c1
  refine bodyPost_ret (v:=.tuple #[.agg #[.slice A1 n1 c1,.slice A n c],.int .i64 10]) ?_ rfl ⟨_,_,rfl,HQ1.out.keepG HF.out.2.2,HQ2.out.keepG HF.out.2.2,HF.out.2.1⟩
  simp [results,Tryz.results126,go_sem,z0,z1]
 | true =>
  rw [hname] at HN
  clear hname
  cases hh:vo N s.data.toList with
  | false =>
   rw [hh] at HHS
   clear hh
   show Calls _ _ _ _ (XH 8 N M w)
   go_enter Tryz.func126,Tryz.ntmps126
   go_wp2_with fail
   generalize (w.alloc (.cells #[.slice A1 n1 c1,.slice A n c] TG)).alloc (.cells #[.slice none 0 0,.slice none 0 0] TG)=w1 at *
   with_reducible refine (HN.out _).mono ?_
   rintro e w2 ⟨rfl,hw⟩
   replace hw:=hw.symm
   subst hw
   have k9:=HBX2.out.c0
   have HH:=za (HHS.out w1 HB2.out)
   clear HHS
   go_wp2_with fail
   with_reducible refine HH.out.mono ?_
   rintro e w3 ⟨rfl,hb⟩
   have HB3:=za (z8 HB2.out hb)
   clear HH k9
   have hx:=HBX2.out.later hb
   have hr:=HR0.out.later hb
   have k0:=hx.c0
   have k1:=hx.c1
   have r0:=hr.c0
   have r1:=hr.c1
   have rf0:=hr.f0
   have rf1:=hr.f1
   have HF:=za (fin2 HB3.out hr (Nat.le_succ _) (.slice A1 n1 c1) (.slice A n c))
   have HQ1:=za (HN1.out.later HB3.out)
   have HQ2:=za (HA.out.later HB3.out)
   clear hx hr hb
   go_wp2
   have z0:=HF.out.1.c0
   have z1:=HF.out.1.c1
   refine bodyPost_ret (v:=.tuple #[.agg #[.slice A1 n1 c1,.slice A n c],.int .i64 8]) ?_ rfl ⟨_,_,rfl,HQ1.out.keepG HF.out.2.2,HQ2.out.keepG HF.out.2.2,HF.out.2.1⟩
   simp [results,Tryz.results126,go_sem,z0,z1]
  | true =>
   rw [hh] at HHS
   clear hh
   show Calls _ _ _ _ (XH 0 (xV N s.data.toList) (dropM M s.data.toList) w)
   go_enter Tryz.func126,Tryz.ntmps126
   go_wp2_with fail
   generalize (w.alloc (.cells #[.slice A1 n1 c1,.slice A n c] TG)).alloc (.cells #[.slice none 0 0,.slice none 0 0] TG)=w1 at *
   with_reducible refine (HN.out _).mono ?_
   rintro e w2 ⟨rfl,hw⟩
   replace hw:=hw.symm
   subst hw
   have k9:=HBX2.out.c0
   have HH:=za (HHS.out w1 HB2.out)
   clear HHS HN
   go_wp2_with fail
   with_reducible refine HH.out.mono ?_
   rintro e w3 ⟨rfl,hb⟩
   have HB3:=za (z8 HB2.out hb)
   have HBX3:=za (HBX2.out.later hb)
   have HR3:=za (HR0.out.later hb)
   have k0:=HBX3.out.c0
   clear HH k9 hb HBX2 HR0 HB2
   go_wp2
   go_loopg [6,25] n1 (fun gg sl si wr=>∃ k:Nat,k≤n1∧n1 - k≤gg∧si=.int .i64 k∧Hid (Below w3.heap.size w3 wr)∧Hid (wr.ownsRow w3.heap.size 9 1 sl ((N.take k).filter (fun x=>!(x == s.data.toList))).length (((N.take k).filter (fun x=>!(x == s.data.toList))).map encStr)))
   case atStart=>exact ⟨0,Nat.zero_le _,by omega,rfl,Below.refl _ _,World.ownsRow_nil _ _ _ _⟩
   case round =>
    obtain ⟨k,hk,hg,rfl,HW,HU⟩:=hrel
    have hlen:((N.take k).filter (fun x=>!(x == s.data.toList))).length≤n1:=Nat.le_trans (List.length_filter_le _ _) (by simp; omega)
    by_cases hlt:k<n1
    ·
     have hltz:(k:Int)<(n1:Int):=by omega
     have hkl:k<N.length:=HL1.out ▸ hlt
     obtain ⟨gb,cx,e2,x0⟩:=(HN1.out.later (z8 HB3.out HW.out)).at_ hkl
     injection e2 with e2 e2n e2c
     subst e2
     clear e2n e2c
     have HST:Hid ((N.take (k+1)).filter (fun x=>!(x == s.data.toList))=(N.take k).filter (fun x=>!(x == s.data.toList))++if (fun x=>!(x == s.data.toList)) N[k] then [N[k]] else []):=Z3 _ N hkl
     have HTL:Hid ((zF N[k]).data.toList=N[k]):=zv _
     have HEG:Hid (encStr N[k]=.string (zF N[k])):=rfl
     generalize hMk:N[k]=qk at *
     generalize zF qk=gm at *
     clear hMk
     by_cases e1:gm.data.toList=s.data.toList
     ·
      obtain ⟨a1,a2⟩:=eqs10 e1
      have cg:(qk == s.data.toList)=true:=by rw [← HTL.out]; simpa using e1
      have HE:Hid ((N.take (k+1)).filter (fun x=>!(x == s.data.toList))=(N.take k).filter (fun x=>!(x == s.data.toList))):=by
       show _=_
       rw [HST.out,if_neg (by simp [cg]),List.append_nil]
      clear cg e1
      go_wp2
      go_roundg (n1 - (k+1))
      case measure=>omega
      case rel=>exact ⟨k+1,by omega,by omega,by go_num,HW,(show Hid _ from by rw [HE.out]; exact HU.out)⟩
     ·
      obtain ⟨a1,a2⟩:=nes10 e1
      have cg:(qk == s.data.toList)=false:=by rw [← HTL.out]; simpa using e1
      have HE:Hid ((N.take (k+1)).filter (fun x=>!(x == s.data.toList))=(N.take k).filter (fun x=>!(x == s.data.toList))++[qk]):=by
       show _=_
       rw [HST.out,if_pos (by simp [cg])]
      clear cg e1
      go_wp2_with (first
      | (at_builtin; refine wpList_append_own _ rfl _ _ 28 rfl w3.heap.size 9 i0 (.string ⟨#[]⟩) 1 16 Tryz.underlying28 hi hz0 hz1 hz2 rfl (by decide) _ _ _ rfl (HU.out.alloc _) ⟨wr.heap.size,0,none⟩ 1 1 [.string gm] rfl rfl (fun j u hu=>by rw [Addr.add_lit,Nat.zero_add,World.cell?_alloc_at _ _ _ _ (by simp)]; simpa using hu) (by simp [Value.oneCell']) (by unfold maxLen; omega) (by omega) (by have:=HW.out.size; simp; omega) ?_; intro v2 w2 hown' hgrow _; have HOw2:=za hown'; have HGw2:=za hgrow; clear hown' hgrow)
      | fail)
      have ho:=HOw2.out
      rw [← HEG.out] at ho
      have R1:=za (Vf HW.out HU.out HGw2.out)
      have R2:Hid (w2.ownsRow w3.heap.size 9 1 v2 ((N.take (k+1)).filter (fun x=>!(x == s.data.toList))).length (((N.take (k+1)).filter (fun x=>!(x == s.data.toList))).map encStr)):=by
       show World.ownsRow _ _ _ _ _ _ _
       rw [HE.out]
       simpa using ho
      clear ho
      go_roundg (n1 - (k+1))
      case measure=>omega
      case rel=>exact ⟨k+1,by omega,by omega,by go_num,R1,R2⟩
    ·
     have hltz:¬ (k:Int)<(n1:Int):=by omega
     obtain rfl:k=n1:=by omega
     have hu:=HU.out
     rw [List.take_of_length_le (by have:=HL1.out; omega)] at hu
     have HNM:Hid (NmR wr u6 (xV N s.data.toList)):=NmR.of hu
     have HBW:=za (z8 HB3.out HW.out)
     have HX2:=za (HBX3.out.later HW.out)
     have HY2:=za (HR3.out.later HW.out)
     have k1:=HX2.out.c1
     obtain ⟨A6,c6,rfl⟩:=HNM.out.shape
     generalize (xV N s.data.toList).length=q6 at *
     clear hu HW HU hlen
     go_wp2
     have HCW:=HBW
     clear HBW
     generalize hwm:wr=w1 at *
     have HBW:=HCW
     clear HCW hwm
     obtain ⟨i0,hi,hz0,hz1,hz2⟩:=info_parts infoMem10
     go_loopg [9,40] n (fun gg sl si wr=>∃ k:Nat,k≤n∧n - k≤gg∧si=.int .i64 k∧Hid (Below w1.heap.size w1 wr)∧Hid (wr.ownsRow w1.heap.size 205 2 sl ((M.take k).filter (fun m=>!(m.1 == s.data.toList))).length (((M.take k).filter (fun m=>!(m.1 == s.data.toList))).flatMap Qg)))
     case atStart=>exact ⟨0,Nat.zero_le _,by omega,rfl,Below.refl _ _,World.ownsRow_nil _ _ _ _⟩
     case round =>
      obtain ⟨k,hk,hg,rfl,HW,HU⟩:=hrel
      have hlen:((M.take k).filter (fun m=>!(m.1 == s.data.toList))).length≤n:=Nat.le_trans (List.length_filter_le _ _) (by simp; omega)
      by_cases hlt:k<n
      ·
       have hltz:(k:Int)<(n:Int):=by omega
       have hkl:k<M.length:=HL.out ▸ hlt
       obtain ⟨gb,cx,e2,x0,x1⟩:=(HA.out.later (z8 HBW.out HW.out)).at_ hkl
       injection e2 with e2 e2n e2c
       subst e2
       clear e2n e2c
       have HST:Hid ((M.take (k+1)).filter (fun m=>!(m.1 == s.data.toList))=(M.take k).filter (fun m=>!(m.1 == s.data.toList))++if (fun m=>!(m.1 == s.data.toList)) M[k] then [M[k]] else []):=Z3 _ M hkl
       have HUV:=za (HU.out.alloc (.cells #[.string (zF M[k].1),.string (zF M[k].2)] 205))
       have HTL:Hid ((zF M[k].1).data.toList=M[k].1):=zv _
       have HTM:Hid ((zF M[k].2).data.toList=M[k].2):=zv _
       have HEG:Hid (encStr M[k].1=.string (zF M[k].1)):=rfl
       have HEN:Hid (encStr M[k].2=.string (zF M[k].2)):=rfl
       have HEV:Hid (Qg M[k]=[.string (zF M[k].1),.string (zF M[k].2)]):=rfl
       generalize hMk:M[k]=qk at *
       generalize zF qk.1=gm at *
       generalize zF qk.2=nm at *
       clear hMk
       have HWV:=za (z8 HW.out (z7 (Below.refl wr.heap.size wr) (.cells #[.string gm,.string nm] 205)))
       by_cases e1:gm.data.toList=s.data.toList
       ·
        obtain ⟨a1,a2⟩:=eqs10 e1
        have cg:(qk.1 == s.data.toList)=true:=by rw [← HTL.out]; simpa using e1
        have HE:Hid ((M.take (k+1)).filter (fun m=>!(m.1 == s.data.toList))=(M.take k).filter (fun m=>!(m.1 == s.data.toList))):=by
         show _=_
         rw [HST.out,if_neg (by simp [cg]),List.append_nil]
        go_wp2
        go_roundg (n - (k+1))
        case measure=>omega
        case rel=>exact ⟨k+1,by omega,by omega,by go_num,HWV,(show Hid _ from by rw [HE.out]; exact HUV.out)⟩
       ·
        obtain ⟨a1,a2⟩:=nes10 e1
        have cg:(qk.1 == s.data.toList)=false:=by rw [← HTL.out]; simpa using e1
        have HE:Hid ((M.take (k+1)).filter (fun m=>!(m.1 == s.data.toList))=(M.take k).filter (fun m=>!(m.1 == s.data.toList))++[qk]):=by
         show _=_
         rw [HST.out,if_pos (by simp [cg])]
        go_wp2_with (first
        | (at_builtin; refine wpList_append_own _ rfl _ _ 150 rfl w1.heap.size 205 i0 (.agg #[.string ⟨#[]⟩,.string ⟨#[]⟩]) 2 32 Tryz.underlying150 hi hz0 hz1 hz2 rfl (by decide) _ _ _ rfl (HUV.out.alloc _) ⟨wr.heap.size+1,0,none⟩ 1 1 [.string gm,.string nm] rfl rfl (fun j u hu=>by rw [Addr.add_lit,Nat.zero_add,World.cell?_alloc_at _ _ _ _ (by simp)]; simpa using hu) (by simp [Value.oneCell']) (by unfold maxLen; omega) (by omega) (by have:=HW.out.size; simp; omega) ?_; intro v2 w2 hown' hgrow _; have HOw2:=za hown'; have HGw2:=za hgrow; clear hown' hgrow)
        | fail)
        have ho:=HOw2.out
        rw [← HEV.out] at ho
        have R1:=za (Vf HWV.out HUV.out HGw2.out)
        have R2:Hid (w2.ownsRow w1.heap.size 205 2 v2 ((M.take (k+1)).filter (fun m=>!(m.1 == s.data.toList))).length (((M.take (k+1)).filter (fun m=>!(m.1 == s.data.toList))).flatMap Qg)):=by
         show World.ownsRow _ _ _ _ _ _ _
         rw [HE.out]
         simpa using ho
        clear ho
        go_roundg (n - (k+1))
        case measure=>omega
        case rel=>exact ⟨k+1,by omega,by omega,by go_num,R1,R2⟩
      ·
       have hltz:¬ (k:Int)<(n:Int):=by omega
       obtain rfl:k=n:=by omega
       have hu:=HU.out
       rw [List.take_of_length_le (by have:=HL.out; omega)] at hu
       have HML:Hid (MbR wr u9 (dropM M s.data.toList)):=MbR.of hu
       have HBR:=za (z8 HBW.out HW.out)
       have HNF:=za (HNM.out.later HW.out)
       have hr:=HY2.out.later HW.out
       have r0:=hr.c0
       have r1:=hr.c1
       have rf0:=hr.f0
       have rf1:=hr.f1
       obtain ⟨AL,cL,rfl⟩:=HML.out.shape
       generalize (dropM M s.data.toList).length=q at *
       have HF:=za (fin2 HBR.out hr (Nat.le_succ _) (.slice A6 q6 c6) (.slice AL q cL))
       clear hu hr HU
       go_wp2
       have z0:=HF.out.1.c0
       have z1:=HF.out.1.c1
       refine bodyPost_ret (v:=.tuple #[.agg #[.slice A6 q6 c6,.slice AL q cL],.int .i64 0]) ?_ rfl ⟨_,_,rfl,HNF.out.keepG HF.out.2.2,HML.out.keepG HF.out.2.2,HF.out.2.1⟩
       simp [results,Tryz.results126,go_sem,z0,z1]
end Go.Proofs.YtmcomnocpibiiaaGreatDoor
namespace Go.Proofs.YtmcomnocpibiiaaGreatDoor
open Go.RowKit Go.Maps Go.Sort Go.Shelf

def xY:List Us→Int
 | []=>0
 | u::r=>if uh 2 u=0 then xY r else uh 2 u
def V2 (l:List Us):Int:=first7 [xY l,zq (yv (l.map (·.nm))) 9,zq (decide ((l.length:Int)≤12)) 7]

end Go.Proofs.YtmcomnocpibiiaaGreatDoor
namespace Go.Proofs.YtmcomnocpibiiaaGreatDoor
open Go.RowKit Go.Maps

structure U11 where
 hs:List UInt8
 ml:List UInt8
 dis:Bool
 gs:List (List UInt8)
abbrev zG:=zH (List UInt8×Bool)
abbrev yi:=zH U11
def xN (L:zQ) (S:zw) (n:List UInt8) (a:List UInt8×Bool):U11:=⟨a.1,xF L n,a.2,yX S n⟩
def ze (A:zG) (L:zQ) (S:zw):yi:=A.map fun p=>(p.1,xN L S p.1 p.2)

section
variable {V:Type}
theorem extV11:∀ {a b:zH V},zB a→zB b→(∀ x,x∈a↔x∈b)→a=b
 | [],[],_,_,_=>rfl
 | [],y::s,_,_,h=>absurd ((h y).2 (by simp)) (by simp)
 | x::r,[],_,_,h=>absurd ((h x).1 (by simp)) (by simp)
 | x::r,y::s,ha,hb,h=>by
  obtain ⟨a1,a2⟩:=List.pairwise_cons.1 ha
  obtain ⟨b1,b2⟩:=List.pairwise_cons.1 hb
  have e:x=y:=by
   rcases List.mem_cons.1 ((h x).1 (by simp)) with e | hx
   ·
    exact e
   ·
    rcases List.mem_cons.1 ((h y).2 (by simp)) with e | hy
    ·
     exact e.symm
    ·
     exact absurd (b1 _ hx) (by rw [yy (a1 _ hy)]; exact Bool.noConfusion)
  subst e
  rw [extV11 a2 b2 fun z=>?_]
  constructor
  ·
   intro hz
   rcases List.mem_cons.1 ((h z).1 (by simp [hz])) with e | h'
   ·
    subst e; exact absurd (a1 _ hz) (by rw [zC]; exact Bool.noConfusion)
   ·
    exact h'
  ·
   intro hz
   rcases List.mem_cons.1 ((h z).2 (by simp [hz])) with e | h'
   ·
    subst e; exact absurd (b1 _ hz) (by rw [zC]; exact Bool.noConfusion)
   ·
    exact h'
theorem ext11 {a b:zH V} (ha:zB a) (hb:zB b) (h:∀ k,xH a k=xH b k):a=b :=
 extV11 ha hb fun x=>by rw [← zJ (k:=x.1) (v:=x.2) ha,← zJ (k:=x.1) (v:=x.2) hb,h]
theorem vY {L:zH V} (hr:zB L) (k:List UInt8) (v:V) (x:List UInt8):xH (zM L k v) x=if x=k then some v else xH L x:=by
 refine Option.ext fun y=>?_
 rw [zJ (yP hr k v),yD]
 by_cases e:x=k
 ·
  subst e
  rw [if_pos rfl]
  constructor
  ·
   rintro (h | ⟨_,h⟩)
   ·
    injection h with _ h; rw [h]
   ·
    exact absurd rfl h
  ·
   intro h; injection h with h; rw [h]; exact .inl rfl
 ·
  rw [if_neg e,zJ hr]
  constructor
  ·
   rintro (h | ⟨h,_⟩)
   ·
    injection h with h; exact absurd h e
   ·
    exact h
  ·
   intro h; exact .inr ⟨h,e⟩
theorem qn {L:zH V} (hr:zB L) (k x:List UInt8):xH (yr L k) x=if x=k then none else xH L x:=by
 refine Option.ext fun y=>?_
 rw [zJ (ye hr k),yn]
 by_cases e:x=k
 ·
  subst e
  rw [if_pos rfl]
  constructor
  ·
   rintro ⟨_,h⟩; exact absurd rfl h
  ·
   intro h; cases h
 ·
  rw [if_neg e,zJ hr]
  exact ⟨fun h=>h.1,fun h=>⟨h,e⟩⟩
end

section
variable {A:zG} {L:zQ} {S:zw}
theorem Zk (A:zG) (L:zQ) (S:zw):zb (ze A L S)=zb A:=by
 unfold ze zb; rw [List.map_map]; rfl
theorem ui (A:zG) (L:zQ) (S:zw):(ze A L S).length=A.length:=List.length_map _
theorem zN (h:zB A):zB (ze A L S):=yQ h (Zk A L S)
theorem vT (A:zG) (L:zQ) (S:zw) (k:List UInt8):zy (ze A L S) k=zy A k:=by
 rw [Bool.eq_iff_iff,yE,yE,Zk]
theorem xb (h:zB A) (k:List UInt8):xH (ze A L S) k=(xH A k).map (xN L S k):=by
 refine Option.ext fun y=>?_
 rw [zJ (zN h)]
 unfold ze
 rw [List.mem_map]
 constructor
 ·
  rintro ⟨p,hp,e⟩
  injection e with e1 e2
  subst e1
  rw [(zJ (k:=p.1) (v:=p.2) h).2 hp,← e2]; rfl
 ·
  intro hy
  cases hg:xH A k with
  | none=>rw [hg] at hy; cases hy
  | some a =>
   rw [hg] at hy
   injection hy with hy
   exact ⟨(k,a),(zJ h).1 hg,by rw [← hy]⟩

/-! ### addresses -/
theorem Z2 (L:zQ) (n x:List UInt8):xF (vK L n) x=if x=n then [] else xF L x:=by
 by_cases e:x=n
 ·
  subst e; rw [if_pos rfl]; exact yW (UD L x)
 ·
  rw [if_neg e]
  cases h:xG L x with
  | false=>rw [yW h,yW (by rw [Xh e]; exact h)]
  | true =>
   have h1:=xQ h
   unfold xF vK
   have:∀ M:zQ,((M.filter fun p=>!(p.1 == n)).find? fun p=>p.1 == x)=M.find? fun p=>p.1 == x:=by
    intro M
    induction M with
    | nil=>rfl
    | cons y r ih =>
     by_cases ey:y.1=n
     ·
      have:(y.1 == x)=false:=by simp [ey]; exact fun h=>e h.symm
      rw [List.filter_cons_of_neg (by simp [ey]),ih,List.find?_cons_of_neg (by simp [this])]
     ·
      rw [List.filter_cons_of_pos (by simp [ey])]
      by_cases ex:y.1=x
      ·
       rw [List.find?_cons_of_pos (by simp [ex]),List.find?_cons_of_pos (by simp [ex])]
      ·
       rw [List.find?_cons_of_neg (by simp [ex]),List.find?_cons_of_neg (by simp [ex]),ih]
   rw [this]
theorem Yp (hr:uN L) (n a x:List UInt8):xF (qP L n a) x=if x=n then a else xF L x:=by
 by_cases e:x=n
 ·
  subst e; rw [if_pos rfl,get_put hr]
 ·
  rw [if_neg e]
  cases h:xG L x with
  | true =>
   have h1:=xQ h
   exact ZD (jD hr n a) (q:=(x,xF L x)) (vb.2 (.inr ⟨h1,e⟩))
  | false =>
   rw [yW h]
   refine yW ?_
   cases h2:xG (qP L n a) x with
   | false=>rfl
   | true =>
    obtain ⟨p,hp,hx⟩:=xE.1 h2
    rcases vb.1 hp with rfl | ⟨hp,_⟩
    ·
     exact absurd hx.symm e
    ·
     rw [xE.2 ⟨p,hp,hx⟩] at h; cases h

/-! ### groups -/
theorem rel11 (hr:zB S):∃ M,ug S (zb S) M :=
 ⟨S.flatMap fun p=>p.2.map fun m=>(p.1,m.1),rfl,fun g n=>by
  rw [xy hr,List.mem_flatMap]
  constructor
  ·
   rintro ⟨p,hp,h⟩
   obtain ⟨m,hm,e⟩:=List.mem_map.1 h
   injection e with e1 e2
   exact ⟨p,hp,e1,xD.2 ⟨m,hm,e2⟩⟩
  ·
   rintro ⟨p,hp,e1,h⟩
   obtain ⟨m,hm,e2⟩:=xD.1 h
   exact ⟨p,hp,List.mem_map.2 ⟨m,hm,by rw [e1,e2]⟩⟩⟩
variable {k:Nat}
theorem in_make (hg:zK S k) {g:List UInt8} (he:uM S g=0) (x n:List UInt8):uF (qj S g) x n=uF S x n:=by
 unfold qj
 rw [if_pos he,in10_put hg.rise (VB he).2.1]
theorem in_drop (hg:zK S k) {g:List UInt8} (he:jR S g=0) (x n:List UInt8):uF (jr S g) x n=true↔uF S x n=true∧x≠g:=by
 unfold jr
 rw [if_pos he,in10_del hg.rise]
theorem UB (hg:zK S k) {g n:List UInt8} (he:ql S g n=0) (x m:List UInt8):uF (qF S g n) x m=true↔uF S x m=true∨(x=g∧m=n):=by
 obtain ⟨M,hM⟩:=rel11 hg.rise
 rw [← (hM.join hg he).mem,List.mem_append,hM.mem]
 simp
theorem UA (hg:zK S k) {g n:List UInt8} (he:Ya S g n=0) (x m:List UInt8):uF (Zz S g n) x m=true↔uF S x m=true∧(x=g→m≠n):=by
 obtain ⟨M,hM⟩:=rel11 hg.rise
 rw [← (hM.leave hg he).mem,Uj,hM.mem]
theorem QI (hg:zK S k) (n x m:List UInt8):uF (jO S n) x m=true↔uF S x m=true∧m≠n:=by
 obtain ⟨M,hM⟩:=rel11 hg.rise
 rw [← (hM.remove hg n).mem,rmM_mem,hM.mem]
theorem Z0 (hg:zK S k) {o n:List UInt8} (he:fN S o n=0) (hn:yX S n=[]) (hon:o≠n) (x m:List UInt8):uF (Zr S o n) x m=true↔(m=n∧uF S x o=true)∨(m≠n∧m≠o∧uF S x m=true):=by
 obtain ⟨M,hM⟩:=rel11 hg.rise
 rw [← (hM.rename hg he).mem,← hM.mem,← hM.mem]
 unfold renM
 rw [List.mem_map]
 have hnn:∀ y,(y,n)∉M:=fun y hy=>by
  have h1:=(xw hg.rise).2 ((hM.mem y n).1 hy)
  rw [hn] at h1; cases h1
 constructor
 ·
  rintro ⟨y,hy,e⟩
  by_cases ey:y.2=o
  ·
   rw [if_pos (by simp [ey])] at e
   injection e with e1 e2
   exact .inl ⟨e2.symm,by rw [← e1,← ey]; exact hy⟩
  ·
   rw [if_neg (by simp [ey])] at e
   subst e
   exact .inr ⟨fun e=>hnn x (by rw [← e]; exact hy),ey,hy⟩
 ·
  rintro (⟨rfl,h⟩ | ⟨h1,h2,h⟩)
  ·
   exact ⟨_,h,by simp⟩
  ·
   exact ⟨_,h,by simp [h2]⟩

theorem ofT {S':zw} (hr:zB S) (hr':zB S') {n n':List UInt8} (h:∀ g,uF S' g n'=true↔uF S g n=true):yX S' n'=yX S n :=
 vW (xJ hr' n') (xJ hr n) fun g=>by rw [xw hr',xw hr,h]
theorem of_make (hg:zK S k) {g:List UInt8} (he:uM S g=0) (n:List UInt8):yX (qj S g) n=yX S n :=
 ofT hg.rise (QM hg g).rise fun x=>by rw [in_make hg he]
theorem of_drop (hg:zK S k) {g:List UInt8} (he:jR S g=0) (n:List UInt8):yX (jr S g) n=xV (yX S n) g :=
 vW (xJ (Xn hg g).rise n) ((xJ hg.rise n).filter _) fun x=>by
  rw [xw (Xn hg g).rise,in_drop hg he,xV,List.mem_filter,xw hg.rise]
  simp
theorem of_join (hg:zK S k) {g n:List UInt8} (he:ql S g n=0) (m:List UInt8):yX (qF S g n) m=if m=n then xp (yX S m++[g]) else yX S m:=by
 by_cases e:m=n
 ·
  subst e
  rw [if_pos rfl]
  refine vW (xJ (jl hg g m).rise m) (Vj _) fun x=>?_
  rw [xw (jl hg g m).rise,UB hg he,YC,List.mem_append,xw hg.rise]
  simp
 ·
  rw [if_neg e]
  exact ofT hg.rise (jl hg g n).rise fun x=>by rw [UB hg he]; simp [e]
theorem FU (hg:zK S k) {g n:List UInt8} (he:Ya S g n=0) (m:List UInt8):yX (Zz S g n) m=if m=n then xV (yX S m) g else yX S m:=by
 by_cases e:m=n
 ·
  subst e
  rw [if_pos rfl]
  refine vW (xJ (jK hg g m).rise m) ((xJ hg.rise m).filter _) fun x=>?_
  rw [xw (jK hg g m).rise,UA hg he,xV,List.mem_filter,xw hg.rise]
  simp
 ·
  rw [if_neg e]
  exact ofT hg.rise (jK hg g n).rise fun x=>by rw [UA hg he]; simp [e]
theorem of_remove (hg:zK S k) (n m:List UInt8):yX (jO S n) m=if m=n then [] else yX S m:=by
 by_cases e:m=n
 ·
  subst e; rw [if_pos rfl]; exact removed10 hg.rise m
 ·
  rw [if_neg e]
  exact ofT hg.rise (Xm hg n).rise fun x=>by rw [QI hg]; simp [e]
theorem Qo (hg:zK S k) {o n:List UInt8} (he:fN S o n=0) (hn:yX S n=[]) (hon:o≠n) (m:List UInt8):yX (Zr S o n) m=if m=n then yX S o else if m=o then [] else yX S m:=by
 by_cases e:m=n
 ·
  subst e; rw [if_pos rfl]
  exact ofT hg.rise (qI hg o m).rise fun x=>by rw [Z0 hg he hn hon]; simp
 ·
  rw [if_neg e]
  by_cases e2:m=o
  ·
   subst e2; rw [if_pos rfl]
   refine List.eq_nil_iff_forall_not_mem.2 fun g hgm=>?_
   rw [xw (qI hg m n).rise,Z0 hg he hn hon] at hgm
   simp [e] at hgm
  ·
   rw [if_neg e2]
   exact ofT hg.rise (qI hg o n).rise fun x=>by rw [Z0 hg he hn hon]; simp [e,e2]
end

structure zt (A:zG) (L:zQ) (S:zw) (k:Nat):Prop where
 rise:zB A
 few:A.length≤12
 nm:∀ p∈A,zf p.1=true∧yK p.2.1=true
 mir:∃ M,yt L M
 all:∀ x∈L,May9 x
 has:∀ x∈L,zy A x.1=true
 lfew:L.length≤k
 grp:zK S k
 mem:∀ g n,uF S g n=true→zy A n=true
theorem zt.nil:zt [] [] [] 0:=⟨List.Pairwise.nil,by simp,(fun _ h=>nomatch h),⟨[],yt.nil⟩,(fun _ h=>nomatch h),(fun _ h=>nomatch h),Nat.le_refl _,zK.nil,fun g n h=>by simp [uF,Qw,xH,zy] at h⟩

def Va (a b c d:Bool):Int:=if a then (if b then (if c then 9 else if d then 7 else 0) else 4) else 10
def ju (a c:Bool):Int:=if a then (if c then 0 else 8) else 10
def shF11 (a b c d:Bool):Int:=if a then (if b then (if c then (if d then 12 else 0) else 8) else 4) else 10
def Js (a b c d:Bool):Int:=if a then (if b then (if c then (if d then 9 else 0) else 8) else 11) else 10
def diF11 (a c d:Bool):Int:=if a then (if c then (if d then 12 else 0) else 8) else 10
def rnF11 (a b c d:Bool):Int:=if a then (if b then (if c then (if d then 9 else 0) else 8) else 10) else 10
def V4 (a b c d e:Bool) (x:Int):Int:=if a then (if b then (if c then (if d then (if e then x else 0) else 8) else 8) else 10) else 10

/-! ### of the code -/
def uH (A:zG) (n:List UInt8):Bool:=match xH A n with | some a=>a.2 | none=>false
def jk (A:zG) (n:List UInt8):List UInt8:=match xH A n with | some a=>a.1 | none=>[]
def xq (m:List UInt8):Bool:=decide (m=[]) || yR m
def Ye (A:zG) (n h:List UInt8):Int:=Va (zf n) (yK h) (zy A n) (decide (12≤A.length))
def Fo (A:zG) (n h:List UInt8):zG:=if Ye A n h=0 then zM A n (h,false) else A
def Z4 (A:zG) (n:List UInt8):Int:=ju (zf n) (zy A n)
def Y3 (A:zG) (n h:List UInt8):Int:=shF11 (zf n) (yK h) (zy A n) (uH A n)
def Jt (A:zG) (n h:List UInt8):zG:=if Y3 A n h=0 then zM A n (h,uH A n) else A
def qy (A:zG) (L:zQ) (n m:List UInt8):Int:=Js (zf n) (xq m) (zy A n) (decide (qY L n m=9))
def Y2 (A:zG) (L:zQ) (n m:List UInt8):zQ:=if qy A L n m=0 then Vk L n m else L
def Yd (A:zG) (n:List UInt8) (b:Bool):Int:=diF11 (zf n) (zy A n) (uH A n == b)
def Ff (A:zG) (n:List UInt8) (b:Bool):zG:=if Yd A n b=0 then zM A n (jk A n,b) else A
def jb (A:zG) (o n:List UInt8):Int:=rnF11 (zf o) (zf n) (zy A o) (zy A n)
def Jx (A:zG) (o n:List UInt8):zG:=if jb A o n=0 then yr (zM A n (jk A o,uH A o)) o else A
def Jw (A:zG) (L:zQ) (o n:List UInt8):zQ:=if jb A o n=0 then reL9 L o n else L
def Jv (A:zG) (S:zw) (o n:List UInt8):zw:=if jb A o n=0 then Zr S o n else S
def yT (A:zG) (g n:List UInt8):Int:=if zf g then (if zf n then (if zy A n then 0 else 8) else 10) else 10
def ZB (A:zG) (S:zw) (g n:List UInt8):Int:=if yT A g n=0 then ql S g n else yT A g n
def Uw (A:zG) (S:zw) (g n:List UInt8):zw:=if yT A g n=0 then qF S g n else S
def ZA (A:zG) (S:zw) (g n:List UInt8):Int:=if yT A g n=0 then Ya S g n else yT A g n
def Uu (A:zG) (S:zw) (g n:List UInt8):zw:=if yT A g n=0 then Zz S g n else S

/-! ### of the document -/
def disU (l:yi) (n:List UInt8):Bool:=match xH l n with | some u=>u.dis | none=>false
def gsU (l:yi) (n:List UInt8):List (List UInt8):=match xH l n with | some u=>u.gs | none=>[]
def fH (l:yi) (n:List UInt8) (f:U11→U11):yi:=match xH l n with | some u=>zM l n (f u) | none=>l
def Yq (l:yi) (n a:List UInt8):Bool:=l.any fun p=>!(a == []) && (p.2.ml == a) && !(p.1 == n)
def yB (m:List UInt8):List UInt8:=if yR m then zL m else []
def dcrE (l:yi) (n h:List UInt8):Int:=Va (zf n) (yK h) (zy l n) (decide (12≤l.length))
def dcrL (l:yi) (n h:List UInt8):yi:=if dcrE l n h=0 then zM l n ⟨h,[],false,[]⟩ else l
def ddeE (l:yi) (n:List UInt8):Int:=ju (zf n) (zy l n)
def Ji (l:yi) (n:List UInt8):yi:=if ddeE l n=0 then yr l n else l
def dshE (l:yi) (n h:List UInt8):Int:=shF11 (zf n) (yK h) (zy l n) (disU l n)
def dshL (l:yi) (n h:List UInt8):yi:=if dshE l n h=0 then fH l n (fun u=>{ u with hs:=h }) else l
def dsmE (l:yi) (n m:List UInt8):Int:=Js (zf n) (xq m) (zy l n) (Yq l n (yB m))
def dsmL (l:yi) (n m:List UInt8):yi:=if dsmE l n m=0 then fH l n (fun u=>{ u with ml:=yB m }) else l
def ddiE (l:yi) (n:List UInt8) (b:Bool):Int:=diF11 (zf n) (zy l n) (disU l n == b)
def ddiL (l:yi) (n:List UInt8) (b:Bool):yi:=if ddiE l n b=0 then fH l n (fun u=>{ u with dis:=b }) else l
def drnE (l:yi) (o n:List UInt8):Int:=rnF11 (zf o) (zf n) (zy l o) (zy l n)
def drnL (l:yi) (o n:List UInt8):yi:=if drnE l o n=0 then (match xH l o with | some u=>zM (yr l o) n u | none=>l) else l
def VO (N:List (List UInt8)) (g:List UInt8):Int:=if zf g then (if vo N g then 9 else if 6≤N.length then 7 else 0) else 10
def js (N:List (List UInt8)) (g:List UInt8):List (List UInt8):=if VO N g=0 then xp (N++[g]) else N
def Z5 (N:List (List UInt8)) (g:List UInt8):Int:=if zf g then (if vo N g then 0 else 8) else 10
def jv (N:List (List UInt8)) (g:List UInt8):List (List UInt8):=if Z5 N g=0 then xV N g else N
def Xr (l:yi) (g:List UInt8):yi:=l.map fun p=>(p.1,{ p.2 with gs:=xV p.2.gs g })
def ff (l:yi) (N:List (List UInt8)) (g:List UInt8):yi:=if Z5 N g=0 then Xr l g else l
def fd (l:yi) (N:List (List UInt8)) (g n:List UInt8):Int:=V4 (zf n) (zf g) (zy l n) (vo N g) (vo (gsU l n) g) 9
def qt (l:yi) (N:List (List UInt8)) (g n:List UInt8):yi:=if fd l N g n=0 then fH l n (fun u=>{ u with gs:=xp (u.gs++[g]) }) else l
def fc (l:yi) (N:List (List UInt8)) (g n:List UInt8):Int:=V4 (zf n) (zf g) (zy l n) (vo N g) (!vo (gsU l n) g) 12
def qr (l:yi) (N:List (List UInt8)) (g n:List UInt8):yi:=if fc l N g n=0 then fH l n (fun u=>{ u with gs:=xV u.gs g }) else l

section
variable {A:zG} {L:zQ} {S:zw} {k:Nat}
theorem zt.free (h:zt A L S k) {n:List UInt8} (hn:zy A n=false):xG L n=false∧xF L n=[]∧yX S n=[]:=by
 have h1:xG L n=false:=by
  cases hh:xG L n with
  | false=>rfl
  | true =>
   obtain ⟨x,hx,e⟩:=xE.1 hh
   have:=h.has x hx
   rw [e,hn] at this; cases this
 refine ⟨h1,yW h1,List.eq_nil_iff_forall_not_mem.2 fun g hg=>?_⟩
 have:=h.mem g n ((xw h.grp.rise).1 hg)
 rw [hn] at this; cases this
theorem zt.lrise (h:zt A L S k):uN L:=by obtain ⟨_,h⟩:=h.mir; exact h.rl
theorem FH (h:zt A L S k) (n:List UInt8):disU (ze A L S) n=uH A n:=by
 unfold disU uH
 rw [xb h.rise]
 cases xH A n <;> rfl
theorem tell_gs (h:zt A L S k) {n:List UInt8}:gsU (ze A L S) n=yX S n:=by
 unfold gsU
 rw [xb h.rise]
 cases hh:xH A n with
 | some a=>rfl
 | none=>exact (h.free (qo.1 hh)).2.2.symm
theorem U4 (h:zB A) (n:List UInt8) (a:List UInt8×Bool):ze (zM A n a) L S=zM (ze A L S) n (xN L S n a) :=
 ext11 (zN (yP h n a)) (yP (zN h) n _) fun x=>by
  rw [xb (yP h n a),vY h,vY (zN h),xb h]
  by_cases e:x=n
  ·
   subst e; rw [if_pos rfl,if_pos rfl]; rfl
  ·
   rw [if_neg e,if_neg e]
theorem Yk (h:zB A) {L':zQ} {S':zw} {n:List UInt8} {f:U11→U11} (ho:∀ x,x≠n→xF L' x=xF L x∧yX S' x=yX S x) (hn:∀ a,xH A n=some a→xN L' S' n a=f (xN L S n a)):ze A L' S'=fH (ze A L S) n f:=by
 unfold fH
 rw [xb h]
 cases hh:xH A n with
 | none =>
  refine ext11 (zN h) (zN h) fun x=>?_
  show _=xH (ze A L S) x
  rw [xb h,xb h]
  by_cases e:x=n
  ·
   subst e; rw [hh]; rfl
  ·
   unfold xN; rw [(ho x e).1,(ho x e).2]
 | some a =>
  refine ext11 (zN h) (yP (zN h) n _) fun x=>?_
  show _=xH (zM (ze A L S) n (f (xN L S n a))) x
  rw [xb h,vY (zN h),xb h]
  by_cases e:x=n
  ·
   subst e; rw [if_pos rfl,hh,← hn a hh]; rfl
  ·
   rw [if_neg e]; unfold xN; rw [(ho x e).1,(ho x e).2]

theorem Qe {A:zG} {n:List UInt8} {a:List UInt8×Bool} (hf:A.length≤12) (h:zy A n=true):(zM A n a).length≤12:=Nat.le_trans (putV_has a h) hf
theorem zt.put (h:zt A L S k) {n:List UInt8} {a:List UInt8×Bool} (hn:zf n=true) (ha:yK a.1=true) (hf:(zM A n a).length≤12):zt (zM A n a) L S (k+1):=by
 have hk:∀ x,zy A x=true→zy (zM A n a) x=true:=fun x hx=>ul.2 (.inr hx)
 refine ⟨yP h.rise n a,hf,fun p hp=>?_,h.mir,h.all,fun x hx=>hk _ (h.has x hx),Nat.le_succ_of_le h.lfew,h.grp.mono (Nat.le_succ _),fun g m hm=>hk _ (h.mem g m hm)⟩
 rcases yD.1 hp with rfl | ⟨hp,_⟩
 ·
  exact ⟨hn,ha⟩
 ·
  exact h.nm p hp
theorem zt.mono (h:zt A L S k) {j:Nat} (hj:k≤j):zt A L S j:=⟨h.rise,h.few,h.nm,h.mir,h.all,h.has,Nat.le_trans h.lfew hj,h.grp.mono hj,h.mem⟩
theorem Xi (h:zt A L S k) {n:List UInt8} (hn:zy A n=true):yK (jk A n)=true:=by
 obtain ⟨a,ha⟩:=qJ hn
 unfold jk
 rw [ha]
 exact (h.nm (n,a) ((zJ h.rise).1 ha)).2

def uJ (A':zG) (L':zQ) (S':zw) (l':yi) (N':List (List UInt8)) (k:Nat):Prop:=zt A' L' S' k∧ze A' L' S'=l'∧zb S'=N'
theorem crF_zero {a b c d:Bool} (h:Va a b c d=0):a=true∧b=true∧c=false∧d=false:=by revert h; cases a <;> cases b <;> cases c <;> cases d <;> decide
theorem FI {a b c d:Bool} (h:shF11 a b c d=0):a=true∧b=true∧c=true∧d=false:=by revert h; cases a <;> cases b <;> cases c <;> cases d <;> decide
theorem smF_zero {a b c d:Bool} (h:Js a b c d=0):a=true∧b=true∧c=true∧d=false:=by revert h; cases a <;> cases b <;> cases c <;> cases d <;> decide
theorem diF_zero {a c d:Bool} (h:diF11 a c d=0):a=true∧c=true∧d=false:=by revert h; cases a <;> cases c <;> cases d <;> decide
theorem Yl {a b c d:Bool} (h:rnF11 a b c d=0):a=true∧b=true∧c=true∧d=false:=by revert h; cases a <;> cases b <;> cases c <;> cases d <;> decide

theorem cr_same (n h:List UInt8):dcrE (ze A L S) n h=Ye A n h:=by unfold dcrE Ye; rw [vT,ui]
theorem cr_one (hg:zt A L S k) (n h:List UInt8):uJ (Fo A n h) L S (dcrL (ze A L S) n h) (zb S) (k+1):=by
 unfold Fo dcrL
 rw [cr_same]
 by_cases e:Ye A n h=0
 ·
  rw [if_pos e,if_pos e]
  obtain ⟨h1,h2,h3,h4⟩:=crF_zero e
  rw [decide_eq_false_iff_not] at h4
  have hf:(zM A n (h,false)).length≤12:=by have:=Zt A n (h,false); omega
  refine ⟨hg.put h1 h2 hf,?_,rfl⟩
  rw [U4 hg.rise]
  obtain ⟨_,f2,f3⟩:=hg.free h3
  unfold xN
  rw [f2,f3]
 ·
  rw [if_neg e,if_neg e]
  exact ⟨hg.mono (Nat.le_succ _),rfl,rfl⟩
theorem Fh (n:List UInt8):ddeE (ze A L S) n=Z4 A n:=by unfold ddeE Z4; rw [vT]
theorem de_one (hg:zt A L S k) (n:List UInt8) (e:Z4 A n=0):uJ (yr A n) (vK L n) (jO S n) (Ji (ze A L S) n) (zb S) (k+1):=by
 unfold Ji
 rw [Fh,if_pos e]
 have hk:∀ x,x≠n→zy A x=true→zy (yr A n) x=true:=fun x hx h=>um.2 ⟨h,hx⟩
 have hm:∃ M,yt (vK L n) M:=by
  obtain ⟨M,hM⟩:=hg.mir
  cases hh:xG L n with
  | true=>exact ⟨_,hM.del hh⟩
  | false=>rw [qu hh]; exact ⟨M,hM⟩
 refine ⟨⟨ye hg.rise n,Nat.le_trans (jt A n) hg.few,fun p hp=>hg.nm p (yn.1 hp).1,hm,fun x hx=>hg.all x (yZ.1 hx).1,fun x hx=>hk _ (yZ.1 hx).2 (hg.has x (yZ.1 hx).1),Nat.le_succ_of_le (Nat.le_trans (List.length_filter_le _ _) hg.lfew),(Xm hg.grp n).mono (Nat.le_succ _),fun g m h=>?_⟩,?_,vy (fun v=>yr v n) S⟩
 ·
  have:=(QI hg.grp n g m).1 h
  exact hk _ this.2 (hg.mem g m this.1)
 ·
  refine ext11 (zN (ye hg.rise n)) (ye (zN hg.rise) n) fun x=>?_
  rw [xb (ye hg.rise n),qn hg.rise,qn (zN hg.rise),xb hg.rise]
  by_cases e:x=n
  ·
   subst e; rw [if_pos rfl,if_pos rfl]; rfl
  ·
   rw [if_neg e,if_neg e]; unfold xN; rw [Z2,if_neg e,of_remove hg.grp,if_neg e]
theorem sh_same (hg:zt A L S k) (n h:List UInt8):dshE (ze A L S) n h=Y3 A n h:=by unfold dshE Y3; rw [vT,FH hg]
theorem sh_one (hg:zt A L S k) (n h:List UInt8):uJ (Jt A n h) L S (dshL (ze A L S) n h) (zb S) (k+1):=by
 unfold Jt dshL
 rw [sh_same hg]
 by_cases e:Y3 A n h=0
 ·
  rw [if_pos e,if_pos e]
  obtain ⟨h1,h2,h3,h4⟩:=FI e
  refine ⟨hg.put h1 h2 (Qe hg.few h3),?_,rfl⟩
  obtain ⟨a,ha⟩:=qJ h3
  rw [U4 hg.rise]
  unfold fH uH
  rw [xb hg.rise,ha]
  rfl
 ·
  rw [if_neg e,if_neg e]
  exact ⟨hg.mono (Nat.le_succ _),rfl,rfl⟩
theorem di_same (hg:zt A L S k) (n:List UInt8) (b:Bool):ddiE (ze A L S) n b=Yd A n b:=by unfold ddiE Yd; rw [vT,FH hg]
theorem di_one (hg:zt A L S k) (n:List UInt8) (b:Bool):uJ (Ff A n b) L S (ddiL (ze A L S) n b) (zb S) (k+1):=by
 unfold Ff ddiL
 rw [di_same hg]
 by_cases e:Yd A n b=0
 ·
  rw [if_pos e,if_pos e]
  obtain ⟨h1,h3,h4⟩:=diF_zero e
  refine ⟨hg.put h1 (Xi hg h3) (Qe hg.few h3),?_,rfl⟩
  obtain ⟨a,ha⟩:=qJ h3
  rw [U4 hg.rise]
  unfold fH jk
  rw [xb hg.rise,ha]
  rfl
 ·
  rw [if_neg e,if_neg e]
  exact ⟨hg.mono (Nat.le_succ _),rfl,rfl⟩
end

section
variable {A:zG} {L:zQ} {S:zw} {k:Nat}
theorem has_of_get {n a:List UInt8} (h:xF L n=a) (ha:a≠[]):(n,a)∈L:=by
 cases hh:xG L n with
 | true=>have:=xQ hh; rwa [h] at this
 | false=>rw [yW hh] at h; exact absurd h.symm ha
theorem fold_ne {m:List UInt8} (h:yR m=true):zL m≠[]:=fun e=>by
 have:=ZV m
 rw [e,h,Qz] at this; cases this
theorem bad_same (hg:zt A L S k) (n:List UInt8) {a:List UInt8} (ha:a≠[]):Yq (ze A L S) n a=UX L n a:=by
 obtain ⟨M,hM⟩:=hg.mir
 rw [Bool.eq_iff_iff]
 unfold Yq UX
 simp only [List.any_eq_true,Bool.and_eq_true,Bool.not_eq_true',beq_eq_false_iff_ne,beq_iff_eq,decide_eq_true_eq]
 constructor
 ·
  rintro ⟨p,hp,⟨_,h2⟩,h3⟩
  obtain ⟨q,hq,rfl⟩:=List.mem_map.1 hp
  have h4:(q.1,a)∈L:=has_of_get h2 ha
  exact ⟨fX h4,by rw [hM.own h4]; exact h3⟩
 ·
  rintro ⟨h1,h2⟩
  have h3:=qH h1
  obtain ⟨p,hp,e⟩:=xD.1 (hg.has _ h3)
  refine ⟨_,List.mem_map.2 ⟨p,hp,rfl⟩,⟨ha,?_⟩,?_⟩
  ·
   show xF L p.1=a
   rw [e]; exact ZD hg.lrise h3
  ·
   show ¬ p.1=n
   rw [e]; exact h2
theorem Jr (hg:zt A L S k) (n m:List UInt8):dsmE (ze A L S) n m=qy A L n m:=by
 unfold dsmE qy
 rw [vT]
 cases h1:zf n with
 | false=>rfl
 | true =>
  by_cases hm:m=[]
  ·
   subst hm
   have:Yq (ze A L S) n (yB [])=decide (qY L n []=9):=by
    have e1:yB []=[]:=rfl
    rw [e1]
    have e2:qY L n []=0:=by unfold qY; rw [if_pos h1,if_pos rfl]
    rw [e2]
    unfold Yq
    rw [List.any_eq_false.2 (fun p _=>by simp)]
    rfl
   rw [this]
  ·
   cases h2:yR m with
   | false =>
    have:xq m=false:=by unfold xq; rw [h2,decide_eq_false hm]; rfl
    rw [this]; rfl
   | true =>
    have e1:yB m=zL m:=by unfold yB; rw [if_pos h2]
    rw [e1,bad_same hg n (fold_ne h2)]
    have:decide (qY L n m=9)=UX L n (zL m):=by
     unfold qY
     rw [if_pos h1,if_neg hm,if_pos h2]
     cases UX L n (zL m) <;> rfl
    rw [this]
theorem smE_zero {n m:List UInt8} (h:qy A L n m=0):zf n=true∧xq m=true∧zy A n=true∧qY L n m=0∧(m≠[]→UX L n (zL m)=false∧yR m=true):=by
 obtain ⟨h1,h2,h3,h4⟩:=smF_zero h
 rw [decide_eq_false_iff_not] at h4
 refine ⟨h1,h2,h3,?_⟩
 unfold qY at h4 ⊢
 rw [if_pos h1] at h4 ⊢
 by_cases hm:m=[]
 ·
  rw [if_pos hm]; exact ⟨rfl,fun h=>absurd hm h⟩
 ·
  have h5:yR m=true:=by unfold xq at h2; rw [decide_eq_false hm,Bool.false_or] at h2; exact h2
  rw [if_neg hm,if_pos h5] at h4 ⊢
  cases hb:UX L n (zL m) with
  | true=>rw [hb] at h4; exact absurd rfl h4
  | false=>exact ⟨rfl,fun _=>⟨rfl,h5⟩⟩
theorem sm_one (hg:zt A L S k) (n m:List UInt8):uJ A (Y2 A L n m) S (dsmL (ze A L S) n m) (zb S) (k+1):=by
 unfold Y2 dsmL
 rw [Jr hg]
 by_cases e:qy A L n m=0
 case neg=>rw [if_neg e,if_neg e]; exact ⟨hg.mono (Nat.le_succ _),rfl,rfl⟩
 rw [if_pos e,if_pos e]
 obtain ⟨h1,h2,h3,h4,h5⟩:=smE_zero e
 unfold Vk
 rw [if_pos h4]
 obtain ⟨M,hM⟩:=hg.mir
 have hd:∃ M,yt (vK L n) M:=by
  cases hh:xG L n with
  | true=>exact ⟨_,hM.del hh⟩
  | false=>rw [qu hh]; exact ⟨M,hM⟩
 by_cases hm:m=[]
 ·
  subst hm
  rw [if_pos rfl]
  refine ⟨⟨hg.rise,hg.few,hg.nm,hd,fun x hx=>hg.all x (yZ.1 hx).1,fun x hx=>hg.has x (yZ.1 hx).1,Nat.le_succ_of_le (Nat.le_trans (List.length_filter_le _ _) hg.lfew),hg.grp.mono (Nat.le_succ _),hg.mem⟩,?_,rfl⟩
  refine Yk hg.rise (fun x hx=>⟨by rw [Z2,if_neg hx],rfl⟩) (fun a _=>?_)
  show xN (vK L n) S n a={ xN L S n a with ml:=[] }
  unfold xN
  rw [Z2,if_pos rfl]
 ·
  rw [if_neg hm]
  obtain ⟨h6,h7⟩:=h5 hm
  have hput:∃ M,yt (qP L n (zL m)) M:=by
   obtain ⟨M',hM'⟩:=hd
   rw [← put_del hg.lrise]
   exact ⟨_,hM'.put (UD L n) (free9 hM h6)⟩
  refine ⟨⟨hg.rise,hg.few,hg.nm,hput,fun x hx=>?_,fun x hx=>?_,?_,hg.grp.mono (Nat.le_succ _),hg.mem⟩,?_,rfl⟩
  ·
   rcases vb.1 hx with rfl | ⟨hx,_⟩
   ·
    exact May9.of h1 h7
   ·
    exact hg.all x hx
  ·
   rcases vb.1 hx with rfl | ⟨hx,_⟩
   ·
    exact h3
   ·
    exact hg.has x hx
  ·
   rw [jE hg.lrise]
   have:=hg.lfew
   split <;> omega
  ·
   refine Yk hg.rise (fun x hx=>⟨by rw [Yp hg.lrise,if_neg hx],rfl⟩) (fun a _=>?_)
   show xN (qP L n (zL m)) S n a={ xN L S n a with ml:=yB m }
   unfold xN yB
   rw [Yp hg.lrise,if_pos rfl,if_pos h7]

theorem rn_same (o n:List UInt8):drnE (ze A L S) o n=jb A o n:=by unfold drnE jb; rw [vT,vT]
theorem rn_free (hg:zt A L S k) {o n:List UInt8} (e:jb A o n=0):zf o=true∧zf n=true∧zy A o=true∧zy A n=false∧o≠n∧fN S o n=0:=by
 obtain ⟨h1,h2,h3,h4⟩:=Yl e
 refine ⟨h1,h2,h3,h4,(fun e=>by rw [e,h4] at h3; cases h3),?_⟩
 unfold fN
 rw [if_pos h2,if_neg]
 rintro ⟨_,h⟩
 exact h (hg.free h4).2.2
theorem get_re (hg:zt A L S k) {o n:List UInt8} (e:jb A o n=0) (x:List UInt8):xF (reL9 L o n) x=if x=n then xF L o else if x=o then [] else xF L x:=by
 obtain ⟨h1,h2,h3,h4,h5,_⟩:=rn_free hg e
 obtain ⟨f1,f2,_⟩:=hg.free h4
 have hre:JC L o n=if xG L o then 0 else 8:=by unfold JC; rw [if_pos h2,f1]; rfl
 unfold reL9
 rw [hre]
 cases hh:xG L o with
 | true =>
  rw [if_pos rfl,if_pos rfl,Yp (qB hg.lrise o),Z2]
 | false =>
  rw [if_neg (by decide),yW hh]
  by_cases e1:x=n
  ·
   rw [if_pos e1,e1,f2]
  ·
   rw [if_neg e1]
   by_cases e2:x=o
   ·
    rw [if_pos e2,e2,yW hh]
   ·
    rw [if_neg e2]
theorem rn_one (hg:zt A L S k) (o n:List UInt8):uJ (Jx A o n) (Jw A L o n) (Jv A S o n) (drnL (ze A L S) o n) (zb S) (k+1):=by
 unfold Jx Jw Jv drnL
 rw [rn_same]
 by_cases e:jb A o n=0
 case neg=>rw [if_neg e,if_neg e,if_neg e,if_neg e]; exact ⟨hg.mono (Nat.le_succ _),rfl,rfl⟩
 rw [if_pos e,if_pos e,if_pos e,if_pos e]
 obtain ⟨h1,h2,h3,h4,h5,h6⟩:=rn_free hg e
 obtain ⟨f1,f2,f3⟩:=hg.free h4
 obtain ⟨a,ha⟩:=qJ h3
 have hA:jk A o=a.1:=by unfold jk; rw [ha]
 have hD:uH A o=a.2:=by unfold uH; rw [ha]
 rw [hA,hD,xb hg.rise,ha]
 show uJ _ _ _ (zM (yr (ze A L S) o) n (xN L S o a)) _ _
 have hr1:=yP hg.rise n a
 have hn':zy (yr (zM A n a) o) n=true:=um.2 ⟨ul.2 (.inl rfl),Ne.symm h5⟩
 have hk:∀ x,x≠o→zy A x=true→zy (yr (zM A n a) o) x=true:=fun x hx h=>um.2 ⟨ul.2 (.inr h),hx⟩
 have hre:JC L o n=if xG L o then 0 else 8:=by unfold JC; rw [if_pos h2,f1]; rfl
 have hlen:(yr (zM A n a) o).length≤12:=by
  have q1:=Zt A n a
  have q2:=Fg (L:=zM A n a) (k:=o) (ul.2 (.inr h3))
  have:=hg.few
  omega
 have hL:(∃ M,yt (reL9 L o n) M)∧(∀ x∈reL9 L o n,May9 x)∧(∀ x∈reL9 L o n,zy (yr (zM A n a) o) x.1=true)∧(reL9 L o n).length≤k+1:=by
  obtain ⟨M,hM⟩:=hg.mir
  unfold reL9
  rw [hre]
  cases hh:xG L o with
  | false =>
   rw [if_neg (by decide)]
   refine ⟨⟨M,hM⟩,hg.all,fun x hx=>hk _ (fun e=>?_) (hg.has x hx),Nat.le_succ_of_le hg.lfew⟩
   have:=Uo (n:=x.1) (a:=x.2) hx
   rw [e,hh] at this; cases this
  | true =>
   rw [if_pos rfl,if_pos rfl]
   have hm:=xQ hh
   have ho:V8 (vK L o) (xF L o)=false:=by
    cases hq:V8 (vK L o) (xF L o) with
    | false=>rfl
    | true =>
     obtain ⟨q1,q2⟩:=yZ.1 (qH hq)
     exact absurd (hM.one q1 hm) q2
   refine ⟨⟨_,(hM.del hh).put (by rw [Xh (Ne.symm h5)]; exact f1) ho⟩,fun x hx=>?_,fun x hx=>?_,?_⟩
   ·
    rcases vb.1 hx with rfl | ⟨hx,_⟩
    ·
     exact ⟨h2,(hg.all _ hm).2⟩
    ·
     exact hg.all x (yZ.1 hx).1
   ·
    rcases vb.1 hx with rfl | ⟨hx,_⟩
    ·
     exact hn'
    ·
     exact hk _ (yZ.1 hx).2 (hg.has x (yZ.1 hx).1)
   ·
    rw [jE (qB hg.lrise o)]
    have q1:(vK L o).length≤L.length:=List.length_filter_le _ _
    have:=hg.lfew
    split <;> omega
 refine ⟨⟨ye hr1 o,hlen,fun p hp=>?_,hL.1,hL.2.1,hL.2.2.1,hL.2.2.2,(qI hg.grp o n).mono (Nat.le_succ _),fun g m h=>?_⟩,?_,?_⟩
 ·
  rcases yD.1 (yn.1 hp).1 with rfl | ⟨hp,_⟩
  ·
   exact ⟨h2,(hg.nm (o,a) ((zJ hg.rise).1 ha)).2⟩
  ·
   exact hg.nm p hp
 ·
  rcases (Z0 hg.grp h6 f3 h5 g m).1 h with ⟨rfl,_⟩ | ⟨_,h2,h3⟩
  ·
   exact hn'
  ·
   exact hk _ h2 (hg.mem g m h3)
 ·
  refine ext11 (zN (ye hr1 o)) (yP (ye (zN hg.rise) o) n _) fun x=>?_
  rw [xb (ye hr1 o),qn hr1,vY hg.rise,vY (ye (zN hg.rise) o),qn (zN hg.rise),xb hg.rise]
  by_cases e1:x=n
  ·
   subst e1
   rw [if_neg (Ne.symm h5),if_pos rfl,if_pos rfl]
   show some (xN _ _ x a)=_
   unfold xN
   rw [get_re hg e,if_pos rfl,Qo hg.grp h6 f3 h5,if_pos rfl]
  ·
   rw [if_neg e1,if_neg e1]
   by_cases e2:x=o
   ·
    rw [if_pos e2,if_pos e2]; rfl
   ·
    rw [if_neg e2,if_neg e2]
    unfold xN
    rw [get_re hg e,if_neg e1,if_neg e2,Qo hg.grp h6 f3 h5,if_neg e1,if_neg e2]
 ·
  unfold Zr
  rw [if_pos h6]
  exact vy (fun v=>fM o n v) S

theorem tell_same {S':zw} (h:∀ n,yX S' n=yX S n):ze A L S'=ze A L S:=by
 unfold ze xN
 exact List.map_congr_left fun p _=>by rw [h]
theorem JR (g:List UInt8):VO (zb S) g=uM S g:=by
 obtain h:vo (zb S) g=zy S g:=by rw [Bool.eq_iff_iff,vc,yE]
 unfold VO uM
 rw [h,yA]
theorem ma_one (hg:zt A L S k) (g:List UInt8):uJ A L (qj S g) (ze A L S) (js (zb S) g) (k+1):=by
 by_cases e:uM S g=0
 case neg =>
  unfold js qj
  rw [JR,if_neg e,if_neg e]; exact ⟨hg.mono (Nat.le_succ _),rfl,rfl⟩
 refine ⟨⟨hg.rise,hg.few,hg.nm,hg.mir,hg.all,hg.has,Nat.le_succ_of_le hg.lfew,(QM hg.grp g).mono (Nat.le_succ _),fun x n h=>?_⟩,tell_same (of_make hg.grp e),?_⟩
 ·
  rw [in_make hg.grp e] at h; exact hg.mem x n h
 ·
  obtain ⟨M,hM⟩:=rel11 hg.grp.rise
  have:=(hM.make hg.grp e).names
  unfold js
  rw [JR,if_pos e,this]
theorem dr_same (g:List UInt8):Z5 (zb S) g=jR S g:=by
 obtain h:vo (zb S) g=zy S g:=by rw [Bool.eq_iff_iff,vc,yE]
 unfold Z5 jR yI
 rw [h,List.all_nil,Bool.and_true]
theorem dr_one (hg:zt A L S k) (g:List UInt8):uJ A L (jr S g) (ff (ze A L S) (zb S) g) (jv (zb S) g) (k+1):=by
 unfold ff jv
 rw [dr_same]
 by_cases e:jR S g=0
 case neg =>
  unfold jr
  rw [if_neg e,if_neg e,if_neg e]; exact ⟨hg.mono (Nat.le_succ _),rfl,rfl⟩
 rw [if_pos e,if_pos e]
 refine ⟨⟨hg.rise,hg.few,hg.nm,hg.mir,hg.all,hg.has,Nat.le_succ_of_le hg.lfew,(Xn hg.grp g).mono (Nat.le_succ _),fun x n h=>hg.mem x n ((in_drop hg.grp e x n).1 h).1⟩,?_,?_⟩
 ·
  unfold Xr ze xN
  rw [List.map_map]
  exact List.map_congr_left fun p _=>by rw [of_drop hg.grp e]; rfl
 ·
  obtain ⟨M,hM⟩:=rel11 hg.grp.rise
  exact (hM.drop hg.grp e).names.symm
theorem QJ (hr:zB S) (n g:List UInt8):vo (yX S n) g=uF S g n:=by
 rw [Bool.eq_iff_iff,vc,xw hr]
theorem jo_same (hg:zt A L S k) (g n:List UInt8):fd (ze A L S) (zb S) g n=ZB A S g n:=by
 obtain h:vo (zb S) g=zy S g:=by rw [Bool.eq_iff_iff,vc,yE]
 unfold fd ZB yT ql yI V4
 rw [vT,h,tell_gs hg,QJ hg.grp.rise]
 simp only [List.all_cons,List.all_nil,Bool.and_true]
 cases zf g <;> cases zf n <;> cases zy A n <;> cases zy S g <;> cases uF S g n <;> rfl
theorem le_same (hg:zt A L S k) (g n:List UInt8):fc (ze A L S) (zb S) g n=ZA A S g n:=by
 obtain h:vo (zb S) g=zy S g:=by rw [Bool.eq_iff_iff,vc,yE]
 unfold fc ZA yT Ya yI V4
 rw [vT,h,tell_gs hg,QJ hg.grp.rise]
 simp only [List.all_cons,List.all_nil,Bool.and_true]
 cases zf g <;> cases zf n <;> cases zy A n <;> cases zy S g <;> cases uF S g n <;> rfl
theorem ahead_zero {g n:List UInt8} (h:yT A g n=0):zf g=true∧zf n=true∧zy A n=true:=by
 unfold yT at h
 revert h
 cases zf g <;> cases zf n <;> cases zy A n <;> simp
theorem joE_zero {g n:List UInt8} (h:ZB A S g n=0):yT A g n=0∧ql S g n=0:=by
 unfold ZB at h
 by_cases e:yT A g n=0
 ·
  rw [if_pos e] at h; exact ⟨e,h⟩
 ·
  rw [if_neg e] at h; exact absurd h e
theorem leE_zero {g n:List UInt8} (h:ZA A S g n=0):yT A g n=0∧Ya S g n=0:=by
 unfold ZA at h
 by_cases e:yT A g n=0
 ·
  rw [if_pos e] at h; exact ⟨e,h⟩
 ·
  rw [if_neg e] at h; exact absurd h e
theorem joS_no {g n:List UInt8} (h:ZB A S g n≠0):Uw A S g n=S:=by
 unfold Uw
 by_cases e:yT A g n=0
 ·
  unfold ZB at h
  rw [if_pos e] at h ⊢
  exact if_neg h
 ·
  rw [if_neg e]
theorem leS_no {g n:List UInt8} (h:ZA A S g n≠0):Uu A S g n=S:=by
 unfold Uu
 by_cases e:yT A g n=0
 ·
  unfold ZA at h
  rw [if_pos e] at h ⊢
  exact if_neg h
 ·
  rw [if_neg e]
theorem jo_one (hg:zt A L S k) (g n:List UInt8):uJ A L (Uw A S g n) (qt (ze A L S) (zb S) g n) (zb S) (k+1):=by
 unfold qt
 rw [jo_same hg]
 by_cases e:ZB A S g n=0
 case neg=>rw [joS_no e,if_neg e]; exact ⟨hg.mono (Nat.le_succ _),rfl,rfl⟩
 rw [if_pos e]
 obtain ⟨h1,h2⟩:=joE_zero e
 obtain ⟨_,_,h3⟩:=ahead_zero h1
 unfold Uw
 rw [if_pos h1]
 refine ⟨⟨hg.rise,hg.few,hg.nm,hg.mir,hg.all,hg.has,Nat.le_succ_of_le hg.lfew,jl hg.grp g n,fun x m h=>?_⟩,?_,Xa g n⟩
 ·
  rcases (UB hg.grp h2 x m).1 h with h | ⟨_,rfl⟩
  ·
   exact hg.mem x m h
  ·
   exact h3
 ·
  refine Yk hg.rise (fun x hx=>⟨rfl,by rw [of_join hg.grp h2,if_neg hx]⟩) (fun a _=>?_)
  unfold xN
  rw [of_join hg.grp h2,if_pos rfl]
theorem le_one (hg:zt A L S k) (g n:List UInt8):uJ A L (Uu A S g n) (qr (ze A L S) (zb S) g n) (zb S) (k+1):=by
 unfold qr
 rw [le_same hg]
 by_cases e:ZA A S g n=0
 case neg=>rw [leS_no e,if_neg e]; exact ⟨hg.mono (Nat.le_succ _),rfl,rfl⟩
 rw [if_pos e]
 obtain ⟨h1,h2⟩:=leE_zero e
 unfold Uu
 rw [if_pos h1]
 refine ⟨⟨hg.rise,hg.few,hg.nm,hg.mir,hg.all,hg.has,Nat.le_succ_of_le hg.lfew,(jK hg.grp g n).mono (Nat.le_succ _),fun x m h=>hg.mem x m ((UA hg.grp h2 x m).1 h).1⟩,?_,?_⟩
 ·
  refine Yk hg.rise (fun x hx=>⟨rfl,by rw [FU hg.grp h2,if_neg hx]⟩) (fun a _=>?_)
  unfold xN
  rw [FU hg.grp h2,if_pos rfl]
 ·
  unfold Zz
  rw [if_pos h2]
  exact qf _ S g
end
end Go.Proofs.YtmcomnocpibiiaaGreatDoor
namespace Go.Proofs.YtmcomnocpibiiaaGreatDoor
open Go.RowKit Go.Maps
set_option linter.unusedSectionVars false

/-! ### accounts -/
def ea11:List UInt8×Bool→DataW Unit:=fun a=>.agg [.lit (.string a.1),.lit (.bool a.2)]
def rdA11:List Value→Option (DataW Unit×List MemPlace)
 | [.string s,.bool b]=>some (.agg [.lit (.string s.data.toList),.lit (.bool b)],[])
 | _=>none
def RA11:Value→Option (DataW Unit×List MemPlace)
 | .agg c=>rdA11 c.toList
 | _=>none
theorem ra11_inv {v:Value} {z:DataW Unit×List MemPlace} (h:RA11 v=some z):∃ s b,v=.agg #[.string s,.bool b]∧z=(ea11 (s.data.toList,b),[]):=by
 unfold RA11 at h
 split at h
 ·
  rename_i c
  unfold rdA11 at h
  split at h
  ·
   rename_i s b hc
   injection h with h
   refine ⟨s,b,?_,h.symm⟩
   have:c=[Value.string s,Value.bool b].toArray:=by rw [← hc]
   rw [this]
  ·
   cases h
 ·
  cases h
theorem JE (s:ByteArray) (b:Bool):RA11 (.agg #[.string s,.bool b])=some (ea11 (s.data.toList,b),[]):=rfl
def yJ (w:World) (P:Nat) (A:zG):Prop:=w.ownsMap Tryz.prog 9 RA11 P A.length (un ea11 A)
theorem yJ.of {w:World} {P n:Nat} {A:zG} (h:w.ownsMap Tryz.prog 9 RA11 P n (un ea11 A)):yJ w P A:=by
 have:=vx h
 rwa [vC] at this
theorem yJ.kept {w w':World} {P:Nat} {A:zG} (h:yJ w P A) (hb:w'.heap[P]? = w.heap[P]?):yJ w' P A:=by
 obtain ⟨es,clock,h1,r⟩:=h
 exact ⟨es,clock,hb.trans h1,r⟩
theorem yJ.lt {w:World} {P:Nat} {A:zG} (h:yJ w P A):P<w.heap.size:=World.ownsMap.lt h
theorem Zh (w:World):(zeroValue 109).run Tryz.prog w=.ok (.agg #[.string ⟨#[]⟩,.bool false]) w:=by kernel_rfl
theorem at_acc11 (A:zG) (k:List UInt8):(un ea11 A).atKey (.string k) (ea11 ([],false))=ea11 (jk A k,uH A k):=by
 unfold jk uH
 cases h:xH A k with
 | none=>rw [US _ h]
 | some v=>rw [Yr _ h]
theorem FA (w:World):yJ (w.alloc (.map #[] 0)) w.heap.size [] :=
 yJ.of (n:=0) (World.ownsMap_made (H:=Unit) w Tryz.prog 9 RA11)
def av11 (A:zG) (k:List UInt8):Value:=.agg #[.string (zF (jk A k)),.bool (uH A k)]
section
variable {w:World} {P:Nat} {A:zG}
theorem acc11_v {s:ByteArray} {v:Value} {ps:List MemPlace} (hv:RA11 v=some ((un ea11 A).atKey (.string s.data.toList) (ea11 ([],false)),ps)):v=av11 A s.data.toList:=by
 obtain ⟨c,b,rfl,hc⟩:=ra11_inv hv
 rw [at_acc11] at hc
 injection hc with hc _
 unfold ea11 at hc
 injection hc with hc
 injection hc with h1 h2
 injection h1 with h1
 injection h1 with h1
 injection h2 with h2 _
 injection h2 with h2
 injection h2 with h2
 have h1':jk A s.data.toList=c.data.toList:=h1
 have h2':uH A s.data.toList=b:=h2
 unfold av11
 rw [h1',h2',yO]
theorem lookA11 (h:yJ w P A) (s:ByteArray) (hs:s.size≤maxLen) :
  (Instr.lookup 78 (.map (some P)) (.string s) true).run Tryz.prog w=.ok (.tuple #[av11 A s.data.toList,.bool (zy A s.data.toList)]) w:=by
 obtain ⟨v,ps,hrun,hv⟩:=World.ownsMap.look_ok h xC Tryz.underlying78 (Zh w) (JE ⟨#[]⟩ false) (fZ s hs)
 rw [hrun,Z6,acc11_v hv]
theorem lookA111 (h:yJ w P A) (s:ByteArray) (hs:s.size≤maxLen) :
  (Instr.lookup 78 (.map (some P)) (.string s) false).run Tryz.prog w=.ok (av11 A s.data.toList) w:=by
 obtain ⟨v,ps,hrun,hv⟩:=World.ownsMap.lookup h xC Tryz.underlying78 (Zh w) (JE ⟨#[]⟩ false) (fZ s hs)
 rw [hrun,acc11_v hv]
theorem lenA11 (h:yJ w P A) (ty:TypeId):(Builtin.len_ #[78] ty #[.map (some P)]).run Tryz.prog w=.ok (.int .i64 A.length) w:=by
 have:=World.ownsMap.len h (t:=78) Tryz.underlying78 ty
 rwa [vC] at this
theorem storeA11 (h:yJ w P A) (hf:A.length≤1000) (s v:ByteArray) (b:Bool) (hs:s.size≤maxLen) :
  ∃ w',(Instr.mapUpdate 78 (.map (some P)) (.string s) (.agg #[.string v,.bool b])).run Tryz.prog w=.ok () w'∧yJ w' P (zM A s.data.toList (v.data.toList,b))∧w.mapTurned w' P:=by
 obtain ⟨w',hrun,hown,ht⟩:=World.ownsMap.store h xC Tryz.underlying78 (Nat.lt_of_le_of_lt hf (by decide)) (fZ s hs) (JE v b)
 rw [UJ] at hown
 exact ⟨w',hrun,yJ.of hown,ht⟩
theorem dropA11 (h:yJ w P A) (s:ByteArray) (hs:s.size≤maxLen) (ty:TypeId) :
  ∃ w',(Builtin.delete_ #[78,9] ty #[.map (some P),.string s]).run Tryz.prog w=.ok (.tuple #[]) w'∧yJ w' P (yr A s.data.toList)∧w.mapTurned w' P:=by
 obtain ⟨w',hrun,hown,ht⟩:=World.ownsMap.drop h xC Tryz.underlying78 (fZ s hs) ty
 rw [UL] at hown
 exact ⟨w',hrun,yJ.of hown,ht⟩
end

/-! ### the directory -/
def qT (M:Nat) (p q:Option Nat) (i:Nat):Prop:=i=M∨p=some i∨q=some i
def qU (G:Nat) (pg:Option Nat) (T:zD) (i:Nat):Prop:=i=G∨pg=some i∨∃ x∈T,x.2.1=i
structure vf (w:World) (D P:Nat) (A:zG) (M:Nat) (p q:Option Nat) (L LM:zQ) (G:Nat) (pg:Option Nat) (T:zD):Prop where
 blk:w.heap[D]? = some (.cells #[.map (some P),.pointer (some ⟨M,0,none⟩),.pointer (some ⟨G,0,none⟩)] 84 (0,0))
 acc:yJ w P A
 idx:vL w M p q L LM
 grp:zT w G pg T
 sep1:∀ i,qT M p q i→i≠P
 sep2:∀ i,qU G pg T i→i≠P
 sep3:∀ i,qT M p q i→qU G pg T i→False

def zu (W w':World):Prop:=∀ (k:Nat) (c:Array Value) (T:TypeId) (fr:Nat×Nat),W.heap[k]? = some (.cells c T fr)→T≠84→T≠140→T≠143→w'.heap[k]? = some (.cells c T fr)
theorem zu.of_below {W w':World} (hb:Below W.heap.size W w'):zu W w':=fun k _ _ _ h _ _ _=>(hb.block k (Array.getElem?_eq_some_iff.1 h).1).trans h
theorem zu.trans {a b c:World} (h:zu a b) (k:zu b c):zu a c:=fun i x T fr hi h1 h2 h3=>k i x T fr (h i x T fr hi h1 h2 h3) h1 h2 h3
theorem zu.refl (w:World):zu w w:=fun _ _ _ _ h _ _ _=>h

section
variable {w w':World} {D P M G:Nat} {A A':zG} {p q pg:Option Nat} {L LM L':zQ} {T:zD}
theorem vf.lt (h:vf w D P A M p q L LM G pg T):D<w.heap.size:=(Array.getElem?_eq_some_iff.1 h.blk).1
theorem qv {b c:Nat} {x y:Array Value} {X Y:TypeId} {f g:Nat×Nat} (hb:w.heap[b]? = some (.cells x X f)) (hc:w.heap[c]? = some (.cells y Y g)) (hne:X≠Y):b≠c:=fun e=>by
 subst e; rw [hb] at hc; injection hc with hc; injection hc with _ h; exact hne h
theorem Zc {c:Array Value} {X:TypeId} {fr:Nat×Nat} {B:Nat} (h:yJ w P A) (hB:w.heap[B]? = some (.cells c X fr)):P≠B:=zZ h hB
theorem jm (h:vL w M p q L LM) {B:Nat} {c:Array Value} {X:TypeId} {fr:Nat×Nat} (hB:w.heap[B]? = some (.cells c X fr)) (hX:X≠140):¬ qT M p q B:=by
 rintro (e | e | e)
 ·
  exact qv hB h.blk hX e
 ·
  exact uR (h.mapp.map B e) hB rfl
 ·
  exact uR (h.mapq.map B e) hB rfl
theorem jn (h:zT w G pg T) {B:Nat} {c:Array Value} {X:TypeId} {fr:Nat×Nat} (hB:w.heap[B]? = some (.cells c X fr)) (hX:X≠143):¬ qU G pg T B:=by
 rintro (e | e | ⟨x,hx,e⟩)
 ·
  exact qv hB h.blk hX e
 ·
  exact zZ (h.map B e) hB rfl
 ·
  subst e; exact zZ (h.sets x hx) hB rfl
theorem fpM_lt (h:vL w M p q L LM) {i:Nat} (hi:qT M p q i):i<w.heap.size:=by
 rcases hi with rfl | e | e
 ·
  exact h.lt
 ·
  exact h.plt i e
 ·
  exact h.qlt i e
theorem fpG_lt (h:zT w G pg T) {i:Nat} (hi:qU G pg T i):i<w.heap.size:=by
 rcases hi with rfl | e | ⟨x,hx,rfl⟩
 ·
  exact h.lt
 ·
  exact h.mlt i e
 ·
  exact h.slt x hx
theorem vL.turnsF {F:Nat→Prop} (h:vL w M p q L LM) (ht:zm F w w') (hn:∀ i,qT M p q i→¬ F i):vL w' M p q L LM :=
 h.turns ht (hn M (.inl rfl)) (fun b e=>hn b (.inr (.inl e))) (fun b e=>hn b (.inr (.inr e)))
theorem zT.turnsF {F:Nat→Prop} (h:zT w G pg T) (ht:zm F w w') (hn:∀ i,qU G pg T i→¬ F i):zT w' G pg T :=
 h.turns ht (hn G (.inl rfl)) (fun b e=>hn b (.inr (.inl e))) (fun x hx=>hn _ (.inr (.inr ⟨x,hx,rfl⟩)))
theorem vf.later (h:vf w D P A M p q L LM G pg T) (hb:Below w.heap.size w w'):vf w' D P A M p q L LM G pg T :=
 ⟨(hb.block D h.lt).trans h.blk,h.acc.kept (hb.block P h.acc.lt),h.idx.later hb,h.grp.later hb,h.sep1,h.sep2,h.sep3⟩
theorem vf.accs (h:vf w D P A M p q L LM G pg T) (ha:yJ w' P A') (ht:zm (fun i=>i=P) w w'):vf w' D P A' M p q L LM G pg T :=
 ⟨(ht.block D h.lt (fun e=>Zc h.acc h.blk e.symm)).trans h.blk,ha,h.idx.turnsF ht h.sep1,h.grp.turnsF ht h.sep2,h.sep1,h.sep2,h.sep3⟩
theorem keeps_accs (h:vf w D P A M p q L LM G pg T) (ht:zm (fun i=>i=P) w w'):zu w w':=fun k _ _ _ hk _ _ _ =>
 (ht.block k (Array.getElem?_eq_some_iff.1 hk).1 (fun e=>Zc h.acc hk e.symm)).trans hk
theorem vf.mails (h:vf w D P A M p q L LM G pg T) (hg:vG w M p q L' w'):∃ p' q' LM',vf w' D P A M p' q' L' LM' G pg T∧∀ i,qT M p' q' i→qT M p q i∨w.heap.size≤i:=by
 obtain ⟨p',q',M',hi,hp,hq,ht⟩:=hg
 have hf:∀ i,qT M p' q' i→qT M p q i∨w.heap.size≤i:=by
  rintro i (rfl | e | e)
  ·
   exact .inl (.inl rfl)
  ·
   exact (hp i e).imp (fun h=>.inr (.inl h)) id
  ·
   exact (hq i e).imp (fun h=>.inr (.inr h)) id
 have ht':zm (qT M p q) w w':=ht
 refine ⟨p',q',M',⟨(ht'.block D h.lt (jm h.idx h.blk (by decide))).trans h.blk,h.acc.kept (ht'.block P h.acc.lt (fun f=>h.sep1 P f rfl)),hi,h.grp.turnsF ht' (fun i g f=>h.sep3 i f g),fun i f=>?_,h.sep2,fun i f g=>?_⟩,hf⟩
 ·
  rcases hf i f with f | f
  ·
   exact h.sep1 i f
  ·
   have:=h.acc.lt; omega
 ·
  rcases hf i f with f | f
  ·
   exact h.sep3 i f g
  ·
   have:=fpG_lt h.grp g; omega
theorem X8 (h:vf w D P A M p q L LM G pg T) (hg:vG w M p q L' w'):zu w w':=by
 obtain ⟨_,_,_,_,_,_,ht⟩:=hg
 exact fun k c X fr hk _ h2 _=>(zm.block ht k (Array.getElem?_eq_some_iff.1 hk).1 (jm h.idx hk h2)).trans hk
theorem vf.grps (h:vf w D P A M p q L LM G pg T) {S':zw} (hg:zU w G pg T S' w'):∃ pg' T',vf w' D P A M p q L LM G pg' T'∧zj T'=S'∧∀ i,qU G pg' T' i→qU G pg T i∨w.heap.size≤i:=by
 obtain ⟨p',T',hi,hS,hp,hx,ht⟩:=hg
 have hf:∀ i,qU G p' T' i→qU G pg T i∨w.heap.size≤i:=by
  rintro i (rfl | e | ⟨x,hxx,rfl⟩)
  ·
   exact .inl (.inl rfl)
  ·
   exact (hp i e).imp (fun h=>.inr (.inl h)) id
  ·
   rcases hx x hxx with ⟨y,hy,e⟩ | h
   ·
    exact .inl (.inr (.inr ⟨y,hy,e⟩))
   ·
    exact .inr h
 have ht':zm (qU G pg T) w w':=ht
 refine ⟨p',T',⟨(ht'.block D h.lt (jn h.grp h.blk (by decide))).trans h.blk,h.acc.kept (ht'.block P h.acc.lt (fun f=>h.sep2 P f rfl)),h.idx.turnsF ht' (fun i f g=>h.sep3 i f g),hi,h.sep1,fun i f=>?_,fun i f g=>?_⟩,hS,hf⟩
 ·
  rcases hf i f with f | f
  ·
   exact h.sep2 i f
  ·
   have:=h.acc.lt; omega
 ·
  rcases hf i g with g | g
  ·
   exact h.sep3 i f g
  ·
   have:=fpM_lt h.idx f; omega
theorem keeps_grps (h:vf w D P A M p q L LM G pg T) {S':zw} (hg:zU w G pg T S' w'):zu w w':=by
 obtain ⟨_,_,_,_,_,_,ht⟩:=hg
 exact fun k c X fr hk _ _ h3=>(zm.block ht k (Array.getElem?_eq_some_iff.1 hk).1 (jn h.grp hk h3)).trans hk
end

class Fr11 where
 F:Nat→Prop
 ob:Nat→Option Obj
 n:Nat
 lt:∀ i,F i→i<n
 ty:∀ i c T fr,F i→ob i=some (.cells c T fr)→T=84∨T=140∨T=143
instance noFr11:Fr11:=⟨fun _=>False,fun _=>none,0,fun _ h=>h.elim,fun _ _ _ _ h=>h.elim⟩
def Lo11 [Fr11] (w0:World) (i:Nat):Prop:=w0.heap.size≤i∧¬ Fr11.F i
def Fk11 [Fr11] (W:World):Prop:=Fr11.n≤W.heap.size∧∀ i,Fr11.F i→W.heap[i]? = Fr11.ob i
def ZM [Fr11] (w0 W:World):Prop:=Below w0.heap.size w0 W∧Fk11 W
section
variable [Fr11] {w0 W W':World}
theorem Fk11.later (h:Fk11 W) (hb:Below W.heap.size W W'):Fk11 W':=⟨Nat.le_trans h.1 hb.size,fun i hi=>(hb.block i (Nat.lt_of_lt_of_le (Fr11.lt i hi) h.1)).trans (h.2 i hi)⟩
theorem Fk11.turn {S:Nat→Prop} (h:Fk11 W) (ht:zm S W W') (hs:∀ i,S i→¬ Fr11.F i):Fk11 W':=⟨Nat.le_trans h.1 ht.size,fun i hi=>(ht.block i (Nat.lt_of_lt_of_le (Fr11.lt i hi) h.1) (fun e=>hs i e hi)).trans (h.2 i hi)⟩
theorem Fk11.not (h:Fk11 W) {i:Nat} {c:Array Value} {T:TypeId} {fr:Nat×Nat} (hi:W.heap[i]? = some (.cells c T fr)) (h1:T≠84) (h2:T≠140) (h3:T≠143):¬ Fr11.F i:=fun f=>by
 rcases Fr11.ty i c T fr f ((h.2 i f).symm.trans hi) with h | h | h
 ·
  exact h1 h
 ·
  exact h2 h
 ·
  exact h3 h
theorem ZM.later (h:ZM w0 W) (hb:Below W.heap.size W W'):ZM w0 W':=⟨z8 h.1 hb,h.2.later hb⟩
theorem ZM.turn {S:Nat→Prop} (h:ZM w0 W) (ht:zm S W W') (hs:∀ i,S i→Lo11 w0 i):ZM w0 W':=⟨h.1.trans (zm.below_at ht h.1.size (fun i e=>(hs i e).1)),h.2.turn ht (fun i e=>(hs i e).2)⟩
theorem ZM.new (h:ZM w0 W) {i:Nat} (hi:W.heap.size≤i):Lo11 w0 i:=⟨Nat.le_trans h.1.size hi,fun f=>by have:=Fr11.lt i f; have:=h.2.1; omega⟩
end

def zo [Fr11] (w0 W:World) (D P M G:Nat) (A:zG) (L:zQ) (S:zw):Prop :=
 ∃ p q LM pg T,vf W D P A M p q L LM G pg T∧zj T=S∧(∀ i,i=D∨i=P∨qT M p q i∨qU G pg T i→Lo11 w0 i)∧ZM w0 W
def zE [Fr11] (w0 W:World) (D P M G:Nat) (A:zG) (L:zQ) (S:zw) (w':World):Prop:=zo w0 w' D P M G A L S∧zu W w'
section
variable [Fr11] {w0 W W':World} {D P M G:Nat} {A A':zG} {L L':zQ} {S S':zw}
theorem zo.bel (h:zo w0 W D P M G A L S):ZM w0 W:=by obtain ⟨_,_,_,_,_,_,_,_,h⟩:=h; exact h
theorem zo.below (h:zo w0 W D P M G A L S):Below w0.heap.size w0 W:=h.bel.1
theorem zo.later (h:zo w0 W D P M G A L S) (hb:Below W.heap.size W W'):zo w0 W' D P M G A L S:=by
 obtain ⟨p,q,LM,pg,T,hd,hS,h2,h3⟩:=h
 exact ⟨p,q,LM,pg,T,hd.later hb,hS,h2,h3.later hb⟩
theorem zo.still (h:zo w0 W D P M G A L S) (hb:Below W.heap.size W W'):zE w0 W D P M G A L S W':=⟨h.later hb,zu.of_below hb⟩
theorem zE.ahead {W1:World} (hb:Below W.heap.size W W1) (h:zE w0 W1 D P M G A L S W'):zE w0 W D P M G A L S W':=⟨h.1,(zu.of_below hb).trans h.2⟩
theorem zE.next {W1:World} {A1:zG} {L1:zQ} {S1:zw} (h1:zE w0 W D P M G A1 L1 S1 W1) (h:zE w0 W1 D P M G A L S W'):zE w0 W D P M G A L S W':=⟨h.1,h1.2.trans h.2⟩
theorem zo.c0 (h:zo w0 W D P M G A L S):W.cell? ⟨D,0,none⟩=some (.map (some P)):=by
 obtain ⟨p,q,LM,pg,T,hd,_⟩:=h
 simp [World.cell?,hd.blk]
theorem zo.c1 (h:zo w0 W D P M G A L S):W.cell? ⟨D,1,none⟩=some (.pointer (some ⟨M,0,none⟩)):=by
 obtain ⟨p,q,LM,pg,T,hd,_⟩:=h
 simp [World.cell?,hd.blk]
theorem zo.c2 (h:zo w0 W D P M G A L S):W.cell? ⟨D,2,none⟩=some (.pointer (some ⟨G,0,none⟩)):=by
 obtain ⟨p,q,LM,pg,T,hd,_⟩:=h
 simp [World.cell?,hd.blk]
theorem zo.look (h:zo w0 W D P M G A L S) (s:ByteArray) (hs:s.size≤9223372036854775807) :
  (Instr.lookup 78 (.map (some P)) (.string s) true).run Tryz.prog W=.ok (.tuple #[av11 A s.data.toList,.bool (zy A s.data.toList)]) W:=by
 obtain ⟨p,q,LM,pg,T,hd,_⟩:=h
 exact lookA11 hd.acc s (Nat.le_trans hs (by decide))
theorem zo.look1 (h:zo w0 W D P M G A L S) (s:ByteArray) (hs:s.size≤9223372036854775807) :
  (Instr.lookup 78 (.map (some P)) (.string s) false).run Tryz.prog W=.ok (av11 A s.data.toList) W:=by
 obtain ⟨p,q,LM,pg,T,hd,_⟩:=h
 exact lookA111 hd.acc s (Nat.le_trans hs (by decide))
theorem zo.lenA (h:zo w0 W D P M G A L S) (ty:TypeId):(Builtin.len_ #[78] ty #[.map (some P)]).run Tryz.prog W=.ok (.int .i64 A.length) W:=by
 obtain ⟨p,q,LM,pg,T,hd,_⟩:=h
 exact lenA11 hd.acc ty
theorem zo.accs (h:zo w0 W D P M G A L S) (ha:yJ W' P A') (ht:W.mapTurned W' P):zE w0 W D P M G A' L S W':=by
 obtain ⟨p,q,LM,pg,T,hd,hS,h2,h3⟩:=h
 have ht':zm (fun i=>i=P) W W':=(zm.refl _ W).grown ht.grown (fun k hk _=>by cases hk; rfl)
 exact ⟨⟨p,q,LM,pg,T,hd.accs ha ht',hS,h2,h3.turn ht' (fun i e=>h2 i (.inr (.inl e)))⟩,keeps_accs hd ht'⟩
theorem zo.store (h:zo w0 W D P M G A L S) (hf:A.length≤1000) (s v:ByteArray) (b:Bool) (hs:s.size≤9223372036854775807) :
  ∃ w',(Instr.mapUpdate 78 (.map (some P)) (.string s) (.agg #[.string v,.bool b])).run Tryz.prog W=.ok () w'∧zE w0 W D P M G (zM A s.data.toList (v.data.toList,b)) L S w':=by
 have h':=h
 obtain ⟨p,q,LM,pg,T,hd,_⟩:=h'
 obtain ⟨w',hrun,ha,ht⟩:=storeA11 hd.acc hf s v b (Nat.le_trans hs (by decide))
 exact ⟨w',hrun,h.accs ha ht⟩
theorem zo.drop (h:zo w0 W D P M G A L S) (s:ByteArray) (hs:s.size≤9223372036854775807) (ty:TypeId) :
  ∃ w',(Builtin.delete_ #[78,9] ty #[.map (some P),.string s]).run Tryz.prog W=.ok (.tuple #[]) w'∧zE w0 W D P M G (yr A s.data.toList) L S w':=by
 have h':=h
 obtain ⟨p,q,LM,pg,T,hd,_⟩:=h'
 obtain ⟨w',hrun,ha,ht⟩:=dropA11 hd.acc s (Nat.le_trans hs (by decide)) ty
 exact ⟨w',hrun,h.accs ha ht⟩
/-! ### of the addresses -/
theorem zo.mset (h:zo w0 W D P M G A L S) (n m:ByteArray) (hn:n.size≤9223372036854775807) (hm:m.size≤9223372036854775807) (hl:L.length<100) (h5:ud W) :
  Calls Tryz.prog 179 #[.pointer (some ⟨M,0,none⟩),.string n,.string m] W fun e w'=>e=.returned (.int .i64 (qY L n.data.toList m.data.toList))∧zE w0 W D P M G A (Vk L n.data.toList m.data.toList) S w':=by
 obtain ⟨p,q,LM,pg,T,hd,hS,h2,h3⟩:=h
 refine (set9_calls M p q L LM n m W hd.idx hn hm hl h5).mono fun e w' ⟨he,hg⟩=>⟨he,?_,X8 hd hg⟩
 obtain ⟨p',q',LM',hd',hf⟩:=hd.mails hg
 obtain ⟨_,_,_,_,_,_,ht⟩:=hg
 refine ⟨p',q',LM',pg,T,hd',hS,fun i hi=>?_,h3.turn ht (fun i e=>h2 i (.inr (.inr (.inl e))))⟩
 rcases hi with e | e | e | e
 ·
  exact h2 i (.inl e)
 ·
  exact h2 i (.inr (.inl e))
 ·
  rcases hf i e with e | e
  ·
   exact h2 i (.inr (.inr (.inl e)))
  ·
   exact h3.new e
 ·
  exact h2 i (.inr (.inr (.inr e)))
theorem zo.goesM (h:zo w0 W D P M G A L S) {p q:Option Nat} {LM:zQ} {pg:Option Nat} {T:zD} (hd:vf W D P A M p q L LM G pg T) (hS:zj T=S) (h2:∀ i,i=D∨i=P∨qT M p q i∨qU G pg T i→Lo11 w0 i) (hg:vG W M p q L' W'):zE w0 W D P M G A L' S W':=by
 have h3:=h.bel
 refine ⟨?_,X8 hd hg⟩
 obtain ⟨p',q',LM',hd',hf⟩:=hd.mails hg
 obtain ⟨_,_,_,_,_,_,ht⟩:=hg
 refine ⟨p',q',LM',pg,T,hd',hS,fun i hi=>?_,h3.turn ht (fun i e=>h2 i (.inr (.inr (.inl e))))⟩
 rcases hi with e | e | e | e
 ·
  exact h2 i (.inl e)
 ·
  exact h2 i (.inr (.inl e))
 ·
  rcases hf i e with e | e
  ·
   exact h2 i (.inr (.inr (.inl e)))
  ·
   exact h3.new e
 ·
  exact h2 i (.inr (.inr (.inr e)))
theorem zo.mrename (h:zo w0 W D P M G A L S) (o n:ByteArray) (ho:o.size≤9223372036854775807) (hn:n.size≤9223372036854775807) :
  Calls Tryz.prog 114 #[.pointer (some ⟨M,0,none⟩),.string o,.string n] W fun e w'=>e=.returned (.int .i64 (JC L o.data.toList n.data.toList))∧zE w0 W D P M G A (reL9 L o.data.toList n.data.toList) S w':=by
 have h':=h
 obtain ⟨p,q,LM,pg,T,hd,hS,h2,h3⟩:=h'
 exact (Ue M p q L LM o n W hd.idx ho hn).mono fun e w' ⟨he,hg⟩=>⟨he,h.goesM hd hS h2 hg⟩
theorem zo.mdrop (h:zo w0 W D P M G A L S) (n:ByteArray) (hn:n.size≤9223372036854775807) :
  Calls Tryz.prog 90 #[.pointer (some ⟨M,0,none⟩),.string n] W fun e w'=>e=.returned (.bool (xG L n.data.toList))∧zE w0 W D P M G A (vK L n.data.toList) S w':=by
 have h':=h
 obtain ⟨p,q,LM,pg,T,hd,hS,h2,h3⟩:=h'
 refine (qK M p q L LM n W hd.idx (Nat.le_trans hn (by decide))).mono fun e w' ⟨he,⟨M',hi⟩,ht⟩=>⟨he,h.goesM hd hS h2 ?_⟩
 exact ⟨p,q,M',hi,fun _ e=>.inl e,fun _ e=>.inl e,ht⟩
theorem zo.mof (h:zo w0 W D P M G A L S) (n:ByteArray) (hn:n.size≤9223372036854775807) :
  Calls Tryz.prog 140 #[.pointer (some ⟨M,0,none⟩),.string n] W fun e w'=>e=.returned (.tuple #[.string (tx7 (xF L n.data.toList)),.bool (xG L n.data.toList)])∧w'=W:=by
 obtain ⟨p,q,LM,pg,T,hd,_⟩:=h
 exact of9_calls M p q L LM n W hd.idx (Nat.le_trans hn (by decide))
/-! ### of the groups -/
theorem zo.goesG (h:zo w0 W D P M G A L S) {p q:Option Nat} {LM:zQ} {pg:Option Nat} {T:zD} (hd:vf W D P A M p q L LM G pg T) (h2:∀ i,i=D∨i=P∨qT M p q i∨qU G pg T i→Lo11 w0 i) (hg:zU W G pg T S' W'):zE w0 W D P M G A L S' W':=by
 have h3:=h.bel
 refine ⟨?_,keeps_grps hd hg⟩
 obtain ⟨pg',T',hd',hS,hf⟩:=hd.grps hg
 obtain ⟨_,_,_,_,_,_,ht⟩:=hg
 refine ⟨p,q,LM,pg',T',hd',hS,fun i hi=>?_,h3.turn ht (fun i e=>h2 i (.inr (.inr (.inr e))))⟩
 rcases hi with e | e | e | e
 ·
  exact h2 i (.inl e)
 ·
  exact h2 i (.inr (.inl e))
 ·
  exact h2 i (.inr (.inr (.inl e)))
 ·
  rcases hf i e with e | e
  ·
   exact h2 i (.inr (.inr (.inr e)))
  ·
   exact h3.new e
theorem few11 {T:zD} {k:Nat} (hg:zK (zj T) k):T.length≤6:=by have:=hg.few; rwa [uB] at this
theorem little11 {T:zD} {k:Nat} (hg:zK (zj T) k) (hk:k≤900):∀ x∈T,x.2.2.length≤1000:=fun x hx=>by
 have:=hg.little (x.1,x.2.2) (List.mem_map.2 ⟨x,hx,rfl⟩)
 exact Nat.le_trans this (by omega)
theorem JO {T:zD} {k:Nat} (hg:zK (zj T) k):∀ x∈T,x.1.length≤1000:=fun x hx=>by
 have:=qi (hg.named (x.1,x.2.2) (List.mem_map.2 ⟨x,hx,rfl⟩))
 exact Nat.le_trans this (by omega)
variable {k:Nat}
theorem zo.gmake (h:zo w0 W D P M G A L S) (hk:zK S k) (g:ByteArray) (hg:g.size≤9223372036854775807) :
  Calls Tryz.prog 87 #[.pointer (some ⟨G,0,none⟩),.string g] W fun e w'=>e=.returned (.int .i64 (uM S g.data.toList))∧zE w0 W D P M G A L (qj S g.data.toList) w':=by
 have h':=h
 obtain ⟨p,q,LM,pg,T,hd,rfl,h2,h3⟩:=h'
 exact (Qy G pg T g W hd.grp (few11 hk) hg).mono fun e w' ⟨he,hgo⟩=>⟨he,h.goesG hd h2 hgo⟩
theorem zo.gdrop (h:zo w0 W D P M G A L S) (g:ByteArray) (hg:g.size≤9223372036854775807) :
  Calls Tryz.prog 128 #[.pointer (some ⟨G,0,none⟩),.string g] W fun e w'=>e=.returned (.int .i64 (jR S g.data.toList))∧zE w0 W D P M G A L (jr S g.data.toList) w':=by
 have h':=h
 obtain ⟨p,q,LM,pg,T,hd,rfl,h2,h3⟩:=h'
 exact (QX G pg T g W hd.grp hg).mono fun e w' ⟨he,hgo⟩=>⟨he,h.goesG hd h2 hgo⟩
theorem zo.gjoin (h:zo w0 W D P M G A L S) (hk:zK S k) (h9:k≤900) (g n:ByteArray) (hg:g.size≤9223372036854775807) (hn:n.size≤9223372036854775807) :
  Calls Tryz.prog 131 #[.pointer (some ⟨G,0,none⟩),.string g,.string n] W fun e w'=>e=.returned (.int .i64 (ql S g.data.toList n.data.toList))∧zE w0 W D P M G A L (qF S g.data.toList n.data.toList) w':=by
 have h':=h
 obtain ⟨p,q,LM,pg,T,hd,rfl,h2,h3⟩:=h'
 exact (QC G pg T g n W hd.grp (little11 hk h9) hg hn).mono fun e w' ⟨he,hgo⟩=>⟨he,h.goesG hd h2 hgo⟩
theorem zo.gleave (h:zo w0 W D P M G A L S) (g n:ByteArray) (hg:g.size≤9223372036854775807) (hn:n.size≤9223372036854775807) :
  Calls Tryz.prog 132 #[.pointer (some ⟨G,0,none⟩),.string g,.string n] W fun e w'=>e=.returned (.int .i64 (Ya S g.data.toList n.data.toList))∧zE w0 W D P M G A L (Zz S g.data.toList n.data.toList) w':=by
 have h':=h
 obtain ⟨p,q,LM,pg,T,hd,rfl,h2,h3⟩:=h'
 exact (Ut G pg T g n W hd.grp hg hn).mono fun e w' ⟨he,hgo⟩=>⟨he,h.goesG hd h2 hgo⟩
theorem zo.grename (h:zo w0 W D P M G A L S) (hk:zK S k) (h9:k≤900) (o n:ByteArray) (ho:o.size≤9223372036854775807) (hn:n.size≤9223372036854775807) :
  Calls Tryz.prog 116 #[.pointer (some ⟨G,0,none⟩),.string o,.string n] W fun e w'=>e=.returned (.int .i64 (fN S o.data.toList n.data.toList))∧zE w0 W D P M G A L (Zr S o.data.toList n.data.toList) w':=by
 have h':=h
 obtain ⟨p,q,LM,pg,T,hd,rfl,h2,h3⟩:=h'
 have hf:=few11 hk
 exact (XU G pg T o n W hd.grp (by omega) (JO hk) (little11 hk h9) ho hn).mono fun e w' ⟨he,hgo⟩=>⟨he,h.goesG hd h2 hgo⟩
theorem zo.gremove (h:zo w0 W D P M G A L S) (hk:zK S k) (n:ByteArray) (hn:n.size≤9223372036854775807) :
  Calls Tryz.prog 91 #[.pointer (some ⟨G,0,none⟩),.string n] W fun e w'=>e=.returned (.int .i64 ((yX S n.data.toList).length:Nat))∧zE w0 W D P M G A L (jO S n.data.toList) w':=by
 have h':=h
 obtain ⟨p,q,LM,pg,T,hd,rfl,h2,h3⟩:=h'
 have hf:=few11 hk
 exact (XV G pg T n W hd.grp (by omega) (JO hk) hn).mono fun e w' ⟨he,hgo⟩=>⟨he,h.goesG hd h2 hgo⟩
theorem zo.gof (h:zo w0 W D P M G A L S) (hk:zK S k) (n:ByteArray) (hn:n.size≤9223372036854775807) :
  Calls Tryz.prog 141 #[.pointer (some ⟨G,0,none⟩),.string n] W (yo (yX S n.data.toList) W):=by
 obtain ⟨p,q,LM,pg,T,hd,rfl,h2,h3⟩:=h
 have hf:=few11 hk
 exact jG G pg T n W hd.grp (by omega) hn
theorem zo.gall (h:zo w0 W D P M G A L S) (hk:zK S k):Calls Tryz.prog 136 #[.pointer (some ⟨G,0,none⟩)] W (yo (zb S) W):=by
 obtain ⟨p,q,LM,pg,T,hd,rfl,h2,h3⟩:=h
 have hf:=few11 hk
 exact Fy G pg T W hd.grp (by omega)
end
end Go.Proofs.YtmcomnocpibiiaaGreatDoor
namespace Go.Proofs.YtmcomnocpibiiaaGreatDoor
open Go.RowKit Go.Maps
set_option linter.unusedSectionVars false

set_option maxRecDepth 100000 in
theorem UF (B n cap:Nat) (es:List Int) (w:World) (hl:n=es.length) (hn:n≤1000) (hc:∀ j (h:j<es.length),w.cell? ⟨B,j,none⟩=some (.int .i64 es[j])) :
  Calls Tryz.prog 64 #[.slice (some ⟨B,0,none⟩) n cap] w fun e w'=>e=.returned (.int .i64 (zR es))∧w'=w:=by
 have HC:=za hc
 have HL:=za hl
 clear hc hl
 generalize hr:zR es=r
 have HR:=za hr
 clear hr
 go_enter Tryz.func64,Tryz.ntmps64
 go_wp2
 go_loopg [4,7] n (fun gg _ s7 wr=>∃ k:Nat,k≤n∧n - k≤gg∧s7=.int .i64 k∧wr=w∧Hid (zR (es.drop k)=r))
 case atStart=>exact ⟨0,Nat.zero_le _,by omega,rfl,rfl,HR⟩
 case round =>
  obtain ⟨k,hk,hg,rfl,rfl,A⟩:=hrel
  by_cases hlt:k<n
  ·
   have hltz:(k:Int)<(n:Int):=by omega
   have hkl:k<es.length:=HL.out ▸ hlt
   have hcell:=HC.out k hkl
   have hA:(if es[k]=0 then zR (es.drop (k+1)) else es[k])=r:=by
    have:=A.out
    rw [List.drop_eq_getElem_cons hkl] at this
    exact this
   generalize es[k]=x at *
   by_cases h0:x=0
   ·
    rw [if_pos h0] at hA
    have HA:=za hA
    clear hA A
    subst h0
    go_wp2
    go_roundg (n - (k+1))
    case measure=>omega
    case rel=>exact ⟨k+1,by omega,by omega,by go_num,rfl,HA⟩
   ·
    rw [if_neg h0] at hA
    subst hA
    clear A
    go_wp2
    go_ret
    exact ⟨rfl,rfl⟩
  ·
   have hltz:¬ (k:Int)<(n:Int):=by omega
   have hA:(0:Int)=r:=by
    have:=A.out
    rw [List.drop_eq_nil_of_le (by have:=HL.out; omega)] at this
    exact this
   subst hA
   clear A
   go_wp2
   go_ret
   exact ⟨rfl,rfl⟩

set_option maxRecDepth 100000 in
theorem xX (b:Bool) (n:Int) (w:World):Calls Tryz.prog 138 #[.bool b,.int .i64 n] w fun e w'=>e=.returned (.int .i64 (zq b n))∧w'=w:=by
 cases b with
 | true =>
  show Calls _ _ _ _ fun e w'=>e=.returned (.int .i64 0)∧w'=w
  go_enter Tryz.func138,Tryz.ntmps138
  go_wp2
  go_ret
  exact ⟨rfl,rfl⟩
 | false =>
  show Calls _ _ _ _ fun e w'=>e=.returned (.int .i64 n)∧w'=w
  go_enter Tryz.func138,Tryz.ntmps138
  go_wp2
  go_ret
  exact ⟨rfl,rfl⟩


theorem Yi.first11 {W:World} {v:Value} {es:List Int} (h:Yi W v es) (hn:es.length≤1000):Calls Tryz.prog 64 #[v] W fun e w'=>e=.returned (.int .i64 (zR es))∧w'=W:=by
 obtain ⟨G,rfl,_,hc⟩:=h
 exact UF G es.length es.length es W rfl hn hc
theorem vU (W:World) (es:List Int) (t:TypeId) (hn:es.length≤1000):Calls Tryz.prog 64 #[.slice (some ⟨W.heap.size,0,none⟩) es.length es.length] (W.alloc (.cells (es.map (Value.int .i64)).toArray t)) fun e w'=>e=.returned (.int .i64 (zR es))∧w'=W.alloc (.cells (es.map (Value.int .i64)).toArray t) :=
 (Xq W es t).first11 hn
set_option maxRecDepth 100000 in
theorem fs (many most:Int) (w:World):Calls Tryz.prog 85 #[.int .i64 many,.int .i64 most] w fun e w'=>e=.returned (.int .i64 (zq (decide (many≤most)) 7))∧w'=w:=by
 have HU:Hid (∀ b W,Calls Tryz.prog 138 #[.bool b,.int .i64 7] W fun e w'=>e=.returned (.int .i64 (zq b 7))∧w'=W):=fun b W=>xX b 7 W
 by_cases h:many≤most
 ·
  have hd:decide (many≤most)=true:=decide_eq_true h
  rw [hd]
  go_enter Tryz.func85,Tryz.ntmps85
  go_wp2_with fail
  with_reducible refine (HU.out _ _).mono ?_
  rintro e w' ⟨rfl,rfl⟩
  go_wp2
  go_ret
  exact ⟨rfl,rfl⟩
 ·
  have hd:decide (many≤most)=false:=decide_eq_false h
  rw [hd]
  go_enter Tryz.func85,Tryz.ntmps85
  go_wp2_with fail
  with_reducible refine (HU.out _ _).mono ?_
  rintro e w' ⟨rfl,rfl⟩
  go_wp2
  go_ret
  exact ⟨rfl,rfl⟩
set_option maxRecDepth 100000 in
theorem V7 (m:ByteArray) (w:World) (hm:m.size≤9223372036854775807) (h5:ud w):Calls Tryz.prog 112 #[.string m] w (xA (zq (xq m.data.toList) 11) w):=by
 have HM:=za (Zx m w hm h5)
 by_cases h0:m.size=0
 ·
  obtain rfl:m=⟨#[]⟩:=by
   obtain ⟨d⟩:=m
   obtain rfl:d=#[]:=Array.eq_empty_of_size_eq_zero h0
   rfl
  have:zq (xq (ByteArray.mk #[]).data.toList) 11=0:=by decide +kernel
  rw [this]
  clear HM
  go_enter Tryz.func112,Tryz.ntmps112
  go_wp2
  go_ret
  exact ⟨rfl,Below.refl _ _⟩
 ·
  have hne:¬ m.toList=[]:=fun e=>h0 (by rw [← zx,← ByteArray.toList_eq,e]; rfl)
  have hne1:¬ m.data.toList=[]:=fun e=>h0 (by rw [← zx,e]; rfl)
  have hne2:m.toList.isEmpty=false:=by simpa using hne
  have h1:xq m.data.toList=yR m.data.toList:=by unfold xq; rw [decide_eq_false hne1,Bool.false_or]
  rw [h1]
  generalize uX m.data.toList=t at *
  generalize yR m.data.toList=b at *
  unfold Mails5 at HM
  generalize zq b 11=r at *
  clear h1 hne1 hm h5
  go_enter Tryz.func112,Tryz.ntmps112
  go_wp2_with fail
  with_reducible refine HM.out.mono ?_
  rintro e w1 ⟨rfl,hb⟩
  have HB:=za hb
  clear hb HM
  go_wp2
  go_ret
  exact ⟨rfl,HB.out⟩

theorem fieldA11 (s:ByteArray) (b:Bool) (w:World):(Instr.field 109 (.agg #[.string s,.bool b]) 1).run Tryz.prog w=.ok (.bool b) w:=by kernel_rfl
section
variable [Fr11] {w0 w:World} {D P M G:Nat} {A:zG} {L:zQ} {S:zw}
set_option maxRecDepth 100000 in
theorem Xj (n:ByteArray) (h:zo w0 w D P M G A L S) (hn:n.size≤9223372036854775807):Calls Tryz.prog 139 #[.pointer (some ⟨D,0,none⟩),.string n] w (zV (zy A n.data.toList) w):=by
 have c0:=h.c0
 have hl:=h.look n hn
 have hz:=Zh
 unfold av11 at hl
 have bl:∀ v:ByteArray×Bool,Below w.heap.size w (w.alloc (.cells #[.string v.1,.bool v.2] 109)):=fun v=>z7 (Below.refl _ _) _
 generalize zy A n.data.toList=b at *
 generalize zF (jk A n.data.toList)=s at *
 generalize uH A n.data.toList=d at *
 clear h
 go_enter Tryz.func139,Tryz.ntmps139
 go_wp2
 go_ret
 refine ⟨rfl,?_⟩
 exact bl (s,d)
set_option maxRecDepth 100000 in
theorem yS (n:ByteArray) (h:zo w0 w D P M G A L S) (hn:n.size≤9223372036854775807):Calls Tryz.prog 66 #[.pointer (some ⟨D,0,none⟩),.string n] w (xA (zq (zy A n.data.toList) 8) w):=by
 have HU:Hid (∀ b W,Calls Tryz.prog 138 #[.bool b,.int .i64 8] W fun e w'=>e=.returned (.int .i64 (zq b 8))∧w'=W):=fun b W=>xX b 8 W
 have HH:=za (Xj n h hn)
 clear h
 generalize zy A n.data.toList=b at *
 go_enter Tryz.func66,Tryz.ntmps66
 go_wp2_with fail
 with_reducible refine HH.out.mono ?_
 rintro e w1 ⟨rfl,hb⟩
 have HB:=za hb
 clear hb HH
 go_wp2_with fail
 with_reducible refine (HU.out _ _).mono ?_
 rintro e w2 ⟨rfl,rfl⟩
 go_wp2
 go_ret
 exact ⟨rfl,HB.out⟩
set_option maxRecDepth 100000 in
theorem jZ (n:ByteArray) (h:zo w0 w D P M G A L S) (hn:n.size≤9223372036854775807):Calls Tryz.prog 93 #[.pointer (some ⟨D,0,none⟩),.string n] w (xA (zq (!zy A n.data.toList) 9) w):=by
 have HU:Hid (∀ b W,Calls Tryz.prog 138 #[.bool b,.int .i64 9] W fun e w'=>e=.returned (.int .i64 (zq b 9))∧w'=W):=fun b W=>xX b 9 W
 have HH:=za (Xj n h hn)
 clear h
 generalize zy A n.data.toList=b at *
 go_enter Tryz.func93,Tryz.ntmps93
 go_wp2_with fail
 with_reducible refine HH.out.mono ?_
 rintro e w1 ⟨rfl,hb⟩
 have HB:=za hb
 clear hb HH
 go_wp2_with fail
 with_reducible refine (HU.out _ _).mono ?_
 rintro e w2 ⟨rfl,rfl⟩
 go_wp2
 go_ret
 exact ⟨rfl,HB.out⟩
set_option maxRecDepth 100000 in
theorem V6 (n:ByteArray) (h:zo w0 w D P M G A L S) (hn:n.size≤9223372036854775807):Calls Tryz.prog 121 #[.pointer (some ⟨D,0,none⟩),.string n] w (xA (zq (!uH A n.data.toList) 12) w):=by
 have HU:Hid (∀ b W,Calls Tryz.prog 138 #[.bool b,.int .i64 12] W fun e w'=>e=.returned (.int .i64 (zq b 12))∧w'=W):=fun b W=>xX b 12 W
 have c0:=h.c0
 have hl:=h.look1 n hn
 unfold av11 at hl
 have hfl:=fieldA11
 clear h
 generalize zF (jk A n.data.toList)=s at *
 generalize uH A n.data.toList=b at *
 go_enter Tryz.func121,Tryz.ntmps121
 go_wp2_with fail
 with_reducible refine (HU.out _ _).mono ?_
 rintro e w2 ⟨rfl,rfl⟩
 go_wp2
 go_ret
 exact ⟨rfl,Below.refl _ _⟩
set_option maxRecDepth 100000 in
theorem Yb (n:ByteArray) (is_:Bool) (h:zo w0 w D P M G A L S) (hn:n.size≤9223372036854775807):Calls Tryz.prog 122 #[.pointer (some ⟨D,0,none⟩),.string n,.bool is_] w (xA (zq (!(uH A n.data.toList == is_)) 12) w):=by
 have HU:Hid (∀ b W,Calls Tryz.prog 138 #[.bool b,.int .i64 12] W fun e w'=>e=.returned (.int .i64 (zq b 12))∧w'=W):=fun b W=>xX b 12 W
 have c0:=h.c0
 have hl:=h.look1 n hn
 unfold av11 at hl
 have hfl:=fieldA11
 clear h
 generalize zF (jk A n.data.toList)=s at *
 generalize uH A n.data.toList=b at *
 cases b <;> cases is_
 all_goals
  go_enter Tryz.func122,Tryz.ntmps122
  go_wp2_with fail
  with_reducible refine (HU.out _ _).mono ?_
  rintro e w2 ⟨rfl,rfl⟩
  go_wp2
  go_ret
  exact ⟨rfl,Below.refl _ _⟩
set_option maxRecDepth 100000 in
theorem ZT (h:zo w0 w D P M G A L S):Calls Tryz.prog 62 #[.pointer (some ⟨D,0,none⟩)] w fun e w'=>e=.returned (.int .i64 A.length)∧w'=w:=by
 have c0:=h.c0
 have hl:=h.lenA
 generalize A.length=n at *
 clear h
 go_enter Tryz.func62,Tryz.ntmps62
 go_wp2
 go_ret
 exact ⟨rfl,rfl⟩
variable {k:Nat}
set_option maxRecDepth 100000 in
theorem ji (h:zo w0 w D P M G A L S) (hk:zK S k):Calls Tryz.prog 63 #[.pointer (some ⟨D,0,none⟩)] w (yo (zb S) w):=by
 have c2:=h.c2
 have HF:=za (h.gall hk)
 clear h hk
 generalize zb S=s at *
 go_enter Tryz.func63,Tryz.ntmps63
 go_wp2_with fail
 with_reducible refine HF.out.mono ?_
 rintro e w1 ⟨v,rfl,hr⟩
 have HR:=za hr
 clear hr HF c2
 go_wp2
 go_ret
 exact ⟨v,rfl,HR.out⟩
end
end Go.Proofs.YtmcomnocpibiiaaGreatDoor
namespace Go.Proofs.YtmcomnocpibiiaaGreatDoor
open Go.RowKit Go.Maps
set_option linter.unusedSectionVars false

def VY (W:World) (b:Nat) (s:ByteArray) (d:Bool):Prop:=W.heap[b]? = some (.cells #[.string s,.bool d] 109 (0,0))
section
variable {W W':World} {b:Nat} {s:ByteArray} {d:Bool}
theorem VY.c0 (h:VY W b s d):W.cell? ⟨b,0,none⟩=some (.string s):=by simp [World.cell?,show W.heap[b]? = _ from h]
theorem VY.c1 (h:VY W b s d):W.cell? ⟨b,1,none⟩=some (.bool d):=by simp [World.cell?,show W.heap[b]? = _ from h]
theorem VY.f0 (h:VY W b s d):W.frozen? ⟨b,0,none⟩=false:=by simp [World.frozen?,show W.heap[b]? = _ from h]
theorem VY.f1 (h:VY W b s d):W.frozen? ⟨b,1,none⟩=false:=by simp [World.frozen?,show W.heap[b]? = _ from h]
theorem VY.lt (h:VY W b s d):b<W.heap.size:=(Array.getElem?_eq_some_iff.1 h).1
theorem VY.later (h:VY W b s d) (hb:Below W.heap.size W W'):VY W' b s d:=(hb.block b h.lt).trans h
theorem ac11_new (W:World) (s:ByteArray) (d:Bool):VY (W.alloc (.cells #[.string s,.bool d] 109)) W.heap.size s d:=(MapKept.heap_alloc W _).1
theorem VY.set0 (h:VY W b s d) (x:ByteArray):VY (W.setCell ⟨b,0,none⟩ (.string x)) b x d:=by
 have h':W.heap[b]? = some (.cells #[.string s,.bool d] 109 (0,0)):=h
 have hl:=h.lt
 have:=h'
 rw [Array.getElem?_eq_getElem hl] at this
 injection this with this
 show (W.setCell ⟨b,0,none⟩ (.string x)).heap[b]? = _
 simp [World.setCell,hl,Array.getElem_modify,this]
theorem VY.set1 (h:VY W b s d) (x:Bool):VY (W.setCell ⟨b,1,none⟩ (.bool x)) b s x:=by
 have h':W.heap[b]? = some (.cells #[.string s,.bool d] 109 (0,0)):=h
 have hl:=h.lt
 have:=h'
 rw [Array.getElem?_eq_getElem hl] at this
 injection this with this
 show (W.setCell ⟨b,1,none⟩ (.bool x)).heap[b]? = _
 simp [World.setCell,hl,Array.getElem_modify,this]
end

def YPt11 (D P:Nat) (n h:ByteArray) (d:Bool):Nat→Value→Prop
 | 3,v=>v=.map (some P)
 | 4,v=>v=.string n
 | 5,v=>v=.string n
 | 6,v=>v=.agg #[.string h,.bool d]
 | _,v=>v=.pointer (some ⟨D,0,none⟩)
def YPtW11 (D P:Nat) (n h:ByteArray) (d:Bool) (j:Nat) (v:Value) (_:World):Prop:=YPt11 D P n h d j v
section
variable [Fr11] {w0 w:World} {D P M G:Nat} {A:zG} {L:zQ} {S:zw}
set_option maxRecDepth 100000 in
theorem uA (n h:ByteArray) (d:Bool) (ho:zo w0 w D P M G A L S) (hf:A.length≤1000) (hn:n.size≤1000) (hh:h.size≤1000) :
  Calls Tryz.prog 94 #[.pointer (some ⟨D,0,none⟩),.string n,.agg #[.string h,.bool d]] w fun e w'=>e=.returned (.tuple #[])∧zE w0 w D P M G (zM A n.data.toList (h.data.toList,d)) L S w':=by
 have HC:Hid (∀ W,Calls Tryz.prog 115 #[.string n] W fun e w'=>e=.returned (.string n)∧Below W.heap.size W w'):=fun W=>yY n W hn
 have HC1:Hid (∀ W,Calls Tryz.prog 115 #[.string h] W fun e w'=>e=.returned (.string h)∧Below W.heap.size W w'):=fun W=>yY h W hh
 have HO:=za ho
 have HST:Hid (∀ W,Below w.heap.size w W→∃ w',(Instr.mapUpdate 78 (.map (some P)) (.string n) (.agg #[.string h,.bool d])).run Tryz.prog W=.ok () w'∧zE w0 w D P M G (zM A n.data.toList (h.data.toList,d)) L S w'):=fun W hb=>by
  obtain ⟨w',h1,h2⟩:=(ho.later hb).store hf n h d (Nat.le_trans hn (by decide))
  exact ⟨w',h1,h2.ahead hb⟩
 have HA:=za (ac11_new w h d)
 have HB0:Hid (Below w.heap.size w (w.alloc (.cells #[.string h,.bool d] 109))):=z7 (Below.refl _ _) _
 clear ho hf hn hh
 go_enter Tryz.func94,Tryz.ntmps94
 go_wp2_with fail
 with_reducible refine (HC1.out _).mono ?_
 rintro e w1 ⟨rfl,hb⟩
 have ha:=HA.out.later hb
 have f0:=ha.f0
 have c0:=ha.c0
 have HA1:=za (ha.set0 h)
 have HB1:Hid (Below w.heap.size w (w1.setCell ⟨w.heap.size,0,none⟩ (.string h))):=(z8 HB0.out hb).setCell (p:=⟨w.heap.size,0,none⟩) (Nat.le_refl _) _
 clear hb HA HB0 HC1 ha
 go_wp2_with fail
 generalize w1.setCell ⟨w.heap.size,0,none⟩ (.string h)=w2 at *
 generalize w.heap.size=B5 at HA1
 clear f0 c0
 refine yL (by kernel_rfl) 7 (fun W=>Below w2.heap.size w2 W) (fun W=>zE w0 w D P M G (zM A n.data.toList (h.data.toList,d)) L S W) (YPtW11 D P n h d) (fun _=>True) ?F ?hF (by kernel_rfl) (by kernel_rfl) (by kernel_rfl) (by kernel_rfl) (by decide) (zS (Below.refl _ _)) ?step ?fin
 case hF =>
  intro x
  simp only [List.map_cons,List.map_nil,vI,Act.put,List.setIfInBounds_toArray,List.set_cons_zero,List.set_cons_succ,Nat.zero_add,Nat.reduceAdd]
  exact rfl
 case step =>
  refine ⟨?_,?_,?_,?_,?_,?_,?_,?_,trivial⟩
  ·
   intro x W
   refine ⟨fun _ hW hdep K hK=>?_,(fun h=>absurd h (by decide)),(fun h=>absurd h (by decide))⟩
   clear hdep
   go_simp
   exact hK _ _ rfl hW (fun _ _ h=>h)
  ·
   intro x W
   refine ⟨fun _ hW hdep K hK=>?_,(fun h=>absurd h (by decide)),(fun h=>absurd h (by decide))⟩
   have h0:x 0=_:=hdep 0 rfl
   clear hdep
   simp only [h0] at hK
   go_simp
   exact hK _ _ rfl hW (fun _ _ h=>h)
  ·
   intro x W
   refine ⟨fun _ hW hdep K hK=>?_,(fun h=>absurd h (by decide)),(fun h=>absurd h (by decide))⟩
   have h1:x 1=_:=hdep 1 rfl
   clear hdep
   simp only [h1] at hK
   go_simp
   exact hK _ _ rfl hW (fun _ _ h=>h)
  ·
   intro x W
   refine ⟨fun _ hW hdep K hK=>?_,(fun h=>absurd h (by decide)),(fun h=>absurd h (by decide))⟩
   have h2:x 2=_:=hdep 2 rfl
   have c:=(HO.out.later (z8 HB1.out hW)).c0
   clear hdep
   simp only [h2] at hK
   go_simp
   exact hK _ _ rfl hW (fun _ _ h=>h)
  ·
   intro x W
   refine ⟨fun _ hW hdep K hK=>?_,(fun h=>absurd h (by decide)),(fun h=>absurd h (by decide))⟩
   clear hdep
   go_simp
   exact hK _ _ rfl hW (fun _ _ h=>h)
  ·
   intro x W
   refine ⟨fun _ hW hdep K hK=>?_,(fun h=>absurd h (by decide)),(fun h=>absurd h (by decide))⟩
   have h4:x 4=_:=hdep 4 rfl
   have hc:=HC.out W
   clear hdep
   simp only [h4] at hK
   go_simp
   refine hc.mono ?_
   rintro e W' ⟨rfl,hb⟩
   exact hK _ _ rfl (z8 hW hb) (fun _ _ h=>h)
  ·
   intro x W
   refine ⟨fun _ hW hdep K hK=>?_,(fun h=>absurd h (by decide)),(fun h=>absurd h (by decide))⟩
   have hx:=HA1.out.later hW
   have c0:=hx.c0
   have c1:=hx.c1
   clear hdep
   go_simp
   exact hK _ _ rfl hW (fun _ _ h=>h)
  ·
   intro x W
   refine ⟨(fun h=>absurd h (by decide)),fun _ hW hdep K hK=>?_,(fun h=>absurd h (by decide))⟩
   have h3:x 3=_:=hdep 3 rfl
   have h5:x 5=_:=hdep 5 rfl
   have h6:x 6=_:=hdep 6 rfl
   obtain ⟨w',hrun,hg⟩:=HST.out W (z8 HB1.out hW)
   clear hdep
   simp only [h3,h5,h6] at hK
   go_simp
   exact hK undef _ trivial hg
 case fin =>
  intro x W hW _
  have HF:=za hW
  clear hW HST HC HA1 HB1 HO
  go_end0
  exact ⟨rfl,HF.out⟩

def YPm11 (D M:Nat) (n m:ByteArray):Nat→Value→Prop
 | 2,v=>v=.pointer (some ⟨D,1,none⟩)
 | 3,v=>v=.pointer (some ⟨M,0,none⟩)
 | 4,v=>v=.string n
 | 5,v=>v=.string n
 | 6,v=>v=.string m
 | _,v=>v=.pointer (some ⟨D,0,none⟩)
def YPmW11 (D M:Nat) (n m:ByteArray) (j:Nat) (v:Value) (_:World):Prop:=YPm11 D M n m j v
set_option maxRecDepth 100000 in
theorem jf (n m:ByteArray) (ho:zo w0 w D P M G A L S) (hl:L.length<100) (h5:ud w) (hn:n.size≤1000) (hm:m.size≤9223372036854775807) :
  Calls Tryz.prog 113 #[.pointer (some ⟨D,0,none⟩),.string n,.string m] w fun e w'=>e=.returned (.int .i64 (qY L n.data.toList m.data.toList))∧zE w0 w D P M G A (Vk L n.data.toList m.data.toList) S w':=by
 have HC:Hid (∀ W,Calls Tryz.prog 115 #[.string n] W fun e w'=>e=.returned (.string n)∧Below W.heap.size W w'):=fun W=>yY n W hn
 have HO:=za ho
 have HST:Hid (∀ W,Below w.heap.size w W→Calls Tryz.prog 179 #[.pointer (some ⟨M,0,none⟩),.string n,.string m] W fun e w'=>e=.returned (.int .i64 (qY L n.data.toList m.data.toList))∧zE w0 w D P M G A (Vk L n.data.toList m.data.toList) S w'):=fun W hb =>
  ((ho.later hb).mset n m (Nat.le_trans hn (by decide)) hm hl (h5.later hb)).mono fun e w' ⟨he,hg⟩=>⟨he,hg.ahead hb⟩
 clear ho hl hn hm h5
 generalize qY L n.data.toList m.data.toList=r at *
 generalize Vk L n.data.toList m.data.toList=L' at *
 go_enter Tryz.func113,Tryz.ntmps113
 go_wp2_with fail
 refine yL (by kernel_rfl) 7 (fun W=>Below w.heap.size w W) (fun W=>zE w0 w D P M G A L' S W) (YPmW11 D M n m) (fun v=>v=.int .i64 r) ?F ?hF (by kernel_rfl) (by kernel_rfl) (by kernel_rfl) (by kernel_rfl) (by decide) (zS (Below.refl _ _)) ?step ?fin
 case hF =>
  intro x
  simp only [List.map_cons,List.map_nil,vI,Act.put,List.setIfInBounds_toArray,List.set_cons_zero,List.set_cons_succ,Nat.zero_add,Nat.reduceAdd]
  exact rfl
 case step =>
  refine ⟨?_,?_,?_,?_,?_,?_,?_,?_,?_,trivial⟩
  ·
   intro x W
   refine ⟨fun _ hW hdep K hK=>?_,(fun h=>absurd h (by decide)),(fun h=>absurd h (by decide))⟩
   clear hdep
   go_simp
   exact hK _ _ rfl hW (fun _ _ h=>h)
  ·
   intro x W
   refine ⟨fun _ hW hdep K hK=>?_,(fun h=>absurd h (by decide)),(fun h=>absurd h (by decide))⟩
   have h0:x 0=_:=hdep 0 rfl
   clear hdep
   simp only [h0] at hK
   go_simp
   exact hK _ _ rfl hW (fun _ _ h=>h)
  ·
   intro x W
   refine ⟨fun _ hW hdep K hK=>?_,(fun h=>absurd h (by decide)),(fun h=>absurd h (by decide))⟩
   have h1:x 1=_:=hdep 1 rfl
   clear hdep
   simp only [h1] at hK
   go_simp
   exact hK _ _ rfl hW (fun _ _ h=>h)
  ·
   intro x W
   refine ⟨fun _ hW hdep K hK=>?_,(fun h=>absurd h (by decide)),(fun h=>absurd h (by decide))⟩
   have h2:x 2=_:=hdep 2 rfl
   have c:=(HO.out.later hW).c1
   clear hdep
   simp only [h2] at hK
   go_simp
   exact hK _ _ rfl hW (fun _ _ h=>h)
  ·
   intro x W
   refine ⟨fun _ hW hdep K hK=>?_,(fun h=>absurd h (by decide)),(fun h=>absurd h (by decide))⟩
   clear hdep
   go_simp
   exact hK _ _ rfl hW (fun _ _ h=>h)
  ·
   intro x W
   refine ⟨fun _ hW hdep K hK=>?_,(fun h=>absurd h (by decide)),(fun h=>absurd h (by decide))⟩
   have h4:x 4=_:=hdep 4 rfl
   have hc:=HC.out W
   clear hdep
   simp only [h4] at hK
   go_simp
   refine hc.mono ?_
   rintro e W' ⟨rfl,hb⟩
   exact hK _ _ rfl (z8 hW hb) (fun _ _ h=>h)
  ·
   intro x W
   refine ⟨fun _ hW hdep K hK=>?_,(fun h=>absurd h (by decide)),(fun h=>absurd h (by decide))⟩
   clear hdep
   go_simp
   exact hK _ _ rfl hW (fun _ _ h=>h)
  ·
   intro x W
   refine ⟨(fun h=>absurd h (by decide)),fun _ hW hdep K hK=>?_,(fun h=>absurd h (by decide))⟩
   have h3:x 3=_:=hdep 3 rfl
   have h5:x 5=_:=hdep 5 rfl
   have h6:x 6=_:=hdep 6 rfl
   have hc:=HST.out W hW
   clear hdep
   simp only [h3,h5,h6] at hK
   go_simp
   refine hc.mono ?_
   rintro e W' ⟨rfl,hg⟩
   exact hK _ _ rfl hg
  ·
   intro x W
   refine ⟨(fun h=>absurd h (by decide)),(fun h=>absurd h (by decide)),fun _ hW hdep K hK=>?_⟩
   have h7:x 7=_:=hdep 7 rfl (by decide)
   clear hdep
   simp only [h7] at hK
   go_simp
   exact hK _ rfl
 case fin =>
  intro x W hW hZ
  have h8:x 8=.int .i64 r:=hZ 8 (by decide) (by decide)
  have HF:=za hW
  clear hW hZ HST HC HO
  rw [h8]
  go_wp2
  go_ret
  exact ⟨rfl,HF.out⟩
end
end Go.Proofs.YtmcomnocpibiiaaGreatDoor
namespace Go.Proofs.YtmcomnocpibiiaaGreatDoor
open Go.RowKit Go.Maps
set_option linter.unusedSectionVars false

theorem first11_cr (a b c d:Bool):zR [zq a 10,zq b 4,zq (!c) 9,zq (!d) 7]=Va a b c d:=by cases a <;> cases b <;> cases c <;> cases d <;> rfl
theorem first11_de (a c:Bool):zR [zq a 10,zq c 8]=ju a c:=by cases a <;> cases c <;> rfl
theorem first11_sh (a b c d:Bool):zR [zq a 10,zq b 4,zq c 8,zq (!d) 12]=shF11 a b c d:=by cases a <;> cases b <;> cases c <;> cases d <;> rfl
theorem first11_di (a c d:Bool):zR [zq a 10,zq c 8,zq (!d) 12]=diF11 a c d:=by cases a <;> cases c <;> cases d <;> rfl
theorem first11_rn (a b c d:Bool):zR [zq a 10,zq b 10,zq c 8,zq (!d) 9]=rnF11 a b c d:=by cases a <;> cases b <;> cases c <;> cases d <;> rfl
theorem VK (A:zG) (g n:List UInt8):zR [zq (zf g) 10,zq (zf n) 10,zq (zy A n) 8]=yT A g n:=by
 unfold yT
 cases zf g <;> cases zf n <;> cases zy A n <;> rfl
theorem first11_sm (a b c:Bool):zR [zq a 10,zq b 11,zq c 8]=if a then (if b then (if c then 0 else 8) else 11) else 10:=by cases a <;> cases b <;> cases c <;> rfl
theorem ve {n:ByteArray} (h:zf n.data.toList=true):n.size≤1000:=uD h
theorem jI {l:List UInt8} (h:yK l=true):l.length≤1000:=by
 unfold yK at h
 simp only [Bool.and_eq_true,decide_eq_true_eq] at h
 have:=h.1.2
 omega
theorem fp {n:ByteArray} (h:yK n.data.toList=true):n.size≤1000:=by
 have:=jI h
 rwa [zx] at this
section
variable [Fr11] {w0 w:World} {D P M G:Nat} {A:zG} {L:zQ} {S:zw} {k:Nat}
theorem fit11_eq (n:Nat):zq (decide ((n:Int)+1≤12)) 7=zq (!decide (12≤n)) 7:=by
 by_cases h:12≤n
 ·
  rw [decide_eq_true h,decide_eq_false (by omega)]; rfl
 ·
  rw [decide_eq_false h,decide_eq_true (by omega)]; rfl
set_option maxRecDepth 100000 in
theorem fg (n h:ByteArray) (ho:zo w0 w D P M G A L S) (hg:zt A L S k) (hn:n.size≤9223372036854775807) (hh:h.size≤9223372036854775807) :
  Calls Tryz.prog 31 #[.pointer (some ⟨D,0,none⟩),.string n,.string h] w fun e w'=>e=.returned (.int .i64 (Ye A n.data.toList h.data.toList))∧zE w0 w D P M G (Fo A n.data.toList h.data.toList) L S w':=by
 have HN:Hid (∀ W,Below w.heap.size w W→Calls Tryz.prog 65 #[.string n] W fun e w'=>e=.returned (.int .i64 (zq (zf n.data.toList) 10))∧Below W.heap.size W w'):=fun W hb=>yf n W hn
 have HH:Hid (∀ W,Below w.heap.size w W→Calls Tryz.prog 92 #[.string h] W fun e w'=>e=.returned (.int .i64 (zq (yK h.data.toList) 4))∧Below W.heap.size W w'):=fun W hb=>ZJ h W hh
 have HI:Hid (∀ W,Below w.heap.size w W→Calls Tryz.prog 93 #[.pointer (some ⟨D,0,none⟩),.string n] W fun e w'=>e=.returned (.int .i64 (zq (!zy A n.data.toList) 9))∧Below W.heap.size W w'):=fun W hb=>jZ n (ho.later hb) hn
 have HL:Hid (∀ W,Below w.heap.size w W→Calls Tryz.prog 62 #[.pointer (some ⟨D,0,none⟩)] W fun e w'=>e=.returned (.int .i64 ((A.length:Int)))∧Below W.heap.size W w'):=fun W hb=>(ZT (ho.later hb)).mono fun e w' ⟨he,hw⟩=>⟨he,by rw [hw]; exact Below.refl _ _⟩
 have HT:Hid (∀ W,Below w.heap.size w W→Calls Tryz.prog 85 #[.int .i64 ((A.length:Int)+1),.int .i64 12] W fun e w'=>e=.returned (.int .i64 (zq (!decide (12≤A.length)) 7))∧Below W.heap.size W w'):=fun W hb=>(fs _ _ W).mono fun e w' ⟨he,hw⟩=>⟨by rw [he,fit11_eq],by rw [hw]; exact Below.refl _ _⟩
 have HFS:Hid (∀ W:World,Calls Tryz.prog 64 #[.slice (some ⟨W.heap.size,0,none⟩) 4 4] (W.alloc (.cells #[.int .i64 (zq (zf n.data.toList) 10),.int .i64 (zq (yK h.data.toList) 4),.int .i64 (zq (!zy A n.data.toList) 9),.int .i64 (zq (!decide (12≤A.length)) 7)] 38)) fun e w'=>e=.returned (.int .i64 (Ye A n.data.toList h.data.toList))∧w'=W.alloc (.cells #[.int .i64 (zq (zf n.data.toList) 10),.int .i64 (zq (yK h.data.toList) 4),.int .i64 (zq (!zy A n.data.toList) 9),.int .i64 (zq (!decide (12≤A.length)) 7)] 38)):=fun W=>by
  have:=vU W [zq (zf n.data.toList) 10,zq (yK h.data.toList) 4,zq (!zy A n.data.toList) 9,zq (!decide (12≤A.length)) 7] 38 (by simp)
  rw [first11_cr] at this
  exact this
 have HO:=za ho
 have HP:Hid (Ye A n.data.toList h.data.toList=0→∀ W,Below w.heap.size w W→Calls Tryz.prog 94 #[.pointer (some ⟨D,0,none⟩),.string n,.agg #[.string h,.bool false]] W fun e w'=>e=.returned (.tuple #[])∧zE w0 w D P M G (zM A n.data.toList (h.data.toList,false)) L S w'):=fun e W hb=>by
  obtain ⟨h1,h2,h3,h4⟩:=crF_zero e
  exact (uA n h false (ho.later hb) (by have:=hg.few; omega) (ve h1) (fp h2)).mono fun e w' ⟨he,hgo⟩=>⟨he,hgo.ahead hb⟩
 have hm12:(A.length:Int)≤12:=by have:=hg.few; omega
 have hm0:(0:Int)≤(A.length:Int):=by omega
 clear ho hg hn hh
 unfold Fo
 generalize zM A n.data.toList (h.data.toList,false)=A' at *
 generalize Ye A n.data.toList h.data.toList=r at *
 generalize zq (zf n.data.toList) 10=e0 at *
 generalize zq (yK h.data.toList) 4=e1 at *
 generalize zq (!zy A n.data.toList) 9=e2 at *
 generalize zq (!decide (12≤A.length)) 7=e3 at *
 generalize (A.length:Int)=m at *
 by_cases h0:r=0
 ·
  subst h0
  rw [if_pos rfl]
  have HP2:=za (HP.out rfl)
  clear HP
  go_enter Tryz.func31,Tryz.ntmps31
  have HB0:Hid (Below w.heap.size w w):=Below.refl _ _
  go_wp2_with fail
  with_reducible refine (HN.out w HB0.out).mono ?_
  rintro e u1 ⟨rfl,hb⟩
  have HB1:=za (z8 HB0.out hb)
  clear hb
  go_wp2_with fail
  with_reducible refine (HH.out u1 HB1.out).mono ?_
  rintro e u2 ⟨rfl,hb⟩
  have HB2:=za (z8 HB1.out hb)
  clear hb
  go_wp2_with fail
  with_reducible refine (HI.out u2 HB2.out).mono ?_
  rintro e u3 ⟨rfl,hb⟩
  have HB3:=za (z8 HB2.out hb)
  clear hb
  go_wp2_with fail
  with_reducible refine (HL.out u3 HB3.out).mono ?_
  rintro e u4 ⟨rfl,hb⟩
  have HB4:=za (z8 HB3.out hb)
  clear hb
  go_wp2_with fail
  with_reducible refine (HT.out u4 HB4.out).mono ?_
  rintro e u5 ⟨rfl,hb⟩
  have HB5:=za (z8 HB4.out hb)
  clear hb
  go_wp2_with fail
  with_reducible refine (HFS.out _).mono ?_
  rintro e ub ⟨rfl,hub⟩
  have HB:Hid (Below w.heap.size w ub):=by
   show Below _ _ _
   rw [hub]; exact z7 HB5.out _
  clear hub HFS HB0 HB1 HB2 HB3 HB4 HB5 HN HH HI HL HT
  go_wp2_with fail
  with_reducible refine (HP2.out _ HB.out).mono ?_
  rintro e w5 ⟨rfl,hg⟩
  have HF:=za hg
  clear hg HP2 HB
  go_wp2
  go_ret
  exact ⟨rfl,HF.out⟩
 ·
  rw [if_neg h0]
  clear HP
  have q1:(r == 0)=false:=by simpa using h0
  have q2:¬ r=0:=h0
  go_enter Tryz.func31,Tryz.ntmps31
  have HB0:Hid (Below w.heap.size w w):=Below.refl _ _
  go_wp2_with fail
  with_reducible refine (HN.out w HB0.out).mono ?_
  rintro e u1 ⟨rfl,hb⟩
  have HB1:=za (z8 HB0.out hb)
  clear hb
  go_wp2_with fail
  with_reducible refine (HH.out u1 HB1.out).mono ?_
  rintro e u2 ⟨rfl,hb⟩
  have HB2:=za (z8 HB1.out hb)
  clear hb
  go_wp2_with fail
  with_reducible refine (HI.out u2 HB2.out).mono ?_
  rintro e u3 ⟨rfl,hb⟩
  have HB3:=za (z8 HB2.out hb)
  clear hb
  go_wp2_with fail
  with_reducible refine (HL.out u3 HB3.out).mono ?_
  rintro e u4 ⟨rfl,hb⟩
  have HB4:=za (z8 HB3.out hb)
  clear hb
  go_wp2_with fail
  with_reducible refine (HT.out u4 HB4.out).mono ?_
  rintro e u5 ⟨rfl,hb⟩
  have HB5:=za (z8 HB4.out hb)
  clear hb
  go_wp2_with fail
  with_reducible refine (HFS.out _).mono ?_
  rintro e ub ⟨rfl,hub⟩
  have HB:Hid (Below w.heap.size w ub):=by
   show Below _ _ _
   rw [hub]; exact z7 HB5.out _
  clear hub HFS HB0 HB1 HB2 HB3 HB4 HB5 HN HH HI HL HT
  go_wp2
  go_ret
  exact ⟨rfl,HO.out.still HB.out⟩
set_option maxRecDepth 100000 in
theorem YE (n h:ByteArray) (ho:zo w0 w D P M G A L S) (hg:zt A L S k) (hn:n.size≤9223372036854775807) (hh:h.size≤9223372036854775807) :
  Calls Tryz.prog 48 #[.pointer (some ⟨D,0,none⟩),.string n,.string h] w fun e w'=>e=.returned (.int .i64 (Y3 A n.data.toList h.data.toList))∧zE w0 w D P M G (Jt A n.data.toList h.data.toList) L S w':=by
 have HN:Hid (∀ W,Below w.heap.size w W→Calls Tryz.prog 65 #[.string n] W fun e w'=>e=.returned (.int .i64 (zq (zf n.data.toList) 10))∧Below W.heap.size W w'):=fun W hb=>yf n W hn
 have HH:Hid (∀ W,Below w.heap.size w W→Calls Tryz.prog 92 #[.string h] W fun e w'=>e=.returned (.int .i64 (zq (yK h.data.toList) 4))∧Below W.heap.size W w'):=fun W hb=>ZJ h W hh
 have HI:Hid (∀ W,Below w.heap.size w W→Calls Tryz.prog 66 #[.pointer (some ⟨D,0,none⟩),.string n] W fun e w'=>e=.returned (.int .i64 (zq (zy A n.data.toList) 8))∧Below W.heap.size W w'):=fun W hb=>yS n (ho.later hb) hn
 have HL:Hid (∀ W,Below w.heap.size w W→Calls Tryz.prog 121 #[.pointer (some ⟨D,0,none⟩),.string n] W fun e w'=>e=.returned (.int .i64 (zq (!uH A n.data.toList) 12))∧Below W.heap.size W w'):=fun W hb=>V6 n (ho.later hb) hn
 have HFS:Hid (∀ W:World,Calls Tryz.prog 64 #[.slice (some ⟨W.heap.size,0,none⟩) 4 4] (W.alloc (.cells #[.int .i64 (zq (zf n.data.toList) 10),.int .i64 (zq (yK h.data.toList) 4),.int .i64 (zq (zy A n.data.toList) 8),.int .i64 (zq (!uH A n.data.toList) 12)] 38)) fun e w'=>e=.returned (.int .i64 (Y3 A n.data.toList h.data.toList))∧w'=W.alloc (.cells #[.int .i64 (zq (zf n.data.toList) 10),.int .i64 (zq (yK h.data.toList) 4),.int .i64 (zq (zy A n.data.toList) 8),.int .i64 (zq (!uH A n.data.toList) 12)] 38)):=fun W=>by
  have:=vU W [zq (zf n.data.toList) 10,zq (yK h.data.toList) 4,zq (zy A n.data.toList) 8,zq (!uH A n.data.toList) 12] 38 (by simp)
  rw [first11_sh] at this
  exact this
 have HO:=za ho
 have HP:Hid (Y3 A n.data.toList h.data.toList=0→∀ W,Below w.heap.size w W→Calls Tryz.prog 94 #[.pointer (some ⟨D,0,none⟩),.string n,.agg #[.string h,.bool (uH A n.data.toList)]] W fun e w'=>e=.returned (.tuple #[])∧zE w0 w D P M G (zM A n.data.toList (h.data.toList,uH A n.data.toList)) L S w'):=fun e W hb=>by
  obtain ⟨h1,h2,h3,h4⟩:=FI e
  exact (uA n h _ (ho.later hb) (by have:=hg.few; omega) (ve h1) (fp h2)).mono fun e w' ⟨he,hgo⟩=>⟨he,hgo.ahead hb⟩
 have HK:Hid (∀ W,Below w.heap.size w W→(Instr.lookup 78 (.map (some P)) (.string n) false).run Tryz.prog W=.ok (.agg #[.string (zF (jk A n.data.toList)),.bool (uH A n.data.toList)]) W):=fun W hb=>(ho.later hb).look1 n hn
 have hz:=Zh
 clear ho hg hn hh
 unfold Jt
 generalize zM A n.data.toList (h.data.toList,uH A n.data.toList)=A' at *
 generalize Y3 A n.data.toList h.data.toList=r at *
 generalize zq (zf n.data.toList) 10=e0 at *
 generalize zq (yK h.data.toList) 4=e1 at *
 generalize zq (zy A n.data.toList) 8=e2 at *
 generalize zq (!uH A n.data.toList) 12=e3 at *
 generalize uH A n.data.toList=dd at *
 generalize zF (jk A n.data.toList)=ss at *
 by_cases h0:r=0
 ·
  subst h0
  rw [if_pos rfl]
  have HP2:=za (HP.out rfl)
  clear HP
  go_enter Tryz.func48,Tryz.ntmps48
  have HB0:Hid (Below w.heap.size w w):=Below.refl _ _
  go_wp2_with fail
  with_reducible refine (HN.out w HB0.out).mono ?_
  rintro e u1 ⟨rfl,hb⟩
  have HB1:=za (z8 HB0.out hb)
  clear hb
  go_wp2_with fail
  with_reducible refine (HH.out u1 HB1.out).mono ?_
  rintro e u2 ⟨rfl,hb⟩
  have HB2:=za (z8 HB1.out hb)
  clear hb
  go_wp2_with fail
  with_reducible refine (HI.out u2 HB2.out).mono ?_
  rintro e u3 ⟨rfl,hb⟩
  have HB3:=za (z8 HB2.out hb)
  clear hb
  go_wp2_with fail
  with_reducible refine (HL.out u3 HB3.out).mono ?_
  rintro e u4 ⟨rfl,hb⟩
  have HB4:=za (z8 HB3.out hb)
  clear hb
  go_wp2_with fail
  with_reducible refine (HFS.out _).mono ?_
  rintro e ub ⟨rfl,hub⟩
  have HB:Hid (Below w.heap.size w ub):=by
   show Below _ _ _
   rw [hub]; exact z7 HB4.out _
  clear hub HFS HB0 HB1 HB2 HB3 HB4 HN HH HI HL
  have c0:=(HO.out.later HB.out).c0
  have hk:=HK.out _ HB.out
  have HBA:Hid (Below w.heap.size w (ub.alloc (.cells #[.string h,.bool dd] 109))):=z7 HB.out _
  clear HK
  go_wp2_with fail
  with_reducible refine (HP2.out _ HBA.out).mono ?_
  rintro e w5 ⟨rfl,hg⟩
  have HF:=za hg
  clear hg HP2 HB HBA c0 hk
  go_wp2
  go_ret
  exact ⟨rfl,HF.out⟩
 ·
  rw [if_neg h0]
  clear HP HK
  have q1:(r == 0)=false:=by simpa using h0
  have q2:¬ r=0:=h0
  go_enter Tryz.func48,Tryz.ntmps48
  have HB0:Hid (Below w.heap.size w w):=Below.refl _ _
  go_wp2_with fail
  with_reducible refine (HN.out w HB0.out).mono ?_
  rintro e u1 ⟨rfl,hb⟩
  have HB1:=za (z8 HB0.out hb)
  clear hb
  go_wp2_with fail
  with_reducible refine (HH.out u1 HB1.out).mono ?_
  rintro e u2 ⟨rfl,hb⟩
  have HB2:=za (z8 HB1.out hb)
  clear hb
  go_wp2_with fail
  with_reducible refine (HI.out u2 HB2.out).mono ?_
  rintro e u3 ⟨rfl,hb⟩
  have HB3:=za (z8 HB2.out hb)
  clear hb
  go_wp2_with fail
  with_reducible refine (HL.out u3 HB3.out).mono ?_
  rintro e u4 ⟨rfl,hb⟩
  have HB4:=za (z8 HB3.out hb)
  clear hb
  go_wp2_with fail
  with_reducible refine (HFS.out _).mono ?_
  rintro e ub ⟨rfl,hub⟩
  have HB:Hid (Below w.heap.size w ub):=by
   show Below _ _ _
   rw [hub]; exact z7 HB4.out _
  clear hub HFS HB0 HB1 HB2 HB3 HB4 HN HH HI HL
  go_wp2
  go_ret
  exact ⟨rfl,HO.out.still HB.out⟩
set_option maxRecDepth 100000 in
theorem Xt (n:ByteArray) (is_:Bool) (ho:zo w0 w D P M G A L S) (hg:zt A L S k) (hn:n.size≤9223372036854775807) :
  Calls Tryz.prog 51 #[.pointer (some ⟨D,0,none⟩),.string n,.bool is_] w fun e w'=>e=.returned (.int .i64 (Yd A n.data.toList is_))∧zE w0 w D P M G (Ff A n.data.toList is_) L S w':=by
 have HN:Hid (∀ W,Below w.heap.size w W→Calls Tryz.prog 65 #[.string n] W fun e w'=>e=.returned (.int .i64 (zq (zf n.data.toList) 10))∧Below W.heap.size W w'):=fun W hb=>yf n W hn
 have HI:Hid (∀ W,Below w.heap.size w W→Calls Tryz.prog 66 #[.pointer (some ⟨D,0,none⟩),.string n] W fun e w'=>e=.returned (.int .i64 (zq (zy A n.data.toList) 8))∧Below W.heap.size W w'):=fun W hb=>yS n (ho.later hb) hn
 have HL:Hid (∀ W,Below w.heap.size w W→Calls Tryz.prog 122 #[.pointer (some ⟨D,0,none⟩),.string n,.bool is_] W fun e w'=>e=.returned (.int .i64 (zq (!(uH A n.data.toList == is_)) 12))∧Below W.heap.size W w'):=fun W hb=>Yb n is_ (ho.later hb) hn
 have HFS:Hid (∀ W:World,Calls Tryz.prog 64 #[.slice (some ⟨W.heap.size,0,none⟩) 3 3] (W.alloc (.cells #[.int .i64 (zq (zf n.data.toList) 10),.int .i64 (zq (zy A n.data.toList) 8),.int .i64 (zq (!(uH A n.data.toList == is_)) 12)] 38)) fun e w'=>e=.returned (.int .i64 (Yd A n.data.toList is_))∧w'=W.alloc (.cells #[.int .i64 (zq (zf n.data.toList) 10),.int .i64 (zq (zy A n.data.toList) 8),.int .i64 (zq (!(uH A n.data.toList == is_)) 12)] 38)):=fun W=>by
  have:=vU W [zq (zf n.data.toList) 10,zq (zy A n.data.toList) 8,zq (!(uH A n.data.toList == is_)) 12] 38 (by simp)
  rw [first11_di] at this
  exact this
 have HO:=za ho
 have HP:Hid (Yd A n.data.toList is_=0→∀ W,Below w.heap.size w W→Calls Tryz.prog 94 #[.pointer (some ⟨D,0,none⟩),.string n,.agg #[.string (zF (jk A n.data.toList)),.bool is_]] W fun e w'=>e=.returned (.tuple #[])∧zE w0 w D P M G (zM A n.data.toList (jk A n.data.toList,is_)) L S w'):=fun e W hb=>by
  obtain ⟨h1,h3,h4⟩:=diF_zero e
  have:=uA n (zF (jk A n.data.toList)) is_ (ho.later hb) (by have:=hg.few; omega) (ve h1) (by rw [xz]; exact jI (Xi hg h3))
  rw [zv] at this
  exact this.mono fun e w' ⟨he,hgo⟩=>⟨he,hgo.ahead hb⟩
 have HK:Hid (∀ W,Below w.heap.size w W→(Instr.lookup 78 (.map (some P)) (.string n) false).run Tryz.prog W=.ok (.agg #[.string (zF (jk A n.data.toList)),.bool (uH A n.data.toList)]) W):=fun W hb=>(ho.later hb).look1 n hn
 have hz:=Zh
 clear ho hg hn
 unfold Ff
 generalize zM A n.data.toList (jk A n.data.toList,is_)=A' at *
 generalize Yd A n.data.toList is_=r at *
 generalize zq (zf n.data.toList) 10=e0 at *
 generalize zq (zy A n.data.toList) 8=e2 at *
 generalize zq (!(uH A n.data.toList == is_)) 12=e3 at *
 generalize uH A n.data.toList=dd at *
 generalize zF (jk A n.data.toList)=ss at *
 by_cases h0:r=0
 ·
  subst h0
  rw [if_pos rfl]
  have HP2:=za (HP.out rfl)
  clear HP
  go_enter Tryz.func51,Tryz.ntmps51
  have HB0:Hid (Below w.heap.size w w):=Below.refl _ _
  go_wp2_with fail
  with_reducible refine (HN.out w HB0.out).mono ?_
  rintro e u1 ⟨rfl,hb⟩
  have HB1:=za (z8 HB0.out hb)
  clear hb
  go_wp2_with fail
  with_reducible refine (HI.out u1 HB1.out).mono ?_
  rintro e u2 ⟨rfl,hb⟩
  have HB2:=za (z8 HB1.out hb)
  clear hb
  go_wp2_with fail
  with_reducible refine (HL.out u2 HB2.out).mono ?_
  rintro e u3 ⟨rfl,hb⟩
  have HB3:=za (z8 HB2.out hb)
  clear hb
  go_wp2_with fail
  with_reducible refine (HFS.out _).mono ?_
  rintro e ub ⟨rfl,hub⟩
  have HB:Hid (Below w.heap.size w ub):=by
   show Below _ _ _
   rw [hub]; exact z7 HB3.out _
  clear hub HFS HB0 HB1 HB2 HB3 HN HI HL
  have c0:=(HO.out.later HB.out).c0
  have hk:=HK.out _ HB.out
  have HBA:Hid (Below w.heap.size w (ub.alloc (.cells #[.string ss,.bool is_] 109))):=z7 HB.out _
  clear HK
  go_wp2_with fail
  with_reducible refine (HP2.out _ HBA.out).mono ?_
  rintro e w5 ⟨rfl,hg⟩
  have HF:=za hg
  clear hg HP2 HB HBA c0 hk
  go_wp2
  go_ret
  exact ⟨rfl,HF.out⟩
 ·
  rw [if_neg h0]
  clear HP HK
  have q1:(r == 0)=false:=by simpa using h0
  have q2:¬ r=0:=h0
  go_enter Tryz.func51,Tryz.ntmps51
  have HB0:Hid (Below w.heap.size w w):=Below.refl _ _
  go_wp2_with fail
  with_reducible refine (HN.out w HB0.out).mono ?_
  rintro e u1 ⟨rfl,hb⟩
  have HB1:=za (z8 HB0.out hb)
  clear hb
  go_wp2_with fail
  with_reducible refine (HI.out u1 HB1.out).mono ?_
  rintro e u2 ⟨rfl,hb⟩
  have HB2:=za (z8 HB1.out hb)
  clear hb
  go_wp2_with fail
  with_reducible refine (HL.out u2 HB2.out).mono ?_
  rintro e u3 ⟨rfl,hb⟩
  have HB3:=za (z8 HB2.out hb)
  clear hb
  go_wp2_with fail
  with_reducible refine (HFS.out _).mono ?_
  rintro e ub ⟨rfl,hub⟩
  have HB:Hid (Below w.heap.size w ub):=by
   show Below _ _ _
   rw [hub]; exact z7 HB3.out _
  clear hub HFS HB0 HB1 HB2 HB3 HN HI HL
  go_wp2
  go_ret
  exact ⟨rfl,HO.out.still HB.out⟩
def Fk (A:zG) (n:List UInt8):zG:=if Z4 A n=0 then yr A n else A
def Fj (A:zG) (L:zQ) (n:List UInt8):zQ:=if Z4 A n=0 then vK L n else L
def Fi (A:zG) (S:zw) (n:List UInt8):zw:=if Z4 A n=0 then jO S n else S
set_option maxRecDepth 100000 in
theorem fe (n:ByteArray) (ho:zo w0 w D P M G A L S) (hg:zt A L S k) (hn:n.size≤9223372036854775807) :
  Calls Tryz.prog 30 #[.pointer (some ⟨D,0,none⟩),.string n] w fun e w'=>e=.returned (.int .i64 (Z4 A n.data.toList))∧zE w0 w D P M G (Fk A n.data.toList) (Fj A L n.data.toList) (Fi A S n.data.toList) w':=by
 have HN:Hid (∀ W,Below w.heap.size w W→Calls Tryz.prog 65 #[.string n] W fun e w'=>e=.returned (.int .i64 (zq (zf n.data.toList) 10))∧Below W.heap.size W w'):=fun W hb=>yf n W hn
 have HI:Hid (∀ W,Below w.heap.size w W→Calls Tryz.prog 66 #[.pointer (some ⟨D,0,none⟩),.string n] W fun e w'=>e=.returned (.int .i64 (zq (zy A n.data.toList) 8))∧Below W.heap.size W w'):=fun W hb=>yS n (ho.later hb) hn
 have HFS:Hid (∀ W:World,Calls Tryz.prog 64 #[.slice (some ⟨W.heap.size,0,none⟩) 2 2] (W.alloc (.cells #[.int .i64 (zq (zf n.data.toList) 10),.int .i64 (zq (zy A n.data.toList) 8)] 38)) fun e w'=>e=.returned (.int .i64 (Z4 A n.data.toList))∧w'=W.alloc (.cells #[.int .i64 (zq (zf n.data.toList) 10),.int .i64 (zq (zy A n.data.toList) 8)] 38)):=fun W=>by
  have:=vU W [zq (zf n.data.toList) 10,zq (zy A n.data.toList) 8] 38 (by simp)
  rw [first11_de] at this
  exact this
 have HO:=za ho
 have HDR:Hid (∀ W ty,Below w.heap.size w W→∃ w',(Builtin.delete_ #[78,9] ty #[.map (some P),.string n]).run Tryz.prog W=.ok (.tuple #[]) w'∧zE w0 w D P M G (yr A n.data.toList) L S w'):=fun W ty hb=>by
  obtain ⟨w',h1,h2⟩:=(ho.later hb).drop n hn ty
  exact ⟨w',h1,h2.ahead hb⟩
 have HMD:Hid (∀ W A1 L1 S1,zo w0 W D P M G A1 L1 S1→Calls Tryz.prog 90 #[.pointer (some ⟨M,0,none⟩),.string n] W fun e w'=>e=.returned (.bool (xG L1 n.data.toList))∧zE w0 W D P M G A1 (vK L1 n.data.toList) S1 w'):=fun W A1 L1 S1 h=>h.mdrop n hn
 have HGR:Hid (∀ W A1 L1,zo w0 W D P M G A1 L1 S→Calls Tryz.prog 91 #[.pointer (some ⟨G,0,none⟩),.string n] W fun e w'=>e=.returned (.int .i64 ((yX S n.data.toList).length:Nat))∧zE w0 W D P M G A1 L1 (jO S n.data.toList) w'):=fun W A1 L1 h=>h.gremove hg.grp n hn
 clear ho hg hn
 unfold Fk Fj Fi
 generalize Z4 A n.data.toList=r at *
 generalize zq (zf n.data.toList) 10=e0 at *
 generalize zq (zy A n.data.toList) 8=e2 at *
 by_cases h0:r=0
 ·
  subst h0
  rw [if_pos rfl,if_pos rfl,if_pos rfl]
  generalize (yX S n.data.toList).length=cnt at *
  generalize jO S n.data.toList=S' at *
  generalize yr A n.data.toList=A' at *
  go_enter Tryz.func30,Tryz.ntmps30
  have HB0:Hid (Below w.heap.size w w):=Below.refl _ _
  go_wp2_with fail
  with_reducible refine (HN.out w HB0.out).mono ?_
  rintro e u1 ⟨rfl,hb⟩
  have HB1:=za (z8 HB0.out hb)
  clear hb
  go_wp2_with fail
  with_reducible refine (HI.out u1 HB1.out).mono ?_
  rintro e u2 ⟨rfl,hb⟩
  have HB2:=za (z8 HB1.out hb)
  clear hb
  go_wp2_with fail
  with_reducible refine (HFS.out _).mono ?_
  rintro e ub ⟨rfl,hub⟩
  have HB:Hid (Below w.heap.size w ub):=by
   show Below _ _ _
   rw [hub]; exact z7 HB2.out _
  clear hub HFS HB0 HB1 HB2 HN HI
  have c0:=(HO.out.later HB.out).c0
  have hdr:=fun ty=>HDR.out ub ty HB.out
  obtain ⟨w1,hrun,hgo⟩:=hdr 0
  have HG1:=za hgo
  have c1:=hgo.1.c1
  have HMD1:=za (HMD.out w1 _ _ _ hgo.1)
  clear hdr hgo HDR HMD
  go_wp2_with fail
  with_reducible refine HMD1.out.mono ?_
  rintro e w2 ⟨rfl,hgo⟩
  have HG2:=za (HG1.out.next hgo)
  have c2:=hgo.1.c2
  have HGR1:=za (HGR.out w2 _ _ hgo.1)
  clear hgo HGR HMD1 HG1 c1 c0 hrun
  go_wp2_with fail
  with_reducible refine HGR1.out.mono ?_
  rintro e w3 ⟨rfl,hgo⟩
  have HF:=za (HG2.out.next hgo)
  clear hgo HGR1 HG2 c2
  go_wp2
  go_ret
  exact ⟨rfl,HF.out⟩
 ·
  rw [if_neg h0,if_neg h0,if_neg h0]
  clear HDR HMD HGR
  have q1:(r == 0)=false:=by simpa using h0
  have q2:¬ r=0:=h0
  go_enter Tryz.func30,Tryz.ntmps30
  have HB0:Hid (Below w.heap.size w w):=Below.refl _ _
  go_wp2_with fail
  with_reducible refine (HN.out w HB0.out).mono ?_
  rintro e u1 ⟨rfl,hb⟩
  have HB1:=za (z8 HB0.out hb)
  clear hb
  go_wp2_with fail
  with_reducible refine (HI.out u1 HB1.out).mono ?_
  rintro e u2 ⟨rfl,hb⟩
  have HB2:=za (z8 HB1.out hb)
  clear hb
  go_wp2_with fail
  with_reducible refine (HFS.out _).mono ?_
  rintro e ub ⟨rfl,hub⟩
  have HB:Hid (Below w.heap.size w ub):=by
   show Below _ _ _
   rw [hub]; exact z7 HB2.out _
  clear hub HFS HB0 HB1 HB2 HN HI
  go_wp2
  go_ret
  exact ⟨rfl,HO.out.still HB.out⟩
theorem sm11_eq (n m:List UInt8):(zf n=true∧xq m=true∧zy A n=true→qy A L n m=qY L n m∧Y2 A L n m=Vk L n m)∧(¬ (zf n=true∧xq m=true∧zy A n=true)→qy A L n m=(if zf n then (if xq m then (if zy A n then 0 else 8) else 11) else 10)∧Y2 A L n m=L):=by
 constructor
 ·
  rintro ⟨h1,h2,h3⟩
  have h4:qY L n m=0∨qY L n m=9:=by
   unfold qY
   rw [if_pos h1]
   by_cases hm:m=[]
   ·
    rw [if_pos hm]; exact .inl rfl
   ·
    have h5:yR m=true:=by unfold xq at h2; rw [decide_eq_false hm,Bool.false_or] at h2; exact h2
    rw [if_neg hm,if_pos h5]
    cases UX L n (zL m)
    ·
     exact .inl rfl
    ·
     exact .inr rfl
  have e1:qy A L n m=qY L n m:=by
   unfold qy Js
   rw [h1,h2,h3]
   rcases h4 with h | h <;> rw [h] <;> rfl
  refine ⟨e1,?_⟩
  unfold Y2
  rw [e1]
  by_cases h:qY L n m=0
  ·
   rw [if_pos h]
  ·
   rw [if_neg h]; unfold Vk; rw [if_neg h]
 ·
  intro hq
  have e1:qy A L n m=(if zf n then (if xq m then (if zy A n then 0 else 8) else 11) else 10):=by
   unfold qy Js
   revert hq
   cases zf n <;> cases xq m <;> cases zy A n <;> simp
  refine ⟨e1,?_⟩
  unfold Y2
  rw [e1,if_neg]
  revert hq
  cases zf n <;> cases xq m <;> cases zy A n <;> simp
set_option maxRecDepth 100000 in
theorem qX (n m:ByteArray) (ho:zo w0 w D P M G A L S) (hl:L.length<100) (h5:ud w) (hn:n.size≤9223372036854775807) (hm:m.size≤9223372036854775807) :
  Calls Tryz.prog 41 #[.pointer (some ⟨D,0,none⟩),.string n,.string m] w fun e w'=>e=.returned (.int .i64 (qy A L n.data.toList m.data.toList))∧zE w0 w D P M G A (Y2 A L n.data.toList m.data.toList) S w':=by
 have HN:Hid (∀ W,Below w.heap.size w W→Calls Tryz.prog 65 #[.string n] W fun e w'=>e=.returned (.int .i64 (zq (zf n.data.toList) 10))∧Below W.heap.size W w'):=fun W hb=>yf n W hn
 have HH:Hid (∀ W,Below w.heap.size w W→Calls Tryz.prog 112 #[.string m] W fun e w'=>e=.returned (.int .i64 (zq (xq m.data.toList) 11))∧Below W.heap.size W w'):=fun W hb=>V7 m W hm (h5.later hb)
 have HI:Hid (∀ W,Below w.heap.size w W→Calls Tryz.prog 66 #[.pointer (some ⟨D,0,none⟩),.string n] W fun e w'=>e=.returned (.int .i64 (zq (zy A n.data.toList) 8))∧Below W.heap.size W w'):=fun W hb=>yS n (ho.later hb) hn
 have HFS:Hid (∀ W:World,Calls Tryz.prog 64 #[.slice (some ⟨W.heap.size,0,none⟩) 3 3] (W.alloc (.cells #[.int .i64 (zq (zf n.data.toList) 10),.int .i64 (zq (xq m.data.toList) 11),.int .i64 (zq (zy A n.data.toList) 8)] 38)) fun e w'=>e=.returned (.int .i64 (if zf n.data.toList then (if xq m.data.toList then (if zy A n.data.toList then 0 else 8) else 11) else 10))∧w'=W.alloc (.cells #[.int .i64 (zq (zf n.data.toList) 10),.int .i64 (zq (xq m.data.toList) 11),.int .i64 (zq (zy A n.data.toList) 8)] 38)):=fun W=>by
  have:=vU W [zq (zf n.data.toList) 10,zq (xq m.data.toList) 11,zq (zy A n.data.toList) 8] 38 (by simp)
  rw [first11_sm] at this
  exact this
 have HO:=za ho
 have HP:Hid (zf n.data.toList=true→∀ W,Below w.heap.size w W→Calls Tryz.prog 113 #[.pointer (some ⟨D,0,none⟩),.string n,.string m] W fun e w'=>e=.returned (.int .i64 (qY L n.data.toList m.data.toList))∧zE w0 w D P M G A (Vk L n.data.toList m.data.toList) S w'):=fun h1 W hb =>
  (jf n m (ho.later hb) hl (h5.later hb) (ve h1) hm).mono fun e w' ⟨he,hgo⟩=>⟨he,hgo.ahead hb⟩
 have HX:Hid ((zf n.data.toList=true∧xq m.data.toList=true∧zy A n.data.toList=true→qy A L n.data.toList m.data.toList=qY L n.data.toList m.data.toList∧Y2 A L n.data.toList m.data.toList=Vk L n.data.toList m.data.toList)∧(¬ (zf n.data.toList=true∧xq m.data.toList=true∧zy A n.data.toList=true)→qy A L n.data.toList m.data.toList=(if zf n.data.toList then (if xq m.data.toList then (if zy A n.data.toList then 0 else 8) else 11) else 10)∧Y2 A L n.data.toList m.data.toList=L)):=sm11_eq n.data.toList m.data.toList
 clear ho hl hn hm h5
 by_cases hq:zf n.data.toList=true∧xq m.data.toList=true∧zy A n.data.toList=true
 ·
  obtain ⟨x1,x2⟩:=HX.out.1 hq
  rw [x1,x2]
  have HP2:=za (HP.out hq.1)
  obtain ⟨q1,q2,q3⟩:=hq
  rw [q1,q2,q3] at HFS
  rw [if_pos rfl,if_pos rfl,if_pos rfl] at HFS
  rw [q1] at HN
  rw [q2] at HH
  rw [q3] at HI
  clear HP HX x1 x2 q1 q2 q3
  generalize zq true 10=e0 at *
  generalize zq true 11=e1 at *
  generalize zq true 8=e2 at *
  generalize qY L n.data.toList m.data.toList=r at *
  generalize Vk L n.data.toList m.data.toList=L' at *
  go_enter Tryz.func41,Tryz.ntmps41
  have HB0:Hid (Below w.heap.size w w):=Below.refl _ _
  go_wp2_with fail
  with_reducible refine (HN.out w HB0.out).mono ?_
  rintro e u1 ⟨rfl,hb⟩
  have HB1:=za (z8 HB0.out hb)
  clear hb
  go_wp2_with fail
  with_reducible refine (HH.out u1 HB1.out).mono ?_
  rintro e u2 ⟨rfl,hb⟩
  have HB2:=za (z8 HB1.out hb)
  clear hb
  go_wp2_with fail
  with_reducible refine (HI.out u2 HB2.out).mono ?_
  rintro e u3 ⟨rfl,hb⟩
  have HB3:=za (z8 HB2.out hb)
  clear hb
  go_wp2_with fail
  with_reducible refine (HFS.out _).mono ?_
  rintro e ub ⟨rfl,hub⟩
  have HB:Hid (Below w.heap.size w ub):=by
   show Below _ _ _
   rw [hub]; exact z7 HB3.out _
  clear hub HFS HB0 HB1 HB2 HB3 HN HH HI
  go_wp2_with fail
  with_reducible refine (HP2.out _ HB.out).mono ?_
  rintro e w5 ⟨rfl,hg⟩
  have HF:=za hg
  clear hg HP2 HB
  go_wp2
  go_ret
  exact ⟨rfl,HF.out⟩
 ·
  obtain ⟨x1,x2⟩:=HX.out.2 hq
  rw [x1,x2]
  have h0:¬ (if zf n.data.toList then (if xq m.data.toList then (if zy A n.data.toList then (0:Int) else 8) else 11) else 10)=0:=by
   revert hq
   cases zf n.data.toList <;> cases xq m.data.toList <;> cases zy A n.data.toList <;> simp
  clear HP HX x1 x2 hq
  generalize (if zf n.data.toList then (if xq m.data.toList then (if zy A n.data.toList then (0:Int) else 8) else 11) else 10)=r at *
  generalize zq (zf n.data.toList) 10=e0 at *
  generalize zq (xq m.data.toList) 11=e1 at *
  generalize zq (zy A n.data.toList) 8=e2 at *
  have q1:(r == 0)=false:=by simpa using h0
  have q2:¬ r=0:=h0
  have q3:(r != 0)=true:=by simpa using h0
  go_enter Tryz.func41,Tryz.ntmps41
  have HB0:Hid (Below w.heap.size w w):=Below.refl _ _
  go_wp2_with fail
  with_reducible refine (HN.out w HB0.out).mono ?_
  rintro e u1 ⟨rfl,hb⟩
  have HB1:=za (z8 HB0.out hb)
  clear hb
  go_wp2_with fail
  with_reducible refine (HH.out u1 HB1.out).mono ?_
  rintro e u2 ⟨rfl,hb⟩
  have HB2:=za (z8 HB1.out hb)
  clear hb
  go_wp2_with fail
  with_reducible refine (HI.out u2 HB2.out).mono ?_
  rintro e u3 ⟨rfl,hb⟩
  have HB3:=za (z8 HB2.out hb)
  clear hb
  go_wp2_with fail
  with_reducible refine (HFS.out _).mono ?_
  rintro e ub ⟨rfl,hub⟩
  have HB:Hid (Below w.heap.size w ub):=by
   show Below _ _ _
   rw [hub]; exact z7 HB3.out _
  clear hub HFS HB0 HB1 HB2 HB3 HN HH HI
  go_wp2
  go_ret
  exact ⟨rfl,HO.out.still HB.out⟩
set_option maxRecDepth 100000 in
theorem QB (g n:ByteArray) (ho:zo w0 w D P M G A L S) (hg:zt A L S k) (h9:k≤900) (hz:g.size≤9223372036854775807) (hn:n.size≤9223372036854775807) :
  Calls Tryz.prog 58 #[.pointer (some ⟨D,0,none⟩),.string g,.string n] w fun e w'=>e=.returned (.int .i64 (ZB A S g.data.toList n.data.toList))∧zE w0 w D P M G A L (Uw A S g.data.toList n.data.toList) w':=by
 have HN:Hid (∀ W,Below w.heap.size w W→Calls Tryz.prog 65 #[.string g] W fun e w'=>e=.returned (.int .i64 (zq (zf g.data.toList) 10))∧Below W.heap.size W w'):=fun W hb=>yf g W hz
 have HH:Hid (∀ W,Below w.heap.size w W→Calls Tryz.prog 65 #[.string n] W fun e w'=>e=.returned (.int .i64 (zq (zf n.data.toList) 10))∧Below W.heap.size W w'):=fun W hb=>yf n W hn
 have HI:Hid (∀ W,Below w.heap.size w W→Calls Tryz.prog 66 #[.pointer (some ⟨D,0,none⟩),.string n] W fun e w'=>e=.returned (.int .i64 (zq (zy A n.data.toList) 8))∧Below W.heap.size W w'):=fun W hb=>yS n (ho.later hb) hn
 have HFS:Hid (∀ W:World,Calls Tryz.prog 64 #[.slice (some ⟨W.heap.size,0,none⟩) 3 3] (W.alloc (.cells #[.int .i64 (zq (zf g.data.toList) 10),.int .i64 (zq (zf n.data.toList) 10),.int .i64 (zq (zy A n.data.toList) 8)] 38)) fun e w'=>e=.returned (.int .i64 (yT A g.data.toList n.data.toList))∧w'=W.alloc (.cells #[.int .i64 (zq (zf g.data.toList) 10),.int .i64 (zq (zf n.data.toList) 10),.int .i64 (zq (zy A n.data.toList) 8)] 38)):=fun W=>by
  have:=vU W [zq (zf g.data.toList) 10,zq (zf n.data.toList) 10,zq (zy A n.data.toList) 8] 38 (by simp)
  rw [VK] at this
  exact this
 have HO:=za ho
 have HP:Hid (∀ W,Below w.heap.size w W→Calls Tryz.prog 131 #[.pointer (some ⟨G,0,none⟩),.string g,.string n] W fun e w'=>e=.returned (.int .i64 (ql S g.data.toList n.data.toList))∧zE w0 w D P M G A L (qF S g.data.toList n.data.toList) w'):=fun W hb =>
  ((ho.later hb).gjoin hg.grp h9 g n hz hn).mono fun e w' ⟨he,hgo⟩=>⟨he,hgo.ahead hb⟩
 clear ho hg h9 hz hn
 unfold ZB Uw
 generalize ql S g.data.toList n.data.toList=x at *
 generalize qF S g.data.toList n.data.toList=S' at *
 generalize yT A g.data.toList n.data.toList=r at *
 generalize zq (zf g.data.toList) 10=e0 at *
 generalize zq (zf n.data.toList) 10=e1 at *
 generalize zq (zy A n.data.toList) 8=e2 at *
 by_cases h0:r=0
 ·
  subst h0
  rw [if_pos rfl,if_pos rfl]
  go_enter Tryz.func58,Tryz.ntmps58
  have HB0:Hid (Below w.heap.size w w):=Below.refl _ _
  go_wp2_with fail
  with_reducible refine (HN.out w HB0.out).mono ?_
  rintro e u1 ⟨rfl,hb⟩
  have HB1:=za (z8 HB0.out hb)
  clear hb
  go_wp2_with fail
  with_reducible refine (HH.out u1 HB1.out).mono ?_
  rintro e u2 ⟨rfl,hb⟩
  have HB2:=za (z8 HB1.out hb)
  clear hb
  go_wp2_with fail
  with_reducible refine (HI.out u2 HB2.out).mono ?_
  rintro e u3 ⟨rfl,hb⟩
  have HB3:=za (z8 HB2.out hb)
  clear hb
  go_wp2_with fail
  with_reducible refine (HFS.out _).mono ?_
  rintro e ub ⟨rfl,hub⟩
  have HB:Hid (Below w.heap.size w ub):=by
   show Below _ _ _
   rw [hub]; exact z7 HB3.out _
  clear hub HFS HB0 HB1 HB2 HB3 HN HH HI
  have c2:=(HO.out.later HB.out).c2
  go_wp2_with fail
  with_reducible refine (HP.out _ HB.out).mono ?_
  rintro e w5 ⟨rfl,hg⟩
  have HF:=za hg
  clear hg HP HB c2
  go_wp2
  go_ret
  exact ⟨rfl,HF.out⟩
 ·
  rw [if_neg h0,if_neg h0]
  clear HP
  have q1:(r == 0)=false:=by simpa using h0
  have q2:¬ r=0:=h0
  have q3:(r != 0)=true:=by simpa using h0
  go_enter Tryz.func58,Tryz.ntmps58
  have HB0:Hid (Below w.heap.size w w):=Below.refl _ _
  go_wp2_with fail
  with_reducible refine (HN.out w HB0.out).mono ?_
  rintro e u1 ⟨rfl,hb⟩
  have HB1:=za (z8 HB0.out hb)
  clear hb
  go_wp2_with fail
  with_reducible refine (HH.out u1 HB1.out).mono ?_
  rintro e u2 ⟨rfl,hb⟩
  have HB2:=za (z8 HB1.out hb)
  clear hb
  go_wp2_with fail
  with_reducible refine (HI.out u2 HB2.out).mono ?_
  rintro e u3 ⟨rfl,hb⟩
  have HB3:=za (z8 HB2.out hb)
  clear hb
  go_wp2_with fail
  with_reducible refine (HFS.out _).mono ?_
  rintro e ub ⟨rfl,hub⟩
  have HB:Hid (Below w.heap.size w ub):=by
   show Below _ _ _
   rw [hub]; exact z7 HB3.out _
  clear hub HFS HB0 HB1 HB2 HB3 HN HH HI
  go_wp2
  go_ret
  exact ⟨rfl,HO.out.still HB.out⟩
set_option maxRecDepth 100000 in
theorem Ur (g n:ByteArray) (ho:zo w0 w D P M G A L S) (hz:g.size≤9223372036854775807) (hn:n.size≤9223372036854775807) :
  Calls Tryz.prog 60 #[.pointer (some ⟨D,0,none⟩),.string g,.string n] w fun e w'=>e=.returned (.int .i64 (ZA A S g.data.toList n.data.toList))∧zE w0 w D P M G A L (Uu A S g.data.toList n.data.toList) w':=by
 have HN:Hid (∀ W,Below w.heap.size w W→Calls Tryz.prog 65 #[.string g] W fun e w'=>e=.returned (.int .i64 (zq (zf g.data.toList) 10))∧Below W.heap.size W w'):=fun W hb=>yf g W hz
 have HH:Hid (∀ W,Below w.heap.size w W→Calls Tryz.prog 65 #[.string n] W fun e w'=>e=.returned (.int .i64 (zq (zf n.data.toList) 10))∧Below W.heap.size W w'):=fun W hb=>yf n W hn
 have HI:Hid (∀ W,Below w.heap.size w W→Calls Tryz.prog 66 #[.pointer (some ⟨D,0,none⟩),.string n] W fun e w'=>e=.returned (.int .i64 (zq (zy A n.data.toList) 8))∧Below W.heap.size W w'):=fun W hb=>yS n (ho.later hb) hn
 have HFS:Hid (∀ W:World,Calls Tryz.prog 64 #[.slice (some ⟨W.heap.size,0,none⟩) 3 3] (W.alloc (.cells #[.int .i64 (zq (zf g.data.toList) 10),.int .i64 (zq (zf n.data.toList) 10),.int .i64 (zq (zy A n.data.toList) 8)] 38)) fun e w'=>e=.returned (.int .i64 (yT A g.data.toList n.data.toList))∧w'=W.alloc (.cells #[.int .i64 (zq (zf g.data.toList) 10),.int .i64 (zq (zf n.data.toList) 10),.int .i64 (zq (zy A n.data.toList) 8)] 38)):=fun W=>by
  have:=vU W [zq (zf g.data.toList) 10,zq (zf n.data.toList) 10,zq (zy A n.data.toList) 8] 38 (by simp)
  rw [VK] at this
  exact this
 have HO:=za ho
 have HP:Hid (∀ W,Below w.heap.size w W→Calls Tryz.prog 132 #[.pointer (some ⟨G,0,none⟩),.string g,.string n] W fun e w'=>e=.returned (.int .i64 (Ya S g.data.toList n.data.toList))∧zE w0 w D P M G A L (Zz S g.data.toList n.data.toList) w'):=fun W hb =>
  ((ho.later hb).gleave g n hz hn).mono fun e w' ⟨he,hgo⟩=>⟨he,hgo.ahead hb⟩
 clear ho  hz hn
 unfold ZA Uu
 generalize Ya S g.data.toList n.data.toList=x at *
 generalize Zz S g.data.toList n.data.toList=S' at *
 generalize yT A g.data.toList n.data.toList=r at *
 generalize zq (zf g.data.toList) 10=e0 at *
 generalize zq (zf n.data.toList) 10=e1 at *
 generalize zq (zy A n.data.toList) 8=e2 at *
 by_cases h0:r=0
 ·
  subst h0
  rw [if_pos rfl,if_pos rfl]
  go_enter Tryz.func60,Tryz.ntmps60
  have HB0:Hid (Below w.heap.size w w):=Below.refl _ _
  go_wp2_with fail
  with_reducible refine (HN.out w HB0.out).mono ?_
  rintro e u1 ⟨rfl,hb⟩
  have HB1:=za (z8 HB0.out hb)
  clear hb
  go_wp2_with fail
  with_reducible refine (HH.out u1 HB1.out).mono ?_
  rintro e u2 ⟨rfl,hb⟩
  have HB2:=za (z8 HB1.out hb)
  clear hb
  go_wp2_with fail
  with_reducible refine (HI.out u2 HB2.out).mono ?_
  rintro e u3 ⟨rfl,hb⟩
  have HB3:=za (z8 HB2.out hb)
  clear hb
  go_wp2_with fail
  with_reducible refine (HFS.out _).mono ?_
  rintro e ub ⟨rfl,hub⟩
  have HB:Hid (Below w.heap.size w ub):=by
   show Below _ _ _
   rw [hub]; exact z7 HB3.out _
  clear hub HFS HB0 HB1 HB2 HB3 HN HH HI
  have c2:=(HO.out.later HB.out).c2
  go_wp2_with fail
  with_reducible refine (HP.out _ HB.out).mono ?_
  rintro e w5 ⟨rfl,hg⟩
  have HF:=za hg
  clear hg HP HB c2
  go_wp2
  go_ret
  exact ⟨rfl,HF.out⟩
 ·
  rw [if_neg h0,if_neg h0]
  clear HP
  have q1:(r == 0)=false:=by simpa using h0
  have q2:¬ r=0:=h0
  have q3:(r != 0)=true:=by simpa using h0
  go_enter Tryz.func60,Tryz.ntmps60
  have HB0:Hid (Below w.heap.size w w):=Below.refl _ _
  go_wp2_with fail
  with_reducible refine (HN.out w HB0.out).mono ?_
  rintro e u1 ⟨rfl,hb⟩
  have HB1:=za (z8 HB0.out hb)
  clear hb
  go_wp2_with fail
  with_reducible refine (HH.out u1 HB1.out).mono ?_
  rintro e u2 ⟨rfl,hb⟩
  have HB2:=za (z8 HB1.out hb)
  clear hb
  go_wp2_with fail
  with_reducible refine (HI.out u2 HB2.out).mono ?_
  rintro e u3 ⟨rfl,hb⟩
  have HB3:=za (z8 HB2.out hb)
  clear hb
  go_wp2_with fail
  with_reducible refine (HFS.out _).mono ?_
  rintro e ub ⟨rfl,hub⟩
  have HB:Hid (Below w.heap.size w ub):=by
   show Below _ _ _
   rw [hub]; exact z7 HB3.out _
  clear hub HFS HB0 HB1 HB2 HB3 HN HH HI
  go_wp2
  go_ret
  exact ⟨rfl,HO.out.still HB.out⟩
set_option maxRecDepth 100000 in
theorem Zw (g:ByteArray) (ho:zo w0 w D P M G A L S) (hg:zt A L S k) (hz:g.size≤9223372036854775807) :
  Calls Tryz.prog 54 #[.pointer (some ⟨D,0,none⟩),.string g] w fun e w'=>e=.returned (.int .i64 (uM S g.data.toList))∧zE w0 w D P M G A L (qj S g.data.toList) w':=by
 have HP:=za (ho.gmake hg.grp g hz)
 have c2:=ho.c2
 clear ho hz
 generalize uM S g.data.toList=x at *
 generalize qj S g.data.toList=S' at *
 go_enter Tryz.func54,Tryz.ntmps54
 go_wp2_with fail
 with_reducible refine HP.out.mono ?_
 rintro e w5 ⟨rfl,hg⟩
 have HF:=za hg
 clear hg HP c2
 go_wp2
 go_ret
 exact ⟨rfl,HF.out⟩
set_option maxRecDepth 100000 in
theorem qq (g:ByteArray) (ho:zo w0 w D P M G A L S) (hz:g.size≤9223372036854775807) :
  Calls Tryz.prog 56 #[.pointer (some ⟨D,0,none⟩),.string g] w fun e w'=>e=.returned (.int .i64 (jR S g.data.toList))∧zE w0 w D P M G A L (jr S g.data.toList) w':=by
 have HP:=za (ho.gdrop g hz)
 have c2:=ho.c2
 clear ho hz
 generalize jR S g.data.toList=x at *
 generalize jr S g.data.toList=S' at *
 go_enter Tryz.func56,Tryz.ntmps56
 go_wp2_with fail
 with_reducible refine HP.out.mono ?_
 rintro e w5 ⟨rfl,hg⟩
 have HF:=za hg
 clear hg HP c2
 go_wp2
 go_ret
 exact ⟨rfl,HF.out⟩
end
end Go.Proofs.YtmcomnocpibiiaaGreatDoor
namespace Go.Proofs.YtmcomnocpibiiaaGreatDoor
open Go.RowKit Go.Maps Go.Sort Go.Shelf
set_option linter.unusedSectionVars false

theorem Fl {V:Type} (e:V→DataW Unit) (L:zH V):strKeys (un e L)=zb L:=by
 simp only [un,strKeys,List.map_map]; rfl
section
variable [Fr11] {w0 w:World} {D P M G:Nat} {A:zG} {L:zQ} {S:zw} {k:Nat}
set_option maxRecDepth 100000 in
theorem V3 (ho:zo w0 w D P M G A L S) (hr:zB A) (hf:A.length≤12):Calls Tryz.prog 76 #[.pointer (some ⟨D,0,none⟩)] w (yo (zb A) w):=by
 have eg:∀ args w,(callFunc 198 args).run Tryz.prog w=.ok (.enter 198 args) w:=enters_of Tryz.func198 (by kernel_rfl) rfl
 have bl:Below w.heap.size w (w.alloc (.cells #[.map (some P)] 78)):=z7 (Below.refl _ _) _
 have cS:∃ S:List (List UInt8)→Prop,(∀ ss,S ss→ss.Perm (zb A))∧SeqGives Fence.wide 2 Tryz.prog 198 #[.pointer (some ⟨w.heap.size,0,none⟩)] encStr S A.length (w.alloc (.cells #[.map (some P)] 78)):=by
  have ho':=ho
  obtain ⟨p,q,LM,pg,T,hd,_⟩:=ho'
  have hown:=World.ownsMap.alloc hd.acc (.cells #[.map (some P)] 78)
  have h:=AnyZ.keys_gives (ρ:=Tryz.keys11_ren) { Tryz.keys11 with } Fence.wide 2 trivial rfl (by omega) w.heap.size P _ (un ea11 A) _ (by simp) (by simp) hown
  rw [vC] at h
  exact ⟨_,fun ss h=>by rw [Fl] at h; exact h,h⟩
 obtain ⟨Ss,hS,hseq⟩:=cS
 have HK:Hid (Calls Tryz.prog 150 #[.map (some P)] w fun e w'=>e=.returned (.func (.func 198) #[] #[.pointer (some ⟨w.heap.size,0,none⟩)])∧w'=w.alloc (.cells #[.map (some P)] 78)) :=
  (callsIn_wide (n:=4)).1 (AnyZ.keys_in Tryz.keys11 Fence.wide 4 trivial rfl (some P) w)
 have HSF:=za (XN _ _ Ss A.length _ eg (by omega) (fun ss h=>by rw [(hS ss h).length_eq,yA]; omega) hseq)
 have HSS:Hid (∀ ss,Ss ss→ss.length=A.length∧ss.mergeSort (fun x y=>!(ltOf Lib.compareBytes) y x)=zb A):=fun ss h=>by
  have hp:=hS ss h
  exact ⟨by rw [hp.length_eq,yA],Q3 hr.names hp _ (fun x y=>by rw [lt7])⟩
 have hc:=ho.c0
 have BL:=za bl
 clear hseq hS ho bl
 go_enter Tryz.func76,Tryz.ntmps76
 go_wp2_with fail
 with_reducible refine HK.out.mono ?_
 rintro e w1 ⟨rfl,rfl⟩
 go_wp2_with fail
 with_reducible refine HSF.out.mono ?_
 rintro e w2 ⟨v,ss,rfl,hss,hrow,hnil,hb⟩
 obtain ⟨hl,hm⟩:=HSS.out ss hss
 have HF:Hid (yo (zb A) w (.returned v) w2):=by
  rw [hl,hm] at hrow
  refine ⟨v,rfl,?_,z8 BL.out hb⟩
  rw [yA]
  exact zA hrow (by simp)
 clear hss hrow hnil hb hl hm HSS HSF HK hc BL
 go_wp2
 go_ret
 exact HF.out

theorem uw (w:World):(zeroValue 37).run Tryz.prog w=.ok (.agg #[.string ⟨#[]⟩,.string ⟨#[]⟩,.string ⟨#[]⟩,.bool false,.slice none 0 0]) w:=by kernel_rfl
def VW (A:zG) (L:zQ) (S:zw) (n:ByteArray) (w W:World) (v:Value):Prop :=
 ∃ ga gc,v=.agg #[.string n,.string (zF (jk A n.data.toList)),.string (zF (xF L n.data.toList)),.bool (uH A n.data.toList),.slice ga (yX S n.data.toList).length gc]∧W.ownsRow w.heap.size 9 1 (.slice ga (yX S n.data.toList).length gc) (yX S n.data.toList).length ((yX S n.data.toList).map encStr)
def Tld11 (b:Nat) (n s m:ByteArray) (d:Bool) (gs:List (List UInt8)) (w W:World):Prop :=
 ∃ ga gc,zY W b (.string n) (.string s) (.string m) (.bool d) (.slice ga gs.length gc)∧W.ownsRow w.heap.size 9 1 (.slice ga gs.length gc) gs.length (gs.map encStr)∧Below w.heap.size w W
def YTl11 (D G b5:Nat) (n s m:ByteArray) (d:Bool) (gs:List (List UInt8)) (w:World):Nat→Value→World→Prop
 | 0,v,_=>v=.string n
 | 1,v,_=>v=.pointer (some ⟨b5,0,none⟩)
 | 2,v,_=>v=.string s
 | 3,v,_=>v=.string m
 | 4,v,_=>v=.pointer (some ⟨b5,1,none⟩)
 | 5,v,_=>v=.bool d
 | 8,v,_=>v=.pointer (some ⟨D,2,none⟩)
 | 9,v,_=>v=.pointer (some ⟨G,0,none⟩)
 | 10,v,_=>v=.string n
 | 11,v,W=>∃ ga gc,v=.slice ga gs.length gc∧W.ownsRow w.heap.size 9 1 (.slice ga gs.length gc) gs.length (gs.map encStr)
 | 12,v,W=>∃ ga gc,v=.agg #[.string n,.string s,.string m,.bool d,.slice ga gs.length gc]∧W.ownsRow w.heap.size 9 1 (.slice ga gs.length gc) gs.length (gs.map encStr)
 | _,v,_=>v=.pointer (some ⟨D,0,none⟩)
theorem zI {w w':World} {b:Nat} {e size n:Nat} {v:Value} {xs:List Value} (h:w.ownsRow b e size v n xs) (hb:Below w.heap.size w w'):w'.ownsRow b e size v n xs:=by
 refine ⟨h.1,?_⟩
 rcases h.2 with hn | ⟨g,cap,cur,e1,h0,hg,hr⟩
 ·
  exact .inl hn
 ·
  exact .inr ⟨g,cap,cur,e1,h0,(hb.block g (Array.getElem?_eq_some_iff.1 hg).1).trans hg,hr⟩
theorem YTl11_keep {D G b5:Nat} {n s m:ByteArray} {d:Bool} {gs:List (List UInt8)} {w W W':World} (hb:Below W.heap.size W W') (j:Nat) (u:Value) (h:YTl11 D G b5 n s m d gs w j u W):YTl11 D G b5 n s m d gs w j u W':=by
 match j,h with
 | 0,h=>exact h
 | 1,h=>exact h
 | 2,h=>exact h
 | 3,h=>exact h
 | 4,h=>exact h
 | 5,h=>exact h
 | 6,h=>exact h
 | 7,h=>exact h
 | 8,h=>exact h
 | 9,h=>exact h
 | 10,h=>exact h
 | 11,h =>
  obtain ⟨ga,gc,e,hr⟩:=h
  exact ⟨ga,gc,e,zI hr hb⟩
 | 12,h =>
  obtain ⟨ga,gc,e,hr⟩:=h
  exact ⟨ga,gc,e,zI hr hb⟩
 | _+13,h=>exact h
set_option maxRecDepth 100000 in
theorem Q2 (n:ByteArray) (ho:zo w0 w D P M G A L S) (hk:zK S k) (hn:n.size≤9223372036854775807) :
  Calls Tryz.prog 67 #[.pointer (some ⟨D,0,none⟩),.string n] w fun e w'=>∃ v,e=.returned v∧VW A L S n w w' v∧Below w.heap.size w w':=by
 have HO:=za ho
 have hz:=Zh
 have hzu:=uw
 have HLK:Hid (∀ W,Below w.heap.size w W→(Instr.lookup 78 (.map (some P)) (.string n) false).run Tryz.prog W=.ok (.agg #[.string (zF (jk A n.data.toList)),.bool (uH A n.data.toList)]) W):=fun W hb=>(ho.later hb).look1 n hn
 have HOF:Hid (∀ W,Below w.heap.size w W→Calls Tryz.prog 140 #[.pointer (some ⟨M,0,none⟩),.string n] W fun e w'=>e=.returned (.tuple #[.string (zF (xF L n.data.toList)),.bool (xG L n.data.toList)])∧w'=W):=fun W hb=>(ho.later hb).mof n hn
 have HGO:Hid (∀ W,Below w.heap.size w W→Calls Tryz.prog 141 #[.pointer (some ⟨G,0,none⟩),.string n] W (yo (yX S n.data.toList) W)):=fun W hb=>(ho.later hb).gof hk n hn
 unfold VW
 clear ho hk hn
 generalize zF (jk A n.data.toList)=ss at *
 generalize uH A n.data.toList=dd at *
 generalize zF (xF L n.data.toList)=mm at *
 generalize xG L n.data.toList=hm at *
 generalize yX S n.data.toList=gs at *
 have hb1:Below w.heap.size w (w.alloc (.cells #[.string ⟨#[]⟩,.string ⟨#[]⟩,.string ⟨#[]⟩,.bool false,.slice none 0 0] 37)):=z7 (Below.refl _ _) _
 have hb2:Below w.heap.size w ((w.alloc (.cells #[.string ⟨#[]⟩,.string ⟨#[]⟩,.string ⟨#[]⟩,.bool false,.slice none 0 0] 37)).alloc (.cells #[.string ss,.bool dd] 109)):=z7 hb1 _
 have hz1:zY (w.alloc (.cells #[.string ⟨#[]⟩,.string ⟨#[]⟩,.string ⟨#[]⟩,.bool false,.slice none 0 0] 37)) w.heap.size (.string ⟨#[]⟩) (.string ⟨#[]⟩) (.string ⟨#[]⟩) (.bool false) (.slice none 0 0):=heap_alloc_new w _
 have HZ:Hid (zY ((w.alloc (.cells #[.string ⟨#[]⟩,.string ⟨#[]⟩,.string ⟨#[]⟩,.bool false,.slice none 0 0] 37)).alloc (.cells #[.string ss,.bool dd] 109)) w.heap.size (.string ⟨#[]⟩) (.string ⟨#[]⟩) (.string ⟨#[]⟩) (.bool false) (.slice none 0 0)):=(Below.heap_alloc _ _ _ (by simp)).trans hz1
 have HA:=za (ac11_new (w.alloc (.cells #[.string ⟨#[]⟩,.string ⟨#[]⟩,.string ⟨#[]⟩,.bool false,.slice none 0 0] 37)) ss dd)
 have c0:=(HO.out.later hb1).c0
 have c1:=(HO.out.later hb2).c1
 have hl:=HLK.out _ hb1
 have HOF1:=za (HOF.out _ hb2)
 have HB2:=za hb2
 clear hb1 hb2 hz1 HOF
 go_enter Tryz.func67,Tryz.ntmps67
 go_wp2_with fail
 with_reducible refine HOF1.out.mono ?_
 rintro e w2 ⟨rfl,hw2⟩
 rw [← hw2] at HZ HA HB2
 have hsz:(w.alloc (.cells #[.string ⟨#[]⟩,.string ⟨#[]⟩,.string ⟨#[]⟩,.bool false,.slice none 0 0] 37)).heap.size=w.heap.size+1:=by simp
 rw [hsz] at HA
 have HLT:=za (HA.out.lt)
 clear hw2 hl HOF1 c0 c1 HLK hsz
 go_wp2_with fail
 have HLT2:Hid (w.heap.size<w2.heap.size):=by have:=HLT.out; show _<_; omega
 have HSO:Hid (∀ W,Below w2.heap.size w2 W→∀ ga gc,W.ownsRow w.heap.size 9 1 (.slice ga gs.length gc) gs.length (gs.map encStr)→Tld11 w.heap.size n ss mm dd gs w (set5 W w.heap.size (.string n) (.string ss) (.string mm) (.bool dd) (.slice ga gs.length gc))):=fun W hb ga gc ho=>by
  have hz:zY W w.heap.size (.string ⟨#[]⟩) (.string ⟨#[]⟩) (.string ⟨#[]⟩) (.bool false) (.slice none 0 0):=(hb.block _ HLT2.out).trans HZ.out
  have ht:zm (fun i=>i=w.heap.size) W (set5 W w.heap.size (.string n) (.string ss) (.string mm) (.bool dd) (.slice ga gs.length gc)):=jB (zm.refl (fun i=>i=w.heap.size) W) w.heap.size (fun _=>rfl) _ _ _ _ _
  have hbw:=z8 HB2.out hb
  refine ⟨ga,gc,hz.set5 _ _ _ _ _,?_,hbw.trans (ht.below_at hbw.size (fun i e=>by omega))⟩
  refine ⟨ho.1,?_⟩
  rcases ho.2 with hn | ⟨g,cap,cur,e1,h0,hg,hr⟩
  ·
   exact .inl hn
  ·
   have hne:g≠w.heap.size:=fun e=>by
    subst e
    rw [show W.heap[w.heap.size]? = _ from hz] at hg
    injection hg with hg
    injection hg with _ h
    exact absurd h (by decide)
   exact .inr ⟨g,cap,cur,e1,h0,(ht.block g (Array.getElem?_eq_some_iff.1 hg).1 hne).trans hg,hr⟩
 refine yL (by kernel_rfl) 13 (fun W=>Below w2.heap.size w2 W) (fun W=>Tld11 w.heap.size n ss mm dd gs w W) (YTl11 D G (w.heap.size+1) n ss mm dd gs w) (fun _=>True) ?F ?hF (by kernel_rfl) (by kernel_rfl) (by kernel_rfl) (by kernel_rfl) (by decide) (zS (Below.refl _ _)) ?step ?fin
 case hF =>
  intro x
  simp only [List.map_cons,List.map_nil,vI,Act.put,List.setIfInBounds_toArray,List.set_cons_zero,List.set_cons_succ,Nat.zero_add,Nat.reduceAdd]
  exact rfl
 case step =>
  refine ⟨?_,?_,?_,?_,?_,?_,?_,?_,?_,?_,?_,?_,?_,?_,trivial⟩
  ·
   intro x W
   refine ⟨fun _ hW hdep K hK=>?_,(fun h=>absurd h (by decide)),(fun h=>absurd h (by decide))⟩
   clear hdep
   go_simp
   exact hK _ _ rfl hW (fun _ _ h=>h)
  ·
   intro x W
   refine ⟨fun _ hW hdep K hK=>?_,(fun h=>absurd h (by decide)),(fun h=>absurd h (by decide))⟩
   clear hdep
   go_simp
   exact hK _ _ rfl hW (fun _ _ h=>h)
  ·
   intro x W
   refine ⟨fun _ hW hdep K hK=>?_,(fun h=>absurd h (by decide)),(fun h=>absurd h (by decide))⟩
   have h1:x 1=_:=hdep 1 rfl
   have hx:=HA.out.later hW
   have c0:=hx.c0
   clear hdep
   simp only [h1] at hK
   go_simp
   exact hK _ _ rfl hW (fun _ _ h=>h)
  ·
   intro x W
   refine ⟨fun _ hW hdep K hK=>?_,(fun h=>absurd h (by decide)),(fun h=>absurd h (by decide))⟩
   clear hdep
   go_simp
   exact hK _ _ rfl hW (fun _ _ h=>h)
  ·
   intro x W
   refine ⟨fun _ hW hdep K hK=>?_,(fun h=>absurd h (by decide)),(fun h=>absurd h (by decide))⟩
   clear hdep
   go_simp
   exact hK _ _ rfl hW (fun _ _ h=>h)
  ·
   intro x W
   refine ⟨fun _ hW hdep K hK=>?_,(fun h=>absurd h (by decide)),(fun h=>absurd h (by decide))⟩
   have h4:x 4=_:=hdep 4 rfl
   have hx:=HA.out.later hW
   have c1:=hx.c1
   clear hdep
   simp only [h4] at hK
   go_simp
   exact hK _ _ rfl hW (fun _ _ h=>h)
  ·
   intro x W
   refine ⟨fun _ hW hdep K hK=>?_,(fun h=>absurd h (by decide)),(fun h=>absurd h (by decide))⟩
   clear hdep
   go_simp
   exact hK _ _ rfl hW (fun _ _ h=>h)
  ·
   intro x W
   refine ⟨fun _ hW hdep K hK=>?_,(fun h=>absurd h (by decide)),(fun h=>absurd h (by decide))⟩
   have h6:x 6=_:=hdep 6 rfl
   clear hdep
   simp only [h6] at hK
   go_simp
   exact hK _ _ rfl hW (fun _ _ h=>h)
  ·
   intro x W
   refine ⟨fun _ hW hdep K hK=>?_,(fun h=>absurd h (by decide)),(fun h=>absurd h (by decide))⟩
   have h7:x 7=_:=hdep 7 rfl
   clear hdep
   simp only [h7] at hK
   go_simp
   exact hK _ _ rfl hW (fun _ _ h=>h)
  ·
   intro x W
   refine ⟨fun _ hW hdep K hK=>?_,(fun h=>absurd h (by decide)),(fun h=>absurd h (by decide))⟩
   have h8:x 8=_:=hdep 8 rfl
   have c:=(HO.out.later (z8 HB2.out hW)).c2
   clear hdep
   simp only [h8] at hK
   go_simp
   exact hK _ _ rfl hW (fun _ _ h=>h)
  ·
   intro x W
   refine ⟨fun _ hW hdep K hK=>?_,(fun h=>absurd h (by decide)),(fun h=>absurd h (by decide))⟩
   clear hdep
   go_simp
   exact hK _ _ rfl hW (fun _ _ h=>h)
  ·
   intro x W
   refine ⟨fun _ hW hdep K hK=>?_,(fun h=>absurd h (by decide)),(fun h=>absurd h (by decide))⟩
   have h9:x 9=_:=hdep 9 rfl
   have h10:x 10=_:=hdep 10 rfl
   have hc:=HGO.out W (z8 HB2.out hW)
   clear hdep
   simp only [h9,h10] at hK
   go_simp
   refine hc.mono ?_
   rintro e W' ⟨v,rfl,hr,hb⟩
   obtain ⟨ga,gc,rfl⟩:=xt hr
   exact hK _ _ ⟨ga,gc,rfl,zA hr (z8 HB2.out hW).size⟩ (z8 hW hb) (fun j u h=>YTl11_keep hb j u h)
  ·
   intro x W
   refine ⟨fun _ hW hdep K hK=>?_,(fun h=>absurd h (by decide)),(fun h=>absurd h (by decide))⟩
   have h0:x 0=_:=hdep 0 rfl
   have h2:x 2=_:=hdep 2 rfl
   have h3:x 3=_:=hdep 3 rfl
   have h5:x 5=_:=hdep 5 rfl
   have hA:∃ ga gc,x 11=.slice ga gs.length gc∧W.ownsRow w.heap.size 9 1 (.slice ga gs.length gc) gs.length (gs.map encStr):=hdep 11 rfl
   obtain ⟨ga,gc,h11,hr⟩:=hA
   simp only [h11] at hK
   clear hdep
   simp only [h0,h2,h3,h5] at hK
   go_simp
   exact hK _ _ ⟨ga,gc,rfl,hr⟩ hW (fun _ _ h=>h)
  ·
   intro x W
   refine ⟨(fun h=>absurd h (by decide)),fun _ hW hdep K hK=>?_,(fun h=>absurd h (by decide))⟩
   have hA:∃ ga gc,x 12=.agg #[.string n,.string ss,.string mm,.bool dd,.slice ga gs.length gc]∧W.ownsRow w.heap.size 9 1 (.slice ga gs.length gc) gs.length (gs.map encStr):=hdep 12 rfl
   obtain ⟨ga,gc,h12,hr⟩:=hA
   simp only [h12] at hK
   have hz:zY W w.heap.size (.string ⟨#[]⟩) (.string ⟨#[]⟩) (.string ⟨#[]⟩) (.bool false) (.slice none 0 0):=(hW.block _ HLT2.out).trans HZ.out
   have f1:=hz.free
   have q0:=HSO.out W hW ga gc hr
   have r0:_=some (.string ⟨#[]⟩:Value):=hz.at_ 0
   have r1:_=some (.string ⟨#[]⟩:Value):=hz.at_ 1
   have r2:_=some (.string ⟨#[]⟩:Value):=hz.at_ 2
   have r3:_=some (.bool false:Value):=hz.at_ 3
   have r4:_=some (.slice none 0 0:Value):=hz.at_ 4
   clear hz
   clear hdep
   go_simp
   exact hK undef _ trivial q0
 case fin =>
  intro x W hW _
  obtain ⟨ga,gc,hz,hr,hb⟩:=hW
  have HR:=za hr
  have HBB:=za hb
  have q0:_=some (.string n:Value):=hz.at_ 0
  have q1:_=some (.string ss:Value):=hz.at_ 1
  have q2:_=some (.string mm:Value):=hz.at_ 2
  have q3:_=some (.bool dd:Value):=hz.at_ 3
  have q4:_=some (.slice ga gs.length gc:Value):=hz.at_ 4
  clear hr hb hz HSO HZ HA HB2 HGO HO HLT HLT2
  go_wp2_with fail
  refine bodyPost_ret (v:=.agg #[.string n,.string ss,.string mm,.bool dd,.slice ga gs.length gc]) ?_ rfl ⟨_,rfl,⟨ga,gc,rfl,HR.out⟩,HBB.out⟩
  simp [results,Tryz.results67,go_sem,q0,q1,q2,q3,q4]
end

set_option maxRecDepth 100000 in
theorem jh (w:World):Calls Tryz.prog 13 #[] w fun e w'=>∃ D P M G,e=.returned (.pointer (some ⟨D,0,none⟩))∧zo w w' D P M G [] [] []:=by
 have HM:Hid (∀ W,Calls Tryz.prog 43 #[] W fun e w'=>e=.returned (.pointer (some ⟨W.heap.size,0,none⟩))∧w'=W.alloc (.cells #[.map none,.map none] 140)):=fun W=>new9_calls W
 have HG:Hid (∀ W,Calls Tryz.prog 44 #[] W fun e w'=>e=.returned (.pointer (some ⟨W.heap.size,0,none⟩))∧w'=W.alloc (.cells #[.map none] 143)):=fun W=>fl W
 have hmm:=@run_makeMap Tryz.prog
 have a1:=FA w
 have hb1:=z7 (Below.refl w.heap.size w) (.map #[] 0)
 have s1:(w.alloc (.map #[] 0)).heap.size=w.heap.size+1:=by simp
 generalize hw1:w.alloc (.map #[] 0)=w1 at *
 have a2:=idx9_new w1
 have hb2:=z7 (Below.refl w1.heap.size w1) (.cells #[.map none,.map none] 140)
 have s2:(w1.alloc (.cells #[.map none,.map none] 140)).heap.size=w1.heap.size+1:=by simp
 generalize hw2:w1.alloc (.cells #[.map none,.map none] 140)=w2 at *
 have a3:=Xl w2
 have hb3:=z7 (Below.refl w2.heap.size w2) (.cells #[.map none] 143)
 have s3:(w2.alloc (.cells #[.map none] 143)).heap.size=w2.heap.size+1:=by simp
 generalize hw3:w2.alloc (.cells #[.map none] 143)=w3 at *
 have hb4:=z7 (Below.refl w3.heap.size w3) (.cells #[.map (some w.heap.size),.pointer (some ⟨w1.heap.size,0,none⟩),.pointer (some ⟨w2.heap.size,0,none⟩)] 84)
 have a4:=heap_alloc_new w3 (.cells #[.map (some w.heap.size),.pointer (some ⟨w1.heap.size,0,none⟩),.pointer (some ⟨w2.heap.size,0,none⟩)] 84)
 have HF:Hid (zo w (w3.alloc (.cells #[.map (some w.heap.size),.pointer (some ⟨w1.heap.size,0,none⟩),.pointer (some ⟨w2.heap.size,0,none⟩)] 84)) w3.heap.size w.heap.size w1.heap.size w2.heap.size [] [] []):=by
  have hb24:=z8 (z8 hb2 hb3) hb4
  have hb34:=z8 hb3 hb4
  refine ⟨none,none,[],none,[],⟨a4,a1.kept (hb24.block _ (by omega)),a2.later hb34,a3.later hb4,?_,?_,?_⟩,rfl,fun i hi=>⟨?_,id⟩,z8 (z8 (z8 hb1 hb2) hb3) hb4,Nat.zero_le _,fun _ h=>h.elim⟩
  ·
   rintro i (rfl | h | h)
   ·
    omega
   ·
    cases h
   ·
    cases h
  ·
   rintro i (rfl | h | ⟨x,h,_⟩)
   ·
    omega
   ·
    cases h
   ·
    cases h
  ·
   rintro i (rfl | h | h) (h' | h' | ⟨x,h',_⟩)
   ·
    omega
   all_goals first | cases h | cases h'
  ·
   revert hi
   rintro (rfl | rfl | h | h)
   ·
    omega
   ·
    omega
   ·
    rcases h with rfl | h | h
    ·
     omega
    ·
     cases h
    ·
     cases h
   ·
    rcases h with rfl | h | ⟨x,h,_⟩
    ·
     omega
    ·
     cases h
    ·
     cases h
 clear a1 a2 a3 a4 hb1 hb2 hb3 hb4 s1 s2 s3
 go_enter Tryz.func13,Tryz.ntmps13
 go_wp2_with fail
 with_reducible refine (HM.out _).mono ?_
 rintro e u2 ⟨rfl,hu2⟩
 go_wp2_with fail
 with_reducible refine (HG.out _).mono ?_
 rintro e u3 ⟨rfl,hu3⟩
 try rw [hw1] at hu2
 try rw [hw2] at hu2
 try subst hu2
 try rw [hw3] at hu3
 subst hu3
 clear HM HG hmm hw1 hw2 hw3
 go_wp2
 go_ret
 exact ⟨_,_,_,_,rfl,HF.out⟩
end Go.Proofs.YtmcomnocpibiiaaGreatDoor
namespace Go.Proofs.YtmcomnocpibiiaaGreatDoor
open Go.RowKit Go.Maps
set_option linter.unusedSectionVars false

def YRn11 (D M:Nat) (o n:ByteArray):Nat→Value→Prop
 | 2,v=>v=.pointer (some ⟨D,1,none⟩)
 | 3,v=>v=.pointer (some ⟨M,0,none⟩)
 | 4,v=>v=.string o
 | 5,v=>v=.string n
 | 6,v=>v=.string n
 | _,v=>v=.pointer (some ⟨D,0,none⟩)
def YRnW11 (D M:Nat) (o n:ByteArray) (j:Nat) (v:Value) (_:World):Prop:=YRn11 D M o n j v
section
variable [Fr11] {w0 w:World} {D P M G:Nat} {A:zG} {L:zQ} {S:zw} {k:Nat}
set_option maxRecDepth 100000 in
theorem XT (o n:ByteArray) (ho:zo w0 w D P M G A L S) (hg:zt A L S k) (h9:k≤900) (hz:o.size≤9223372036854775807) (hn:n.size≤9223372036854775807) :
  Calls Tryz.prog 42 #[.pointer (some ⟨D,0,none⟩),.string o,.string n] w fun e w'=>e=.returned (.int .i64 (jb A o.data.toList n.data.toList))∧zE w0 w D P M G (Jx A o.data.toList n.data.toList) (Jw A L o.data.toList n.data.toList) (Jv A S o.data.toList n.data.toList) w':=by
 have HN:Hid (∀ W,Below w.heap.size w W→Calls Tryz.prog 65 #[.string o] W fun e w'=>e=.returned (.int .i64 (zq (zf o.data.toList) 10))∧Below W.heap.size W w'):=fun W hb=>yf o W hz
 have HH:Hid (∀ W,Below w.heap.size w W→Calls Tryz.prog 65 #[.string n] W fun e w'=>e=.returned (.int .i64 (zq (zf n.data.toList) 10))∧Below W.heap.size W w'):=fun W hb=>yf n W hn
 have HI:Hid (∀ W,Below w.heap.size w W→Calls Tryz.prog 66 #[.pointer (some ⟨D,0,none⟩),.string o] W fun e w'=>e=.returned (.int .i64 (zq (zy A o.data.toList) 8))∧Below W.heap.size W w'):=fun W hb=>yS o (ho.later hb) hz
 have HL:Hid (∀ W,Below w.heap.size w W→Calls Tryz.prog 93 #[.pointer (some ⟨D,0,none⟩),.string n] W fun e w'=>e=.returned (.int .i64 (zq (!zy A n.data.toList) 9))∧Below W.heap.size W w'):=fun W hb=>jZ n (ho.later hb) hn
 have HFS:Hid (∀ W:World,Calls Tryz.prog 64 #[.slice (some ⟨W.heap.size,0,none⟩) 4 4] (W.alloc (.cells #[.int .i64 (zq (zf o.data.toList) 10),.int .i64 (zq (zf n.data.toList) 10),.int .i64 (zq (zy A o.data.toList) 8),.int .i64 (zq (!zy A n.data.toList) 9)] 38)) fun e w'=>e=.returned (.int .i64 (jb A o.data.toList n.data.toList))∧w'=W.alloc (.cells #[.int .i64 (zq (zf o.data.toList) 10),.int .i64 (zq (zf n.data.toList) 10),.int .i64 (zq (zy A o.data.toList) 8),.int .i64 (zq (!zy A n.data.toList) 9)] 38)):=fun W=>by
  have:=vU W [zq (zf o.data.toList) 10,zq (zf n.data.toList) 10,zq (zy A o.data.toList) 8,zq (!zy A n.data.toList) 9] 38 (by simp)
  rw [first11_rn] at this
  exact this
 have HO:=za ho
 have HPT:Hid (jb A o.data.toList n.data.toList=0→∀ W,Below w.heap.size w W→Calls Tryz.prog 94 #[.pointer (some ⟨D,0,none⟩),.string n,.agg #[.string (zF (jk A o.data.toList)),.bool (uH A o.data.toList)]] W fun e w'=>e=.returned (.tuple #[])∧zE w0 w D P M G (zM A n.data.toList (jk A o.data.toList,uH A o.data.toList)) L S w'):=fun e W hb=>by
  obtain ⟨h1,h2,h3,h4⟩:=Yl e
  have:=uA n (zF (jk A o.data.toList)) (uH A o.data.toList) (ho.later hb) (by have:=hg.few; omega) (ve h2) (by rw [xz]; exact jI (Xi hg h3))
  rw [zv] at this
  exact this.mono fun e w' ⟨he,hgo⟩=>⟨he,hgo.ahead hb⟩
 have HK:Hid (∀ W,Below w.heap.size w W→(Instr.lookup 78 (.map (some P)) (.string o) false).run Tryz.prog W=.ok (.agg #[.string (zF (jk A o.data.toList)),.bool (uH A o.data.toList)]) W):=fun W hb=>(ho.later hb).look1 o hz
 have HDR:Hid (∀ W ty A1,zo w0 W D P M G A1 L S→∃ w',(Builtin.delete_ #[78,9] ty #[.map (some P),.string o]).run Tryz.prog W=.ok (.tuple #[]) w'∧zE w0 W D P M G (yr A1 o.data.toList) L S w'):=fun W ty A1 h=>h.drop o hz ty
 have HMR:Hid (∀ W A1 L1 S1,zo w0 W D P M G A1 L1 S1→Calls Tryz.prog 114 #[.pointer (some ⟨M,0,none⟩),.string o,.string n] W fun e w'=>e=.returned (.int .i64 (JC L1 o.data.toList n.data.toList))∧zE w0 W D P M G A1 (reL9 L1 o.data.toList n.data.toList) S1 w'):=fun W A1 L1 S1 h=>h.mrename o n hz hn
 have HGR:Hid (∀ W A1 L1,zo w0 W D P M G A1 L1 S→Calls Tryz.prog 116 #[.pointer (some ⟨G,0,none⟩),.string o,.string n] W fun e w'=>e=.returned (.int .i64 (fN S o.data.toList n.data.toList))∧zE w0 W D P M G A1 L1 (Zr S o.data.toList n.data.toList) w'):=fun W A1 L1 h=>h.grename hg.grp h9 o n hz hn
 have HC:Hid (jb A o.data.toList n.data.toList=0→∀ W,Calls Tryz.prog 115 #[.string n] W fun e w'=>e=.returned (.string n)∧Below W.heap.size W w'):=fun e W=>yY n W (ve (Yl e).2.1)
 clear ho hg hz hn
 unfold Jx Jw Jv
 generalize jb A o.data.toList n.data.toList=r at *
 generalize zq (zf o.data.toList) 10=e0 at *
 generalize zq (zf n.data.toList) 10=e1 at *
 generalize zq (zy A o.data.toList) 8=e2 at *
 generalize zq (!zy A n.data.toList) 9=e3 at *
 by_cases h0:r=0
 ·
  subst h0
  rw [if_pos rfl,if_pos rfl,if_pos rfl]
  have HP2:=za (HPT.out rfl)
  have HC2:=za (HC.out rfl)
  clear HPT HC
  generalize zM A n.data.toList (jk A o.data.toList,uH A o.data.toList)=A1 at *
  generalize zF (jk A o.data.toList)=ss at *
  generalize uH A o.data.toList=dd at *
  generalize hrr:JC L o.data.toList n.data.toList=rr at *
  generalize hrl:reL9 L o.data.toList n.data.toList=L2 at *
  have HRR:=za hrr
  have HRL:=za hrl
  clear hrr hrl
  generalize fN S o.data.toList n.data.toList=r10 at *
  generalize Zr S o.data.toList n.data.toList=S2 at *
  go_enter Tryz.func42,Tryz.ntmps42
  have HB0:Hid (Below w.heap.size w w):=Below.refl _ _
  go_wp2_with fail
  with_reducible refine (HN.out w HB0.out).mono ?_
  rintro e u1 ⟨rfl,hb⟩
  have HB1:=za (z8 HB0.out hb)
  clear hb
  go_wp2_with fail
  with_reducible refine (HH.out u1 HB1.out).mono ?_
  rintro e u2 ⟨rfl,hb⟩
  have HB2:=za (z8 HB1.out hb)
  clear hb
  go_wp2_with fail
  with_reducible refine (HI.out u2 HB2.out).mono ?_
  rintro e u3 ⟨rfl,hb⟩
  have HB3:=za (z8 HB2.out hb)
  clear hb
  go_wp2_with fail
  with_reducible refine (HL.out u3 HB3.out).mono ?_
  rintro e u4 ⟨rfl,hb⟩
  have HB4:=za (z8 HB3.out hb)
  clear hb
  go_wp2_with fail
  with_reducible refine (HFS.out _).mono ?_
  rintro e ub ⟨rfl,hub⟩
  have HB:Hid (Below w.heap.size w ub):=by
   show Below _ _ _
   rw [hub]; exact z7 HB4.out _
  clear hub HFS HB0 HB1 HB2 HB3 HB4 HN HH HI HL
  have c0:=(HO.out.later HB.out).c0
  have hk:=HK.out _ HB.out
  clear HK
  go_wp2_with fail
  with_reducible refine (HP2.out _ HB.out).mono ?_
  rintro e w5 ⟨rfl,hg5⟩
  have c0':=hg5.1.c0
  obtain ⟨w6,hrun,hgo⟩:=HDR.out w5 0 _ hg5.1
  have HG6:=za (hg5.next hgo)
  clear hg5 hgo HP2 HB hk c0 HDR
  go_wp2_with fail
  refine yL (by kernel_rfl) 7 (fun W=>Below w6.heap.size w6 W) (fun W=>zE w0 w D P M G (yr A1 o.data.toList) L2 S W) (YRnW11 D M o n) (fun v=>v=.int .i64 rr) ?F ?hF (by kernel_rfl) (by kernel_rfl) (by kernel_rfl) (by kernel_rfl) (by decide) (zS (Below.refl _ _)) ?step ?fin
  case hF =>
   intro x
   simp only [List.map_cons,List.map_nil,vI,Act.put,List.setIfInBounds_toArray,List.set_cons_zero,List.set_cons_succ,Nat.zero_add,Nat.reduceAdd]
   exact rfl
  case step =>
   refine ⟨?_,?_,?_,?_,?_,?_,?_,?_,trivial⟩
   ·
    intro x W
    refine ⟨fun _ hW hdep K hK=>?_,(fun h=>absurd h (by decide)),(fun h=>absurd h (by decide))⟩
    clear hdep
    go_simp
    exact hK _ _ rfl hW (fun _ _ h=>h)
   ·
    intro x W
    refine ⟨fun _ hW hdep K hK=>?_,(fun h=>absurd h (by decide)),(fun h=>absurd h (by decide))⟩
    have h0:x 0=_:=hdep 0 rfl
    clear hdep
    simp only [h0] at hK
    go_simp
    exact hK _ _ rfl hW (fun _ _ h=>h)
   ·
    intro x W
    refine ⟨fun _ hW hdep K hK=>?_,(fun h=>absurd h (by decide)),(fun h=>absurd h (by decide))⟩
    have h1:x 1=_:=hdep 1 rfl
    clear hdep
    simp only [h1] at hK
    go_simp
    exact hK _ _ rfl hW (fun _ _ h=>h)
   ·
    intro x W
    refine ⟨fun _ hW hdep K hK=>?_,(fun h=>absurd h (by decide)),(fun h=>absurd h (by decide))⟩
    have h2:x 2=_:=hdep 2 rfl
    have c:=(HG6.out.1.later hW).c1
    clear hdep
    simp only [h2] at hK
    go_simp
    exact hK _ _ rfl hW (fun _ _ h=>h)
   ·
    intro x W
    refine ⟨fun _ hW hdep K hK=>?_,(fun h=>absurd h (by decide)),(fun h=>absurd h (by decide))⟩
    clear hdep
    go_simp
    exact hK _ _ rfl hW (fun _ _ h=>h)
   ·
    intro x W
    refine ⟨fun _ hW hdep K hK=>?_,(fun h=>absurd h (by decide)),(fun h=>absurd h (by decide))⟩
    clear hdep
    go_simp
    exact hK _ _ rfl hW (fun _ _ h=>h)
   ·
    intro x W
    refine ⟨fun _ hW hdep K hK=>?_,(fun h=>absurd h (by decide)),(fun h=>absurd h (by decide))⟩
    have h5:x 5=_:=hdep 5 rfl
    have hc:=HC2.out W
    clear hdep
    simp only [h5] at hK
    go_simp
    refine hc.mono ?_
    rintro e W' ⟨rfl,hb⟩
    exact hK _ _ rfl (z8 hW hb) (fun _ _ h=>h)
   ·
    intro x W
    refine ⟨(fun h=>absurd h (by decide)),fun _ hW hdep K hK=>?_,(fun h=>absurd h (by decide))⟩
    have h3:x 3=_:=hdep 3 rfl
    have h4:x 4=_:=hdep 4 rfl
    have h6:x 6=_:=hdep 6 rfl
    have hc:=HMR.out W _ _ _ (HG6.out.1.later hW)
    clear hdep
    simp only [h3,h4,h6] at hK
    go_simp
    refine hc.mono ?_
    rintro e W' ⟨rfl,hg⟩
    rw [HRL.out] at hg
    exact hK _ _ (by rw [HRR.out]) ⟨hg.1,HG6.out.2.trans ((zu.of_below hW).trans hg.2)⟩
  case fin =>
   intro x W hW hZ
   have HF:=za hW
   have c2:=hW.1.c2
   have HGR1:=za (HGR.out W _ _ hW.1)
   clear hW hZ HG6 HMR HGR HC2 HO HRR HRL c0' hrun
   go_wp2_with fail
   with_reducible refine HGR1.out.mono ?_
   rintro e w8 ⟨rfl,hg⟩
   have HFF:=za (HF.out.next hg)
   clear hg HGR1 HF c2
   go_wp2
   go_ret
   exact ⟨rfl,HFF.out⟩
 ·
  rw [if_neg h0,if_neg h0,if_neg h0]
  clear HPT HC HK HDR HMR HGR
  have q1:(r == 0)=false:=by simpa using h0
  have q2:¬ r=0:=h0
  go_enter Tryz.func42,Tryz.ntmps42
  have HB0:Hid (Below w.heap.size w w):=Below.refl _ _
  go_wp2_with fail
  with_reducible refine (HN.out w HB0.out).mono ?_
  rintro e u1 ⟨rfl,hb⟩
  have HB1:=za (z8 HB0.out hb)
  clear hb
  go_wp2_with fail
  with_reducible refine (HH.out u1 HB1.out).mono ?_
  rintro e u2 ⟨rfl,hb⟩
  have HB2:=za (z8 HB1.out hb)
  clear hb
  go_wp2_with fail
  with_reducible refine (HI.out u2 HB2.out).mono ?_
  rintro e u3 ⟨rfl,hb⟩
  have HB3:=za (z8 HB2.out hb)
  clear hb
  go_wp2_with fail
  with_reducible refine (HL.out u3 HB3.out).mono ?_
  rintro e u4 ⟨rfl,hb⟩
  have HB4:=za (z8 HB3.out hb)
  clear hb
  go_wp2_with fail
  with_reducible refine (HFS.out _).mono ?_
  rintro e ub ⟨rfl,hub⟩
  have HB:Hid (Below w.heap.size w ub):=by
   show Below _ _ _
   rw [hub]; exact z7 HB4.out _
  clear hub HFS HB0 HB1 HB2 HB3 HB4 HN HH HI HL
  go_wp2
  go_ret
  exact ⟨rfl,HO.out.still HB.out⟩

theorem VW.low {w w1 W:World} {n:ByteArray} {v:Value} (h:VW A L S n w1 W v) (hb:Below w.heap.size w w1):VW A L S n w W v:=by
 obtain ⟨ga,gc,e,hr⟩:=h
 exact ⟨ga,gc,e,zA hr hb.size⟩
end
end Go.Proofs.YtmcomnocpibiiaaGreatDoor
