/-
  The texts that the laws of this seat share, part 7: what the code and the document's own answers tell, walked function by function.
  Conditions: each theorem's own.
-/
import Derived.Test.YthmomkjingcbiaaGreatDoorMigDBF
set_option maxHeartbeats 16000000
namespace Go.Proofs.YthmomkjingcbiaaGreatDoor
open Go.RowKit Go.Maps

def dmaE (N:List (List UInt8)) (g:List UInt8):Int:=if zf g then (if vl N g then 9 else if 6≤N.length then 7 else 0) else 10
def dmaN (N:List (List UInt8)) (g:List UInt8):List (List UInt8):=if dmaE N g=0 then xu (N++[g]) else N
def XR (E:Int) (N:List (List UInt8)) (M:List vc) (w:World) (e:Ending) (w':World):Prop :=
 ∃ u1 u2,e=.returned (.tuple #[.agg #[u1,u2],.int .i64 E])∧NmR w' u1 N∧MbR w' u2 M∧Below w.heap.size w w'
theorem X4 (W:World) (T:TypeId) (size:Nat):(W.alloc (.cells #[] T)).ownsRow W.heap.size T size (.slice (some ⟨W.heap.size,0,none⟩) 0 0) 0 [] :=
 ⟨by simp,.inr ⟨W.heap.size,0,#[],rfl,Nat.le_refl _,(MapKept.heap_alloc W _).1,Nat.le_refl _,Nat.zero_le _,by simp,by simp⟩⟩

set_option maxRecDepth 100000 in
theorem Uf (v1 v2:Value) (N:List (List UInt8)) (M:List vc) (s:ByteArray) (w:World) (hN:N.length≤900) (hs:s.size≤1000) (h1:NmR w v1 N) (h2:MbR w v2 M) :
  Calls Tryz.prog 155 #[.agg #[v1,v2],.string s] w (XR (dmaE N s.data.toList) (dmaN N s.data.toList) M w):=by
 obtain ⟨i0,hi,hz0,hz1,hz2⟩:=info_parts jq
 obtain ⟨A1,c1,rfl⟩:=h1.shape
 obtain ⟨A,c,rfl⟩:=h2.shape
 have hb0:Below w.heap.size w (w.alloc (.cells #[.slice A1 N.length c1,.slice A M.length c] TG)):=z7 (Below.refl _ _) _
 have hbx:uZ (w.alloc (.cells #[.slice A1 N.length c1,.slice A M.length c] TG)) w.heap.size (.slice A1 N.length c1) (.slice A M.length c):=qV _ _ _
 have HN1:=za h1
 have HA:=za h2
 have HB0:=za hb0
 have HBX:=za hbx
 clear h1 h2 hb0 hbx
 obtain ⟨n1,hn1⟩:∃ n1,n1=N.length:=⟨_,rfl⟩
 obtain ⟨n,hn⟩:∃ n,n=M.length:=⟨_,rfl⟩
 rw [← hn1] at HN1 HB0 HBX hN ⊢
 rw [← hn] at HA HB0 HBX ⊢
 have HL1:=za hn1
 have HL:=za hn
 clear hn hn1

 have HR0:Hid (uZ ((w.alloc (.cells #[.slice A1 n1 c1,.slice A n c] TG)).alloc (.cells #[.slice none 0 0,.slice none 0 0] TG)) (w.heap.size+1) (.slice none 0 0) (.slice none 0 0)):=by
  have:=qV (w.alloc (.cells #[.slice A1 n1 c1,.slice A n c] TG)) (.slice none 0 0) (.slice none 0 0)
  rwa [World.size_alloc] at this
 have HBX2:=za (HBX.out.later (z7 (Below.refl _ _) (.cells #[.slice none 0 0,.slice none 0 0] TG)))
 have HB2:=za (z8 HB0.out (z7 (Below.refl _ _) (.cells #[.slice none 0 0,.slice none 0 0] TG)))
 have HN:=za (fun W=>vf s W hs)
 have HHS:Hid (∀ W,Below w.heap.size w W→Calls Tryz.prog 225 #[.slice A1 n1 c1,.string s] W (zY (vl N s.data.toList) W)):=fun W hb=>jk _ N s W (by have:=HL1.out; omega) (HN1.out.later hb)
 unfold dmaN dmaE
 cases hname:zf s.data.toList with
 | false =>
  rw [hname] at HN
  clear hname HHS
  show Calls _ _ _ _ (XR 10 N M w)
  go_enter Tryz.func155,Tryz.ntmps155
  go_wp2_with fail
  generalize (w.alloc (.cells #[.slice A1 n1 c1,.slice A n c] TG)).alloc (.cells #[.slice none 0 0,.slice none 0 0] TG)=w1 at *
  with_reducible refine (HN.out _).mono ?_
  rintro e w2 ⟨rfl,hw⟩
  replace hw:=hw.symm
  subst hw
  have hx:=HBX2.out.later (Below.refl _ _)
  have hr:=HR0.out.later (Below.refl _ _)
  have k0:=hx.c0
  have k1:=hx.c1
  have r0:=hr.c0
  have r1:=hr.c1
  have rf0:=hr.f0
  have rf1:=hr.f1
  have HF:=za (fin2 HB2.out hr (Nat.le_succ _) (.slice A1 n1 c1) (.slice A n c))
  have HQ1:=za (HN1.out.later HB2.out)
  have HQ2:=za (HA.out.later HB2.out)
  clear hx hr
  go_wp2
  have z0:=HF.out.1.c0
  have z1:=HF.out.1.c1
  refine bodyPost_ret (v:=.tuple #[.agg #[.slice A1 n1 c1,.slice A n c],.int .i64 10]) ?_ rfl ⟨_,_,rfl,HQ1.out.keepG HF.out.2.2,HQ2.out.keepG HF.out.2.2,HF.out.2.1⟩
  simp [results,Tryz.results155,go_sem,z0,z1]
 | true =>
  rw [hname] at HN
  clear hname
  cases hh:vl N s.data.toList with
  | true =>
   rw [hh] at HHS
   clear hh
   show Calls _ _ _ _ (XR 9 N M w)
   go_enter Tryz.func155,Tryz.ntmps155
   go_wp2_with fail
   generalize (w.alloc (.cells #[.slice A1 n1 c1,.slice A n c] TG)).alloc (.cells #[.slice none 0 0,.slice none 0 0] TG)=w1 at *
   with_reducible refine (HN.out _).mono ?_
   rintro e w2 ⟨rfl,hw⟩
   replace hw:=hw.symm
   subst hw
   have k9:=HBX2.out.c0
   have HH:=za (HHS.out w1 HB2.out)
   clear HHS
   go_wp2_with fail
   with_reducible refine HH.out.mono ?_
   rintro e w3 ⟨rfl,hb⟩
   have HB3:=za (z8 HB2.out hb)
   clear HH k9
   have hx:=HBX2.out.later hb
   have hr:=HR0.out.later hb
   have k0:=hx.c0
   have k1:=hx.c1
   have r0:=hr.c0
   have r1:=hr.c1
   have rf0:=hr.f0
   have rf1:=hr.f1
   have HF:=za (fin2 HB3.out hr (Nat.le_succ _) (.slice A1 n1 c1) (.slice A n c))
   have HQ1:=za (HN1.out.later HB3.out)
   have HQ2:=za (HA.out.later HB3.out)
   clear hx hr hb
   go_wp2
   have z0:=HF.out.1.c0
   have z1:=HF.out.1.c1
   refine bodyPost_ret (v:=.tuple #[.agg #[.slice A1 n1 c1,.slice A n c],.int .i64 9]) ?_ rfl ⟨_,_,rfl,HQ1.out.keepG HF.out.2.2,HQ2.out.keepG HF.out.2.2,HF.out.2.1⟩
   simp [results,Tryz.results155,go_sem,z0,z1]
  | false =>
   rw [hh] at HHS
   clear hh
   by_cases h6:6≤N.length
   ·
    have e7:(if true=true then if false=true then (9:Int) else if 6≤N.length then 7 else 0 else 10)=7:=by simp [h6]
    rw [e7,if_neg (by decide)]
    have z6:(n1:Int) ≥ 6:=by have:=HL1.out; omega
    have x6:decide ((n1:Int) ≥ 6)=true:=decide_eq_true z6
    clear e7 h6
    go_enter Tryz.func155,Tryz.ntmps155
    go_wp2_with fail
    generalize (w.alloc (.cells #[.slice A1 n1 c1,.slice A n c] TG)).alloc (.cells #[.slice none 0 0,.slice none 0 0] TG)=w1 at *
    with_reducible refine (HN.out _).mono ?_
    rintro e w2 ⟨rfl,hw⟩
    replace hw:=hw.symm
    subst hw
    have k9:=HBX2.out.c0
    have HH:=za (HHS.out w1 HB2.out)
    clear HHS
    go_wp2_with fail
    with_reducible refine HH.out.mono ?_
    rintro e w3 ⟨rfl,hb⟩
    have HB3:=za (z8 HB2.out hb)
    clear HH k9
    have hx:=HBX2.out.later hb
    have hr:=HR0.out.later hb
    have k0:=hx.c0
    have k1:=hx.c1
    have r0:=hr.c0
    have r1:=hr.c1
    have rf0:=hr.f0
    have rf1:=hr.f1
    have HF:=za (fin2 HB3.out hr (Nat.le_succ _) (.slice A1 n1 c1) (.slice A n c))
    have HQ1:=za (HN1.out.later HB3.out)
    have HQ2:=za (HA.out.later HB3.out)
    clear hx hr hb
    go_wp2
    have z0:=HF.out.1.c0
    have z1:=HF.out.1.c1
    refine bodyPost_ret (v:=.tuple #[.agg #[.slice A1 n1 c1,.slice A n c],.int .i64 7]) ?_ rfl ⟨_,_,rfl,HQ1.out.keepG HF.out.2.2,HQ2.out.keepG HF.out.2.2,HF.out.2.1⟩
    simp [results,Tryz.results155,go_sem,z0,z1]
   ·
    have e0:(if true=true then if false=true then (9:Int) else if 6≤N.length then 7 else 0 else 10)=0:=by simp [h6]
    rw [e0,if_pos rfl]
    have z6:¬ (n1:Int) ≥ 6:=by have:=HL1.out; omega
    have x6:decide ((n1:Int) ≥ 6)=false:=decide_eq_false z6
    clear e0 h6
    go_enter Tryz.func155,Tryz.ntmps155
    go_wp2_with fail
    generalize (w.alloc (.cells #[.slice A1 n1 c1,.slice A n c] TG)).alloc (.cells #[.slice none 0 0,.slice none 0 0] TG)=w1 at *
    with_reducible refine (HN.out _).mono ?_
    rintro e w2 ⟨rfl,hw⟩
    replace hw:=hw.symm
    subst hw
    have k9:=HBX2.out.c0
    have HH:=za (HHS.out w1 HB2.out)
    clear HHS
    go_wp2_with fail
    with_reducible refine HH.out.mono ?_
    rintro e w3 ⟨rfl,hb⟩
    have HB3:=za (z8 HB2.out hb)
    clear HH k9
    have k0:=(HBX2.out.later hb).c0
    have kl:=(HBX2.out.later hb).lt
    have HEM:Hid ((w3.alloc (.cells #[] 9)).ownsRow 0 9 1 (.slice (some ⟨w3.heap.size,0,none⟩) 0 0) 0 []):=zC (X4 w3 9 1) (Nat.zero_le _)
    have HUP:Hid (∀ A4 c4 (w4:World),w4.ownsRow 0 9 1 (.slice A4 (0+n1) c4) (0+n1) ([]++N.map encStr)→(w3.alloc (.cells #[] 9)).grownBy w4 (Value.ownBlock (.slice (some ⟨w3.heap.size,0,none⟩) 0 0))→(Value.ownBlock (.slice A4 (0+n1) c4)=Value.ownBlock (.slice (some ⟨w3.heap.size,0,none⟩) 0 0)∨Value.ownBlock (.slice A4 (0+n1) c4)=some (w3.alloc (.cells #[] 9)).heap.size) →
      w4.ownsRow w3.heap.size 9 1 (.slice A4 n1 c4) n1 (N.map encStr)∧Below w3.heap.size w3 w4):=fun A4 c4 w4 h1 h2 h3=>by
     rw [Nat.zero_add,List.nil_append] at h1
     rw [Nat.zero_add] at h3
     refine ⟨own_up10 h1 (fun j hj=>?_),(z7 (Below.refl _ _) _).grown h2 (by simp) (fun j hj=>by cases hj; exact Nat.le_refl _)⟩
     rcases h3 with h3 | h3
     ·
      rw [h3] at hj; cases hj; exact Nat.le_refl _
     ·
      rw [h3] at hj; injection hj with hj; rw [← hj]; simp
    have HSRC:Hid (Src Tryz.prog 1 45 (.slice A1 n1 c1) n1 (N.map encStr) (w3.alloc (.cells #[] 9))):=by
     have:=((HN1.out.later HB3.out).later (z7 (Below.refl _ _) (.cells #[] 9))).src
     rwa [← HL1.out] at this
    have HBX3:=za (HBX2.out.later hb)
    have HR3:=za (HR0.out.later hb)
    clear hb
    go_wp2_with (first
    | (at_builtin; refine xO _ rfl (.tmp 20) (.tmp 22) 45 45 (by rfl) 9 i0 _ 1 16 Tryz.underlying45 hi hz0 hz1 hz2 rfl (.slice (some ⟨w3.heap.size,0,none⟩) 0 0) 0 [] (by rfl) HEM.out (.slice A1 n1 c1) n1 (N.map encStr) (by rfl) HSRC.out (by simp only [maxLen]; omega) (by omega) ?_; intro A4 c4 w4 ho4 hg4 ha4; have HO4:=za (HUP.out A4 c4 w4 ho4 hg4 ha4).1; have HB4:=za (HUP.out A4 c4 w4 ho4 hg4 ha4).2; clear ho4 hg4 ha4)
    | (at_builtin; refine wpList_append_own _ rfl (.tmp 23) (.tmp 25) 45 rfl w3.heap.size 9 i0 (.string ⟨#[]⟩) 1 16 Tryz.underlying45 hi hz0 hz1 hz2 rfl (by decide) _ _ _ rfl (HO4.out.alloc _) ⟨w4.heap.size,0,none⟩ 1 1 [.string s] rfl rfl (fun j u hu=>by rw [Addr.add_lit,Nat.zero_add,World.cell?_alloc_at _ _ _ _ (by simp)]; simpa using hu) (by simp [Value.oneCell']) (by unfold maxLen; omega) (by omega) (by have:=HB4.out.size; simp; omega) ?_; intro v5 w5 ho5 hg5 _; have HO5:=za ho5; have HB5:=za (Vj HB4.out HO4.out hg5); clear ho5 hg5)
    | fail)
    have hrow:NmR w5 v5 (N++[s.data.toList]):=by
     have:=zC HO5.out (Nat.zero_le _)
     rw [← vx s] at this
     show World.ownsRow _ _ _ _ _ _ _
     rw [List.length_append,← HL1.out]
     simpa using this
    have HSR:=za (jf v5 (N++[s.data.toList]) w5 (by rw [List.length_append,← HL1.out]; simp; omega) hrow)
    obtain ⟨A5,c5,rfl⟩:=hrow.shape
    clear hrow
    go_wp2_with fail
    with_reducible refine HSR.out.mono ?_
    rintro e w6 ⟨v6,rfl,hr6,hb6⟩
    have HNM:Hid (NmR w6 v6 (xu (N++[s.data.toList]))):=NmR.of hr6
    obtain ⟨A6,c6,rfl⟩:=HNM.out.shape
    have HB36:=za (z8 HB5.out hb6)
    have HB6:=za (z8 HB3.out HB36.out)
    have HML:=za (HA.out.later HB6.out)
    have hx:=HBX3.out.later HB36.out
    have hr:=HR3.out.later HB36.out
    have k0:=hx.c0
    have k1:=hx.c1
    have kf0:=hx.f0
    have r0:=hr.c0
    have r1:=hr.c1
    have rf0:=hr.f0
    have rf1:=hr.f1
    have HF:=za (fin3 (i:=0) HB6.out hx hr (Nat.le_refl _) (Nat.le_succ _) (by omega) (.slice A6 (xu (N++[s.data.toList])).length c6) (.slice A6 (xu (N++[s.data.toList])).length c6) (.slice A n c))
    clear hx hr hr6 hb6 HSR
    generalize (xu (N++[s.data.toList])).length=q6 at *
    go_wp2
    have z0:=HF.out.1.c0
    have z1:=HF.out.1.c1
    refine bodyPost_ret (v:=.tuple #[.agg #[.slice A6 q6 c6,.slice A n c],.int .i64 0]) ?_ rfl ⟨_,_,rfl,HNM.out.keepG HF.out.2.2,HML.out.keepG HF.out.2.2,HF.out.2.1⟩
    simp [results,Tryz.results155,go_sem,z0,z1]

def ddrN (N:List (List UInt8)) (g:List UInt8):List (List UInt8):=if ddrE N g=0 then xZ N g else N
def ddrM (N:List (List UInt8)) (M:List vc) (g:List UInt8):List vc:=if ddrE N g=0 then dropM M g else M

set_option maxRecDepth 100000 in
theorem Ul (v1 v2:Value) (N:List (List UInt8)) (M:List vc) (s:ByteArray) (w:World) (hN:N.length≤900) (hM:M.length≤900) (hs:s.size≤1000) (h1:NmR w v1 N) (h2:MbR w v2 M) :
  Calls Tryz.prog 156 #[.agg #[v1,v2],.string s] w (XR (ddrE N s.data.toList) (ddrN N s.data.toList) (ddrM N M s.data.toList) w):=by
 obtain ⟨i0,hi,hz0,hz1,hz2⟩:=info_parts jq
 obtain ⟨A1,c1,rfl⟩:=h1.shape
 obtain ⟨A,c,rfl⟩:=h2.shape
 have hb0:Below w.heap.size w (w.alloc (.cells #[.slice A1 N.length c1,.slice A M.length c] TG)):=z7 (Below.refl _ _) _
 have hbx:uZ (w.alloc (.cells #[.slice A1 N.length c1,.slice A M.length c] TG)) w.heap.size (.slice A1 N.length c1) (.slice A M.length c):=qV _ _ _
 have HN1:=za h1
 have HA:=za h2
 have HB0:=za hb0
 have HBX:=za hbx
 clear h1 h2 hb0 hbx
 obtain ⟨n1,hn1⟩:∃ n1,n1=N.length:=⟨_,rfl⟩
 obtain ⟨n,hn⟩:∃ n,n=M.length:=⟨_,rfl⟩
 rw [← hn1] at HN1 HB0 HBX hN ⊢
 rw [← hn] at HA HB0 HBX hM ⊢
 have HL1:=za hn1
 have HL:=za hn
 clear hn hn1

 have HR0:Hid (uZ ((w.alloc (.cells #[.slice A1 n1 c1,.slice A n c] TG)).alloc (.cells #[.slice none 0 0,.slice none 0 0] TG)) (w.heap.size+1) (.slice none 0 0) (.slice none 0 0)):=by
  have:=qV (w.alloc (.cells #[.slice A1 n1 c1,.slice A n c] TG)) (.slice none 0 0) (.slice none 0 0)
  rwa [World.size_alloc] at this
 have HBX2:=za (HBX.out.later (z7 (Below.refl _ _) (.cells #[.slice none 0 0,.slice none 0 0] TG)))
 have HB2:=za (z8 HB0.out (z7 (Below.refl _ _) (.cells #[.slice none 0 0,.slice none 0 0] TG)))
 have HN:=za (fun W=>vf s W hs)
 have HHS:Hid (∀ W,Below w.heap.size w W→Calls Tryz.prog 225 #[.slice A1 n1 c1,.string s] W (zY (vl N s.data.toList) W)):=fun W hb=>jk _ N s W (by have:=HL1.out; omega) (HN1.out.later hb)
 unfold ddrN ddrM ddrE
 cases hname:zf s.data.toList with
 | false =>
  rw [hname] at HN
  clear hname HHS
  show Calls _ _ _ _ (XR 10 N M w)
  go_enter Tryz.func156,Tryz.ntmps156
  go_wp2_with fail
  generalize (w.alloc (.cells #[.slice A1 n1 c1,.slice A n c] TG)).alloc (.cells #[.slice none 0 0,.slice none 0 0] TG)=w1 at *
  with_reducible refine (HN.out _).mono ?_
  rintro e w2 ⟨rfl,hw⟩
  replace hw:=hw.symm
  subst hw
  have hx:=HBX2.out.later (Below.refl _ _)
  have hr:=HR0.out.later (Below.refl _ _)
  have k0:=hx.c0
  have k1:=hx.c1
  have r0:=hr.c0
  have r1:=hr.c1
  have rf0:=hr.f0
  have rf1:=hr.f1
  have HF:=za (fin2 HB2.out hr (Nat.le_succ _) (.slice A1 n1 c1) (.slice A n c))
  have HQ1:=za (HN1.out.later HB2.out)
  have HQ2:=za (HA.out.later HB2.out)
  clear hx hr
  go_wp2
  have z0:=HF.out.1.c0
  have z1:=HF.out.1.c1
  refine bodyPost_ret (v:=.tuple #[.agg #[.slice A1 n1 c1,.slice A n c],.int .i64 10]) ?_ rfl ⟨_,_,rfl,HQ1.out.keepG HF.out.2.2,HQ2.out.keepG HF.out.2.2,HF.out.2.1⟩
  simp [results,Tryz.results156,go_sem,z0,z1]
 | true =>
  rw [hname] at HN
  clear hname
  cases hh:vl N s.data.toList with
  | false =>
   rw [hh] at HHS
   clear hh
   show Calls _ _ _ _ (XR 8 N M w)
   go_enter Tryz.func156,Tryz.ntmps156
   go_wp2_with fail
   generalize (w.alloc (.cells #[.slice A1 n1 c1,.slice A n c] TG)).alloc (.cells #[.slice none 0 0,.slice none 0 0] TG)=w1 at *
   with_reducible refine (HN.out _).mono ?_
   rintro e w2 ⟨rfl,hw⟩
   replace hw:=hw.symm
   subst hw
   have k9:=HBX2.out.c0
   have HH:=za (HHS.out w1 HB2.out)
   clear HHS
   go_wp2_with fail
   with_reducible refine HH.out.mono ?_
   rintro e w3 ⟨rfl,hb⟩
   have HB3:=za (z8 HB2.out hb)
   clear HH k9
   have hx:=HBX2.out.later hb
   have hr:=HR0.out.later hb
   have k0:=hx.c0
   have k1:=hx.c1
   have r0:=hr.c0
   have r1:=hr.c1
   have rf0:=hr.f0
   have rf1:=hr.f1
   have HF:=za (fin2 HB3.out hr (Nat.le_succ _) (.slice A1 n1 c1) (.slice A n c))
   have HQ1:=za (HN1.out.later HB3.out)
   have HQ2:=za (HA.out.later HB3.out)
   clear hx hr hb
   go_wp2
   have z0:=HF.out.1.c0
   have z1:=HF.out.1.c1
   refine bodyPost_ret (v:=.tuple #[.agg #[.slice A1 n1 c1,.slice A n c],.int .i64 8]) ?_ rfl ⟨_,_,rfl,HQ1.out.keepG HF.out.2.2,HQ2.out.keepG HF.out.2.2,HF.out.2.1⟩
   simp [results,Tryz.results156,go_sem,z0,z1]
  | true =>
   rw [hh] at HHS
   clear hh
   show Calls _ _ _ _ (XR 0 (xZ N s.data.toList) (dropM M s.data.toList) w)
   go_enter Tryz.func156,Tryz.ntmps156
   go_wp2_with fail
   generalize (w.alloc (.cells #[.slice A1 n1 c1,.slice A n c] TG)).alloc (.cells #[.slice none 0 0,.slice none 0 0] TG)=w1 at *
   with_reducible refine (HN.out _).mono ?_
   rintro e w2 ⟨rfl,hw⟩
   replace hw:=hw.symm
   subst hw
   have k9:=HBX2.out.c0
   have HH:=za (HHS.out w1 HB2.out)
   clear HHS HN
   go_wp2_with fail
   with_reducible refine HH.out.mono ?_
   rintro e w3 ⟨rfl,hb⟩
   have HB3:=za (z8 HB2.out hb)
   have HBX3:=za (HBX2.out.later hb)
   have HR3:=za (HR0.out.later hb)
   have k0:=HBX3.out.c0
   clear HH k9 hb HBX2 HR0 HB2
   go_wp2
   go_loopg [6,25] n1 (fun gg sl si wr=>∃ k:Nat,k≤n1∧n1 - k≤gg∧si=.int .i64 k∧Hid (Below w3.heap.size w3 wr)∧Hid (wr.ownsRow w3.heap.size 9 1 sl ((N.take k).filter (fun x=>!(x == s.data.toList))).length (((N.take k).filter (fun x=>!(x == s.data.toList))).map encStr)))
   case atStart=>exact ⟨0,Nat.zero_le _,by omega,rfl,Below.refl _ _,World.ownsRow_nil _ _ _ _⟩
   case round =>
    obtain ⟨k,hk,hg,rfl,HW,HU⟩:=hrel
    have hlen:((N.take k).filter (fun x=>!(x == s.data.toList))).length≤n1:=Nat.le_trans (List.length_filter_le _ _) (by simp; omega)
    by_cases hlt:k<n1
    ·
     have hltz:(k:Int)<(n1:Int):=by omega
     have hkl:k<N.length:=HL1.out ▸ hlt
     obtain ⟨gb,cx,e2,x0⟩:=(HN1.out.later (z8 HB3.out HW.out)).at_ hkl
     injection e2 with e2 e2n e2c
     subst e2
     clear e2n e2c
     have HST:Hid ((N.take (k+1)).filter (fun x=>!(x == s.data.toList))=(N.take k).filter (fun x=>!(x == s.data.toList))++if (fun x=>!(x == s.data.toList)) N[k] then [N[k]] else []):=Z4 _ N hkl
     have HTL:Hid ((zI N[k]).data.toList=N[k]):=zy _
     have HEG:Hid (encStr N[k]=.string (zI N[k])):=rfl
     generalize hMk:N[k]=qk at *
     generalize zI qk=gm at *
     clear hMk
     by_cases e1:gm.data.toList=s.data.toList
     ·
      obtain ⟨a1,a2⟩:=eqs10 e1
      have cg:(qk == s.data.toList)=true:=by rw [← HTL.out]; simpa using e1
      have HE:Hid ((N.take (k+1)).filter (fun x=>!(x == s.data.toList))=(N.take k).filter (fun x=>!(x == s.data.toList))):=by
       show _=_
       rw [HST.out,if_neg (by simp [cg]),List.append_nil]
      clear cg e1
      go_wp2
      go_roundg (n1 - (k+1))
      case measure=>omega
      case rel=>exact ⟨k+1,by omega,by omega,by go_num,HW,(show Hid _ from by rw [HE.out]; exact HU.out)⟩
     ·
      obtain ⟨a1,a2⟩:=nes10 e1
      have cg:(qk == s.data.toList)=false:=by rw [← HTL.out]; simpa using e1
      have HE:Hid ((N.take (k+1)).filter (fun x=>!(x == s.data.toList))=(N.take k).filter (fun x=>!(x == s.data.toList))++[qk]):=by
       show _=_
       rw [HST.out,if_pos (by simp [cg])]
      clear cg e1
      go_wp2_with (first
      | (at_builtin; refine wpList_append_own _ rfl _ _ 45 rfl w3.heap.size 9 i0 (.string ⟨#[]⟩) 1 16 Tryz.underlying45 hi hz0 hz1 hz2 rfl (by decide) _ _ _ rfl (HU.out.alloc _) ⟨wr.heap.size,0,none⟩ 1 1 [.string gm] rfl rfl (fun j u hu=>by rw [Addr.add_lit,Nat.zero_add,World.cell?_alloc_at _ _ _ _ (by simp)]; simpa using hu) (by simp [Value.oneCell']) (by unfold maxLen; omega) (by omega) (by have:=HW.out.size; simp; omega) ?_; intro v2 w2 hown' hgrow _; have HOw2:=za hown'; have HGw2:=za hgrow; clear hown' hgrow)
      | fail)
      have ho:=HOw2.out
      rw [← HEG.out] at ho
      have R1:=za (Vj HW.out HU.out HGw2.out)
      have R2:Hid (w2.ownsRow w3.heap.size 9 1 v2 ((N.take (k+1)).filter (fun x=>!(x == s.data.toList))).length (((N.take (k+1)).filter (fun x=>!(x == s.data.toList))).map encStr)):=by
       show World.ownsRow _ _ _ _ _ _ _
       rw [HE.out]
       simpa using ho
      clear ho
      go_roundg (n1 - (k+1))
      case measure=>omega
      case rel=>exact ⟨k+1,by omega,by omega,by go_num,R1,R2⟩
    ·
     have hltz:¬ (k:Int)<(n1:Int):=by omega
     obtain rfl:k=n1:=by omega
     have hu:=HU.out
     rw [List.take_of_length_le (by have:=HL1.out; omega)] at hu
     have HNM:Hid (NmR wr u6 (xZ N s.data.toList)):=NmR.of hu
     have HBW:=za (z8 HB3.out HW.out)
     have HX2:=za (HBX3.out.later HW.out)
     have HY2:=za (HR3.out.later HW.out)
     have k1:=HX2.out.c1
     obtain ⟨A6,c6,rfl⟩:=HNM.out.shape
     generalize (xZ N s.data.toList).length=q6 at *
     clear hu HW HU hlen
     go_wp2
     have HCW:=HBW
     clear HBW
     generalize hwm:wr=w1 at *
     have HBW:=HCW
     clear HCW hwm
     obtain ⟨i0,hi,hz0,hz1,hz2⟩:=info_parts infoMem10
     go_loopg [9,40] n (fun gg sl si wr=>∃ k:Nat,k≤n∧n - k≤gg∧si=.int .i64 k∧Hid (Below w1.heap.size w1 wr)∧Hid (wr.ownsRow w1.heap.size 225 2 sl ((M.take k).filter (fun m=>!(m.1 == s.data.toList))).length (((M.take k).filter (fun m=>!(m.1 == s.data.toList))).flatMap Qu)))
     case atStart=>exact ⟨0,Nat.zero_le _,by omega,rfl,Below.refl _ _,World.ownsRow_nil _ _ _ _⟩
     case round =>
      obtain ⟨k,hk,hg,rfl,HW,HU⟩:=hrel
      have hlen:((M.take k).filter (fun m=>!(m.1 == s.data.toList))).length≤n:=Nat.le_trans (List.length_filter_le _ _) (by simp; omega)
      by_cases hlt:k<n
      ·
       have hltz:(k:Int)<(n:Int):=by omega
       have hkl:k<M.length:=HL.out ▸ hlt
       obtain ⟨gb,cx,e2,x0,x1⟩:=(HA.out.later (z8 HBW.out HW.out)).at_ hkl
       injection e2 with e2 e2n e2c
       subst e2
       clear e2n e2c
       have HST:Hid ((M.take (k+1)).filter (fun m=>!(m.1 == s.data.toList))=(M.take k).filter (fun m=>!(m.1 == s.data.toList))++if (fun m=>!(m.1 == s.data.toList)) M[k] then [M[k]] else []):=Z4 _ M hkl
       have HUV:=za (HU.out.alloc (.cells #[.string (zI M[k].1),.string (zI M[k].2)] 225))
       have HTL:Hid ((zI M[k].1).data.toList=M[k].1):=zy _
       have HTM:Hid ((zI M[k].2).data.toList=M[k].2):=zy _
       have HEG:Hid (encStr M[k].1=.string (zI M[k].1)):=rfl
       have HEN:Hid (encStr M[k].2=.string (zI M[k].2)):=rfl
       have HEV:Hid (Qu M[k]=[.string (zI M[k].1),.string (zI M[k].2)]):=rfl
       generalize hMk:M[k]=qk at *
       generalize zI qk.1=gm at *
       generalize zI qk.2=nm at *
       clear hMk
       have HWV:=za (z8 HW.out (z7 (Below.refl wr.heap.size wr) (.cells #[.string gm,.string nm] 225)))
       by_cases e1:gm.data.toList=s.data.toList
       ·
        obtain ⟨a1,a2⟩:=eqs10 e1
        have cg:(qk.1 == s.data.toList)=true:=by rw [← HTL.out]; simpa using e1
        have HE:Hid ((M.take (k+1)).filter (fun m=>!(m.1 == s.data.toList))=(M.take k).filter (fun m=>!(m.1 == s.data.toList))):=by
         show _=_
         rw [HST.out,if_neg (by simp [cg]),List.append_nil]
        go_wp2
        go_roundg (n - (k+1))
        case measure=>omega
        case rel=>exact ⟨k+1,by omega,by omega,by go_num,HWV,(show Hid _ from by rw [HE.out]; exact HUV.out)⟩
       ·
        obtain ⟨a1,a2⟩:=nes10 e1
        have cg:(qk.1 == s.data.toList)=false:=by rw [← HTL.out]; simpa using e1
        have HE:Hid ((M.take (k+1)).filter (fun m=>!(m.1 == s.data.toList))=(M.take k).filter (fun m=>!(m.1 == s.data.toList))++[qk]):=by
         show _=_
         rw [HST.out,if_pos (by simp [cg])]
        go_wp2_with (first
        | (at_builtin; refine wpList_append_own _ rfl _ _ 176 rfl w1.heap.size 225 i0 (.agg #[.string ⟨#[]⟩,.string ⟨#[]⟩]) 2 32 Tryz.underlying176 hi hz0 hz1 hz2 rfl (by decide) _ _ _ rfl (HUV.out.alloc _) ⟨wr.heap.size+1,0,none⟩ 1 1 [.string gm,.string nm] rfl rfl (fun j u hu=>by rw [Addr.add_lit,Nat.zero_add,World.cell?_alloc_at _ _ _ _ (by simp)]; simpa using hu) (by simp [Value.oneCell']) (by unfold maxLen; omega) (by omega) (by have:=HW.out.size; simp; omega) ?_; intro v2 w2 hown' hgrow _; have HOw2:=za hown'; have HGw2:=za hgrow; clear hown' hgrow)
        | fail)
        have ho:=HOw2.out
        rw [← HEV.out] at ho
        have R1:=za (Vj HWV.out HUV.out HGw2.out)
        have R2:Hid (w2.ownsRow w1.heap.size 225 2 v2 ((M.take (k+1)).filter (fun m=>!(m.1 == s.data.toList))).length (((M.take (k+1)).filter (fun m=>!(m.1 == s.data.toList))).flatMap Qu)):=by
         show World.ownsRow _ _ _ _ _ _ _
         rw [HE.out]
         simpa using ho
        clear ho
        go_roundg (n - (k+1))
        case measure=>omega
        case rel=>exact ⟨k+1,by omega,by omega,by go_num,R1,R2⟩
      ·
       have hltz:¬ (k:Int)<(n:Int):=by omega
       obtain rfl:k=n:=by omega
       have hu:=HU.out
       rw [List.take_of_length_le (by have:=HL.out; omega)] at hu
       have HML:Hid (MbR wr u9 (dropM M s.data.toList)):=MbR.of hu
       have HBR:=za (z8 HBW.out HW.out)
       have HNF:=za (HNM.out.later HW.out)
       have hr:=HY2.out.later HW.out
       have r0:=hr.c0
       have r1:=hr.c1
       have rf0:=hr.f0
       have rf1:=hr.f1
       obtain ⟨AL,cL,rfl⟩:=HML.out.shape
       generalize (dropM M s.data.toList).length=q at *
       have HF:=za (fin2 HBR.out hr (Nat.le_succ _) (.slice A6 q6 c6) (.slice AL q cL))
       clear hu hr HU
       go_wp2
       have z0:=HF.out.1.c0
       have z1:=HF.out.1.c1
       refine bodyPost_ret (v:=.tuple #[.agg #[.slice A6 q6 c6,.slice AL q cL],.int .i64 0]) ?_ rfl ⟨_,_,rfl,HNF.out.keepG HF.out.2.2,HML.out.keepG HF.out.2.2,HF.out.2.1⟩
       simp [results,Tryz.results156,go_sem,z0,z1]
end Go.Proofs.YthmomkjingcbiaaGreatDoor
namespace Go.Proofs.YthmomkjingcbiaaGreatDoor
open Go.RowKit Go.Maps Go.Sort Go.Shelf

def xY:List Us→Int
 | []=>0
 | u::r=>if xK 2 u=0 then xY r else xK 2 u
def X5 (l:List Us):Int:=uj [xY l,zp (zX (l.map (·.nm))) 9,zp (decide ((l.length:Int)≤12)) 7]

end Go.Proofs.YthmomkjingcbiaaGreatDoor
namespace Go.Proofs.YthmomkjingcbiaaGreatDoor
open Go.RowKit Go.Maps

structure U11 where
 hs:List UInt8
 ml:List UInt8
 dis:Bool
 gs:List (List UInt8)
abbrev zJ:=zL (List UInt8×Bool)
abbrev yA:=zL U11
def xQ (L:zB) (S:zw) (n:List UInt8) (a:List UInt8×Bool):U11:=⟨a.1,xk L n,a.2,yV S n⟩
def zc (A:zJ) (L:zB) (S:zw):yA:=A.map fun p=>(p.1,xQ L S p.1 p.2)

section
variable {V:Type}
theorem extV11:∀ {a b:zL V},zA a→zA b→(∀ x,x∈a↔x∈b)→a=b
 | [],[],_,_,_=>rfl
 | [],y::s,_,_,h=>absurd ((h y).2 (by simp)) (by simp)
 | x::r,[],_,_,h=>absurd ((h x).1 (by simp)) (by simp)
 | x::r,y::s,ha,hb,h=>by
  obtain ⟨a1,a2⟩:=List.pairwise_cons.1 ha
  obtain ⟨b1,b2⟩:=List.pairwise_cons.1 hb
  have e:x=y:=by
   rcases List.mem_cons.1 ((h x).1 (by simp)) with e | hx
   ·
    exact e
   ·
    rcases List.mem_cons.1 ((h y).2 (by simp)) with e | hy
    ·
     exact e.symm
    ·
     exact absurd (b1 _ hx) (by rw [yq (a1 _ hy)]; exact Bool.noConfusion)
  subst e
  rw [extV11 a2 b2 fun z=>?_]
  constructor
  ·
   intro hz
   rcases List.mem_cons.1 ((h z).1 (by simp [hz])) with e | h'
   ·
    subst e; exact absurd (a1 _ hz) (by rw [zD]; exact Bool.noConfusion)
   ·
    exact h'
  ·
   intro hz
   rcases List.mem_cons.1 ((h z).2 (by simp [hz])) with e | h'
   ·
    subst e; exact absurd (b1 _ hz) (by rw [zD]; exact Bool.noConfusion)
   ·
    exact h'
theorem ext11 {a b:zL V} (ha:zA a) (hb:zA b) (h:∀ k,xJ a k=xJ b k):a=b :=
 extV11 ha hb fun x=>by rw [← zH (k:=x.1) (v:=x.2) ha,← zH (k:=x.1) (v:=x.2) hb,h]
theorem vY {L:zL V} (hr:zA L) (k:List UInt8) (v:V) (x:List UInt8):xJ (zP L k v) x=if x=k then some v else xJ L x:=by
 refine Option.ext fun y=>?_
 rw [zH (yM hr k v),yD]
 by_cases e:x=k
 ·
  subst e
  rw [if_pos rfl]
  constructor
  ·
   rintro (h | ⟨_,h⟩)
   ·
    injection h with _ h; rw [h]
   ·
    exact absurd rfl h
  ·
   intro h; injection h with h; rw [h]; exact .inl rfl
 ·
  rw [if_neg e,zH hr]
  constructor
  ·
   rintro (h | ⟨h,_⟩)
   ·
    injection h with h; exact absurd h e
   ·
    exact h
  ·
   intro h; exact .inr ⟨h,e⟩
theorem qy {L:zL V} (hr:zA L) (k x:List UInt8):xJ (yu L k) x=if x=k then none else xJ L x:=by
 refine Option.ext fun y=>?_
 rw [zH (yj hr k),yn]
 by_cases e:x=k
 ·
  subst e
  rw [if_pos rfl]
  constructor
  ·
   rintro ⟨_,h⟩; exact absurd rfl h
  ·
   intro h; cases h
 ·
  rw [if_neg e,zH hr]
  exact ⟨fun h=>h.1,fun h=>⟨h,e⟩⟩
end

section
variable {A:zJ} {L:zB} {S:zw}
theorem Zk (A:zJ) (L:zB) (S:zw):zb (zc A L S)=zb A:=by
 unfold zc zb; rw [List.map_map]; rfl
theorem um (A:zJ) (L:zB) (S:zw):(zc A L S).length=A.length:=List.length_map _
theorem zK (h:zA A):zA (zc A L S):=yN h (Zk A L S)
theorem vU (A:zJ) (L:zB) (S:zw) (k:List UInt8):zx (zc A L S) k=zx A k:=by
 rw [Bool.eq_iff_iff,yL,yL,Zk]
theorem xn (h:zA A) (k:List UInt8):xJ (zc A L S) k=(xJ A k).map (xQ L S k):=by
 refine Option.ext fun y=>?_
 rw [zH (zK h)]
 unfold zc
 rw [List.mem_map]
 constructor
 ·
  rintro ⟨p,hp,e⟩
  injection e with e1 e2
  subst e1
  rw [(zH (k:=p.1) (v:=p.2) h).2 hp,← e2]; rfl
 ·
  intro hy
  cases hg:xJ A k with
  | none=>rw [hg] at hy; cases hy
  | some a =>
   rw [hg] at hy
   injection hy with hy
   exact ⟨(k,a),(zH h).1 hg,by rw [← hy]⟩

/-! ### addresses -/
theorem Z1 (L:zB) (n x:List UInt8):xk (vD L n) x=if x=n then [] else xk L x:=by
 by_cases e:x=n
 ·
  subst e; rw [if_pos rfl]; exact yW (UN L x)
 ·
  rw [if_neg e]
  cases h:xj L x with
  | false=>rw [yW h,yW (by rw [Xq e]; exact h)]
  | true =>
   have h1:=xU h
   unfold xk vD
   have:∀ M:zB,((M.filter fun p=>!(p.1 == n)).find? fun p=>p.1 == x)=M.find? fun p=>p.1 == x:=by
    intro M
    induction M with
    | nil=>rfl
    | cons y r ih =>
     by_cases ey:y.1=n
     ·
      have:(y.1 == x)=false:=by simp [ey]; exact fun h=>e h.symm
      rw [List.filter_cons_of_neg (by simp [ey]),ih,List.find?_cons_of_neg (by simp [this])]
     ·
      rw [List.filter_cons_of_pos (by simp [ey])]
      by_cases ex:y.1=x
      ·
       rw [List.find?_cons_of_pos (by simp [ex]),List.find?_cons_of_pos (by simp [ex])]
      ·
       rw [List.find?_cons_of_neg (by simp [ex]),List.find?_cons_of_neg (by simp [ex]),ih]
   rw [this]
theorem Yu (hr:vi L) (n a x:List UInt8):xk (uf L n a) x=if x=n then a else xk L x:=by
 by_cases e:x=n
 ·
  subst e; rw [if_pos rfl,get_put hr]
 ·
  rw [if_neg e]
  cases h:xj L x with
  | true =>
   have h1:=xU h
   exact ft (uW hr n a) (q:=(x,xk L x)) (vd.2 (.inr ⟨h1,e⟩))
  | false =>
   rw [yW h]
   refine yW ?_
   cases h2:xj (uf L n a) x with
   | false=>rfl
   | true =>
    obtain ⟨p,hp,hx⟩:=xE.1 h2
    rcases vd.1 hp with rfl | ⟨hp,_⟩
    ·
     exact absurd hx.symm e
    ·
     rw [xE.2 ⟨p,hp,hx⟩] at h; cases h

/-! ### groups -/
theorem rel11 (hr:zA S):∃ M,uh S (zb S) M :=
 ⟨S.flatMap fun p=>p.2.map fun m=>(p.1,m.1),rfl,fun g n=>by
  rw [xD hr,List.mem_flatMap]
  constructor
  ·
   rintro ⟨p,hp,h⟩
   obtain ⟨m,hm,e⟩:=List.mem_map.1 h
   injection e with e1 e2
   exact ⟨p,hp,e1,xT.2 ⟨m,hm,e2⟩⟩
  ·
   rintro ⟨p,hp,e1,h⟩
   obtain ⟨m,hm,e2⟩:=xT.1 h
   exact ⟨p,hp,List.mem_map.2 ⟨m,hm,by rw [e1,e2]⟩⟩⟩
variable {k:Nat}
theorem in_make (hg:zM S k) {g:List UInt8} (he:uS S g=0) (x n:List UInt8):uO (qu S g) x n=uO S x n:=by
 unfold qu
 rw [if_pos he,in10_put hg.rise (VH he).2.1]
theorem in_drop (hg:zM S k) {g:List UInt8} (he:jY S g=0) (x n:List UInt8):uO (jA S g) x n=true↔uO S x n=true∧x≠g:=by
 unfold jA
 rw [if_pos he,in10_del hg.rise]
theorem UL (hg:zM S k) {g n:List UInt8} (he:qv S g n=0) (x m:List UInt8):uO (qP S g n) x m=true↔uO S x m=true∨(x=g∧m=n):=by
 obtain ⟨M,hM⟩:=rel11 hg.rise
 rw [← (hM.join hg he).mem,List.mem_append,hM.mem]
 simp
theorem UK (hg:zM S k) {g n:List UInt8} (he:Yd S g n=0) (x m:List UInt8):uO (Zz S g n) x m=true↔uO S x m=true∧(x=g→m≠n):=by
 obtain ⟨M,hM⟩:=rel11 hg.rise
 rw [← (hM.leave hg he).mem,Uo,hM.mem]
theorem J4 (hg:zM S k) (n x m:List UInt8):uO (jT S n) x m=true↔uO S x m=true∧m≠n:=by
 obtain ⟨M,hM⟩:=rel11 hg.rise
 rw [← (hM.remove hg n).mem,rmM_mem,hM.mem]
theorem Z0 (hg:zM S k) {o n:List UInt8} (he:fS S o n=0) (hn:yV S n=[]) (hon:o≠n) (x m:List UInt8):uO (Zq S o n) x m=true↔(m=n∧uO S x o=true)∨(m≠n∧m≠o∧uO S x m=true):=by
 obtain ⟨M,hM⟩:=rel11 hg.rise
 rw [← (hM.rename hg he).mem,← hM.mem,← hM.mem]
 unfold renM
 rw [List.mem_map]
 have hnn:∀ y,(y,n)∉M:=fun y hy=>by
  have h1:=(xC hg.rise).2 ((hM.mem y n).1 hy)
  rw [hn] at h1; cases h1
 constructor
 ·
  rintro ⟨y,hy,e⟩
  by_cases ey:y.2=o
  ·
   rw [if_pos (by simp [ey])] at e
   injection e with e1 e2
   exact .inl ⟨e2.symm,by rw [← e1,← ey]; exact hy⟩
  ·
   rw [if_neg (by simp [ey])] at e
   subst e
   exact .inr ⟨fun e=>hnn x (by rw [← e]; exact hy),ey,hy⟩
 ·
  rintro (⟨rfl,h⟩ | ⟨h1,h2,h⟩)
  ·
   exact ⟨_,h,by simp⟩
  ·
   exact ⟨_,h,by simp [h2]⟩

theorem ofT {S':zw} (hr:zA S) (hr':zA S') {n n':List UInt8} (h:∀ g,uO S' g n'=true↔uO S g n=true):yV S' n'=yV S n :=
 vX (xM hr' n') (xM hr n) fun g=>by rw [xC hr',xC hr,h]
theorem of_make (hg:zM S k) {g:List UInt8} (he:uS S g=0) (n:List UInt8):yV (qu S g) n=yV S n :=
 ofT hg.rise (J8 hg g).rise fun x=>by rw [in_make hg he]
theorem of_drop (hg:zM S k) {g:List UInt8} (he:jY S g=0) (n:List UInt8):yV (jA S g) n=xZ (yV S n) g :=
 vX (xM (Xw hg g).rise n) ((xM hg.rise n).filter _) fun x=>by
  rw [xC (Xw hg g).rise,in_drop hg he,xZ,List.mem_filter,xC hg.rise]
  simp
theorem of_join (hg:zM S k) {g n:List UInt8} (he:qv S g n=0) (m:List UInt8):yV (qP S g n) m=if m=n then xu (yV S m++[g]) else yV S m:=by
 by_cases e:m=n
 ·
  subst e
  rw [if_pos rfl]
  refine vX (xM (js hg g m).rise m) (Vq _) fun x=>?_
  rw [xC (js hg g m).rise,UL hg he,YL,List.mem_append,xC hg.rise]
  simp
 ·
  rw [if_neg e]
  exact ofT hg.rise (js hg g n).rise fun x=>by rw [UL hg he]; simp [e]
theorem of_leave (hg:zM S k) {g n:List UInt8} (he:Yd S g n=0) (m:List UInt8):yV (Zz S g n) m=if m=n then xZ (yV S m) g else yV S m:=by
 by_cases e:m=n
 ·
  subst e
  rw [if_pos rfl]
  refine vX (xM (jP hg g m).rise m) ((xM hg.rise m).filter _) fun x=>?_
  rw [xC (jP hg g m).rise,UK hg he,xZ,List.mem_filter,xC hg.rise]
  simp
 ·
  rw [if_neg e]
  exact ofT hg.rise (jP hg g n).rise fun x=>by rw [UK hg he]; simp [e]
theorem of_remove (hg:zM S k) (n m:List UInt8):yV (jT S n) m=if m=n then [] else yV S m:=by
 by_cases e:m=n
 ·
  subst e; rw [if_pos rfl]; exact removed10 hg.rise m
 ·
  rw [if_neg e]
  exact ofT hg.rise (Xv hg n).rise fun x=>by rw [J4 hg]; simp [e]
theorem QB (hg:zM S k) {o n:List UInt8} (he:fS S o n=0) (hn:yV S n=[]) (hon:o≠n) (m:List UInt8):yV (Zq S o n) m=if m=n then yV S o else if m=o then [] else yV S m:=by
 by_cases e:m=n
 ·
  subst e; rw [if_pos rfl]
  exact ofT hg.rise (qS hg o m).rise fun x=>by rw [Z0 hg he hn hon]; simp
 ·
  rw [if_neg e]
  by_cases e2:m=o
  ·
   subst e2; rw [if_pos rfl]
   refine List.eq_nil_iff_forall_not_mem.2 fun g hgm=>?_
   rw [xC (qS hg m n).rise,Z0 hg he hn hon] at hgm
   simp [e] at hgm
  ·
   rw [if_neg e2]
   exact ofT hg.rise (qS hg o n).rise fun x=>by rw [Z0 hg he hn hon]; simp [e,e2]
end

structure zt (A:zJ) (L:zB) (S:zw) (k:Nat):Prop where
 rise:zA A
 few:A.length≤12
 nm:∀ p∈A,zf p.1=true∧yo p.2.1=true
 mir:∃ M,yw L M
 all:∀ x∈L,May9 x
 has:∀ x∈L,zx A x.1=true
 lfew:L.length≤k
 grp:zM S k
 mem:∀ g n,uO S g n=true→zx A n=true
theorem zt.nil:zt [] [] [] 0:=⟨List.Pairwise.nil,by simp,(fun _ h=>nomatch h),⟨[],yw.nil⟩,(fun _ h=>nomatch h),(fun _ h=>nomatch h),Nat.le_refl _,zM.nil,fun g n h=>by simp [uO,QQ,xJ,zx] at h⟩

def Vf (a b c d:Bool):Int:=if a then (if b then (if c then 9 else if d then 7 else 0) else 4) else 10
def jD (a c:Bool):Int:=if a then (if c then 0 else 8) else 10
def shF11 (a b c d:Bool):Int:=if a then (if b then (if c then (if d then 12 else 0) else 8) else 4) else 10
def JS (a b c d:Bool):Int:=if a then (if b then (if c then (if d then 9 else 0) else 8) else 11) else 10
def diF11 (a c d:Bool):Int:=if a then (if c then (if d then 12 else 0) else 8) else 10
def rnF11 (a b c d:Bool):Int:=if a then (if b then (if c then (if d then 9 else 0) else 8) else 10) else 10
def V8 (a b c d e:Bool) (x:Int):Int:=if a then (if b then (if c then (if d then (if e then x else 0) else 8) else 8) else 10) else 10

/-! ### of the code -/
def uK (A:zJ) (n:List UInt8):Bool:=match xJ A n with | some a=>a.2 | none=>false
def jr (A:zJ) (n:List UInt8):List UInt8:=match xJ A n with | some a=>a.1 | none=>[]
def xw (m:List UInt8):Bool:=decide (m=[]) || yP m
def Yh (A:zJ) (n h:List UInt8):Int:=Vf (zf n) (yo h) (zx A n) (decide (12≤A.length))
def FK (A:zJ) (n h:List UInt8):zJ:=if Yh A n h=0 then zP A n (h,false) else A
def Z5 (A:zJ) (n:List UInt8):Int:=jD (zf n) (zx A n)
def Y5 (A:zJ) (n h:List UInt8):Int:=shF11 (zf n) (yo h) (zx A n) (uK A n)
def JT (A:zJ) (n h:List UInt8):zJ:=if Y5 A n h=0 then zP A n (h,uK A n) else A
def qK (A:zJ) (L:zB) (n m:List UInt8):Int:=JS (zf n) (xw m) (zx A n) (decide (je L n m=9))
def Y4 (A:zJ) (L:zB) (n m:List UInt8):zB:=if qK A L n m=0 then Vr L n m else L
def Yg (A:zJ) (n:List UInt8) (b:Bool):Int:=diF11 (zf n) (zx A n) (uK A n == b)
def FB (A:zJ) (n:List UInt8) (b:Bool):zJ:=if Yg A n b=0 then zP A n (jr A n,b) else A
def jh (A:zJ) (o n:List UInt8):Int:=rnF11 (zf o) (zf n) (zx A o) (zx A n)
def JY (A:zJ) (o n:List UInt8):zJ:=if jh A o n=0 then yu (zP A n (jr A o,uK A o)) o else A
def JX (A:zJ) (L:zB) (o n:List UInt8):zB:=if jh A o n=0 then reL9 L o n else L
def JW (A:zJ) (S:zw) (o n:List UInt8):zw:=if jh A o n=0 then Zq S o n else S
def yS (A:zJ) (g n:List UInt8):Int:=if zf g then (if zf n then (if zx A n then 0 else 8) else 10) else 10
def ZC (A:zJ) (S:zw) (g n:List UInt8):Int:=if yS A g n=0 then qv S g n else yS A g n
def UE (A:zJ) (S:zw) (g n:List UInt8):zw:=if yS A g n=0 then qP S g n else S
def ZA (A:zJ) (S:zw) (g n:List UInt8):Int:=if yS A g n=0 then Yd S g n else yS A g n
def UC (A:zJ) (S:zw) (g n:List UInt8):zw:=if yS A g n=0 then Zz S g n else S

/-! ### of the document -/
def disU (l:yA) (n:List UInt8):Bool:=match xJ l n with | some u=>u.dis | none=>false
def gsU (l:yA) (n:List UInt8):List (List UInt8):=match xJ l n with | some u=>u.gs | none=>[]
def fL (l:yA) (n:List UInt8) (f:U11→U11):yA:=match xJ l n with | some u=>zP l n (f u) | none=>l
def Yw (l:yA) (n a:List UInt8):Bool:=l.any fun p=>!(a == []) && (p.2.ml == a) && !(p.1 == n)
def yB (m:List UInt8):List UInt8:=if yP m then zO m else []
def dcrE (l:yA) (n h:List UInt8):Int:=Vf (zf n) (yo h) (zx l n) (decide (12≤l.length))
def dcrL (l:yA) (n h:List UInt8):yA:=if dcrE l n h=0 then zP l n ⟨h,[],false,[]⟩ else l
def ddeE (l:yA) (n:List UInt8):Int:=jD (zf n) (zx l n)
def JD (l:yA) (n:List UInt8):yA:=if ddeE l n=0 then yu l n else l
def dshE (l:yA) (n h:List UInt8):Int:=shF11 (zf n) (yo h) (zx l n) (disU l n)
def dshL (l:yA) (n h:List UInt8):yA:=if dshE l n h=0 then fL l n (fun u=>{ u with hs:=h }) else l
def dsmE (l:yA) (n m:List UInt8):Int:=JS (zf n) (xw m) (zx l n) (Yw l n (yB m))
def dsmL (l:yA) (n m:List UInt8):yA:=if dsmE l n m=0 then fL l n (fun u=>{ u with ml:=yB m }) else l
def ddiE (l:yA) (n:List UInt8) (b:Bool):Int:=diF11 (zf n) (zx l n) (disU l n == b)
def ddiL (l:yA) (n:List UInt8) (b:Bool):yA:=if ddiE l n b=0 then fL l n (fun u=>{ u with dis:=b }) else l
def drnE (l:yA) (o n:List UInt8):Int:=rnF11 (zf o) (zf n) (zx l o) (zx l n)
def drnL (l:yA) (o n:List UInt8):yA:=if drnE l o n=0 then (match xJ l o with | some u=>zP (yu l o) n u | none=>l) else l
def VU (N:List (List UInt8)) (g:List UInt8):Int:=if zf g then (if vl N g then 9 else if 6≤N.length then 7 else 0) else 10
def jB (N:List (List UInt8)) (g:List UInt8):List (List UInt8):=if VU N g=0 then xu (N++[g]) else N
def Z6 (N:List (List UInt8)) (g:List UInt8):Int:=if zf g then (if vl N g then 0 else 8) else 10
def jE (N:List (List UInt8)) (g:List UInt8):List (List UInt8):=if Z6 N g=0 then xZ N g else N
def Xz (l:yA) (g:List UInt8):yA:=l.map fun p=>(p.1,{ p.2 with gs:=xZ p.2.gs g })
def fi (l:yA) (N:List (List UInt8)) (g:List UInt8):yA:=if Z6 N g=0 then Xz l g else l
def fg (l:yA) (N:List (List UInt8)) (g n:List UInt8):Int:=V8 (zf n) (zf g) (zx l n) (vl N g) (vl (gsU l n) g) 9
def qE (l:yA) (N:List (List UInt8)) (g n:List UInt8):yA:=if fg l N g n=0 then fL l n (fun u=>{ u with gs:=xu (u.gs++[g]) }) else l
def ff (l:yA) (N:List (List UInt8)) (g n:List UInt8):Int:=V8 (zf n) (zf g) (zx l n) (vl N g) (!vl (gsU l n) g) 12
def qD (l:yA) (N:List (List UInt8)) (g n:List UInt8):yA:=if ff l N g n=0 then fL l n (fun u=>{ u with gs:=xZ u.gs g }) else l

section
variable {A:zJ} {L:zB} {S:zw} {k:Nat}
theorem zt.free (h:zt A L S k) {n:List UInt8} (hn:zx A n=false):xj L n=false∧xk L n=[]∧yV S n=[]:=by
 have h1:xj L n=false:=by
  cases hh:xj L n with
  | false=>rfl
  | true =>
   obtain ⟨x,hx,e⟩:=xE.1 hh
   have:=h.has x hx
   rw [e,hn] at this; cases this
 refine ⟨h1,yW h1,List.eq_nil_iff_forall_not_mem.2 fun g hg=>?_⟩
 have:=h.mem g n ((xC h.grp.rise).1 hg)
 rw [hn] at this; cases this
theorem zt.lrise (h:zt A L S k):vi L:=by obtain ⟨_,h⟩:=h.mir; exact h.rl
theorem tell_dis (h:zt A L S k) (n:List UInt8):disU (zc A L S) n=uK A n:=by
 unfold disU uK
 rw [xn h.rise]
 cases xJ A n <;> rfl
theorem tell_gs (h:zt A L S k) {n:List UInt8}:gsU (zc A L S) n=yV S n:=by
 unfold gsU
 rw [xn h.rise]
 cases hh:xJ A n with
 | some a=>rfl
 | none=>exact (h.free (qz.1 hh)).2.2.symm
theorem Ua (h:zA A) (n:List UInt8) (a:List UInt8×Bool):zc (zP A n a) L S=zP (zc A L S) n (xQ L S n a) :=
 ext11 (zK (yM h n a)) (yM (zK h) n _) fun x=>by
  rw [xn (yM h n a),vY h,vY (zK h),xn h]
  by_cases e:x=n
  ·
   subst e; rw [if_pos rfl,if_pos rfl]; rfl
  ·
   rw [if_neg e,if_neg e]
theorem Ym (h:zA A) {L':zB} {S':zw} {n:List UInt8} {f:U11→U11} (ho:∀ x,x≠n→xk L' x=xk L x∧yV S' x=yV S x) (hn:∀ a,xJ A n=some a→xQ L' S' n a=f (xQ L S n a)):zc A L' S'=fL (zc A L S) n f:=by
 unfold fL
 rw [xn h]
 cases hh:xJ A n with
 | none =>
  refine ext11 (zK h) (zK h) fun x=>?_
  show _=xJ (zc A L S) x
  rw [xn h,xn h]
  by_cases e:x=n
  ·
   subst e; rw [hh]; rfl
  ·
   unfold xQ; rw [(ho x e).1,(ho x e).2]
 | some a =>
  refine ext11 (zK h) (yM (zK h) n _) fun x=>?_
  show _=xJ (zP (zc A L S) n (f (xQ L S n a))) x
  rw [xn h,vY (zK h),xn h]
  by_cases e:x=n
  ·
   subst e; rw [if_pos rfl,hh,← hn a hh]; rfl
  ·
   rw [if_neg e]; unfold xQ; rw [(ho x e).1,(ho x e).2]

theorem Qs {A:zJ} {n:List UInt8} {a:List UInt8×Bool} (hf:A.length≤12) (h:zx A n=true):(zP A n a).length≤12:=Nat.le_trans (putV_has a h) hf
theorem zt.put (h:zt A L S k) {n:List UInt8} {a:List UInt8×Bool} (hn:zf n=true) (ha:yo a.1=true) (hf:(zP A n a).length≤12):zt (zP A n a) L S (k+1):=by
 have hk:∀ x,zx A x=true→zx (zP A n a) x=true:=fun x hx=>uo.2 (.inr hx)
 refine ⟨yM h.rise n a,hf,fun p hp=>?_,h.mir,h.all,fun x hx=>hk _ (h.has x hx),Nat.le_succ_of_le h.lfew,h.grp.mono (Nat.le_succ _),fun g m hm=>hk _ (h.mem g m hm)⟩
 rcases yD.1 hp with rfl | ⟨hp,_⟩
 ·
  exact ⟨hn,ha⟩
 ·
  exact h.nm p hp
theorem zt.mono (h:zt A L S k) {j:Nat} (hj:k≤j):zt A L S j:=⟨h.rise,h.few,h.nm,h.mir,h.all,h.has,Nat.le_trans h.lfew hj,h.grp.mono hj,h.mem⟩
theorem Xr (h:zt A L S k) {n:List UInt8} (hn:zx A n=true):yo (jr A n)=true:=by
 obtain ⟨a,ha⟩:=qT hn
 unfold jr
 rw [ha]
 exact (h.nm (n,a) ((zH h.rise).1 ha)).2

def uM (A':zJ) (L':zB) (S':zw) (l':yA) (N':List (List UInt8)) (k:Nat):Prop:=zt A' L' S' k∧zc A' L' S'=l'∧zb S'=N'
theorem crF_zero {a b c d:Bool} (h:Vf a b c d=0):a=true∧b=true∧c=false∧d=false:=by revert h; cases a <;> cases b <;> cases c <;> cases d <;> decide
theorem shF_zero {a b c d:Bool} (h:shF11 a b c d=0):a=true∧b=true∧c=true∧d=false:=by revert h; cases a <;> cases b <;> cases c <;> cases d <;> decide
theorem smF_zero {a b c d:Bool} (h:JS a b c d=0):a=true∧b=true∧c=true∧d=false:=by revert h; cases a <;> cases b <;> cases c <;> cases d <;> decide
theorem diF_zero {a c d:Bool} (h:diF11 a c d=0):a=true∧c=true∧d=false:=by revert h; cases a <;> cases c <;> cases d <;> decide
theorem Yn {a b c d:Bool} (h:rnF11 a b c d=0):a=true∧b=true∧c=true∧d=false:=by revert h; cases a <;> cases b <;> cases c <;> cases d <;> decide

theorem cr_same (n h:List UInt8):dcrE (zc A L S) n h=Yh A n h:=by unfold dcrE Yh; rw [vU,um]
theorem cr_one (hg:zt A L S k) (n h:List UInt8):uM (FK A n h) L S (dcrL (zc A L S) n h) (zb S) (k+1):=by
 unfold FK dcrL
 rw [cr_same]
 by_cases e:Yh A n h=0
 ·
  rw [if_pos e,if_pos e]
  obtain ⟨h1,h2,h3,h4⟩:=crF_zero e
  rw [decide_eq_false_iff_not] at h4
  have hf:(zP A n (h,false)).length≤12:=by have:=Zs A n (h,false); omega
  refine ⟨hg.put h1 h2 hf,?_,rfl⟩
  rw [Ua hg.rise]
  obtain ⟨_,f2,f3⟩:=hg.free h3
  unfold xQ
  rw [f2,f3]
 ·
  rw [if_neg e,if_neg e]
  exact ⟨hg.mono (Nat.le_succ _),rfl,rfl⟩
theorem FD (n:List UInt8):ddeE (zc A L S) n=Z5 A n:=by unfold ddeE Z5; rw [vU]
theorem de_one (hg:zt A L S k) (n:List UInt8) (e:Z5 A n=0):uM (yu A n) (vD L n) (jT S n) (JD (zc A L S) n) (zb S) (k+1):=by
 unfold JD
 rw [FD,if_pos e]
 have hk:∀ x,x≠n→zx A x=true→zx (yu A n) x=true:=fun x hx h=>up.2 ⟨h,hx⟩
 have hm:∃ M,yw (vD L n) M:=by
  obtain ⟨M,hM⟩:=hg.mir
  cases hh:xj L n with
  | true=>exact ⟨_,hM.del hh⟩
  | false=>rw [uw hh]; exact ⟨M,hM⟩
 refine ⟨⟨yj hg.rise n,Nat.le_trans (jC A n) hg.few,fun p hp=>hg.nm p (yn.1 hp).1,hm,fun x hx=>hg.all x (yO.1 hx).1,fun x hx=>hk _ (yO.1 hx).2 (hg.has x (yO.1 hx).1),Nat.le_succ_of_le (Nat.le_trans (List.length_filter_le _ _) hg.lfew),(Xv hg.grp n).mono (Nat.le_succ _),fun g m h=>?_⟩,?_,vv (fun v=>yu v n) S⟩
 ·
  have:=(J4 hg.grp n g m).1 h
  exact hk _ this.2 (hg.mem g m this.1)
 ·
  refine ext11 (zK (yj hg.rise n)) (yj (zK hg.rise) n) fun x=>?_
  rw [xn (yj hg.rise n),qy hg.rise,qy (zK hg.rise),xn hg.rise]
  by_cases e:x=n
  ·
   subst e; rw [if_pos rfl,if_pos rfl]; rfl
  ·
   rw [if_neg e,if_neg e]; unfold xQ; rw [Z1,if_neg e,of_remove hg.grp,if_neg e]
theorem sh_same (hg:zt A L S k) (n h:List UInt8):dshE (zc A L S) n h=Y5 A n h:=by unfold dshE Y5; rw [vU,tell_dis hg]
theorem sh_one (hg:zt A L S k) (n h:List UInt8):uM (JT A n h) L S (dshL (zc A L S) n h) (zb S) (k+1):=by
 unfold JT dshL
 rw [sh_same hg]
 by_cases e:Y5 A n h=0
 ·
  rw [if_pos e,if_pos e]
  obtain ⟨h1,h2,h3,h4⟩:=shF_zero e
  refine ⟨hg.put h1 h2 (Qs hg.few h3),?_,rfl⟩
  obtain ⟨a,ha⟩:=qT h3
  rw [Ua hg.rise]
  unfold fL uK
  rw [xn hg.rise,ha]
  rfl
 ·
  rw [if_neg e,if_neg e]
  exact ⟨hg.mono (Nat.le_succ _),rfl,rfl⟩
theorem di_same (hg:zt A L S k) (n:List UInt8) (b:Bool):ddiE (zc A L S) n b=Yg A n b:=by unfold ddiE Yg; rw [vU,tell_dis hg]
theorem di_one (hg:zt A L S k) (n:List UInt8) (b:Bool):uM (FB A n b) L S (ddiL (zc A L S) n b) (zb S) (k+1):=by
 unfold FB ddiL
 rw [di_same hg]
 by_cases e:Yg A n b=0
 ·
  rw [if_pos e,if_pos e]
  obtain ⟨h1,h3,h4⟩:=diF_zero e
  refine ⟨hg.put h1 (Xr hg h3) (Qs hg.few h3),?_,rfl⟩
  obtain ⟨a,ha⟩:=qT h3
  rw [Ua hg.rise]
  unfold fL jr
  rw [xn hg.rise,ha]
  rfl
 ·
  rw [if_neg e,if_neg e]
  exact ⟨hg.mono (Nat.le_succ _),rfl,rfl⟩
end

section
variable {A:zJ} {L:zB} {S:zw} {k:Nat}
theorem has_of_get {n a:List UInt8} (h:xk L n=a) (ha:a≠[]):(n,a)∈L:=by
 cases hh:xj L n with
 | true=>have:=xU hh; rwa [h] at this
 | false=>rw [yW hh] at h; exact absurd h.symm ha
theorem fold_ne {m:List UInt8} (h:yP m=true):zO m≠[]:=fun e=>by
 have:=ZT m
 rw [e,h,QV] at this; cases this
theorem bad_same (hg:zt A L S k) (n:List UInt8) {a:List UInt8} (ha:a≠[]):Yw (zc A L S) n a=Q8 L n a:=by
 obtain ⟨M,hM⟩:=hg.mir
 rw [Bool.eq_iff_iff]
 unfold Yw Q8
 simp only [List.any_eq_true,Bool.and_eq_true,Bool.not_eq_true',beq_eq_false_iff_ne,beq_iff_eq,decide_eq_true_eq]
 constructor
 ·
  rintro ⟨p,hp,⟨_,h2⟩,h3⟩
  obtain ⟨q,hq,rfl⟩:=List.mem_map.1 hp
  have h4:(q.1,a)∈L:=has_of_get h2 ha
  exact ⟨fY h4,by rw [hM.own h4]; exact h3⟩
 ·
  rintro ⟨h1,h2⟩
  have h3:=qR h1
  obtain ⟨p,hp,e⟩:=xT.1 (hg.has _ h3)
  refine ⟨_,List.mem_map.2 ⟨p,hp,rfl⟩,⟨ha,?_⟩,?_⟩
  ·
   show xk L p.1=a
   rw [e]; exact ft hg.lrise h3
  ·
   show ¬ p.1=n
   rw [e]; exact h2
theorem JR (hg:zt A L S k) (n m:List UInt8):dsmE (zc A L S) n m=qK A L n m:=by
 unfold dsmE qK
 rw [vU]
 cases h1:zf n with
 | false=>rfl
 | true =>
  by_cases hm:m=[]
  ·
   subst hm
   have:Yw (zc A L S) n (yB [])=decide (je L n []=9):=by
    have e1:yB []=[]:=rfl
    rw [e1]
    have e2:je L n []=0:=by unfold je; rw [if_pos h1,if_pos rfl]
    rw [e2]
    unfold Yw
    rw [List.any_eq_false.2 (fun p _=>by simp)]
    rfl
   rw [this]
  ·
   cases h2:yP m with
   | false =>
    have:xw m=false:=by unfold xw; rw [h2,decide_eq_false hm]; rfl
    rw [this]; rfl
   | true =>
    have e1:yB m=zO m:=by unfold yB; rw [if_pos h2]
    rw [e1,bad_same hg n (fold_ne h2)]
    have:decide (je L n m=9)=Q8 L n (zO m):=by
     unfold je
     rw [if_pos h1,if_neg hm,if_pos h2]
     cases Q8 L n (zO m) <;> rfl
    rw [this]
theorem smE_zero {n m:List UInt8} (h:qK A L n m=0):zf n=true∧xw m=true∧zx A n=true∧je L n m=0∧(m≠[]→Q8 L n (zO m)=false∧yP m=true):=by
 obtain ⟨h1,h2,h3,h4⟩:=smF_zero h
 rw [decide_eq_false_iff_not] at h4
 refine ⟨h1,h2,h3,?_⟩
 unfold je at h4 ⊢
 rw [if_pos h1] at h4 ⊢
 by_cases hm:m=[]
 ·
  rw [if_pos hm]; exact ⟨rfl,fun h=>absurd hm h⟩
 ·
  have h5:yP m=true:=by unfold xw at h2; rw [decide_eq_false hm,Bool.false_or] at h2; exact h2
  rw [if_neg hm,if_pos h5] at h4 ⊢
  cases hb:Q8 L n (zO m) with
  | true=>rw [hb] at h4; exact absurd rfl h4
  | false=>exact ⟨rfl,fun _=>⟨rfl,h5⟩⟩
theorem sm_one (hg:zt A L S k) (n m:List UInt8):uM A (Y4 A L n m) S (dsmL (zc A L S) n m) (zb S) (k+1):=by
 unfold Y4 dsmL
 rw [JR hg]
 by_cases e:qK A L n m=0
 case neg=>rw [if_neg e,if_neg e]; exact ⟨hg.mono (Nat.le_succ _),rfl,rfl⟩
 rw [if_pos e,if_pos e]
 obtain ⟨h1,h2,h3,h4,h5⟩:=smE_zero e
 unfold Vr
 rw [if_pos h4]
 obtain ⟨M,hM⟩:=hg.mir
 have hd:∃ M,yw (vD L n) M:=by
  cases hh:xj L n with
  | true=>exact ⟨_,hM.del hh⟩
  | false=>rw [uw hh]; exact ⟨M,hM⟩
 by_cases hm:m=[]
 ·
  subst hm
  rw [if_pos rfl]
  refine ⟨⟨hg.rise,hg.few,hg.nm,hd,fun x hx=>hg.all x (yO.1 hx).1,fun x hx=>hg.has x (yO.1 hx).1,Nat.le_succ_of_le (Nat.le_trans (List.length_filter_le _ _) hg.lfew),hg.grp.mono (Nat.le_succ _),hg.mem⟩,?_,rfl⟩
  refine Ym hg.rise (fun x hx=>⟨by rw [Z1,if_neg hx],rfl⟩) (fun a _=>?_)
  show xQ (vD L n) S n a={ xQ L S n a with ml:=[] }
  unfold xQ
  rw [Z1,if_pos rfl]
 ·
  rw [if_neg hm]
  obtain ⟨h6,h7⟩:=h5 hm
  have hput:∃ M,yw (uf L n (zO m)) M:=by
   obtain ⟨M',hM'⟩:=hd
   rw [← put_del hg.lrise]
   exact ⟨_,hM'.put (UN L n) (free9 hM h6)⟩
  refine ⟨⟨hg.rise,hg.few,hg.nm,hput,fun x hx=>?_,fun x hx=>?_,?_,hg.grp.mono (Nat.le_succ _),hg.mem⟩,?_,rfl⟩
  ·
   rcases vd.1 hx with rfl | ⟨hx,_⟩
   ·
    exact May9.of h1 h7
   ·
    exact hg.all x hx
  ·
   rcases vd.1 hx with rfl | ⟨hx,_⟩
   ·
    exact h3
   ·
    exact hg.has x hx
  ·
   rw [qp hg.lrise]
   have:=hg.lfew
   split <;> omega
  ·
   refine Ym hg.rise (fun x hx=>⟨by rw [Yu hg.lrise,if_neg hx],rfl⟩) (fun a _=>?_)
   show xQ (uf L n (zO m)) S n a={ xQ L S n a with ml:=yB m }
   unfold xQ yB
   rw [Yu hg.lrise,if_pos rfl,if_pos h7]

theorem rn_same (o n:List UInt8):drnE (zc A L S) o n=jh A o n:=by unfold drnE jh; rw [vU,vU]
theorem rn_free (hg:zt A L S k) {o n:List UInt8} (e:jh A o n=0):zf o=true∧zf n=true∧zx A o=true∧zx A n=false∧o≠n∧fS S o n=0:=by
 obtain ⟨h1,h2,h3,h4⟩:=Yn e
 refine ⟨h1,h2,h3,h4,(fun e=>by rw [e,h4] at h3; cases h3),?_⟩
 unfold fS
 rw [if_pos h2,if_neg]
 rintro ⟨_,h⟩
 exact h (hg.free h4).2.2
theorem get_re (hg:zt A L S k) {o n:List UInt8} (e:jh A o n=0) (x:List UInt8):xk (reL9 L o n) x=if x=n then xk L o else if x=o then [] else xk L x:=by
 obtain ⟨h1,h2,h3,h4,h5,_⟩:=rn_free hg e
 obtain ⟨f1,f2,_⟩:=hg.free h4
 have hre:F8 L o n=if xj L o then 0 else 8:=by unfold F8; rw [if_pos h2,f1]; rfl
 unfold reL9
 rw [hre]
 cases hh:xj L o with
 | true =>
  rw [if_pos rfl,if_pos rfl,Yu (qM hg.lrise o),Z1]
 | false =>
  rw [if_neg (by decide),yW hh]
  by_cases e1:x=n
  ·
   rw [if_pos e1,e1,f2]
  ·
   rw [if_neg e1]
   by_cases e2:x=o
   ·
    rw [if_pos e2,e2,yW hh]
   ·
    rw [if_neg e2]
theorem rn_one (hg:zt A L S k) (o n:List UInt8):uM (JY A o n) (JX A L o n) (JW A S o n) (drnL (zc A L S) o n) (zb S) (k+1):=by
 unfold JY JX JW drnL
 rw [rn_same]
 by_cases e:jh A o n=0
 case neg=>rw [if_neg e,if_neg e,if_neg e,if_neg e]; exact ⟨hg.mono (Nat.le_succ _),rfl,rfl⟩
 rw [if_pos e,if_pos e,if_pos e,if_pos e]
 obtain ⟨h1,h2,h3,h4,h5,h6⟩:=rn_free hg e
 obtain ⟨f1,f2,f3⟩:=hg.free h4
 obtain ⟨a,ha⟩:=qT h3
 have hA:jr A o=a.1:=by unfold jr; rw [ha]
 have hD:uK A o=a.2:=by unfold uK; rw [ha]
 rw [hA,hD,xn hg.rise,ha]
 show uM _ _ _ (zP (yu (zc A L S) o) n (xQ L S o a)) _ _
 have hr1:=yM hg.rise n a
 have hn':zx (yu (zP A n a) o) n=true:=up.2 ⟨uo.2 (.inl rfl),Ne.symm h5⟩
 have hk:∀ x,x≠o→zx A x=true→zx (yu (zP A n a) o) x=true:=fun x hx h=>up.2 ⟨uo.2 (.inr h),hx⟩
 have hre:F8 L o n=if xj L o then 0 else 8:=by unfold F8; rw [if_pos h2,f1]; rfl
 have hlen:(yu (zP A n a) o).length≤12:=by
  have q1:=Zs A n a
  have q2:=FC (L:=zP A n a) (k:=o) (uo.2 (.inr h3))
  have:=hg.few
  omega
 have hL:(∃ M,yw (reL9 L o n) M)∧(∀ x∈reL9 L o n,May9 x)∧(∀ x∈reL9 L o n,zx (yu (zP A n a) o) x.1=true)∧(reL9 L o n).length≤k+1:=by
  obtain ⟨M,hM⟩:=hg.mir
  unfold reL9
  rw [hre]
  cases hh:xj L o with
  | false =>
   rw [if_neg (by decide)]
   refine ⟨⟨M,hM⟩,hg.all,fun x hx=>hk _ (fun e=>?_) (hg.has x hx),Nat.le_succ_of_le hg.lfew⟩
   have:=Uv (n:=x.1) (a:=x.2) hx
   rw [e,hh] at this; cases this
  | true =>
   rw [if_pos rfl,if_pos rfl]
   have hm:=xU hh
   have ho:Vc (vD L o) (xk L o)=false:=by
    cases hq:Vc (vD L o) (xk L o) with
    | false=>rfl
    | true =>
     obtain ⟨q1,q2⟩:=yO.1 (qR hq)
     exact absurd (hM.one q1 hm) q2
   refine ⟨⟨_,(hM.del hh).put (by rw [Xq (Ne.symm h5)]; exact f1) ho⟩,fun x hx=>?_,fun x hx=>?_,?_⟩
   ·
    rcases vd.1 hx with rfl | ⟨hx,_⟩
    ·
     exact ⟨h2,(hg.all _ hm).2⟩
    ·
     exact hg.all x (yO.1 hx).1
   ·
    rcases vd.1 hx with rfl | ⟨hx,_⟩
    ·
     exact hn'
    ·
     exact hk _ (yO.1 hx).2 (hg.has x (yO.1 hx).1)
   ·
    rw [qp (qM hg.lrise o)]
    have q1:(vD L o).length≤L.length:=List.length_filter_le _ _
    have:=hg.lfew
    split <;> omega
 refine ⟨⟨yj hr1 o,hlen,fun p hp=>?_,hL.1,hL.2.1,hL.2.2.1,hL.2.2.2,(qS hg.grp o n).mono (Nat.le_succ _),fun g m h=>?_⟩,?_,?_⟩
 ·
  rcases yD.1 (yn.1 hp).1 with rfl | ⟨hp,_⟩
  ·
   exact ⟨h2,(hg.nm (o,a) ((zH hg.rise).1 ha)).2⟩
  ·
   exact hg.nm p hp
 ·
  rcases (Z0 hg.grp h6 f3 h5 g m).1 h with ⟨rfl,_⟩ | ⟨_,h2,h3⟩
  ·
   exact hn'
  ·
   exact hk _ h2 (hg.mem g m h3)
 ·
  refine ext11 (zK (yj hr1 o)) (yM (yj (zK hg.rise) o) n _) fun x=>?_
  rw [xn (yj hr1 o),qy hr1,vY hg.rise,vY (yj (zK hg.rise) o),qy (zK hg.rise),xn hg.rise]
  by_cases e1:x=n
  ·
   subst e1
   rw [if_neg (Ne.symm h5),if_pos rfl,if_pos rfl]
   show some (xQ _ _ x a)=_
   unfold xQ
   rw [get_re hg e,if_pos rfl,QB hg.grp h6 f3 h5,if_pos rfl]
  ·
   rw [if_neg e1,if_neg e1]
   by_cases e2:x=o
   ·
    rw [if_pos e2,if_pos e2]; rfl
   ·
    rw [if_neg e2,if_neg e2]
    unfold xQ
    rw [get_re hg e,if_neg e1,if_neg e2,QB hg.grp h6 f3 h5,if_neg e1,if_neg e2]
 ·
  unfold Zq
  rw [if_pos h6]
  exact vv (fun v=>fR o n v) S

theorem tell_same {S':zw} (h:∀ n,yV S' n=yV S n):zc A L S'=zc A L S:=by
 unfold zc xQ
 exact List.map_congr_left fun p _=>by rw [h]
theorem Fp (g:List UInt8):VU (zb S) g=uS S g:=by
 obtain h:vl (zb S) g=zx S g:=by rw [Bool.eq_iff_iff,ve,yL]
 unfold VU uS
 rw [h,yK]
theorem ma_one (hg:zt A L S k) (g:List UInt8):uM A L (qu S g) (zc A L S) (jB (zb S) g) (k+1):=by
 by_cases e:uS S g=0
 case neg =>
  unfold jB qu
  rw [Fp,if_neg e,if_neg e]; exact ⟨hg.mono (Nat.le_succ _),rfl,rfl⟩
 refine ⟨⟨hg.rise,hg.few,hg.nm,hg.mir,hg.all,hg.has,Nat.le_succ_of_le hg.lfew,(J8 hg.grp g).mono (Nat.le_succ _),fun x n h=>?_⟩,tell_same (of_make hg.grp e),?_⟩
 ·
  rw [in_make hg.grp e] at h; exact hg.mem x n h
 ·
  obtain ⟨M,hM⟩:=rel11 hg.grp.rise
  have:=(hM.make hg.grp e).names
  unfold jB
  rw [Fp,if_pos e,this]
theorem dr_same (g:List UInt8):Z6 (zb S) g=jY S g:=by
 obtain h:vl (zb S) g=zx S g:=by rw [Bool.eq_iff_iff,ve,yL]
 unfold Z6 jY yF
 rw [h,List.all_nil,Bool.and_true]
theorem dr_one (hg:zt A L S k) (g:List UInt8):uM A L (jA S g) (fi (zc A L S) (zb S) g) (jE (zb S) g) (k+1):=by
 unfold fi jE
 rw [dr_same]
 by_cases e:jY S g=0
 case neg =>
  unfold jA
  rw [if_neg e,if_neg e,if_neg e]; exact ⟨hg.mono (Nat.le_succ _),rfl,rfl⟩
 rw [if_pos e,if_pos e]
 refine ⟨⟨hg.rise,hg.few,hg.nm,hg.mir,hg.all,hg.has,Nat.le_succ_of_le hg.lfew,(Xw hg.grp g).mono (Nat.le_succ _),fun x n h=>hg.mem x n ((in_drop hg.grp e x n).1 h).1⟩,?_,?_⟩
 ·
  unfold Xz zc xQ
  rw [List.map_map]
  exact List.map_congr_left fun p _=>by rw [of_drop hg.grp e]; rfl
 ·
  obtain ⟨M,hM⟩:=rel11 hg.grp.rise
  exact (hM.drop hg.grp e).names.symm
theorem J5 (hr:zA S) (n g:List UInt8):vl (yV S n) g=uO S g n:=by
 rw [Bool.eq_iff_iff,ve,xC hr]
theorem jo_same (hg:zt A L S k) (g n:List UInt8):fg (zc A L S) (zb S) g n=ZC A S g n:=by
 obtain h:vl (zb S) g=zx S g:=by rw [Bool.eq_iff_iff,ve,yL]
 unfold fg ZC yS qv yF V8
 rw [vU,h,tell_gs hg,J5 hg.grp.rise]
 simp only [List.all_cons,List.all_nil,Bool.and_true]
 cases zf g <;> cases zf n <;> cases zx A n <;> cases zx S g <;> cases uO S g n <;> rfl
theorem le_same (hg:zt A L S k) (g n:List UInt8):ff (zc A L S) (zb S) g n=ZA A S g n:=by
 obtain h:vl (zb S) g=zx S g:=by rw [Bool.eq_iff_iff,ve,yL]
 unfold ff ZA yS Yd yF V8
 rw [vU,h,tell_gs hg,J5 hg.grp.rise]
 simp only [List.all_cons,List.all_nil,Bool.and_true]
 cases zf g <;> cases zf n <;> cases zx A n <;> cases zx S g <;> cases uO S g n <;> rfl
theorem ahead_zero {g n:List UInt8} (h:yS A g n=0):zf g=true∧zf n=true∧zx A n=true:=by
 unfold yS at h
 revert h
 cases zf g <;> cases zf n <;> cases zx A n <;> simp
theorem joE_zero {g n:List UInt8} (h:ZC A S g n=0):yS A g n=0∧qv S g n=0:=by
 unfold ZC at h
 by_cases e:yS A g n=0
 ·
  rw [if_pos e] at h; exact ⟨e,h⟩
 ·
  rw [if_neg e] at h; exact absurd h e
theorem leE_zero {g n:List UInt8} (h:ZA A S g n=0):yS A g n=0∧Yd S g n=0:=by
 unfold ZA at h
 by_cases e:yS A g n=0
 ·
  rw [if_pos e] at h; exact ⟨e,h⟩
 ·
  rw [if_neg e] at h; exact absurd h e
theorem joS_no {g n:List UInt8} (h:ZC A S g n≠0):UE A S g n=S:=by
 unfold UE
 by_cases e:yS A g n=0
 ·
  unfold ZC at h
  rw [if_pos e] at h ⊢
  exact if_neg h
 ·
  rw [if_neg e]
theorem leS_no {g n:List UInt8} (h:ZA A S g n≠0):UC A S g n=S:=by
 unfold UC
 by_cases e:yS A g n=0
 ·
  unfold ZA at h
  rw [if_pos e] at h ⊢
  exact if_neg h
 ·
  rw [if_neg e]
theorem jo_one (hg:zt A L S k) (g n:List UInt8):uM A L (UE A S g n) (qE (zc A L S) (zb S) g n) (zb S) (k+1):=by
 unfold qE
 rw [jo_same hg]
 by_cases e:ZC A S g n=0
 case neg=>rw [joS_no e,if_neg e]; exact ⟨hg.mono (Nat.le_succ _),rfl,rfl⟩
 rw [if_pos e]
 obtain ⟨h1,h2⟩:=joE_zero e
 obtain ⟨_,_,h3⟩:=ahead_zero h1
 unfold UE
 rw [if_pos h1]
 refine ⟨⟨hg.rise,hg.few,hg.nm,hg.mir,hg.all,hg.has,Nat.le_succ_of_le hg.lfew,js hg.grp g n,fun x m h=>?_⟩,?_,Xi g n⟩
 ·
  rcases (UL hg.grp h2 x m).1 h with h | ⟨_,rfl⟩
  ·
   exact hg.mem x m h
  ·
   exact h3
 ·
  refine Ym hg.rise (fun x hx=>⟨rfl,by rw [of_join hg.grp h2,if_neg hx]⟩) (fun a _=>?_)
  unfold xQ
  rw [of_join hg.grp h2,if_pos rfl]
theorem le_one (hg:zt A L S k) (g n:List UInt8):uM A L (UC A S g n) (qD (zc A L S) (zb S) g n) (zb S) (k+1):=by
 unfold qD
 rw [le_same hg]
 by_cases e:ZA A S g n=0
 case neg=>rw [leS_no e,if_neg e]; exact ⟨hg.mono (Nat.le_succ _),rfl,rfl⟩
 rw [if_pos e]
 obtain ⟨h1,h2⟩:=leE_zero e
 unfold UC
 rw [if_pos h1]
 refine ⟨⟨hg.rise,hg.few,hg.nm,hg.mir,hg.all,hg.has,Nat.le_succ_of_le hg.lfew,(jP hg.grp g n).mono (Nat.le_succ _),fun x m h=>hg.mem x m ((UK hg.grp h2 x m).1 h).1⟩,?_,?_⟩
 ·
  refine Ym hg.rise (fun x hx=>⟨rfl,by rw [of_leave hg.grp h2,if_neg hx]⟩) (fun a _=>?_)
  unfold xQ
  rw [of_leave hg.grp h2,if_pos rfl]
 ·
  unfold Zz
  rw [if_pos h2]
  exact ql _ S g
end
end Go.Proofs.YthmomkjingcbiaaGreatDoor
namespace Go.Proofs.YthmomkjingcbiaaGreatDoor
open Go.RowKit Go.Maps
set_option linter.unusedSectionVars false

/-! ### accounts -/
def ea11:List UInt8×Bool→DataW Unit:=fun a=>.agg [.lit (.string a.1),.lit (.bool a.2)]
def rdA11:List Value→Option (DataW Unit×List MemPlace)
 | [.string s,.bool b]=>some (.agg [.lit (.string s.data.toList),.lit (.bool b)],[])
 | _=>none
def RA11:Value→Option (DataW Unit×List MemPlace)
 | .agg c=>rdA11 c.toList
 | _=>none
theorem ra11_inv {v:Value} {z:DataW Unit×List MemPlace} (h:RA11 v=some z):∃ s b,v=.agg #[.string s,.bool b]∧z=(ea11 (s.data.toList,b),[]):=by
 unfold RA11 at h
 split at h
 ·
  rename_i c
  unfold rdA11 at h
  split at h
  ·
   rename_i s b hc
   injection h with h
   refine ⟨s,b,?_,h.symm⟩
   have:c=[Value.string s,Value.bool b].toArray:=by rw [← hc]
   rw [this]
  ·
   cases h
 ·
  cases h
theorem Fb (s:ByteArray) (b:Bool):RA11 (.agg #[.string s,.bool b])=some (ea11 (s.data.toList,b),[]):=rfl
def yG (w:World) (P:Nat) (A:zJ):Prop:=w.ownsMap Tryz.prog 9 RA11 P A.length (uq ea11 A)
theorem yG.of {w:World} {P n:Nat} {A:zJ} (h:w.ownsMap Tryz.prog 9 RA11 P n (uq ea11 A)):yG w P A:=by
 have:=vu h
 rwa [vz] at this
theorem yG.kept {w w':World} {P:Nat} {A:zJ} (h:yG w P A) (hb:w'.heap[P]? = w.heap[P]?):yG w' P A:=by
 obtain ⟨es,clock,h1,r⟩:=h
 exact ⟨es,clock,hb.trans h1,r⟩
theorem yG.lt {w:World} {P:Nat} {A:zJ} (h:yG w P A):P<w.heap.size:=World.ownsMap.lt h
theorem Zf (w:World):(zeroValue 147).run Tryz.prog w=.ok (.agg #[.string ⟨#[]⟩,.bool false]) w:=by kernel_rfl
theorem at_acc11 (A:zJ) (k:List UInt8):(uq ea11 A).atKey (.string k) (ea11 ([],false))=ea11 (jr A k,uK A k):=by
 unfold jr uK
 cases h:xJ A k with
 | none=>rw [Q3 _ h]
 | some v=>rw [Yx _ h]
theorem FW (w:World):yG (w.alloc (.map #[] 0)) w.heap.size [] :=
 yG.of (n:=0) (World.ownsMap_made (H:=Unit) w Tryz.prog 9 RA11)
def av11 (A:zJ) (k:List UInt8):Value:=.agg #[.string (zI (jr A k)),.bool (uK A k)]
section
variable {w:World} {P:Nat} {A:zJ}
theorem acc11_v {s:ByteArray} {v:Value} {ps:List MemPlace} (hv:RA11 v=some ((uq ea11 A).atKey (.string s.data.toList) (ea11 ([],false)),ps)):v=av11 A s.data.toList:=by
 obtain ⟨c,b,rfl,hc⟩:=ra11_inv hv
 rw [at_acc11] at hc
 injection hc with hc _
 unfold ea11 at hc
 injection hc with hc
 injection hc with h1 h2
 injection h1 with h1
 injection h1 with h1
 injection h2 with h2 _
 injection h2 with h2
 injection h2 with h2
 have h1':jr A s.data.toList=c.data.toList:=h1
 have h2':uK A s.data.toList=b:=h2
 unfold av11
 rw [h1',h2',xo]
theorem lookA11 (h:yG w P A) (s:ByteArray) (hs:s.size≤maxLen) :
  (Instr.lookup 102 (.map (some P)) (.string s) true).run Tryz.prog w=.ok (.tuple #[av11 A s.data.toList,.bool (zx A s.data.toList)]) w:=by
 obtain ⟨v,ps,hrun,hv⟩:=World.ownsMap.look_ok h xI Tryz.underlying102 (Zf w) (Fb ⟨#[]⟩ false) (fZ s hs)
 rw [hrun,Z7,acc11_v hv]
theorem lookA111 (h:yG w P A) (s:ByteArray) (hs:s.size≤maxLen) :
  (Instr.lookup 102 (.map (some P)) (.string s) false).run Tryz.prog w=.ok (av11 A s.data.toList) w:=by
 obtain ⟨v,ps,hrun,hv⟩:=World.ownsMap.lookup h xI Tryz.underlying102 (Zf w) (Fb ⟨#[]⟩ false) (fZ s hs)
 rw [hrun,acc11_v hv]
theorem lenA11 (h:yG w P A) (ty:TypeId):(Builtin.len_ #[102] ty #[.map (some P)]).run Tryz.prog w=.ok (.int .i64 A.length) w:=by
 have:=World.ownsMap.len h (t:=102) Tryz.underlying102 ty
 rwa [vz] at this
theorem storeA11 (h:yG w P A) (hf:A.length≤1000) (s v:ByteArray) (b:Bool) (hs:s.size≤maxLen) :
  ∃ w',(Instr.mapUpdate 102 (.map (some P)) (.string s) (.agg #[.string v,.bool b])).run Tryz.prog w=.ok () w'∧yG w' P (zP A s.data.toList (v.data.toList,b))∧w.mapTurned w' P:=by
 obtain ⟨w',hrun,hown,ht⟩:=World.ownsMap.store h xI Tryz.underlying102 (Nat.lt_of_le_of_lt hf (by decide)) (fZ s hs) (Fb v b)
 rw [UT] at hown
 exact ⟨w',hrun,yG.of hown,ht⟩
theorem dropA11 (h:yG w P A) (s:ByteArray) (hs:s.size≤maxLen) (ty:TypeId) :
  ∃ w',(Builtin.delete_ #[102,9] ty #[.map (some P),.string s]).run Tryz.prog w=.ok (.tuple #[]) w'∧yG w' P (yu A s.data.toList)∧w.mapTurned w' P:=by
 obtain ⟨w',hrun,hown,ht⟩:=World.ownsMap.drop h xI Tryz.underlying102 (fZ s hs) ty
 rw [UV] at hown
 exact ⟨w',hrun,yG.of hown,ht⟩
end

/-! ### the directory -/
def jt (M:Nat) (p q:Option Nat) (i:Nat):Prop:=i=M∨p=some i∨q=some i
def ju (G:Nat) (pg:Option Nat) (T:zF) (i:Nat):Prop:=i=G∨pg=some i∨∃ x∈T,x.2.1=i
structure qH (w:World) (D P:Nat) (A:zJ) (M:Nat) (p q:Option Nat) (L LM:zB) (G:Nat) (pg:Option Nat) (T:zF):Prop where
 blk:w.heap[D]? = some (.cells #[.map (some P),.pointer (some ⟨M,0,none⟩),.pointer (some ⟨G,0,none⟩)] 108 (0,0))
 acc:yG w P A
 idx:vE w M p q L LM
 grp:zT w G pg T
 sep1:∀ i,jt M p q i→i≠P
 sep2:∀ i,ju G pg T i→i≠P
 sep3:∀ i,jt M p q i→ju G pg T i→False

def zu (W w':World):Prop:=∀ (k:Nat) (c:Array Value) (T:TypeId) (fr:Nat×Nat),W.heap[k]? = some (.cells c T fr)→T≠108→T≠164→T≠167→w'.heap[k]? = some (.cells c T fr)
theorem zu.of_below {W w':World} (hb:Below W.heap.size W w'):zu W w':=fun k _ _ _ h _ _ _=>(hb.block k (Array.getElem?_eq_some_iff.1 h).1).trans h
theorem zu.trans {a b c:World} (h:zu a b) (k:zu b c):zu a c:=fun i x T fr hi h1 h2 h3=>k i x T fr (h i x T fr hi h1 h2 h3) h1 h2 h3
theorem zu.refl (w:World):zu w w:=fun _ _ _ _ h _ _ _=>h

section
variable {w w':World} {D P M G:Nat} {A A':zJ} {p q pg:Option Nat} {L LM L':zB} {T:zF}
theorem qH.lt (h:qH w D P A M p q L LM G pg T):D<w.heap.size:=(Array.getElem?_eq_some_iff.1 h.blk).1
theorem jR {b c:Nat} {x y:Array Value} {X Y:TypeId} {f g:Nat×Nat} (hb:w.heap[b]? = some (.cells x X f)) (hc:w.heap[c]? = some (.cells y Y g)) (hne:X≠Y):b≠c:=fun e=>by
 subst e; rw [hb] at hc; injection hc with hc; injection hc with _ h; exact hne h
theorem Yz {c:Array Value} {X:TypeId} {fr:Nat×Nat} {B:Nat} (h:yG w P A) (hB:w.heap[B]? = some (.cells c X fr)):P≠B:=ye h hB
theorem Z2 (h:vE w M p q L LM) {B:Nat} {c:Array Value} {X:TypeId} {fr:Nat×Nat} (hB:w.heap[B]? = some (.cells c X fr)) (hX:X≠164):¬ jt M p q B:=by
 rintro (e | e | e)
 ·
  exact jR hB h.blk hX e
 ·
  exact uX (h.mapp.map B e) hB rfl
 ·
  exact uX (h.mapq.map B e) hB rfl
theorem Z3 (h:zT w G pg T) {B:Nat} {c:Array Value} {X:TypeId} {fr:Nat×Nat} (hB:w.heap[B]? = some (.cells c X fr)) (hX:X≠167):¬ ju G pg T B:=by
 rintro (e | e | ⟨x,hx,e⟩)
 ·
  exact jR hB h.blk hX e
 ·
  exact ye (h.map B e) hB rfl
 ·
  subst e; exact ye (h.sets x hx) hB rfl
theorem fpM_lt (h:vE w M p q L LM) {i:Nat} (hi:jt M p q i):i<w.heap.size:=by
 rcases hi with rfl | e | e
 ·
  exact h.lt
 ·
  exact h.plt i e
 ·
  exact h.qlt i e
theorem fpG_lt (h:zT w G pg T) {i:Nat} (hi:ju G pg T i):i<w.heap.size:=by
 rcases hi with rfl | e | ⟨x,hx,rfl⟩
 ·
  exact h.lt
 ·
  exact h.mlt i e
 ·
  exact h.slt x hx
theorem vE.turnsF {F:Nat→Prop} (h:vE w M p q L LM) (ht:zm F w w') (hn:∀ i,jt M p q i→¬ F i):vE w' M p q L LM :=
 h.turns ht (hn M (.inl rfl)) (fun b e=>hn b (.inr (.inl e))) (fun b e=>hn b (.inr (.inr e)))
theorem zT.turnsF {F:Nat→Prop} (h:zT w G pg T) (ht:zm F w w') (hn:∀ i,ju G pg T i→¬ F i):zT w' G pg T :=
 h.turns ht (hn G (.inl rfl)) (fun b e=>hn b (.inr (.inl e))) (fun x hx=>hn _ (.inr (.inr ⟨x,hx,rfl⟩)))
theorem qH.later (h:qH w D P A M p q L LM G pg T) (hb:Below w.heap.size w w'):qH w' D P A M p q L LM G pg T :=
 ⟨(hb.block D h.lt).trans h.blk,h.acc.kept (hb.block P h.acc.lt),h.idx.later hb,h.grp.later hb,h.sep1,h.sep2,h.sep3⟩
theorem qH.accs (h:qH w D P A M p q L LM G pg T) (ha:yG w' P A') (ht:zm (fun i=>i=P) w w'):qH w' D P A' M p q L LM G pg T :=
 ⟨(ht.block D h.lt (fun e=>Yz h.acc h.blk e.symm)).trans h.blk,ha,h.idx.turnsF ht h.sep1,h.grp.turnsF ht h.sep2,h.sep1,h.sep2,h.sep3⟩
theorem keeps_accs (h:qH w D P A M p q L LM G pg T) (ht:zm (fun i=>i=P) w w'):zu w w':=fun k _ _ _ hk _ _ _ =>
 (ht.block k (Array.getElem?_eq_some_iff.1 hk).1 (fun e=>Yz h.acc hk e.symm)).trans hk
theorem qH.mails (h:qH w D P A M p q L LM G pg T) (hg:ue w M p q L' w'):∃ p' q' LM',qH w' D P A M p' q' L' LM' G pg T∧∀ i,jt M p' q' i→jt M p q i∨w.heap.size≤i:=by
 obtain ⟨p',q',M',hi,hp,hq,ht⟩:=hg
 have hf:∀ i,jt M p' q' i→jt M p q i∨w.heap.size≤i:=by
  rintro i (rfl | e | e)
  ·
   exact .inl (.inl rfl)
  ·
   exact (hp i e).imp (fun h=>.inr (.inl h)) id
  ·
   exact (hq i e).imp (fun h=>.inr (.inr h)) id
 have ht':zm (jt M p q) w w':=ht
 refine ⟨p',q',M',⟨(ht'.block D h.lt (Z2 h.idx h.blk (by decide))).trans h.blk,h.acc.kept (ht'.block P h.acc.lt (fun f=>h.sep1 P f rfl)),hi,h.grp.turnsF ht' (fun i g f=>h.sep3 i f g),fun i f=>?_,h.sep2,fun i f g=>?_⟩,hf⟩
 ·
  rcases hf i f with f | f
  ·
   exact h.sep1 i f
  ·
   have:=h.acc.lt; omega
 ·
  rcases hf i f with f | f
  ·
   exact h.sep3 i f g
  ·
   have:=fpG_lt h.grp g; omega
theorem Xg (h:qH w D P A M p q L LM G pg T) (hg:ue w M p q L' w'):zu w w':=by
 obtain ⟨_,_,_,_,_,_,ht⟩:=hg
 exact fun k c X fr hk _ h2 _=>(zm.block ht k (Array.getElem?_eq_some_iff.1 hk).1 (Z2 h.idx hk h2)).trans hk
theorem qH.grps (h:qH w D P A M p q L LM G pg T) {S':zw} (hg:zU w G pg T S' w'):∃ pg' T',qH w' D P A M p q L LM G pg' T'∧zj T'=S'∧∀ i,ju G pg' T' i→ju G pg T i∨w.heap.size≤i:=by
 obtain ⟨p',T',hi,hS,hp,hx,ht⟩:=hg
 have hf:∀ i,ju G p' T' i→ju G pg T i∨w.heap.size≤i:=by
  rintro i (rfl | e | ⟨x,hxx,rfl⟩)
  ·
   exact .inl (.inl rfl)
  ·
   exact (hp i e).imp (fun h=>.inr (.inl h)) id
  ·
   rcases hx x hxx with ⟨y,hy,e⟩ | h
   ·
    exact .inl (.inr (.inr ⟨y,hy,e⟩))
   ·
    exact .inr h
 have ht':zm (ju G pg T) w w':=ht
 refine ⟨p',T',⟨(ht'.block D h.lt (Z3 h.grp h.blk (by decide))).trans h.blk,h.acc.kept (ht'.block P h.acc.lt (fun f=>h.sep2 P f rfl)),h.idx.turnsF ht' (fun i f g=>h.sep3 i f g),hi,h.sep1,fun i f=>?_,fun i f g=>?_⟩,hS,hf⟩
 ·
  rcases hf i f with f | f
  ·
   exact h.sep2 i f
  ·
   have:=h.acc.lt; omega
 ·
  rcases hf i g with g | g
  ·
   exact h.sep3 i f g
  ·
   have:=fpM_lt h.idx f; omega
theorem keeps_grps (h:qH w D P A M p q L LM G pg T) {S':zw} (hg:zU w G pg T S' w'):zu w w':=by
 obtain ⟨_,_,_,_,_,_,ht⟩:=hg
 exact fun k c X fr hk _ _ h3=>(zm.block ht k (Array.getElem?_eq_some_iff.1 hk).1 (Z3 h.grp hk h3)).trans hk
end

class Fr11 where
 F:Nat→Prop
 ob:Nat→Option Obj
 n:Nat
 lt:∀ i,F i→i<n
 ty:∀ i c T fr,F i→ob i=some (.cells c T fr)→T=108∨T=164∨T=167
instance noFr11:Fr11:=⟨fun _=>False,fun _=>none,0,fun _ h=>h.elim,fun _ _ _ _ h=>h.elim⟩
def Lo11 [Fr11] (w0:World) (i:Nat):Prop:=w0.heap.size≤i∧¬ Fr11.F i
def Fk11 [Fr11] (W:World):Prop:=Fr11.n≤W.heap.size∧∀ i,Fr11.F i→W.heap[i]? = Fr11.ob i
def ZN [Fr11] (w0 W:World):Prop:=Below w0.heap.size w0 W∧Fk11 W
section
variable [Fr11] {w0 W W':World}
theorem Fk11.later (h:Fk11 W) (hb:Below W.heap.size W W'):Fk11 W':=⟨Nat.le_trans h.1 hb.size,fun i hi=>(hb.block i (Nat.lt_of_lt_of_le (Fr11.lt i hi) h.1)).trans (h.2 i hi)⟩
theorem Fk11.turn {S:Nat→Prop} (h:Fk11 W) (ht:zm S W W') (hs:∀ i,S i→¬ Fr11.F i):Fk11 W':=⟨Nat.le_trans h.1 ht.size,fun i hi=>(ht.block i (Nat.lt_of_lt_of_le (Fr11.lt i hi) h.1) (fun e=>hs i e hi)).trans (h.2 i hi)⟩
theorem Fk11.not (h:Fk11 W) {i:Nat} {c:Array Value} {T:TypeId} {fr:Nat×Nat} (hi:W.heap[i]? = some (.cells c T fr)) (h1:T≠108) (h2:T≠164) (h3:T≠167):¬ Fr11.F i:=fun f=>by
 rcases Fr11.ty i c T fr f ((h.2 i f).symm.trans hi) with h | h | h
 ·
  exact h1 h
 ·
  exact h2 h
 ·
  exact h3 h
theorem ZN.later (h:ZN w0 W) (hb:Below W.heap.size W W'):ZN w0 W':=⟨z8 h.1 hb,h.2.later hb⟩
theorem ZN.turn {S:Nat→Prop} (h:ZN w0 W) (ht:zm S W W') (hs:∀ i,S i→Lo11 w0 i):ZN w0 W':=⟨h.1.trans (zm.below_at ht h.1.size (fun i e=>(hs i e).1)),h.2.turn ht (fun i e=>(hs i e).2)⟩
theorem ZN.new (h:ZN w0 W) {i:Nat} (hi:W.heap.size≤i):Lo11 w0 i:=⟨Nat.le_trans h.1.size hi,fun f=>by have:=Fr11.lt i f; have:=h.2.1; omega⟩
end

def zo [Fr11] (w0 W:World) (D P M G:Nat) (A:zJ) (L:zB) (S:zw):Prop :=
 ∃ p q LM pg T,qH W D P A M p q L LM G pg T∧zj T=S∧(∀ i,i=D∨i=P∨jt M p q i∨ju G pg T i→Lo11 w0 i)∧ZN w0 W
def zE [Fr11] (w0 W:World) (D P M G:Nat) (A:zJ) (L:zB) (S:zw) (w':World):Prop:=zo w0 w' D P M G A L S∧zu W w'
section
variable [Fr11] {w0 W W':World} {D P M G:Nat} {A A':zJ} {L L':zB} {S S':zw}
theorem zo.bel (h:zo w0 W D P M G A L S):ZN w0 W:=by obtain ⟨_,_,_,_,_,_,_,_,h⟩:=h; exact h
theorem zo.below (h:zo w0 W D P M G A L S):Below w0.heap.size w0 W:=h.bel.1
theorem zo.later (h:zo w0 W D P M G A L S) (hb:Below W.heap.size W W'):zo w0 W' D P M G A L S:=by
 obtain ⟨p,q,LM,pg,T,hd,hS,h2,h3⟩:=h
 exact ⟨p,q,LM,pg,T,hd.later hb,hS,h2,h3.later hb⟩
theorem zo.still (h:zo w0 W D P M G A L S) (hb:Below W.heap.size W W'):zE w0 W D P M G A L S W':=⟨h.later hb,zu.of_below hb⟩
theorem zE.ahead {W1:World} (hb:Below W.heap.size W W1) (h:zE w0 W1 D P M G A L S W'):zE w0 W D P M G A L S W':=⟨h.1,(zu.of_below hb).trans h.2⟩
theorem zE.next {W1:World} {A1:zJ} {L1:zB} {S1:zw} (h1:zE w0 W D P M G A1 L1 S1 W1) (h:zE w0 W1 D P M G A L S W'):zE w0 W D P M G A L S W':=⟨h.1,h1.2.trans h.2⟩
theorem zo.c0 (h:zo w0 W D P M G A L S):W.cell? ⟨D,0,none⟩=some (.map (some P)):=by
 obtain ⟨p,q,LM,pg,T,hd,_⟩:=h
 simp [World.cell?,hd.blk]
theorem zo.c1 (h:zo w0 W D P M G A L S):W.cell? ⟨D,1,none⟩=some (.pointer (some ⟨M,0,none⟩)):=by
 obtain ⟨p,q,LM,pg,T,hd,_⟩:=h
 simp [World.cell?,hd.blk]
theorem zo.c2 (h:zo w0 W D P M G A L S):W.cell? ⟨D,2,none⟩=some (.pointer (some ⟨G,0,none⟩)):=by
 obtain ⟨p,q,LM,pg,T,hd,_⟩:=h
 simp [World.cell?,hd.blk]
theorem zo.look (h:zo w0 W D P M G A L S) (s:ByteArray) (hs:s.size≤9223372036854775807) :
  (Instr.lookup 102 (.map (some P)) (.string s) true).run Tryz.prog W=.ok (.tuple #[av11 A s.data.toList,.bool (zx A s.data.toList)]) W:=by
 obtain ⟨p,q,LM,pg,T,hd,_⟩:=h
 exact lookA11 hd.acc s (Nat.le_trans hs (by decide))
theorem zo.look1 (h:zo w0 W D P M G A L S) (s:ByteArray) (hs:s.size≤9223372036854775807) :
  (Instr.lookup 102 (.map (some P)) (.string s) false).run Tryz.prog W=.ok (av11 A s.data.toList) W:=by
 obtain ⟨p,q,LM,pg,T,hd,_⟩:=h
 exact lookA111 hd.acc s (Nat.le_trans hs (by decide))
theorem zo.lenA (h:zo w0 W D P M G A L S) (ty:TypeId):(Builtin.len_ #[102] ty #[.map (some P)]).run Tryz.prog W=.ok (.int .i64 A.length) W:=by
 obtain ⟨p,q,LM,pg,T,hd,_⟩:=h
 exact lenA11 hd.acc ty
theorem zo.accs (h:zo w0 W D P M G A L S) (ha:yG W' P A') (ht:W.mapTurned W' P):zE w0 W D P M G A' L S W':=by
 obtain ⟨p,q,LM,pg,T,hd,hS,h2,h3⟩:=h
 have ht':zm (fun i=>i=P) W W':=(zm.refl _ W).grown ht.grown (fun k hk _=>by cases hk; rfl)
 exact ⟨⟨p,q,LM,pg,T,hd.accs ha ht',hS,h2,h3.turn ht' (fun i e=>h2 i (.inr (.inl e)))⟩,keeps_accs hd ht'⟩
theorem zo.store (h:zo w0 W D P M G A L S) (hf:A.length≤1000) (s v:ByteArray) (b:Bool) (hs:s.size≤9223372036854775807) :
  ∃ w',(Instr.mapUpdate 102 (.map (some P)) (.string s) (.agg #[.string v,.bool b])).run Tryz.prog W=.ok () w'∧zE w0 W D P M G (zP A s.data.toList (v.data.toList,b)) L S w':=by
 have h':=h
 obtain ⟨p,q,LM,pg,T,hd,_⟩:=h'
 obtain ⟨w',hrun,ha,ht⟩:=storeA11 hd.acc hf s v b (Nat.le_trans hs (by decide))
 exact ⟨w',hrun,h.accs ha ht⟩
theorem zo.drop (h:zo w0 W D P M G A L S) (s:ByteArray) (hs:s.size≤9223372036854775807) (ty:TypeId) :
  ∃ w',(Builtin.delete_ #[102,9] ty #[.map (some P),.string s]).run Tryz.prog W=.ok (.tuple #[]) w'∧zE w0 W D P M G (yu A s.data.toList) L S w':=by
 have h':=h
 obtain ⟨p,q,LM,pg,T,hd,_⟩:=h'
 obtain ⟨w',hrun,ha,ht⟩:=dropA11 hd.acc s (Nat.le_trans hs (by decide)) ty
 exact ⟨w',hrun,h.accs ha ht⟩
/-! ### of the addresses -/
theorem zo.mset (h:zo w0 W D P M G A L S) (n m:ByteArray) (hn:n.size≤9223372036854775807) (hm:m.size≤9223372036854775807) (hl:L.length<100) (h5:vR W) :
  Calls Tryz.prog 221 #[.pointer (some ⟨M,0,none⟩),.string n,.string m] W fun e w'=>e=.returned (.int .i64 (je L n.data.toList m.data.toList))∧zE w0 W D P M G A (Vr L n.data.toList m.data.toList) S w':=by
 obtain ⟨p,q,LM,pg,T,hd,hS,h2,h3⟩:=h
 refine (set9_calls M p q L LM n m W hd.idx hn hm hl h5).mono fun e w' ⟨he,hg⟩=>⟨he,?_,Xg hd hg⟩
 obtain ⟨p',q',LM',hd',hf⟩:=hd.mails hg
 obtain ⟨_,_,_,_,_,_,ht⟩:=hg
 refine ⟨p',q',LM',pg,T,hd',hS,fun i hi=>?_,h3.turn ht (fun i e=>h2 i (.inr (.inr (.inl e))))⟩
 rcases hi with e | e | e | e
 ·
  exact h2 i (.inl e)
 ·
  exact h2 i (.inr (.inl e))
 ·
  rcases hf i e with e | e
  ·
   exact h2 i (.inr (.inr (.inl e)))
  ·
   exact h3.new e
 ·
  exact h2 i (.inr (.inr (.inr e)))
theorem zo.goesM (h:zo w0 W D P M G A L S) {p q:Option Nat} {LM:zB} {pg:Option Nat} {T:zF} (hd:qH W D P A M p q L LM G pg T) (hS:zj T=S) (h2:∀ i,i=D∨i=P∨jt M p q i∨ju G pg T i→Lo11 w0 i) (hg:ue W M p q L' W'):zE w0 W D P M G A L' S W':=by
 have h3:=h.bel
 refine ⟨?_,Xg hd hg⟩
 obtain ⟨p',q',LM',hd',hf⟩:=hd.mails hg
 obtain ⟨_,_,_,_,_,_,ht⟩:=hg
 refine ⟨p',q',LM',pg,T,hd',hS,fun i hi=>?_,h3.turn ht (fun i e=>h2 i (.inr (.inr (.inl e))))⟩
 rcases hi with e | e | e | e
 ·
  exact h2 i (.inl e)
 ·
  exact h2 i (.inr (.inl e))
 ·
  rcases hf i e with e | e
  ·
   exact h2 i (.inr (.inr (.inl e)))
  ·
   exact h3.new e
 ·
  exact h2 i (.inr (.inr (.inr e)))
theorem zo.mrename (h:zo w0 W D P M G A L S) (o n:ByteArray) (ho:o.size≤9223372036854775807) (hn:n.size≤9223372036854775807) :
  Calls Tryz.prog 152 #[.pointer (some ⟨M,0,none⟩),.string o,.string n] W fun e w'=>e=.returned (.int .i64 (F8 L o.data.toList n.data.toList))∧zE w0 W D P M G A (reL9 L o.data.toList n.data.toList) S w':=by
 have h':=h
 obtain ⟨p,q,LM,pg,T,hd,hS,h2,h3⟩:=h'
 exact (Uk M p q L LM o n W hd.idx ho hn).mono fun e w' ⟨he,hg⟩=>⟨he,h.goesM hd hS h2 hg⟩
theorem zo.mdrop (h:zo w0 W D P M G A L S) (n:ByteArray) (hn:n.size≤9223372036854775807) :
  Calls Tryz.prog 120 #[.pointer (some ⟨M,0,none⟩),.string n] W fun e w'=>e=.returned (.bool (xj L n.data.toList))∧zE w0 W D P M G A (vD L n.data.toList) S w':=by
 have h':=h
 obtain ⟨p,q,LM,pg,T,hd,hS,h2,h3⟩:=h'
 refine (qU M p q L LM n W hd.idx (Nat.le_trans hn (by decide))).mono fun e w' ⟨he,⟨M',hi⟩,ht⟩=>⟨he,h.goesM hd hS h2 ?_⟩
 exact ⟨p,q,M',hi,fun _ e=>.inl e,fun _ e=>.inl e,ht⟩
theorem zo.mof (h:zo w0 W D P M G A L S) (n:ByteArray) (hn:n.size≤9223372036854775807) :
  Calls Tryz.prog 131 #[.pointer (some ⟨M,0,none⟩),.string n] W fun e w'=>e=.returned (.tuple #[.string (tx7 (xk L n.data.toList)),.bool (xj L n.data.toList)])∧w'=W:=by
 obtain ⟨p,q,LM,pg,T,hd,_⟩:=h
 exact of9_calls M p q L LM n W hd.idx (Nat.le_trans hn (by decide))
/-! ### of the groups -/
theorem zo.goesG (h:zo w0 W D P M G A L S) {p q:Option Nat} {LM:zB} {pg:Option Nat} {T:zF} (hd:qH W D P A M p q L LM G pg T) (h2:∀ i,i=D∨i=P∨jt M p q i∨ju G pg T i→Lo11 w0 i) (hg:zU W G pg T S' W'):zE w0 W D P M G A L S' W':=by
 have h3:=h.bel
 refine ⟨?_,keeps_grps hd hg⟩
 obtain ⟨pg',T',hd',hS,hf⟩:=hd.grps hg
 obtain ⟨_,_,_,_,_,_,ht⟩:=hg
 refine ⟨p,q,LM,pg',T',hd',hS,fun i hi=>?_,h3.turn ht (fun i e=>h2 i (.inr (.inr (.inr e))))⟩
 rcases hi with e | e | e | e
 ·
  exact h2 i (.inl e)
 ·
  exact h2 i (.inr (.inl e))
 ·
  exact h2 i (.inr (.inr (.inl e)))
 ·
  rcases hf i e with e | e
  ·
   exact h2 i (.inr (.inr (.inr e)))
  ·
   exact h3.new e
theorem few11 {T:zF} {k:Nat} (hg:zM (zj T) k):T.length≤6:=by have:=hg.few; rwa [uF] at this
theorem little11 {T:zF} {k:Nat} (hg:zM (zj T) k) (hk:k≤900):∀ x∈T,x.2.2.length≤1000:=fun x hx=>by
 have:=hg.little (x.1,x.2.2) (List.mem_map.2 ⟨x,hx,rfl⟩)
 exact Nat.le_trans this (by omega)
theorem Fl {T:zF} {k:Nat} (hg:zM (zj T) k):∀ x∈T,x.1.length≤1000:=fun x hx=>by
 have:=qt (hg.named (x.1,x.2.2) (List.mem_map.2 ⟨x,hx,rfl⟩))
 exact Nat.le_trans this (by omega)
variable {k:Nat}
theorem zo.gmake (h:zo w0 W D P M G A L S) (hk:zM S k) (g:ByteArray) (hg:g.size≤9223372036854775807) :
  Calls Tryz.prog 114 #[.pointer (some ⟨G,0,none⟩),.string g] W fun e w'=>e=.returned (.int .i64 (uS S g.data.toList))∧zE w0 W D P M G A L (qu S g.data.toList) w':=by
 have h':=h
 obtain ⟨p,q,LM,pg,T,hd,rfl,h2,h3⟩:=h'
 exact (QU G pg T g W hd.grp (few11 hk) hg).mono fun e w' ⟨he,hgo⟩=>⟨he,h.goesG hd h2 hgo⟩
theorem zo.gdrop (h:zo w0 W D P M G A L S) (g:ByteArray) (hg:g.size≤9223372036854775807) :
  Calls Tryz.prog 158 #[.pointer (some ⟨G,0,none⟩),.string g] W fun e w'=>e=.returned (.int .i64 (jY S g.data.toList))∧zE w0 W D P M G A L (jA S g.data.toList) w':=by
 have h':=h
 obtain ⟨p,q,LM,pg,T,hd,rfl,h2,h3⟩:=h'
 exact (Jg G pg T g W hd.grp hg).mono fun e w' ⟨he,hgo⟩=>⟨he,h.goesG hd h2 hgo⟩
theorem zo.gjoin (h:zo w0 W D P M G A L S) (hk:zM S k) (h9:k≤900) (g n:ByteArray) (hg:g.size≤9223372036854775807) (hn:n.size≤9223372036854775807) :
  Calls Tryz.prog 162 #[.pointer (some ⟨G,0,none⟩),.string g,.string n] W fun e w'=>e=.returned (.int .i64 (qv S g.data.toList n.data.toList))∧zE w0 W D P M G A L (qP S g.data.toList n.data.toList) w':=by
 have h':=h
 obtain ⟨p,q,LM,pg,T,hd,rfl,h2,h3⟩:=h'
 exact (QX G pg T g n W hd.grp (little11 hk h9) hg hn).mono fun e w' ⟨he,hgo⟩=>⟨he,h.goesG hd h2 hgo⟩
theorem zo.gleave (h:zo w0 W D P M G A L S) (g n:ByteArray) (hg:g.size≤9223372036854775807) (hn:n.size≤9223372036854775807) :
  Calls Tryz.prog 163 #[.pointer (some ⟨G,0,none⟩),.string g,.string n] W fun e w'=>e=.returned (.int .i64 (Yd S g.data.toList n.data.toList))∧zE w0 W D P M G A L (Zz S g.data.toList n.data.toList) w':=by
 have h':=h
 obtain ⟨p,q,LM,pg,T,hd,rfl,h2,h3⟩:=h'
 exact (UB G pg T g n W hd.grp hg hn).mono fun e w' ⟨he,hgo⟩=>⟨he,h.goesG hd h2 hgo⟩
theorem zo.grename (h:zo w0 W D P M G A L S) (hk:zM S k) (h9:k≤900) (o n:ByteArray) (ho:o.size≤9223372036854775807) (hn:n.size≤9223372036854775807) :
  Calls Tryz.prog 154 #[.pointer (some ⟨G,0,none⟩),.string o,.string n] W fun e w'=>e=.returned (.int .i64 (fS S o.data.toList n.data.toList))∧zE w0 W D P M G A L (Zq S o.data.toList n.data.toList) w':=by
 have h':=h
 obtain ⟨p,q,LM,pg,T,hd,rfl,h2,h3⟩:=h'
 have hf:=few11 hk
 exact (V2 G pg T o n W hd.grp (by omega) (Fl hk) (little11 hk h9) ho hn).mono fun e w' ⟨he,hgo⟩=>⟨he,h.goesG hd h2 hgo⟩
theorem zo.gremove (h:zo w0 W D P M G A L S) (hk:zM S k) (n:ByteArray) (hn:n.size≤9223372036854775807) :
  Calls Tryz.prog 121 #[.pointer (some ⟨G,0,none⟩),.string n] W fun e w'=>e=.returned (.int .i64 ((yV S n.data.toList).length:Nat))∧zE w0 W D P M G A L (jT S n.data.toList) w':=by
 have h':=h
 obtain ⟨p,q,LM,pg,T,hd,rfl,h2,h3⟩:=h'
 have hf:=few11 hk
 exact (V3 G pg T n W hd.grp (by omega) (Fl hk) hn).mono fun e w' ⟨he,hgo⟩=>⟨he,h.goesG hd h2 hgo⟩
theorem zo.gof (h:zo w0 W D P M G A L S) (hk:zM S k) (n:ByteArray) (hn:n.size≤9223372036854775807) :
  Calls Tryz.prog 132 #[.pointer (some ⟨G,0,none⟩),.string n] W (yr (yV S n.data.toList) W):=by
 obtain ⟨p,q,LM,pg,T,hd,rfl,h2,h3⟩:=h
 have hf:=few11 hk
 exact jL G pg T n W hd.grp (by omega) hn
theorem zo.gall (h:zo w0 W D P M G A L S) (hk:zM S k):Calls Tryz.prog 123 #[.pointer (some ⟨G,0,none⟩)] W (yr (zb S) W):=by
 obtain ⟨p,q,LM,pg,T,hd,rfl,h2,h3⟩:=h
 have hf:=few11 hk
 exact FU G pg T W hd.grp (by omega)
end
end Go.Proofs.YthmomkjingcbiaaGreatDoor
namespace Go.Proofs.YthmomkjingcbiaaGreatDoor
open Go.RowKit Go.Maps
set_option linter.unusedSectionVars false

set_option maxRecDepth 100000 in
theorem UP (B n cap:Nat) (es:List Int) (w:World) (hl:n=es.length) (hn:n≤1000) (hc:∀ j (h:j<es.length),w.cell? ⟨B,j,none⟩=some (.int .i64 es[j])) :
  Calls Tryz.prog 51 #[.slice (some ⟨B,0,none⟩) n cap] w fun e w'=>e=.returned (.int .i64 (zN es))∧w'=w:=by
 have HC:=za hc
 have HL:=za hl
 clear hc hl
 generalize hr:zN es=r
 have HR:=za hr
 clear hr
 go_enter Tryz.func51,Tryz.ntmps51
 go_wp2
 go_loopg [4,7] n (fun gg _ s7 wr=>∃ k:Nat,k≤n∧n - k≤gg∧s7=.int .i64 k∧wr=w∧Hid (zN (es.drop k)=r))
 case atStart=>exact ⟨0,Nat.zero_le _,by omega,rfl,rfl,HR⟩
 case round =>
  obtain ⟨k,hk,hg,rfl,rfl,A⟩:=hrel
  by_cases hlt:k<n
  ·
   have hltz:(k:Int)<(n:Int):=by omega
   have hkl:k<es.length:=HL.out ▸ hlt
   have hcell:=HC.out k hkl
   have hA:(if es[k]=0 then zN (es.drop (k+1)) else es[k])=r:=by
    have:=A.out
    rw [List.drop_eq_getElem_cons hkl] at this
    exact this
   generalize es[k]=x at *
   by_cases h0:x=0
   ·
    rw [if_pos h0] at hA
    have HA:=za hA
    clear hA A
    subst h0
    go_wp2
    go_roundg (n - (k+1))
    case measure=>omega
    case rel=>exact ⟨k+1,by omega,by omega,by go_num,rfl,HA⟩
   ·
    rw [if_neg h0] at hA
    subst hA
    clear A
    go_wp2
    go_ret
    exact ⟨rfl,rfl⟩
  ·
   have hltz:¬ (k:Int)<(n:Int):=by omega
   have hA:(0:Int)=r:=by
    have:=A.out
    rw [List.drop_eq_nil_of_le (by have:=HL.out; omega)] at this
    exact this
   subst hA
   clear A
   go_wp2
   go_ret
   exact ⟨rfl,rfl⟩

set_option maxRecDepth 100000 in
theorem va (b:Bool) (n:Int) (w:World):Calls Tryz.prog 129 #[.bool b,.int .i64 n] w fun e w'=>e=.returned (.int .i64 (zp b n))∧w'=w:=by
 cases b with
 | true =>
  show Calls _ _ _ _ fun e w'=>e=.returned (.int .i64 0)∧w'=w
  go_enter Tryz.func129,Tryz.ntmps129
  go_wp2
  go_ret
  exact ⟨rfl,rfl⟩
 | false =>
  show Calls _ _ _ _ fun e w'=>e=.returned (.int .i64 n)∧w'=w
  go_enter Tryz.func129,Tryz.ntmps129
  go_wp2
  go_ret
  exact ⟨rfl,rfl⟩


theorem Yl.first11 {W:World} {v:Value} {es:List Int} (h:Yl W v es) (hn:es.length≤1000):Calls Tryz.prog 51 #[v] W fun e w'=>e=.returned (.int .i64 (zN es))∧w'=W:=by
 obtain ⟨G,rfl,_,hc⟩:=h
 exact UP G es.length es.length es W rfl hn hc
theorem vV (W:World) (es:List Int) (t:TypeId) (hn:es.length≤1000):Calls Tryz.prog 51 #[.slice (some ⟨W.heap.size,0,none⟩) es.length es.length] (W.alloc (.cells (es.map (Value.int .i64)).toArray t)) fun e w'=>e=.returned (.int .i64 (zN es))∧w'=W.alloc (.cells (es.map (Value.int .i64)).toArray t) :=
 (Xy W es t).first11 hn
set_option maxRecDepth 100000 in
theorem fu (many most:Int) (w:World):Calls Tryz.prog 112 #[.int .i64 many,.int .i64 most] w fun e w'=>e=.returned (.int .i64 (zp (decide (many≤most)) 7))∧w'=w:=by
 have HU:Hid (∀ b W,Calls Tryz.prog 129 #[.bool b,.int .i64 7] W fun e w'=>e=.returned (.int .i64 (zp b 7))∧w'=W):=fun b W=>va b 7 W
 by_cases h:many≤most
 ·
  have hd:decide (many≤most)=true:=decide_eq_true h
  rw [hd]
  go_enter Tryz.func112,Tryz.ntmps112
  go_wp2_with fail
  with_reducible refine (HU.out _ _).mono ?_
  rintro e w' ⟨rfl,rfl⟩
  go_wp2
  go_ret
  exact ⟨rfl,rfl⟩
 ·
  have hd:decide (many≤most)=false:=decide_eq_false h
  rw [hd]
  go_enter Tryz.func112,Tryz.ntmps112
  go_wp2_with fail
  with_reducible refine (HU.out _ _).mono ?_
  rintro e w' ⟨rfl,rfl⟩
  go_wp2
  go_ret
  exact ⟨rfl,rfl⟩
set_option maxRecDepth 100000 in
theorem Vb (m:ByteArray) (w:World) (hm:m.size≤9223372036854775807) (h5:vR w):Calls Tryz.prog 147 #[.string m] w (yH (zp (xw m.data.toList) 11) w):=by
 have HM:=za (Zx m w hm h5)
 by_cases h0:m.size=0
 ·
  obtain rfl:m=⟨#[]⟩:=by
   obtain ⟨d⟩:=m
   obtain rfl:d=#[]:=Array.eq_empty_of_size_eq_zero h0
   rfl
  have:zp (xw (ByteArray.mk #[]).data.toList) 11=0:=by decide +kernel
  rw [this]
  clear HM
  go_enter Tryz.func147,Tryz.ntmps147
  go_wp2
  go_ret
  exact ⟨rfl,Below.refl _ _⟩
 ·
  have hne:¬ m.toList=[]:=fun e=>h0 (by rw [← zq,← ByteArray.toList_eq,e]; rfl)
  have hne1:¬ m.data.toList=[]:=fun e=>h0 (by rw [← zq,e]; rfl)
  have hne2:m.toList.isEmpty=false:=by simpa using hne
  have h1:xw m.data.toList=yP m.data.toList:=by unfold xw; rw [decide_eq_false hne1,Bool.false_or]
  rw [h1]
  generalize qf m.data.toList=t at *
  generalize yP m.data.toList=b at *
  unfold Mails5 at HM
  generalize zp b 11=r at *
  clear h1 hne1 hm h5
  go_enter Tryz.func147,Tryz.ntmps147
  go_wp2_with fail
  with_reducible refine HM.out.mono ?_
  rintro e w1 ⟨rfl,hb⟩
  have HB:=za hb
  clear hb HM
  go_wp2
  go_ret
  exact ⟨rfl,HB.out⟩

theorem fieldA11 (s:ByteArray) (b:Bool) (w:World):(Instr.field 147 (.agg #[.string s,.bool b]) 1).run Tryz.prog w=.ok (.bool b) w:=by kernel_rfl
section
variable [Fr11] {w0 w:World} {D P M G:Nat} {A:zJ} {L:zB} {S:zw}
set_option maxRecDepth 100000 in
theorem Xs (n:ByteArray) (h:zo w0 w D P M G A L S) (hn:n.size≤9223372036854775807):Calls Tryz.prog 130 #[.pointer (some ⟨D,0,none⟩),.string n] w (zY (zx A n.data.toList) w):=by
 have c0:=h.c0
 have hl:=h.look n hn
 have hz:=Zf
 unfold av11 at hl
 have bl:∀ v:ByteArray×Bool,Below w.heap.size w (w.alloc (.cells #[.string v.1,.bool v.2] 147)):=fun v=>z7 (Below.refl _ _) _
 generalize zx A n.data.toList=b at *
 generalize zI (jr A n.data.toList)=s at *
 generalize uK A n.data.toList=d at *
 clear h
 go_enter Tryz.func130,Tryz.ntmps130
 go_wp2
 go_ret
 refine ⟨rfl,?_⟩
 exact bl (s,d)
set_option maxRecDepth 100000 in
theorem yQ (n:ByteArray) (h:zo w0 w D P M G A L S) (hn:n.size≤9223372036854775807):Calls Tryz.prog 53 #[.pointer (some ⟨D,0,none⟩),.string n] w (yH (zp (zx A n.data.toList) 8) w):=by
 have HU:Hid (∀ b W,Calls Tryz.prog 129 #[.bool b,.int .i64 8] W fun e w'=>e=.returned (.int .i64 (zp b 8))∧w'=W):=fun b W=>va b 8 W
 have HH:=za (Xs n h hn)
 clear h
 generalize zx A n.data.toList=b at *
 go_enter Tryz.func53,Tryz.ntmps53
 go_wp2_with fail
 with_reducible refine HH.out.mono ?_
 rintro e w1 ⟨rfl,hb⟩
 have HB:=za hb
 clear hb HH
 go_wp2_with fail
 with_reducible refine (HU.out _ _).mono ?_
 rintro e w2 ⟨rfl,rfl⟩
 go_wp2
 go_ret
 exact ⟨rfl,HB.out⟩
set_option maxRecDepth 100000 in
theorem fd (n:ByteArray) (h:zo w0 w D P M G A L S) (hn:n.size≤9223372036854775807):Calls Tryz.prog 117 #[.pointer (some ⟨D,0,none⟩),.string n] w (yH (zp (!zx A n.data.toList) 9) w):=by
 have HU:Hid (∀ b W,Calls Tryz.prog 129 #[.bool b,.int .i64 9] W fun e w'=>e=.returned (.int .i64 (zp b 9))∧w'=W):=fun b W=>va b 9 W
 have HH:=za (Xs n h hn)
 clear h
 generalize zx A n.data.toList=b at *
 go_enter Tryz.func117,Tryz.ntmps117
 go_wp2_with fail
 with_reducible refine HH.out.mono ?_
 rintro e w1 ⟨rfl,hb⟩
 have HB:=za hb
 clear hb HH
 go_wp2_with fail
 with_reducible refine (HU.out _ _).mono ?_
 rintro e w2 ⟨rfl,rfl⟩
 go_wp2
 go_ret
 exact ⟨rfl,HB.out⟩
set_option maxRecDepth 100000 in
theorem Va (n:ByteArray) (h:zo w0 w D P M G A L S) (hn:n.size≤9223372036854775807):Calls Tryz.prog 122 #[.pointer (some ⟨D,0,none⟩),.string n] w (yH (zp (!uK A n.data.toList) 12) w):=by
 have HU:Hid (∀ b W,Calls Tryz.prog 129 #[.bool b,.int .i64 12] W fun e w'=>e=.returned (.int .i64 (zp b 12))∧w'=W):=fun b W=>va b 12 W
 have c0:=h.c0
 have hl:=h.look1 n hn
 unfold av11 at hl
 have hfl:=fieldA11
 clear h
 generalize zI (jr A n.data.toList)=s at *
 generalize uK A n.data.toList=b at *
 go_enter Tryz.func122,Tryz.ntmps122
 go_wp2_with fail
 with_reducible refine (HU.out _ _).mono ?_
 rintro e w2 ⟨rfl,rfl⟩
 go_wp2
 go_ret
 exact ⟨rfl,Below.refl _ _⟩
set_option maxRecDepth 100000 in
theorem Ye (n:ByteArray) (is_:Bool) (h:zo w0 w D P M G A L S) (hn:n.size≤9223372036854775807):Calls Tryz.prog 149 #[.pointer (some ⟨D,0,none⟩),.string n,.bool is_] w (yH (zp (!(uK A n.data.toList == is_)) 12) w):=by
 have HU:Hid (∀ b W,Calls Tryz.prog 129 #[.bool b,.int .i64 12] W fun e w'=>e=.returned (.int .i64 (zp b 12))∧w'=W):=fun b W=>va b 12 W
 have c0:=h.c0
 have hl:=h.look1 n hn
 unfold av11 at hl
 have hfl:=fieldA11
 clear h
 generalize zI (jr A n.data.toList)=s at *
 generalize uK A n.data.toList=b at *
 cases b <;> cases is_
 all_goals
  go_enter Tryz.func149,Tryz.ntmps149
  go_wp2_with fail
  with_reducible refine (HU.out _ _).mono ?_
  rintro e w2 ⟨rfl,rfl⟩
  go_wp2
  go_ret
  exact ⟨rfl,Below.refl _ _⟩
set_option maxRecDepth 100000 in
theorem QJ (h:zo w0 w D P M G A L S):Calls Tryz.prog 118 #[.pointer (some ⟨D,0,none⟩)] w fun e w'=>e=.returned (.int .i64 A.length)∧w'=w:=by
 have c0:=h.c0
 have hl:=h.lenA
 generalize A.length=n at *
 clear h
 go_enter Tryz.func118,Tryz.ntmps118
 go_wp2
 go_ret
 exact ⟨rfl,rfl⟩
variable {k:Nat}
set_option maxRecDepth 100000 in
theorem X9 (h:zo w0 w D P M G A L S) (hk:zM S k):Calls Tryz.prog 47 #[.pointer (some ⟨D,0,none⟩)] w (yr (zb S) w):=by
 have c2:=h.c2
 have HF:=za (h.gall hk)
 clear h hk
 generalize zb S=s at *
 go_enter Tryz.func47,Tryz.ntmps47
 go_wp2_with fail
 with_reducible refine HF.out.mono ?_
 rintro e w1 ⟨v,rfl,hr⟩
 have HR:=za hr
 clear hr HF c2
 go_wp2
 go_ret
 exact ⟨v,rfl,HR.out⟩
end
end Go.Proofs.YthmomkjingcbiaaGreatDoor
namespace Go.Proofs.YthmomkjingcbiaaGreatDoor
open Go.RowKit Go.Maps
set_option linter.unusedSectionVars false

def U4 (W:World) (b:Nat) (s:ByteArray) (d:Bool):Prop:=W.heap[b]? = some (.cells #[.string s,.bool d] 147 (0,0))
section
variable {W W':World} {b:Nat} {s:ByteArray} {d:Bool}
theorem U4.c0 (h:U4 W b s d):W.cell? ⟨b,0,none⟩=some (.string s):=by simp [World.cell?,show W.heap[b]? = _ from h]
theorem U4.c1 (h:U4 W b s d):W.cell? ⟨b,1,none⟩=some (.bool d):=by simp [World.cell?,show W.heap[b]? = _ from h]
theorem U4.f0 (h:U4 W b s d):W.frozen? ⟨b,0,none⟩=false:=by simp [World.frozen?,show W.heap[b]? = _ from h]
theorem U4.f1 (h:U4 W b s d):W.frozen? ⟨b,1,none⟩=false:=by simp [World.frozen?,show W.heap[b]? = _ from h]
theorem U4.lt (h:U4 W b s d):b<W.heap.size:=(Array.getElem?_eq_some_iff.1 h).1
theorem U4.later (h:U4 W b s d) (hb:Below W.heap.size W W'):U4 W' b s d:=(hb.block b h.lt).trans h
theorem ac11_new (W:World) (s:ByteArray) (d:Bool):U4 (W.alloc (.cells #[.string s,.bool d] 147)) W.heap.size s d:=(MapKept.heap_alloc W _).1
theorem U4.set0 (h:U4 W b s d) (x:ByteArray):U4 (W.setCell ⟨b,0,none⟩ (.string x)) b x d:=by
 have h':W.heap[b]? = some (.cells #[.string s,.bool d] 147 (0,0)):=h
 have hl:=h.lt
 have:=h'
 rw [Array.getElem?_eq_getElem hl] at this
 injection this with this
 show (W.setCell ⟨b,0,none⟩ (.string x)).heap[b]? = _
 simp [World.setCell,hl,Array.getElem_modify,this]
theorem U4.set1 (h:U4 W b s d) (x:Bool):U4 (W.setCell ⟨b,1,none⟩ (.bool x)) b s x:=by
 have h':W.heap[b]? = some (.cells #[.string s,.bool d] 147 (0,0)):=h
 have hl:=h.lt
 have:=h'
 rw [Array.getElem?_eq_getElem hl] at this
 injection this with this
 show (W.setCell ⟨b,1,none⟩ (.bool x)).heap[b]? = _
 simp [World.setCell,hl,Array.getElem_modify,this]
end

def YPt11 (D P:Nat) (n h:ByteArray) (d:Bool):Nat→Value→Prop
 | 3,v=>v=.map (some P)
 | 4,v=>v=.string n
 | 5,v=>v=.string n
 | 6,v=>v=.agg #[.string h,.bool d]
 | _,v=>v=.pointer (some ⟨D,0,none⟩)
def YPtW11 (D P:Nat) (n h:ByteArray) (d:Bool) (j:Nat) (v:Value) (_:World):Prop:=YPt11 D P n h d j v
section
variable [Fr11] {w0 w:World} {D P M G:Nat} {A:zJ} {L:zB} {S:zw}
set_option maxRecDepth 100000 in
theorem uE (n h:ByteArray) (d:Bool) (ho:zo w0 w D P M G A L S) (hf:A.length≤1000) (hn:n.size≤1000) (hh:h.size≤1000) :
  Calls Tryz.prog 119 #[.pointer (some ⟨D,0,none⟩),.string n,.agg #[.string h,.bool d]] w fun e w'=>e=.returned (.tuple #[])∧zE w0 w D P M G (zP A n.data.toList (h.data.toList,d)) L S w':=by
 have HC:Hid (∀ W,Calls Tryz.prog 153 #[.string n] W fun e w'=>e=.returned (.string n)∧Below W.heap.size W w'):=fun W=>xb n W hn
 have HC1:Hid (∀ W,Calls Tryz.prog 153 #[.string h] W fun e w'=>e=.returned (.string h)∧Below W.heap.size W w'):=fun W=>xb h W hh
 have HO:=za ho
 have HST:Hid (∀ W,Below w.heap.size w W→∃ w',(Instr.mapUpdate 102 (.map (some P)) (.string n) (.agg #[.string h,.bool d])).run Tryz.prog W=.ok () w'∧zE w0 w D P M G (zP A n.data.toList (h.data.toList,d)) L S w'):=fun W hb=>by
  obtain ⟨w',h1,h2⟩:=(ho.later hb).store hf n h d (Nat.le_trans hn (by decide))
  exact ⟨w',h1,h2.ahead hb⟩
 have HA:=za (ac11_new w h d)
 have HB0:Hid (Below w.heap.size w (w.alloc (.cells #[.string h,.bool d] 147))):=z7 (Below.refl _ _) _
 clear ho hf hn hh
 go_enter Tryz.func119,Tryz.ntmps119
 go_wp2_with fail
 with_reducible refine (HC1.out _).mono ?_
 rintro e w1 ⟨rfl,hb⟩
 have ha:=HA.out.later hb
 have f0:=ha.f0
 have c0:=ha.c0
 have HA1:=za (ha.set0 h)
 have HB1:Hid (Below w.heap.size w (w1.setCell ⟨w.heap.size,0,none⟩ (.string h))):=(z8 HB0.out hb).setCell (p:=⟨w.heap.size,0,none⟩) (Nat.le_refl _) _
 clear hb HA HB0 HC1 ha
 go_wp2_with fail
 generalize w1.setCell ⟨w.heap.size,0,none⟩ (.string h)=w2 at *
 generalize w.heap.size=B5 at HA1
 clear f0 c0
 refine yI (by kernel_rfl) 7 (fun W=>Below w2.heap.size w2 W) (fun W=>zE w0 w D P M G (zP A n.data.toList (h.data.toList,d)) L S W) (YPtW11 D P n h d) (fun _=>True) ?F ?hF (by kernel_rfl) (by kernel_rfl) (by kernel_rfl) (by kernel_rfl) (by decide) (zZ (Below.refl _ _)) ?step ?fin
 case hF =>
  intro x
  simp only [List.map_cons,List.map_nil,vH,Act.put,List.setIfInBounds_toArray,List.set_cons_zero,List.set_cons_succ,Nat.zero_add,Nat.reduceAdd]
  exact rfl
 case step =>
  refine ⟨?_,?_,?_,?_,?_,?_,?_,?_,trivial⟩
  ·
   intro x W
   refine ⟨fun _ hW hdep K hK=>?_,(fun h=>absurd h (by decide)),(fun h=>absurd h (by decide))⟩
   clear hdep
   go_simp
   exact hK _ _ rfl hW (fun _ _ h=>h)
  ·
   intro x W
   refine ⟨fun _ hW hdep K hK=>?_,(fun h=>absurd h (by decide)),(fun h=>absurd h (by decide))⟩
   have h0:x 0=_:=hdep 0 rfl
   clear hdep
   simp only [h0] at hK
   go_simp
   exact hK _ _ rfl hW (fun _ _ h=>h)
  ·
   intro x W
   refine ⟨fun _ hW hdep K hK=>?_,(fun h=>absurd h (by decide)),(fun h=>absurd h (by decide))⟩
   have h1:x 1=_:=hdep 1 rfl
   clear hdep
   simp only [h1] at hK
   go_simp
   exact hK _ _ rfl hW (fun _ _ h=>h)
  ·
   intro x W
   refine ⟨fun _ hW hdep K hK=>?_,(fun h=>absurd h (by decide)),(fun h=>absurd h (by decide))⟩
   have h2:x 2=_:=hdep 2 rfl
   have c:=(HO.out.later (z8 HB1.out hW)).c0
   clear hdep
   simp only [h2] at hK
   go_simp
   exact hK _ _ rfl hW (fun _ _ h=>h)
  ·
   intro x W
   refine ⟨fun _ hW hdep K hK=>?_,(fun h=>absurd h (by decide)),(fun h=>absurd h (by decide))⟩
   clear hdep
   go_simp
   exact hK _ _ rfl hW (fun _ _ h=>h)
  ·
   intro x W
   refine ⟨fun _ hW hdep K hK=>?_,(fun h=>absurd h (by decide)),(fun h=>absurd h (by decide))⟩
   have h4:x 4=_:=hdep 4 rfl
   have hc:=HC.out W
   clear hdep
   simp only [h4] at hK
   go_simp
   refine hc.mono ?_
   rintro e W' ⟨rfl,hb⟩
   exact hK _ _ rfl (z8 hW hb) (fun _ _ h=>h)
  ·
   intro x W
   refine ⟨fun _ hW hdep K hK=>?_,(fun h=>absurd h (by decide)),(fun h=>absurd h (by decide))⟩
   have hx:=HA1.out.later hW
   have c0:=hx.c0
   have c1:=hx.c1
   clear hdep
   go_simp
   exact hK _ _ rfl hW (fun _ _ h=>h)
  ·
   intro x W
   refine ⟨(fun h=>absurd h (by decide)),fun _ hW hdep K hK=>?_,(fun h=>absurd h (by decide))⟩
   have h3:x 3=_:=hdep 3 rfl
   have h5:x 5=_:=hdep 5 rfl
   have h6:x 6=_:=hdep 6 rfl
   obtain ⟨w',hrun,hg⟩:=HST.out W (z8 HB1.out hW)
   clear hdep
   simp only [h3,h5,h6] at hK
   go_simp
   exact hK undef _ trivial hg
 case fin =>
  intro x W hW _
  have HF:=za hW
  clear hW HST HC HA1 HB1 HO
  go_end0
  exact ⟨rfl,HF.out⟩

def YPm11 (D M:Nat) (n m:ByteArray):Nat→Value→Prop
 | 2,v=>v=.pointer (some ⟨D,1,none⟩)
 | 3,v=>v=.pointer (some ⟨M,0,none⟩)
 | 4,v=>v=.string n
 | 5,v=>v=.string n
 | 6,v=>v=.string m
 | _,v=>v=.pointer (some ⟨D,0,none⟩)
def YPmW11 (D M:Nat) (n m:ByteArray) (j:Nat) (v:Value) (_:World):Prop:=YPm11 D M n m j v
set_option maxRecDepth 100000 in
theorem jm (n m:ByteArray) (ho:zo w0 w D P M G A L S) (hl:L.length<100) (h5:vR w) (hn:n.size≤1000) (hm:m.size≤9223372036854775807) :
  Calls Tryz.prog 148 #[.pointer (some ⟨D,0,none⟩),.string n,.string m] w fun e w'=>e=.returned (.int .i64 (je L n.data.toList m.data.toList))∧zE w0 w D P M G A (Vr L n.data.toList m.data.toList) S w':=by
 have HC:Hid (∀ W,Calls Tryz.prog 153 #[.string n] W fun e w'=>e=.returned (.string n)∧Below W.heap.size W w'):=fun W=>xb n W hn
 have HO:=za ho
 have HST:Hid (∀ W,Below w.heap.size w W→Calls Tryz.prog 221 #[.pointer (some ⟨M,0,none⟩),.string n,.string m] W fun e w'=>e=.returned (.int .i64 (je L n.data.toList m.data.toList))∧zE w0 w D P M G A (Vr L n.data.toList m.data.toList) S w'):=fun W hb =>
  ((ho.later hb).mset n m (Nat.le_trans hn (by decide)) hm hl (h5.later hb)).mono fun e w' ⟨he,hg⟩=>⟨he,hg.ahead hb⟩
 clear ho hl hn hm h5
 generalize je L n.data.toList m.data.toList=r at *
 generalize Vr L n.data.toList m.data.toList=L' at *
 go_enter Tryz.func148,Tryz.ntmps148
 go_wp2_with fail
 refine yI (by kernel_rfl) 7 (fun W=>Below w.heap.size w W) (fun W=>zE w0 w D P M G A L' S W) (YPmW11 D M n m) (fun v=>v=.int .i64 r) ?F ?hF (by kernel_rfl) (by kernel_rfl) (by kernel_rfl) (by kernel_rfl) (by decide) (zZ (Below.refl _ _)) ?step ?fin
 case hF =>
  intro x
  simp only [List.map_cons,List.map_nil,vH,Act.put,List.setIfInBounds_toArray,List.set_cons_zero,List.set_cons_succ,Nat.zero_add,Nat.reduceAdd]
  exact rfl
 case step =>
  refine ⟨?_,?_,?_,?_,?_,?_,?_,?_,?_,trivial⟩
  ·
   intro x W
   refine ⟨fun _ hW hdep K hK=>?_,(fun h=>absurd h (by decide)),(fun h=>absurd h (by decide))⟩
   clear hdep
   go_simp
   exact hK _ _ rfl hW (fun _ _ h=>h)
  ·
   intro x W
   refine ⟨fun _ hW hdep K hK=>?_,(fun h=>absurd h (by decide)),(fun h=>absurd h (by decide))⟩
   have h0:x 0=_:=hdep 0 rfl
   clear hdep
   simp only [h0] at hK
   go_simp
   exact hK _ _ rfl hW (fun _ _ h=>h)
  ·
   intro x W
   refine ⟨fun _ hW hdep K hK=>?_,(fun h=>absurd h (by decide)),(fun h=>absurd h (by decide))⟩
   have h1:x 1=_:=hdep 1 rfl
   clear hdep
   simp only [h1] at hK
   go_simp
   exact hK _ _ rfl hW (fun _ _ h=>h)
  ·
   intro x W
   refine ⟨fun _ hW hdep K hK=>?_,(fun h=>absurd h (by decide)),(fun h=>absurd h (by decide))⟩
   have h2:x 2=_:=hdep 2 rfl
   have c:=(HO.out.later hW).c1
   clear hdep
   simp only [h2] at hK
   go_simp
   exact hK _ _ rfl hW (fun _ _ h=>h)
  ·
   intro x W
   refine ⟨fun _ hW hdep K hK=>?_,(fun h=>absurd h (by decide)),(fun h=>absurd h (by decide))⟩
   clear hdep
   go_simp
   exact hK _ _ rfl hW (fun _ _ h=>h)
  ·
   intro x W
   refine ⟨fun _ hW hdep K hK=>?_,(fun h=>absurd h (by decide)),(fun h=>absurd h (by decide))⟩
   have h4:x 4=_:=hdep 4 rfl
   have hc:=HC.out W
   clear hdep
   simp only [h4] at hK
   go_simp
   refine hc.mono ?_
   rintro e W' ⟨rfl,hb⟩
   exact hK _ _ rfl (z8 hW hb) (fun _ _ h=>h)
  ·
   intro x W
   refine ⟨fun _ hW hdep K hK=>?_,(fun h=>absurd h (by decide)),(fun h=>absurd h (by decide))⟩
   clear hdep
   go_simp
   exact hK _ _ rfl hW (fun _ _ h=>h)
  ·
   intro x W
   refine ⟨(fun h=>absurd h (by decide)),fun _ hW hdep K hK=>?_,(fun h=>absurd h (by decide))⟩
   have h3:x 3=_:=hdep 3 rfl
   have h5:x 5=_:=hdep 5 rfl
   have h6:x 6=_:=hdep 6 rfl
   have hc:=HST.out W hW
   clear hdep
   simp only [h3,h5,h6] at hK
   go_simp
   refine hc.mono ?_
   rintro e W' ⟨rfl,hg⟩
   exact hK _ _ rfl hg
  ·
   intro x W
   refine ⟨(fun h=>absurd h (by decide)),(fun h=>absurd h (by decide)),fun _ hW hdep K hK=>?_⟩
   have h7:x 7=_:=hdep 7 rfl (by decide)
   clear hdep
   simp only [h7] at hK
   go_simp
   exact hK _ rfl
 case fin =>
  intro x W hW hZ
  have h8:x 8=.int .i64 r:=hZ 8 (by decide) (by decide)
  have HF:=za hW
  clear hW hZ HST HC HO
  rw [h8]
  go_wp2
  go_ret
  exact ⟨rfl,HF.out⟩
end
end Go.Proofs.YthmomkjingcbiaaGreatDoor
namespace Go.Proofs.YthmomkjingcbiaaGreatDoor
open Go.RowKit Go.Maps
set_option linter.unusedSectionVars false

theorem first11_cr (a b c d:Bool):zN [zp a 10,zp b 4,zp (!c) 9,zp (!d) 7]=Vf a b c d:=by cases a <;> cases b <;> cases c <;> cases d <;> rfl
theorem first11_de (a c:Bool):zN [zp a 10,zp c 8]=jD a c:=by cases a <;> cases c <;> rfl
theorem first11_sh (a b c d:Bool):zN [zp a 10,zp b 4,zp c 8,zp (!d) 12]=shF11 a b c d:=by cases a <;> cases b <;> cases c <;> cases d <;> rfl
theorem first11_di (a c d:Bool):zN [zp a 10,zp c 8,zp (!d) 12]=diF11 a c d:=by cases a <;> cases c <;> cases d <;> rfl
theorem first11_rn (a b c d:Bool):zN [zp a 10,zp b 10,zp c 8,zp (!d) 9]=rnF11 a b c d:=by cases a <;> cases b <;> cases c <;> cases d <;> rfl
theorem VR (A:zJ) (g n:List UInt8):zN [zp (zf g) 10,zp (zf n) 10,zp (zx A n) 8]=yS A g n:=by
 unfold yS
 cases zf g <;> cases zf n <;> cases zx A n <;> rfl
theorem first11_sm (a b c:Bool):zN [zp a 10,zp b 11,zp c 8]=if a then (if b then (if c then 0 else 8) else 11) else 10:=by cases a <;> cases b <;> cases c <;> rfl
theorem vh {n:ByteArray} (h:zf n.data.toList=true):n.size≤1000:=uH h
theorem jN {l:List UInt8} (h:yo l=true):l.length≤1000:=by
 unfold yo at h
 simp only [Bool.and_eq_true,decide_eq_true_eq] at h
 have:=h.1.2
 omega
theorem fs {n:ByteArray} (h:yo n.data.toList=true):n.size≤1000:=by
 have:=jN h
 rwa [zq] at this
section
variable [Fr11] {w0 w:World} {D P M G:Nat} {A:zJ} {L:zB} {S:zw} {k:Nat}
theorem fit11_eq (n:Nat):zp (decide ((n:Int)+1≤12)) 7=zp (!decide (12≤n)) 7:=by
 by_cases h:12≤n
 ·
  rw [decide_eq_true h,decide_eq_false (by omega)]; rfl
 ·
  rw [decide_eq_false h,decide_eq_true (by omega)]; rfl
set_option maxRecDepth 100000 in
theorem fj (n h:ByteArray) (ho:zo w0 w D P M G A L S) (hg:zt A L S k) (hn:n.size≤9223372036854775807) (hh:h.size≤9223372036854775807) :
  Calls Tryz.prog 42 #[.pointer (some ⟨D,0,none⟩),.string n,.string h] w fun e w'=>e=.returned (.int .i64 (Yh A n.data.toList h.data.toList))∧zE w0 w D P M G (FK A n.data.toList h.data.toList) L S w':=by
 have HN:Hid (∀ W,Below w.heap.size w W→Calls Tryz.prog 52 #[.string n] W fun e w'=>e=.returned (.int .i64 (zp (zf n.data.toList) 10))∧Below W.heap.size W w'):=fun W hb=>yb n W hn
 have HH:Hid (∀ W,Below w.heap.size w W→Calls Tryz.prog 116 #[.string h] W fun e w'=>e=.returned (.int .i64 (zp (yo h.data.toList) 4))∧Below W.heap.size W w'):=fun W hb=>ZJ h W hh
 have HI:Hid (∀ W,Below w.heap.size w W→Calls Tryz.prog 117 #[.pointer (some ⟨D,0,none⟩),.string n] W fun e w'=>e=.returned (.int .i64 (zp (!zx A n.data.toList) 9))∧Below W.heap.size W w'):=fun W hb=>fd n (ho.later hb) hn
 have HL:Hid (∀ W,Below w.heap.size w W→Calls Tryz.prog 118 #[.pointer (some ⟨D,0,none⟩)] W fun e w'=>e=.returned (.int .i64 ((A.length:Int)))∧Below W.heap.size W w'):=fun W hb=>(QJ (ho.later hb)).mono fun e w' ⟨he,hw⟩=>⟨he,by rw [hw]; exact Below.refl _ _⟩
 have HT:Hid (∀ W,Below w.heap.size w W→Calls Tryz.prog 112 #[.int .i64 ((A.length:Int)+1),.int .i64 12] W fun e w'=>e=.returned (.int .i64 (zp (!decide (12≤A.length)) 7))∧Below W.heap.size W w'):=fun W hb=>(fu _ _ W).mono fun e w' ⟨he,hw⟩=>⟨by rw [he,fit11_eq],by rw [hw]; exact Below.refl _ _⟩
 have HFS:Hid (∀ W:World,Calls Tryz.prog 51 #[.slice (some ⟨W.heap.size,0,none⟩) 4 4] (W.alloc (.cells #[.int .i64 (zp (zf n.data.toList) 10),.int .i64 (zp (yo h.data.toList) 4),.int .i64 (zp (!zx A n.data.toList) 9),.int .i64 (zp (!decide (12≤A.length)) 7)] 24)) fun e w'=>e=.returned (.int .i64 (Yh A n.data.toList h.data.toList))∧w'=W.alloc (.cells #[.int .i64 (zp (zf n.data.toList) 10),.int .i64 (zp (yo h.data.toList) 4),.int .i64 (zp (!zx A n.data.toList) 9),.int .i64 (zp (!decide (12≤A.length)) 7)] 24)):=fun W=>by
  have:=vV W [zp (zf n.data.toList) 10,zp (yo h.data.toList) 4,zp (!zx A n.data.toList) 9,zp (!decide (12≤A.length)) 7] 24 (by simp)
  rw [first11_cr] at this
  exact this
 have HO:=za ho
 have HP:Hid (Yh A n.data.toList h.data.toList=0→∀ W,Below w.heap.size w W→Calls Tryz.prog 119 #[.pointer (some ⟨D,0,none⟩),.string n,.agg #[.string h,.bool false]] W fun e w'=>e=.returned (.tuple #[])∧zE w0 w D P M G (zP A n.data.toList (h.data.toList,false)) L S w'):=fun e W hb=>by
  obtain ⟨h1,h2,h3,h4⟩:=crF_zero e
  exact (uE n h false (ho.later hb) (by have:=hg.few; omega) (vh h1) (fs h2)).mono fun e w' ⟨he,hgo⟩=>⟨he,hgo.ahead hb⟩
 have hm12:(A.length:Int)≤12:=by have:=hg.few; omega
 have hm0:(0:Int)≤(A.length:Int):=by omega
 clear ho hg hn hh
 unfold FK
 generalize zP A n.data.toList (h.data.toList,false)=A' at *
 generalize Yh A n.data.toList h.data.toList=r at *
 generalize zp (zf n.data.toList) 10=e0 at *
 generalize zp (yo h.data.toList) 4=e1 at *
 generalize zp (!zx A n.data.toList) 9=e2 at *
 generalize zp (!decide (12≤A.length)) 7=e3 at *
 generalize (A.length:Int)=m at *
 by_cases h0:r=0
 ·
  subst h0
  rw [if_pos rfl]
  have HP2:=za (HP.out rfl)
  clear HP
  go_enter Tryz.func42,Tryz.ntmps42
  have HB0:Hid (Below w.heap.size w w):=Below.refl _ _
  go_wp2_with fail
  with_reducible refine (HN.out w HB0.out).mono ?_
  rintro e u1 ⟨rfl,hb⟩
  have HB1:=za (z8 HB0.out hb)
  clear hb
  go_wp2_with fail
  with_reducible refine (HH.out u1 HB1.out).mono ?_
  rintro e u2 ⟨rfl,hb⟩
  have HB2:=za (z8 HB1.out hb)
  clear hb
  go_wp2_with fail
  with_reducible refine (HI.out u2 HB2.out).mono ?_
  rintro e u3 ⟨rfl,hb⟩
  have HB3:=za (z8 HB2.out hb)
  clear hb
  go_wp2_with fail
  with_reducible refine (HL.out u3 HB3.out).mono ?_
  rintro e u4 ⟨rfl,hb⟩
  have HB4:=za (z8 HB3.out hb)
  clear hb
  go_wp2_with fail
  with_reducible refine (HT.out u4 HB4.out).mono ?_
  rintro e u5 ⟨rfl,hb⟩
  have HB5:=za (z8 HB4.out hb)
  clear hb
  go_wp2_with fail
  with_reducible refine (HFS.out _).mono ?_
  rintro e ub ⟨rfl,hub⟩
  have HB:Hid (Below w.heap.size w ub):=by
   show Below _ _ _
   rw [hub]; exact z7 HB5.out _
  clear hub HFS HB0 HB1 HB2 HB3 HB4 HB5 HN HH HI HL HT
  go_wp2_with fail
  with_reducible refine (HP2.out _ HB.out).mono ?_
  rintro e w5 ⟨rfl,hg⟩
  have HF:=za hg
  clear hg HP2 HB
  go_wp2
  go_ret
  exact ⟨rfl,HF.out⟩
 ·
  rw [if_neg h0]
  clear HP
  have q1:(r == 0)=false:=by simpa using h0
  have q2:¬ r=0:=h0
  go_enter Tryz.func42,Tryz.ntmps42
  have HB0:Hid (Below w.heap.size w w):=Below.refl _ _
  go_wp2_with fail
  with_reducible refine (HN.out w HB0.out).mono ?_
  rintro e u1 ⟨rfl,hb⟩
  have HB1:=za (z8 HB0.out hb)
  clear hb
  go_wp2_with fail
  with_reducible refine (HH.out u1 HB1.out).mono ?_
  rintro e u2 ⟨rfl,hb⟩
  have HB2:=za (z8 HB1.out hb)
  clear hb
  go_wp2_with fail
  with_reducible refine (HI.out u2 HB2.out).mono ?_
  rintro e u3 ⟨rfl,hb⟩
  have HB3:=za (z8 HB2.out hb)
  clear hb
  go_wp2_with fail
  with_reducible refine (HL.out u3 HB3.out).mono ?_
  rintro e u4 ⟨rfl,hb⟩
  have HB4:=za (z8 HB3.out hb)
  clear hb
  go_wp2_with fail
  with_reducible refine (HT.out u4 HB4.out).mono ?_
  rintro e u5 ⟨rfl,hb⟩
  have HB5:=za (z8 HB4.out hb)
  clear hb
  go_wp2_with fail
  with_reducible refine (HFS.out _).mono ?_
  rintro e ub ⟨rfl,hub⟩
  have HB:Hid (Below w.heap.size w ub):=by
   show Below _ _ _
   rw [hub]; exact z7 HB5.out _
  clear hub HFS HB0 HB1 HB2 HB3 HB4 HB5 HN HH HI HL HT
  go_wp2
  go_ret
  exact ⟨rfl,HO.out.still HB.out⟩
set_option maxRecDepth 100000 in
theorem YN (n h:ByteArray) (ho:zo w0 w D P M G A L S) (hg:zt A L S k) (hn:n.size≤9223372036854775807) (hh:h.size≤9223372036854775807) :
  Calls Tryz.prog 44 #[.pointer (some ⟨D,0,none⟩),.string n,.string h] w fun e w'=>e=.returned (.int .i64 (Y5 A n.data.toList h.data.toList))∧zE w0 w D P M G (JT A n.data.toList h.data.toList) L S w':=by
 have HN:Hid (∀ W,Below w.heap.size w W→Calls Tryz.prog 52 #[.string n] W fun e w'=>e=.returned (.int .i64 (zp (zf n.data.toList) 10))∧Below W.heap.size W w'):=fun W hb=>yb n W hn
 have HH:Hid (∀ W,Below w.heap.size w W→Calls Tryz.prog 116 #[.string h] W fun e w'=>e=.returned (.int .i64 (zp (yo h.data.toList) 4))∧Below W.heap.size W w'):=fun W hb=>ZJ h W hh
 have HI:Hid (∀ W,Below w.heap.size w W→Calls Tryz.prog 53 #[.pointer (some ⟨D,0,none⟩),.string n] W fun e w'=>e=.returned (.int .i64 (zp (zx A n.data.toList) 8))∧Below W.heap.size W w'):=fun W hb=>yQ n (ho.later hb) hn
 have HL:Hid (∀ W,Below w.heap.size w W→Calls Tryz.prog 122 #[.pointer (some ⟨D,0,none⟩),.string n] W fun e w'=>e=.returned (.int .i64 (zp (!uK A n.data.toList) 12))∧Below W.heap.size W w'):=fun W hb=>Va n (ho.later hb) hn
 have HFS:Hid (∀ W:World,Calls Tryz.prog 51 #[.slice (some ⟨W.heap.size,0,none⟩) 4 4] (W.alloc (.cells #[.int .i64 (zp (zf n.data.toList) 10),.int .i64 (zp (yo h.data.toList) 4),.int .i64 (zp (zx A n.data.toList) 8),.int .i64 (zp (!uK A n.data.toList) 12)] 24)) fun e w'=>e=.returned (.int .i64 (Y5 A n.data.toList h.data.toList))∧w'=W.alloc (.cells #[.int .i64 (zp (zf n.data.toList) 10),.int .i64 (zp (yo h.data.toList) 4),.int .i64 (zp (zx A n.data.toList) 8),.int .i64 (zp (!uK A n.data.toList) 12)] 24)):=fun W=>by
  have:=vV W [zp (zf n.data.toList) 10,zp (yo h.data.toList) 4,zp (zx A n.data.toList) 8,zp (!uK A n.data.toList) 12] 24 (by simp)
  rw [first11_sh] at this
  exact this
 have HO:=za ho
 have HP:Hid (Y5 A n.data.toList h.data.toList=0→∀ W,Below w.heap.size w W→Calls Tryz.prog 119 #[.pointer (some ⟨D,0,none⟩),.string n,.agg #[.string h,.bool (uK A n.data.toList)]] W fun e w'=>e=.returned (.tuple #[])∧zE w0 w D P M G (zP A n.data.toList (h.data.toList,uK A n.data.toList)) L S w'):=fun e W hb=>by
  obtain ⟨h1,h2,h3,h4⟩:=shF_zero e
  exact (uE n h _ (ho.later hb) (by have:=hg.few; omega) (vh h1) (fs h2)).mono fun e w' ⟨he,hgo⟩=>⟨he,hgo.ahead hb⟩
 have HK:Hid (∀ W,Below w.heap.size w W→(Instr.lookup 102 (.map (some P)) (.string n) false).run Tryz.prog W=.ok (.agg #[.string (zI (jr A n.data.toList)),.bool (uK A n.data.toList)]) W):=fun W hb=>(ho.later hb).look1 n hn
 have hz:=Zf
 clear ho hg hn hh
 unfold JT
 generalize zP A n.data.toList (h.data.toList,uK A n.data.toList)=A' at *
 generalize Y5 A n.data.toList h.data.toList=r at *
 generalize zp (zf n.data.toList) 10=e0 at *
 generalize zp (yo h.data.toList) 4=e1 at *
 generalize zp (zx A n.data.toList) 8=e2 at *
 generalize zp (!uK A n.data.toList) 12=e3 at *
 generalize uK A n.data.toList=dd at *
 generalize zI (jr A n.data.toList)=ss at *
 by_cases h0:r=0
 ·
  subst h0
  rw [if_pos rfl]
  have HP2:=za (HP.out rfl)
  clear HP
  go_enter Tryz.func44,Tryz.ntmps44
  have HB0:Hid (Below w.heap.size w w):=Below.refl _ _
  go_wp2_with fail
  with_reducible refine (HN.out w HB0.out).mono ?_
  rintro e u1 ⟨rfl,hb⟩
  have HB1:=za (z8 HB0.out hb)
  clear hb
  go_wp2_with fail
  with_reducible refine (HH.out u1 HB1.out).mono ?_
  rintro e u2 ⟨rfl,hb⟩
  have HB2:=za (z8 HB1.out hb)
  clear hb
  go_wp2_with fail
  with_reducible refine (HI.out u2 HB2.out).mono ?_
  rintro e u3 ⟨rfl,hb⟩
  have HB3:=za (z8 HB2.out hb)
  clear hb
  go_wp2_with fail
  with_reducible refine (HL.out u3 HB3.out).mono ?_
  rintro e u4 ⟨rfl,hb⟩
  have HB4:=za (z8 HB3.out hb)
  clear hb
  go_wp2_with fail
  with_reducible refine (HFS.out _).mono ?_
  rintro e ub ⟨rfl,hub⟩
  have HB:Hid (Below w.heap.size w ub):=by
   show Below _ _ _
   rw [hub]; exact z7 HB4.out _
  clear hub HFS HB0 HB1 HB2 HB3 HB4 HN HH HI HL
  have c0:=(HO.out.later HB.out).c0
  have hk:=HK.out _ HB.out
  have HBA:Hid (Below w.heap.size w (ub.alloc (.cells #[.string h,.bool dd] 147))):=z7 HB.out _
  clear HK
  go_wp2_with fail
  with_reducible refine (HP2.out _ HBA.out).mono ?_
  rintro e w5 ⟨rfl,hg⟩
  have HF:=za hg
  clear hg HP2 HB HBA c0 hk
  go_wp2
  go_ret
  exact ⟨rfl,HF.out⟩
 ·
  rw [if_neg h0]
  clear HP HK
  have q1:(r == 0)=false:=by simpa using h0
  have q2:¬ r=0:=h0
  go_enter Tryz.func44,Tryz.ntmps44
  have HB0:Hid (Below w.heap.size w w):=Below.refl _ _
  go_wp2_with fail
  with_reducible refine (HN.out w HB0.out).mono ?_
  rintro e u1 ⟨rfl,hb⟩
  have HB1:=za (z8 HB0.out hb)
  clear hb
  go_wp2_with fail
  with_reducible refine (HH.out u1 HB1.out).mono ?_
  rintro e u2 ⟨rfl,hb⟩
  have HB2:=za (z8 HB1.out hb)
  clear hb
  go_wp2_with fail
  with_reducible refine (HI.out u2 HB2.out).mono ?_
  rintro e u3 ⟨rfl,hb⟩
  have HB3:=za (z8 HB2.out hb)
  clear hb
  go_wp2_with fail
  with_reducible refine (HL.out u3 HB3.out).mono ?_
  rintro e u4 ⟨rfl,hb⟩
  have HB4:=za (z8 HB3.out hb)
  clear hb
  go_wp2_with fail
  with_reducible refine (HFS.out _).mono ?_
  rintro e ub ⟨rfl,hub⟩
  have HB:Hid (Below w.heap.size w ub):=by
   show Below _ _ _
   rw [hub]; exact z7 HB4.out _
  clear hub HFS HB0 HB1 HB2 HB3 HB4 HN HH HI HL
  go_wp2
  go_ret
  exact ⟨rfl,HO.out.still HB.out⟩
set_option maxRecDepth 100000 in
theorem XB (n:ByteArray) (is_:Bool) (ho:zo w0 w D P M G A L S) (hg:zt A L S k) (hn:n.size≤9223372036854775807) :
  Calls Tryz.prog 71 #[.pointer (some ⟨D,0,none⟩),.string n,.bool is_] w fun e w'=>e=.returned (.int .i64 (Yg A n.data.toList is_))∧zE w0 w D P M G (FB A n.data.toList is_) L S w':=by
 have HN:Hid (∀ W,Below w.heap.size w W→Calls Tryz.prog 52 #[.string n] W fun e w'=>e=.returned (.int .i64 (zp (zf n.data.toList) 10))∧Below W.heap.size W w'):=fun W hb=>yb n W hn
 have HI:Hid (∀ W,Below w.heap.size w W→Calls Tryz.prog 53 #[.pointer (some ⟨D,0,none⟩),.string n] W fun e w'=>e=.returned (.int .i64 (zp (zx A n.data.toList) 8))∧Below W.heap.size W w'):=fun W hb=>yQ n (ho.later hb) hn
 have HL:Hid (∀ W,Below w.heap.size w W→Calls Tryz.prog 149 #[.pointer (some ⟨D,0,none⟩),.string n,.bool is_] W fun e w'=>e=.returned (.int .i64 (zp (!(uK A n.data.toList == is_)) 12))∧Below W.heap.size W w'):=fun W hb=>Ye n is_ (ho.later hb) hn
 have HFS:Hid (∀ W:World,Calls Tryz.prog 51 #[.slice (some ⟨W.heap.size,0,none⟩) 3 3] (W.alloc (.cells #[.int .i64 (zp (zf n.data.toList) 10),.int .i64 (zp (zx A n.data.toList) 8),.int .i64 (zp (!(uK A n.data.toList == is_)) 12)] 24)) fun e w'=>e=.returned (.int .i64 (Yg A n.data.toList is_))∧w'=W.alloc (.cells #[.int .i64 (zp (zf n.data.toList) 10),.int .i64 (zp (zx A n.data.toList) 8),.int .i64 (zp (!(uK A n.data.toList == is_)) 12)] 24)):=fun W=>by
  have:=vV W [zp (zf n.data.toList) 10,zp (zx A n.data.toList) 8,zp (!(uK A n.data.toList == is_)) 12] 24 (by simp)
  rw [first11_di] at this
  exact this
 have HO:=za ho
 have HP:Hid (Yg A n.data.toList is_=0→∀ W,Below w.heap.size w W→Calls Tryz.prog 119 #[.pointer (some ⟨D,0,none⟩),.string n,.agg #[.string (zI (jr A n.data.toList)),.bool is_]] W fun e w'=>e=.returned (.tuple #[])∧zE w0 w D P M G (zP A n.data.toList (jr A n.data.toList,is_)) L S w'):=fun e W hb=>by
  obtain ⟨h1,h3,h4⟩:=diF_zero e
  have:=uE n (zI (jr A n.data.toList)) is_ (ho.later hb) (by have:=hg.few; omega) (vh h1) (by rw [xF]; exact jN (Xr hg h3))
  rw [zy] at this
  exact this.mono fun e w' ⟨he,hgo⟩=>⟨he,hgo.ahead hb⟩
 have HK:Hid (∀ W,Below w.heap.size w W→(Instr.lookup 102 (.map (some P)) (.string n) false).run Tryz.prog W=.ok (.agg #[.string (zI (jr A n.data.toList)),.bool (uK A n.data.toList)]) W):=fun W hb=>(ho.later hb).look1 n hn
 have hz:=Zf
 clear ho hg hn
 unfold FB
 generalize zP A n.data.toList (jr A n.data.toList,is_)=A' at *
 generalize Yg A n.data.toList is_=r at *
 generalize zp (zf n.data.toList) 10=e0 at *
 generalize zp (zx A n.data.toList) 8=e2 at *
 generalize zp (!(uK A n.data.toList == is_)) 12=e3 at *
 generalize uK A n.data.toList=dd at *
 generalize zI (jr A n.data.toList)=ss at *
 by_cases h0:r=0
 ·
  subst h0
  rw [if_pos rfl]
  have HP2:=za (HP.out rfl)
  clear HP
  go_enter Tryz.func71,Tryz.ntmps71
  have HB0:Hid (Below w.heap.size w w):=Below.refl _ _
  go_wp2_with fail
  with_reducible refine (HN.out w HB0.out).mono ?_
  rintro e u1 ⟨rfl,hb⟩
  have HB1:=za (z8 HB0.out hb)
  clear hb
  go_wp2_with fail
  with_reducible refine (HI.out u1 HB1.out).mono ?_
  rintro e u2 ⟨rfl,hb⟩
  have HB2:=za (z8 HB1.out hb)
  clear hb
  go_wp2_with fail
  with_reducible refine (HL.out u2 HB2.out).mono ?_
  rintro e u3 ⟨rfl,hb⟩
  have HB3:=za (z8 HB2.out hb)
  clear hb
  go_wp2_with fail
  with_reducible refine (HFS.out _).mono ?_
  rintro e ub ⟨rfl,hub⟩
  have HB:Hid (Below w.heap.size w ub):=by
   show Below _ _ _
   rw [hub]; exact z7 HB3.out _
  clear hub HFS HB0 HB1 HB2 HB3 HN HI HL
  have c0:=(HO.out.later HB.out).c0
  have hk:=HK.out _ HB.out
  have HBA:Hid (Below w.heap.size w (ub.alloc (.cells #[.string ss,.bool is_] 147))):=z7 HB.out _
  clear HK
  go_wp2_with fail
  with_reducible refine (HP2.out _ HBA.out).mono ?_
  rintro e w5 ⟨rfl,hg⟩
  have HF:=za hg
  clear hg HP2 HB HBA c0 hk
  go_wp2
  go_ret
  exact ⟨rfl,HF.out⟩
 ·
  rw [if_neg h0]
  clear HP HK
  have q1:(r == 0)=false:=by simpa using h0
  have q2:¬ r=0:=h0
  go_enter Tryz.func71,Tryz.ntmps71
  have HB0:Hid (Below w.heap.size w w):=Below.refl _ _
  go_wp2_with fail
  with_reducible refine (HN.out w HB0.out).mono ?_
  rintro e u1 ⟨rfl,hb⟩
  have HB1:=za (z8 HB0.out hb)
  clear hb
  go_wp2_with fail
  with_reducible refine (HI.out u1 HB1.out).mono ?_
  rintro e u2 ⟨rfl,hb⟩
  have HB2:=za (z8 HB1.out hb)
  clear hb
  go_wp2_with fail
  with_reducible refine (HL.out u2 HB2.out).mono ?_
  rintro e u3 ⟨rfl,hb⟩
  have HB3:=za (z8 HB2.out hb)
  clear hb
  go_wp2_with fail
  with_reducible refine (HFS.out _).mono ?_
  rintro e ub ⟨rfl,hub⟩
  have HB:Hid (Below w.heap.size w ub):=by
   show Below _ _ _
   rw [hub]; exact z7 HB3.out _
  clear hub HFS HB0 HB1 HB2 HB3 HN HI HL
  go_wp2
  go_ret
  exact ⟨rfl,HO.out.still HB.out⟩
def FG (A:zJ) (n:List UInt8):zJ:=if Z5 A n=0 then yu A n else A
def FF (A:zJ) (L:zB) (n:List UInt8):zB:=if Z5 A n=0 then vD L n else L
def FE (A:zJ) (S:zw) (n:List UInt8):zw:=if Z5 A n=0 then jT S n else S
set_option maxRecDepth 100000 in
theorem fh (n:ByteArray) (ho:zo w0 w D P M G A L S) (hg:zt A L S k) (hn:n.size≤9223372036854775807) :
  Calls Tryz.prog 43 #[.pointer (some ⟨D,0,none⟩),.string n] w fun e w'=>e=.returned (.int .i64 (Z5 A n.data.toList))∧zE w0 w D P M G (FG A n.data.toList) (FF A L n.data.toList) (FE A S n.data.toList) w':=by
 have HN:Hid (∀ W,Below w.heap.size w W→Calls Tryz.prog 52 #[.string n] W fun e w'=>e=.returned (.int .i64 (zp (zf n.data.toList) 10))∧Below W.heap.size W w'):=fun W hb=>yb n W hn
 have HI:Hid (∀ W,Below w.heap.size w W→Calls Tryz.prog 53 #[.pointer (some ⟨D,0,none⟩),.string n] W fun e w'=>e=.returned (.int .i64 (zp (zx A n.data.toList) 8))∧Below W.heap.size W w'):=fun W hb=>yQ n (ho.later hb) hn
 have HFS:Hid (∀ W:World,Calls Tryz.prog 51 #[.slice (some ⟨W.heap.size,0,none⟩) 2 2] (W.alloc (.cells #[.int .i64 (zp (zf n.data.toList) 10),.int .i64 (zp (zx A n.data.toList) 8)] 24)) fun e w'=>e=.returned (.int .i64 (Z5 A n.data.toList))∧w'=W.alloc (.cells #[.int .i64 (zp (zf n.data.toList) 10),.int .i64 (zp (zx A n.data.toList) 8)] 24)):=fun W=>by
  have:=vV W [zp (zf n.data.toList) 10,zp (zx A n.data.toList) 8] 24 (by simp)
  rw [first11_de] at this
  exact this
 have HO:=za ho
 have HDR:Hid (∀ W ty,Below w.heap.size w W→∃ w',(Builtin.delete_ #[102,9] ty #[.map (some P),.string n]).run Tryz.prog W=.ok (.tuple #[]) w'∧zE w0 w D P M G (yu A n.data.toList) L S w'):=fun W ty hb=>by
  obtain ⟨w',h1,h2⟩:=(ho.later hb).drop n hn ty
  exact ⟨w',h1,h2.ahead hb⟩
 have HMD:Hid (∀ W A1 L1 S1,zo w0 W D P M G A1 L1 S1→Calls Tryz.prog 120 #[.pointer (some ⟨M,0,none⟩),.string n] W fun e w'=>e=.returned (.bool (xj L1 n.data.toList))∧zE w0 W D P M G A1 (vD L1 n.data.toList) S1 w'):=fun W A1 L1 S1 h=>h.mdrop n hn
 have HGR:Hid (∀ W A1 L1,zo w0 W D P M G A1 L1 S→Calls Tryz.prog 121 #[.pointer (some ⟨G,0,none⟩),.string n] W fun e w'=>e=.returned (.int .i64 ((yV S n.data.toList).length:Nat))∧zE w0 W D P M G A1 L1 (jT S n.data.toList) w'):=fun W A1 L1 h=>h.gremove hg.grp n hn
 clear ho hg hn
 unfold FG FF FE
 generalize Z5 A n.data.toList=r at *
 generalize zp (zf n.data.toList) 10=e0 at *
 generalize zp (zx A n.data.toList) 8=e2 at *
 by_cases h0:r=0
 ·
  subst h0
  rw [if_pos rfl,if_pos rfl,if_pos rfl]
  generalize (yV S n.data.toList).length=cnt at *
  generalize jT S n.data.toList=S' at *
  generalize yu A n.data.toList=A' at *
  go_enter Tryz.func43,Tryz.ntmps43
  have HB0:Hid (Below w.heap.size w w):=Below.refl _ _
  go_wp2_with fail
  with_reducible refine (HN.out w HB0.out).mono ?_
  rintro e u1 ⟨rfl,hb⟩
  have HB1:=za (z8 HB0.out hb)
  clear hb
  go_wp2_with fail
  with_reducible refine (HI.out u1 HB1.out).mono ?_
  rintro e u2 ⟨rfl,hb⟩
  have HB2:=za (z8 HB1.out hb)
  clear hb
  go_wp2_with fail
  with_reducible refine (HFS.out _).mono ?_
  rintro e ub ⟨rfl,hub⟩
  have HB:Hid (Below w.heap.size w ub):=by
   show Below _ _ _
   rw [hub]; exact z7 HB2.out _
  clear hub HFS HB0 HB1 HB2 HN HI
  have c0:=(HO.out.later HB.out).c0
  have hdr:=fun ty=>HDR.out ub ty HB.out
  obtain ⟨w1,hrun,hgo⟩:=hdr 0
  have HG1:=za hgo
  have c1:=hgo.1.c1
  have HMD1:=za (HMD.out w1 _ _ _ hgo.1)
  clear hdr hgo HDR HMD
  go_wp2_with fail
  with_reducible refine HMD1.out.mono ?_
  rintro e w2 ⟨rfl,hgo⟩
  have HG2:=za (HG1.out.next hgo)
  have c2:=hgo.1.c2
  have HGR1:=za (HGR.out w2 _ _ hgo.1)
  clear hgo HGR HMD1 HG1 c1 c0 hrun
  go_wp2_with fail
  with_reducible refine HGR1.out.mono ?_
  rintro e w3 ⟨rfl,hgo⟩
  have HF:=za (HG2.out.next hgo)
  clear hgo HGR1 HG2 c2
  go_wp2
  go_ret
  exact ⟨rfl,HF.out⟩
 ·
  rw [if_neg h0,if_neg h0,if_neg h0]
  clear HDR HMD HGR
  have q1:(r == 0)=false:=by simpa using h0
  have q2:¬ r=0:=h0
  go_enter Tryz.func43,Tryz.ntmps43
  have HB0:Hid (Below w.heap.size w w):=Below.refl _ _
  go_wp2_with fail
  with_reducible refine (HN.out w HB0.out).mono ?_
  rintro e u1 ⟨rfl,hb⟩
  have HB1:=za (z8 HB0.out hb)
  clear hb
  go_wp2_with fail
  with_reducible refine (HI.out u1 HB1.out).mono ?_
  rintro e u2 ⟨rfl,hb⟩
  have HB2:=za (z8 HB1.out hb)
  clear hb
  go_wp2_with fail
  with_reducible refine (HFS.out _).mono ?_
  rintro e ub ⟨rfl,hub⟩
  have HB:Hid (Below w.heap.size w ub):=by
   show Below _ _ _
   rw [hub]; exact z7 HB2.out _
  clear hub HFS HB0 HB1 HB2 HN HI
  go_wp2
  go_ret
  exact ⟨rfl,HO.out.still HB.out⟩
theorem sm11_eq (n m:List UInt8):(zf n=true∧xw m=true∧zx A n=true→qK A L n m=je L n m∧Y4 A L n m=Vr L n m)∧(¬ (zf n=true∧xw m=true∧zx A n=true)→qK A L n m=(if zf n then (if xw m then (if zx A n then 0 else 8) else 11) else 10)∧Y4 A L n m=L):=by
 constructor
 ·
  rintro ⟨h1,h2,h3⟩
  have h4:je L n m=0∨je L n m=9:=by
   unfold je
   rw [if_pos h1]
   by_cases hm:m=[]
   ·
    rw [if_pos hm]; exact .inl rfl
   ·
    have h5:yP m=true:=by unfold xw at h2; rw [decide_eq_false hm,Bool.false_or] at h2; exact h2
    rw [if_neg hm,if_pos h5]
    cases Q8 L n (zO m)
    ·
     exact .inl rfl
    ·
     exact .inr rfl
  have e1:qK A L n m=je L n m:=by
   unfold qK JS
   rw [h1,h2,h3]
   rcases h4 with h | h <;> rw [h] <;> rfl
  refine ⟨e1,?_⟩
  unfold Y4
  rw [e1]
  by_cases h:je L n m=0
  ·
   rw [if_pos h]
  ·
   rw [if_neg h]; unfold Vr; rw [if_neg h]
 ·
  intro hq
  have e1:qK A L n m=(if zf n then (if xw m then (if zx A n then 0 else 8) else 11) else 10):=by
   unfold qK JS
   revert hq
   cases zf n <;> cases xw m <;> cases zx A n <;> simp
  refine ⟨e1,?_⟩
  unfold Y4
  rw [e1,if_neg]
  revert hq
  cases zf n <;> cases xw m <;> cases zx A n <;> simp
set_option maxRecDepth 100000 in
theorem jd (n m:ByteArray) (ho:zo w0 w D P M G A L S) (hl:L.length<100) (h5:vR w) (hn:n.size≤9223372036854775807) (hm:m.size≤9223372036854775807) :
  Calls Tryz.prog 69 #[.pointer (some ⟨D,0,none⟩),.string n,.string m] w fun e w'=>e=.returned (.int .i64 (qK A L n.data.toList m.data.toList))∧zE w0 w D P M G A (Y4 A L n.data.toList m.data.toList) S w':=by
 have HN:Hid (∀ W,Below w.heap.size w W→Calls Tryz.prog 52 #[.string n] W fun e w'=>e=.returned (.int .i64 (zp (zf n.data.toList) 10))∧Below W.heap.size W w'):=fun W hb=>yb n W hn
 have HH:Hid (∀ W,Below w.heap.size w W→Calls Tryz.prog 147 #[.string m] W fun e w'=>e=.returned (.int .i64 (zp (xw m.data.toList) 11))∧Below W.heap.size W w'):=fun W hb=>Vb m W hm (h5.later hb)
 have HI:Hid (∀ W,Below w.heap.size w W→Calls Tryz.prog 53 #[.pointer (some ⟨D,0,none⟩),.string n] W fun e w'=>e=.returned (.int .i64 (zp (zx A n.data.toList) 8))∧Below W.heap.size W w'):=fun W hb=>yQ n (ho.later hb) hn
 have HFS:Hid (∀ W:World,Calls Tryz.prog 51 #[.slice (some ⟨W.heap.size,0,none⟩) 3 3] (W.alloc (.cells #[.int .i64 (zp (zf n.data.toList) 10),.int .i64 (zp (xw m.data.toList) 11),.int .i64 (zp (zx A n.data.toList) 8)] 24)) fun e w'=>e=.returned (.int .i64 (if zf n.data.toList then (if xw m.data.toList then (if zx A n.data.toList then 0 else 8) else 11) else 10))∧w'=W.alloc (.cells #[.int .i64 (zp (zf n.data.toList) 10),.int .i64 (zp (xw m.data.toList) 11),.int .i64 (zp (zx A n.data.toList) 8)] 24)):=fun W=>by
  have:=vV W [zp (zf n.data.toList) 10,zp (xw m.data.toList) 11,zp (zx A n.data.toList) 8] 24 (by simp)
  rw [first11_sm] at this
  exact this
 have HO:=za ho
 have HP:Hid (zf n.data.toList=true→∀ W,Below w.heap.size w W→Calls Tryz.prog 148 #[.pointer (some ⟨D,0,none⟩),.string n,.string m] W fun e w'=>e=.returned (.int .i64 (je L n.data.toList m.data.toList))∧zE w0 w D P M G A (Vr L n.data.toList m.data.toList) S w'):=fun h1 W hb =>
  (jm n m (ho.later hb) hl (h5.later hb) (vh h1) hm).mono fun e w' ⟨he,hgo⟩=>⟨he,hgo.ahead hb⟩
 have HX:Hid ((zf n.data.toList=true∧xw m.data.toList=true∧zx A n.data.toList=true→qK A L n.data.toList m.data.toList=je L n.data.toList m.data.toList∧Y4 A L n.data.toList m.data.toList=Vr L n.data.toList m.data.toList)∧(¬ (zf n.data.toList=true∧xw m.data.toList=true∧zx A n.data.toList=true)→qK A L n.data.toList m.data.toList=(if zf n.data.toList then (if xw m.data.toList then (if zx A n.data.toList then 0 else 8) else 11) else 10)∧Y4 A L n.data.toList m.data.toList=L)):=sm11_eq n.data.toList m.data.toList
 clear ho hl hn hm h5
 by_cases hq:zf n.data.toList=true∧xw m.data.toList=true∧zx A n.data.toList=true
 ·
  obtain ⟨x1,x2⟩:=HX.out.1 hq
  rw [x1,x2]
  have HP2:=za (HP.out hq.1)
  obtain ⟨q1,q2,q3⟩:=hq
  rw [q1,q2,q3] at HFS
  rw [if_pos rfl,if_pos rfl,if_pos rfl] at HFS
  rw [q1] at HN
  rw [q2] at HH
  rw [q3] at HI
  clear HP HX x1 x2 q1 q2 q3
  generalize zp true 10=e0 at *
  generalize zp true 11=e1 at *
  generalize zp true 8=e2 at *
  generalize je L n.data.toList m.data.toList=r at *
  generalize Vr L n.data.toList m.data.toList=L' at *
  go_enter Tryz.func69,Tryz.ntmps69
  have HB0:Hid (Below w.heap.size w w):=Below.refl _ _
  go_wp2_with fail
  with_reducible refine (HN.out w HB0.out).mono ?_
  rintro e u1 ⟨rfl,hb⟩
  have HB1:=za (z8 HB0.out hb)
  clear hb
  go_wp2_with fail
  with_reducible refine (HH.out u1 HB1.out).mono ?_
  rintro e u2 ⟨rfl,hb⟩
  have HB2:=za (z8 HB1.out hb)
  clear hb
  go_wp2_with fail
  with_reducible refine (HI.out u2 HB2.out).mono ?_
  rintro e u3 ⟨rfl,hb⟩
  have HB3:=za (z8 HB2.out hb)
  clear hb
  go_wp2_with fail
  with_reducible refine (HFS.out _).mono ?_
  rintro e ub ⟨rfl,hub⟩
  have HB:Hid (Below w.heap.size w ub):=by
   show Below _ _ _
   rw [hub]; exact z7 HB3.out _
  clear hub HFS HB0 HB1 HB2 HB3 HN HH HI
  go_wp2_with fail
  with_reducible refine (HP2.out _ HB.out).mono ?_
  rintro e w5 ⟨rfl,hg⟩
  have HF:=za hg
  clear hg HP2 HB
  go_wp2
  go_ret
  exact ⟨rfl,HF.out⟩
 ·
  obtain ⟨x1,x2⟩:=HX.out.2 hq
  rw [x1,x2]
  have h0:¬ (if zf n.data.toList then (if xw m.data.toList then (if zx A n.data.toList then (0:Int) else 8) else 11) else 10)=0:=by
   revert hq
   cases zf n.data.toList <;> cases xw m.data.toList <;> cases zx A n.data.toList <;> simp
  clear HP HX x1 x2 hq
  generalize (if zf n.data.toList then (if xw m.data.toList then (if zx A n.data.toList then (0:Int) else 8) else 11) else 10)=r at *
  generalize zp (zf n.data.toList) 10=e0 at *
  generalize zp (xw m.data.toList) 11=e1 at *
  generalize zp (zx A n.data.toList) 8=e2 at *
  have q1:(r == 0)=false:=by simpa using h0
  have q2:¬ r=0:=h0
  have q3:(r != 0)=true:=by simpa using h0
  go_enter Tryz.func69,Tryz.ntmps69
  have HB0:Hid (Below w.heap.size w w):=Below.refl _ _
  go_wp2_with fail
  with_reducible refine (HN.out w HB0.out).mono ?_
  rintro e u1 ⟨rfl,hb⟩
  have HB1:=za (z8 HB0.out hb)
  clear hb
  go_wp2_with fail
  with_reducible refine (HH.out u1 HB1.out).mono ?_
  rintro e u2 ⟨rfl,hb⟩
  have HB2:=za (z8 HB1.out hb)
  clear hb
  go_wp2_with fail
  with_reducible refine (HI.out u2 HB2.out).mono ?_
  rintro e u3 ⟨rfl,hb⟩
  have HB3:=za (z8 HB2.out hb)
  clear hb
  go_wp2_with fail
  with_reducible refine (HFS.out _).mono ?_
  rintro e ub ⟨rfl,hub⟩
  have HB:Hid (Below w.heap.size w ub):=by
   show Below _ _ _
   rw [hub]; exact z7 HB3.out _
  clear hub HFS HB0 HB1 HB2 HB3 HN HH HI
  go_wp2
  go_ret
  exact ⟨rfl,HO.out.still HB.out⟩
set_option maxRecDepth 100000 in
theorem QW (g n:ByteArray) (ho:zo w0 w D P M G A L S) (hg:zt A L S k) (h9:k≤900) (hz:g.size≤9223372036854775807) (hn:n.size≤9223372036854775807) :
  Calls Tryz.prog 79 #[.pointer (some ⟨D,0,none⟩),.string g,.string n] w fun e w'=>e=.returned (.int .i64 (ZC A S g.data.toList n.data.toList))∧zE w0 w D P M G A L (UE A S g.data.toList n.data.toList) w':=by
 have HN:Hid (∀ W,Below w.heap.size w W→Calls Tryz.prog 52 #[.string g] W fun e w'=>e=.returned (.int .i64 (zp (zf g.data.toList) 10))∧Below W.heap.size W w'):=fun W hb=>yb g W hz
 have HH:Hid (∀ W,Below w.heap.size w W→Calls Tryz.prog 52 #[.string n] W fun e w'=>e=.returned (.int .i64 (zp (zf n.data.toList) 10))∧Below W.heap.size W w'):=fun W hb=>yb n W hn
 have HI:Hid (∀ W,Below w.heap.size w W→Calls Tryz.prog 53 #[.pointer (some ⟨D,0,none⟩),.string n] W fun e w'=>e=.returned (.int .i64 (zp (zx A n.data.toList) 8))∧Below W.heap.size W w'):=fun W hb=>yQ n (ho.later hb) hn
 have HFS:Hid (∀ W:World,Calls Tryz.prog 51 #[.slice (some ⟨W.heap.size,0,none⟩) 3 3] (W.alloc (.cells #[.int .i64 (zp (zf g.data.toList) 10),.int .i64 (zp (zf n.data.toList) 10),.int .i64 (zp (zx A n.data.toList) 8)] 24)) fun e w'=>e=.returned (.int .i64 (yS A g.data.toList n.data.toList))∧w'=W.alloc (.cells #[.int .i64 (zp (zf g.data.toList) 10),.int .i64 (zp (zf n.data.toList) 10),.int .i64 (zp (zx A n.data.toList) 8)] 24)):=fun W=>by
  have:=vV W [zp (zf g.data.toList) 10,zp (zf n.data.toList) 10,zp (zx A n.data.toList) 8] 24 (by simp)
  rw [VR] at this
  exact this
 have HO:=za ho
 have HP:Hid (∀ W,Below w.heap.size w W→Calls Tryz.prog 162 #[.pointer (some ⟨G,0,none⟩),.string g,.string n] W fun e w'=>e=.returned (.int .i64 (qv S g.data.toList n.data.toList))∧zE w0 w D P M G A L (qP S g.data.toList n.data.toList) w'):=fun W hb =>
  ((ho.later hb).gjoin hg.grp h9 g n hz hn).mono fun e w' ⟨he,hgo⟩=>⟨he,hgo.ahead hb⟩
 clear ho hg h9 hz hn
 unfold ZC UE
 generalize qv S g.data.toList n.data.toList=x at *
 generalize qP S g.data.toList n.data.toList=S' at *
 generalize yS A g.data.toList n.data.toList=r at *
 generalize zp (zf g.data.toList) 10=e0 at *
 generalize zp (zf n.data.toList) 10=e1 at *
 generalize zp (zx A n.data.toList) 8=e2 at *
 by_cases h0:r=0
 ·
  subst h0
  rw [if_pos rfl,if_pos rfl]
  go_enter Tryz.func79,Tryz.ntmps79
  have HB0:Hid (Below w.heap.size w w):=Below.refl _ _
  go_wp2_with fail
  with_reducible refine (HN.out w HB0.out).mono ?_
  rintro e u1 ⟨rfl,hb⟩
  have HB1:=za (z8 HB0.out hb)
  clear hb
  go_wp2_with fail
  with_reducible refine (HH.out u1 HB1.out).mono ?_
  rintro e u2 ⟨rfl,hb⟩
  have HB2:=za (z8 HB1.out hb)
  clear hb
  go_wp2_with fail
  with_reducible refine (HI.out u2 HB2.out).mono ?_
  rintro e u3 ⟨rfl,hb⟩
  have HB3:=za (z8 HB2.out hb)
  clear hb
  go_wp2_with fail
  with_reducible refine (HFS.out _).mono ?_
  rintro e ub ⟨rfl,hub⟩
  have HB:Hid (Below w.heap.size w ub):=by
   show Below _ _ _
   rw [hub]; exact z7 HB3.out _
  clear hub HFS HB0 HB1 HB2 HB3 HN HH HI
  have c2:=(HO.out.later HB.out).c2
  go_wp2_with fail
  with_reducible refine (HP.out _ HB.out).mono ?_
  rintro e w5 ⟨rfl,hg⟩
  have HF:=za hg
  clear hg HP HB c2
  go_wp2
  go_ret
  exact ⟨rfl,HF.out⟩
 ·
  rw [if_neg h0,if_neg h0]
  clear HP
  have q1:(r == 0)=false:=by simpa using h0
  have q2:¬ r=0:=h0
  have q3:(r != 0)=true:=by simpa using h0
  go_enter Tryz.func79,Tryz.ntmps79
  have HB0:Hid (Below w.heap.size w w):=Below.refl _ _
  go_wp2_with fail
  with_reducible refine (HN.out w HB0.out).mono ?_
  rintro e u1 ⟨rfl,hb⟩
  have HB1:=za (z8 HB0.out hb)
  clear hb
  go_wp2_with fail
  with_reducible refine (HH.out u1 HB1.out).mono ?_
  rintro e u2 ⟨rfl,hb⟩
  have HB2:=za (z8 HB1.out hb)
  clear hb
  go_wp2_with fail
  with_reducible refine (HI.out u2 HB2.out).mono ?_
  rintro e u3 ⟨rfl,hb⟩
  have HB3:=za (z8 HB2.out hb)
  clear hb
  go_wp2_with fail
  with_reducible refine (HFS.out _).mono ?_
  rintro e ub ⟨rfl,hub⟩
  have HB:Hid (Below w.heap.size w ub):=by
   show Below _ _ _
   rw [hub]; exact z7 HB3.out _
  clear hub HFS HB0 HB1 HB2 HB3 HN HH HI
  go_wp2
  go_ret
  exact ⟨rfl,HO.out.still HB.out⟩
set_option maxRecDepth 100000 in
theorem UA (g n:ByteArray) (ho:zo w0 w D P M G A L S) (hz:g.size≤9223372036854775807) (hn:n.size≤9223372036854775807) :
  Calls Tryz.prog 81 #[.pointer (some ⟨D,0,none⟩),.string g,.string n] w fun e w'=>e=.returned (.int .i64 (ZA A S g.data.toList n.data.toList))∧zE w0 w D P M G A L (UC A S g.data.toList n.data.toList) w':=by
 have HN:Hid (∀ W,Below w.heap.size w W→Calls Tryz.prog 52 #[.string g] W fun e w'=>e=.returned (.int .i64 (zp (zf g.data.toList) 10))∧Below W.heap.size W w'):=fun W hb=>yb g W hz
 have HH:Hid (∀ W,Below w.heap.size w W→Calls Tryz.prog 52 #[.string n] W fun e w'=>e=.returned (.int .i64 (zp (zf n.data.toList) 10))∧Below W.heap.size W w'):=fun W hb=>yb n W hn
 have HI:Hid (∀ W,Below w.heap.size w W→Calls Tryz.prog 53 #[.pointer (some ⟨D,0,none⟩),.string n] W fun e w'=>e=.returned (.int .i64 (zp (zx A n.data.toList) 8))∧Below W.heap.size W w'):=fun W hb=>yQ n (ho.later hb) hn
 have HFS:Hid (∀ W:World,Calls Tryz.prog 51 #[.slice (some ⟨W.heap.size,0,none⟩) 3 3] (W.alloc (.cells #[.int .i64 (zp (zf g.data.toList) 10),.int .i64 (zp (zf n.data.toList) 10),.int .i64 (zp (zx A n.data.toList) 8)] 24)) fun e w'=>e=.returned (.int .i64 (yS A g.data.toList n.data.toList))∧w'=W.alloc (.cells #[.int .i64 (zp (zf g.data.toList) 10),.int .i64 (zp (zf n.data.toList) 10),.int .i64 (zp (zx A n.data.toList) 8)] 24)):=fun W=>by
  have:=vV W [zp (zf g.data.toList) 10,zp (zf n.data.toList) 10,zp (zx A n.data.toList) 8] 24 (by simp)
  rw [VR] at this
  exact this
 have HO:=za ho
 have HP:Hid (∀ W,Below w.heap.size w W→Calls Tryz.prog 163 #[.pointer (some ⟨G,0,none⟩),.string g,.string n] W fun e w'=>e=.returned (.int .i64 (Yd S g.data.toList n.data.toList))∧zE w0 w D P M G A L (Zz S g.data.toList n.data.toList) w'):=fun W hb =>
  ((ho.later hb).gleave g n hz hn).mono fun e w' ⟨he,hgo⟩=>⟨he,hgo.ahead hb⟩
 clear ho  hz hn
 unfold ZA UC
 generalize Yd S g.data.toList n.data.toList=x at *
 generalize Zz S g.data.toList n.data.toList=S' at *
 generalize yS A g.data.toList n.data.toList=r at *
 generalize zp (zf g.data.toList) 10=e0 at *
 generalize zp (zf n.data.toList) 10=e1 at *
 generalize zp (zx A n.data.toList) 8=e2 at *
 by_cases h0:r=0
 ·
  subst h0
  rw [if_pos rfl,if_pos rfl]
  go_enter Tryz.func81,Tryz.ntmps81
  have HB0:Hid (Below w.heap.size w w):=Below.refl _ _
  go_wp2_with fail
  with_reducible refine (HN.out w HB0.out).mono ?_
  rintro e u1 ⟨rfl,hb⟩
  have HB1:=za (z8 HB0.out hb)
  clear hb
  go_wp2_with fail
  with_reducible refine (HH.out u1 HB1.out).mono ?_
  rintro e u2 ⟨rfl,hb⟩
  have HB2:=za (z8 HB1.out hb)
  clear hb
  go_wp2_with fail
  with_reducible refine (HI.out u2 HB2.out).mono ?_
  rintro e u3 ⟨rfl,hb⟩
  have HB3:=za (z8 HB2.out hb)
  clear hb
  go_wp2_with fail
  with_reducible refine (HFS.out _).mono ?_
  rintro e ub ⟨rfl,hub⟩
  have HB:Hid (Below w.heap.size w ub):=by
   show Below _ _ _
   rw [hub]; exact z7 HB3.out _
  clear hub HFS HB0 HB1 HB2 HB3 HN HH HI
  have c2:=(HO.out.later HB.out).c2
  go_wp2_with fail
  with_reducible refine (HP.out _ HB.out).mono ?_
  rintro e w5 ⟨rfl,hg⟩
  have HF:=za hg
  clear hg HP HB c2
  go_wp2
  go_ret
  exact ⟨rfl,HF.out⟩
 ·
  rw [if_neg h0,if_neg h0]
  clear HP
  have q1:(r == 0)=false:=by simpa using h0
  have q2:¬ r=0:=h0
  have q3:(r != 0)=true:=by simpa using h0
  go_enter Tryz.func81,Tryz.ntmps81
  have HB0:Hid (Below w.heap.size w w):=Below.refl _ _
  go_wp2_with fail
  with_reducible refine (HN.out w HB0.out).mono ?_
  rintro e u1 ⟨rfl,hb⟩
  have HB1:=za (z8 HB0.out hb)
  clear hb
  go_wp2_with fail
  with_reducible refine (HH.out u1 HB1.out).mono ?_
  rintro e u2 ⟨rfl,hb⟩
  have HB2:=za (z8 HB1.out hb)
  clear hb
  go_wp2_with fail
  with_reducible refine (HI.out u2 HB2.out).mono ?_
  rintro e u3 ⟨rfl,hb⟩
  have HB3:=za (z8 HB2.out hb)
  clear hb
  go_wp2_with fail
  with_reducible refine (HFS.out _).mono ?_
  rintro e ub ⟨rfl,hub⟩
  have HB:Hid (Below w.heap.size w ub):=by
   show Below _ _ _
   rw [hub]; exact z7 HB3.out _
  clear hub HFS HB0 HB1 HB2 HB3 HN HH HI
  go_wp2
  go_ret
  exact ⟨rfl,HO.out.still HB.out⟩
set_option maxRecDepth 100000 in
theorem Zw (g:ByteArray) (ho:zo w0 w D P M G A L S) (hg:zt A L S k) (hz:g.size≤9223372036854775807) :
  Calls Tryz.prog 75 #[.pointer (some ⟨D,0,none⟩),.string g] w fun e w'=>e=.returned (.int .i64 (uS S g.data.toList))∧zE w0 w D P M G A L (qu S g.data.toList) w':=by
 have HP:=za (ho.gmake hg.grp g hz)
 have c2:=ho.c2
 clear ho hz
 generalize uS S g.data.toList=x at *
 generalize qu S g.data.toList=S' at *
 go_enter Tryz.func75,Tryz.ntmps75
 go_wp2_with fail
 with_reducible refine HP.out.mono ?_
 rintro e w5 ⟨rfl,hg⟩
 have HF:=za hg
 clear hg HP c2
 go_wp2
 go_ret
 exact ⟨rfl,HF.out⟩
set_option maxRecDepth 100000 in
theorem qC (g:ByteArray) (ho:zo w0 w D P M G A L S) (hz:g.size≤9223372036854775807) :
  Calls Tryz.prog 77 #[.pointer (some ⟨D,0,none⟩),.string g] w fun e w'=>e=.returned (.int .i64 (jY S g.data.toList))∧zE w0 w D P M G A L (jA S g.data.toList) w':=by
 have HP:=za (ho.gdrop g hz)
 have c2:=ho.c2
 clear ho hz
 generalize jY S g.data.toList=x at *
 generalize jA S g.data.toList=S' at *
 go_enter Tryz.func77,Tryz.ntmps77
 go_wp2_with fail
 with_reducible refine HP.out.mono ?_
 rintro e w5 ⟨rfl,hg⟩
 have HF:=za hg
 clear hg HP c2
 go_wp2
 go_ret
 exact ⟨rfl,HF.out⟩
end
end Go.Proofs.YthmomkjingcbiaaGreatDoor
namespace Go.Proofs.YthmomkjingcbiaaGreatDoor
open Go.RowKit Go.Maps Go.Sort Go.Shelf
set_option linter.unusedSectionVars false

theorem FH {V:Type} (e:V→DataW Unit) (L:zL V):strKeys (uq e L)=zb L:=by
 simp only [uq,strKeys,List.map_map]; rfl
section
variable [Fr11] {w0 w:World} {D P M G:Nat} {A:zJ} {L:zB} {S:zw} {k:Nat}
set_option maxRecDepth 100000 in
theorem V7 (ho:zo w0 w D P M G A L S) (hr:zA A) (hf:A.length≤12):Calls Tryz.prog 62 #[.pointer (some ⟨D,0,none⟩)] w (yr (zb A) w):=by
 have eg:∀ args w,(callFunc 215 args).run Tryz.prog w=.ok (.enter 215 args) w:=enters_of Tryz.func215 (by kernel_rfl) rfl
 have bl:Below w.heap.size w (w.alloc (.cells #[.map (some P)] 102)):=z7 (Below.refl _ _) _
 have cS:∃ S:List (List UInt8)→Prop,(∀ ss,S ss→ss.Perm (zb A))∧SeqGives Fence.wide 2 Tryz.prog 215 #[.pointer (some ⟨w.heap.size,0,none⟩)] encStr S A.length (w.alloc (.cells #[.map (some P)] 102)):=by
  have ho':=ho
  obtain ⟨p,q,LM,pg,T,hd,_⟩:=ho'
  have hown:=World.ownsMap.alloc hd.acc (.cells #[.map (some P)] 102)
  have h:=AnyZ.keys_gives (ρ:=Tryz.keys11_ren) { Tryz.keys11 with } Fence.wide 2 trivial rfl (by omega) w.heap.size P _ (uq ea11 A) _ (by simp) (by simp) hown
  rw [vz] at h
  exact ⟨_,fun ss h=>by rw [FH] at h; exact h,h⟩
 obtain ⟨Ss,hS,hseq⟩:=cS
 have HK:Hid (Calls Tryz.prog 140 #[.map (some P)] w fun e w'=>e=.returned (.func (.func 215) #[] #[.pointer (some ⟨w.heap.size,0,none⟩)])∧w'=w.alloc (.cells #[.map (some P)] 102)) :=
  (callsIn_wide (n:=4)).1 (AnyZ.keys_in Tryz.keys11 Fence.wide 4 trivial rfl (some P) w)
 have HSF:=za (fc _ _ Ss A.length _ eg (by omega) (fun ss h=>by rw [(hS ss h).length_eq,yK]; omega) hseq)
 have HSS:Hid (∀ ss,Ss ss→ss.length=A.length∧ss.mergeSort (fun x y=>!(ltOf Lib.compareBytes) y x)=zb A):=fun ss h=>by
  have hp:=hS ss h
  exact ⟨by rw [hp.length_eq,yK],Qh hr.names hp _ (fun x y=>by rw [lt7])⟩
 have hc:=ho.c0
 have BL:=za bl
 clear hseq hS ho bl
 go_enter Tryz.func62,Tryz.ntmps62
 go_wp2_with fail
 with_reducible refine HK.out.mono ?_
 rintro e w1 ⟨rfl,rfl⟩
 go_wp2_with fail
 with_reducible refine HSF.out.mono ?_
 rintro e w2 ⟨v,ss,rfl,hss,hrow,hnil,hb⟩
 obtain ⟨hl,hm⟩:=HSS.out ss hss
 have HF:Hid (yr (zb A) w (.returned v) w2):=by
  rw [hl,hm] at hrow
  refine ⟨v,rfl,?_,z8 BL.out hb⟩
  rw [yK]
  exact zC hrow (by simp)
 clear hss hrow hnil hb hl hm HSS HSF HK hc BL
 go_wp2
 go_ret
 exact HF.out

theorem uz (w:World):(zeroValue 47).run Tryz.prog w=.ok (.agg #[.string ⟨#[]⟩,.string ⟨#[]⟩,.string ⟨#[]⟩,.bool false,.slice none 0 0]) w:=by kernel_rfl
def U2 (A:zJ) (L:zB) (S:zw) (n:ByteArray) (w W:World) (v:Value):Prop :=
 ∃ ga gc,v=.agg #[.string n,.string (zI (jr A n.data.toList)),.string (zI (xk L n.data.toList)),.bool (uK A n.data.toList),.slice ga (yV S n.data.toList).length gc]∧W.ownsRow w.heap.size 9 1 (.slice ga (yV S n.data.toList).length gc) (yV S n.data.toList).length ((yV S n.data.toList).map encStr)
def Tld11 (b:Nat) (n s m:ByteArray) (d:Bool) (gs:List (List UInt8)) (w W:World):Prop :=
 ∃ ga gc,yf W b (.string n) (.string s) (.string m) (.bool d) (.slice ga gs.length gc)∧W.ownsRow w.heap.size 9 1 (.slice ga gs.length gc) gs.length (gs.map encStr)∧Below w.heap.size w W
def YTl11 (D G b5:Nat) (n s m:ByteArray) (d:Bool) (gs:List (List UInt8)) (w:World):Nat→Value→World→Prop
 | 0,v,_=>v=.string n
 | 1,v,_=>v=.pointer (some ⟨b5,0,none⟩)
 | 2,v,_=>v=.string s
 | 3,v,_=>v=.string m
 | 4,v,_=>v=.pointer (some ⟨b5,1,none⟩)
 | 5,v,_=>v=.bool d
 | 8,v,_=>v=.pointer (some ⟨D,2,none⟩)
 | 9,v,_=>v=.pointer (some ⟨G,0,none⟩)
 | 10,v,_=>v=.string n
 | 11,v,W=>∃ ga gc,v=.slice ga gs.length gc∧W.ownsRow w.heap.size 9 1 (.slice ga gs.length gc) gs.length (gs.map encStr)
 | 12,v,W=>∃ ga gc,v=.agg #[.string n,.string s,.string m,.bool d,.slice ga gs.length gc]∧W.ownsRow w.heap.size 9 1 (.slice ga gs.length gc) gs.length (gs.map encStr)
 | _,v,_=>v=.pointer (some ⟨D,0,none⟩)
theorem zG {w w':World} {b:Nat} {e size n:Nat} {v:Value} {xs:List Value} (h:w.ownsRow b e size v n xs) (hb:Below w.heap.size w w'):w'.ownsRow b e size v n xs:=by
 refine ⟨h.1,?_⟩
 rcases h.2 with hn | ⟨g,cap,cur,e1,h0,hg,hr⟩
 ·
  exact .inl hn
 ·
  exact .inr ⟨g,cap,cur,e1,h0,(hb.block g (Array.getElem?_eq_some_iff.1 hg).1).trans hg,hr⟩
theorem YTl11_keep {D G b5:Nat} {n s m:ByteArray} {d:Bool} {gs:List (List UInt8)} {w W W':World} (hb:Below W.heap.size W W') (j:Nat) (u:Value) (h:YTl11 D G b5 n s m d gs w j u W):YTl11 D G b5 n s m d gs w j u W':=by
 match j,h with
 | 0,h=>exact h
 | 1,h=>exact h
 | 2,h=>exact h
 | 3,h=>exact h
 | 4,h=>exact h
 | 5,h=>exact h
 | 6,h=>exact h
 | 7,h=>exact h
 | 8,h=>exact h
 | 9,h=>exact h
 | 10,h=>exact h
 | 11,h =>
  obtain ⟨ga,gc,e,hr⟩:=h
  exact ⟨ga,gc,e,zG hr hb⟩
 | 12,h =>
  obtain ⟨ga,gc,e,hr⟩:=h
  exact ⟨ga,gc,e,zG hr hb⟩
 | _+13,h=>exact h
set_option maxRecDepth 100000 in
theorem Qg (n:ByteArray) (ho:zo w0 w D P M G A L S) (hk:zM S k) (hn:n.size≤9223372036854775807) :
  Calls Tryz.prog 54 #[.pointer (some ⟨D,0,none⟩),.string n] w fun e w'=>∃ v,e=.returned v∧U2 A L S n w w' v∧Below w.heap.size w w':=by
 have HO:=za ho
 have hz:=Zf
 have hzu:=uz
 have HLK:Hid (∀ W,Below w.heap.size w W→(Instr.lookup 102 (.map (some P)) (.string n) false).run Tryz.prog W=.ok (.agg #[.string (zI (jr A n.data.toList)),.bool (uK A n.data.toList)]) W):=fun W hb=>(ho.later hb).look1 n hn
 have HOF:Hid (∀ W,Below w.heap.size w W→Calls Tryz.prog 131 #[.pointer (some ⟨M,0,none⟩),.string n] W fun e w'=>e=.returned (.tuple #[.string (zI (xk L n.data.toList)),.bool (xj L n.data.toList)])∧w'=W):=fun W hb=>(ho.later hb).mof n hn
 have HGO:Hid (∀ W,Below w.heap.size w W→Calls Tryz.prog 132 #[.pointer (some ⟨G,0,none⟩),.string n] W (yr (yV S n.data.toList) W)):=fun W hb=>(ho.later hb).gof hk n hn
 unfold U2
 clear ho hk hn
 generalize zI (jr A n.data.toList)=ss at *
 generalize uK A n.data.toList=dd at *
 generalize zI (xk L n.data.toList)=mm at *
 generalize xj L n.data.toList=hm at *
 generalize yV S n.data.toList=gs at *
 have hb1:Below w.heap.size w (w.alloc (.cells #[.string ⟨#[]⟩,.string ⟨#[]⟩,.string ⟨#[]⟩,.bool false,.slice none 0 0] 47)):=z7 (Below.refl _ _) _
 have hb2:Below w.heap.size w ((w.alloc (.cells #[.string ⟨#[]⟩,.string ⟨#[]⟩,.string ⟨#[]⟩,.bool false,.slice none 0 0] 47)).alloc (.cells #[.string ss,.bool dd] 147)):=z7 hb1 _
 have hz1:yf (w.alloc (.cells #[.string ⟨#[]⟩,.string ⟨#[]⟩,.string ⟨#[]⟩,.bool false,.slice none 0 0] 47)) w.heap.size (.string ⟨#[]⟩) (.string ⟨#[]⟩) (.string ⟨#[]⟩) (.bool false) (.slice none 0 0):=heap_alloc_new w _
 have HZ:Hid (yf ((w.alloc (.cells #[.string ⟨#[]⟩,.string ⟨#[]⟩,.string ⟨#[]⟩,.bool false,.slice none 0 0] 47)).alloc (.cells #[.string ss,.bool dd] 147)) w.heap.size (.string ⟨#[]⟩) (.string ⟨#[]⟩) (.string ⟨#[]⟩) (.bool false) (.slice none 0 0)):=(Below.heap_alloc _ _ _ (by simp)).trans hz1
 have HA:=za (ac11_new (w.alloc (.cells #[.string ⟨#[]⟩,.string ⟨#[]⟩,.string ⟨#[]⟩,.bool false,.slice none 0 0] 47)) ss dd)
 have c0:=(HO.out.later hb1).c0
 have c1:=(HO.out.later hb2).c1
 have hl:=HLK.out _ hb1
 have HOF1:=za (HOF.out _ hb2)
 have HB2:=za hb2
 clear hb1 hb2 hz1 HOF
 go_enter Tryz.func54,Tryz.ntmps54
 go_wp2_with fail
 with_reducible refine HOF1.out.mono ?_
 rintro e w2 ⟨rfl,hw2⟩
 rw [← hw2] at HZ HA HB2
 have hsz:(w.alloc (.cells #[.string ⟨#[]⟩,.string ⟨#[]⟩,.string ⟨#[]⟩,.bool false,.slice none 0 0] 47)).heap.size=w.heap.size+1:=by simp
 rw [hsz] at HA
 have HLT:=za (HA.out.lt)
 clear hw2 hl HOF1 c0 c1 HLK hsz
 go_wp2_with fail
 have HLT2:Hid (w.heap.size<w2.heap.size):=by have:=HLT.out; show _<_; omega
 have HSO:Hid (∀ W,Below w2.heap.size w2 W→∀ ga gc,W.ownsRow w.heap.size 9 1 (.slice ga gs.length gc) gs.length (gs.map encStr)→Tld11 w.heap.size n ss mm dd gs w (set5 W w.heap.size (.string n) (.string ss) (.string mm) (.bool dd) (.slice ga gs.length gc))):=fun W hb ga gc ho=>by
  have hz:yf W w.heap.size (.string ⟨#[]⟩) (.string ⟨#[]⟩) (.string ⟨#[]⟩) (.bool false) (.slice none 0 0):=(hb.block _ HLT2.out).trans HZ.out
  have ht:zm (fun i=>i=w.heap.size) W (set5 W w.heap.size (.string n) (.string ss) (.string mm) (.bool dd) (.slice ga gs.length gc)):=Zi (zm.refl (fun i=>i=w.heap.size) W) w.heap.size (fun _=>rfl) _ _ _ _ _
  have hbw:=z8 HB2.out hb
  refine ⟨ga,gc,hz.set5 _ _ _ _ _,?_,hbw.trans (ht.below_at hbw.size (fun i e=>by omega))⟩
  refine ⟨ho.1,?_⟩
  rcases ho.2 with hn | ⟨g,cap,cur,e1,h0,hg,hr⟩
  ·
   exact .inl hn
  ·
   have hne:g≠w.heap.size:=fun e=>by
    subst e
    rw [show W.heap[w.heap.size]? = _ from hz] at hg
    injection hg with hg
    injection hg with _ h
    exact absurd h (by decide)
   exact .inr ⟨g,cap,cur,e1,h0,(ht.block g (Array.getElem?_eq_some_iff.1 hg).1 hne).trans hg,hr⟩
 refine yI (by kernel_rfl) 13 (fun W=>Below w2.heap.size w2 W) (fun W=>Tld11 w.heap.size n ss mm dd gs w W) (YTl11 D G (w.heap.size+1) n ss mm dd gs w) (fun _=>True) ?F ?hF (by kernel_rfl) (by kernel_rfl) (by kernel_rfl) (by kernel_rfl) (by decide) (zZ (Below.refl _ _)) ?step ?fin
 case hF =>
  intro x
  simp only [List.map_cons,List.map_nil,vH,Act.put,List.setIfInBounds_toArray,List.set_cons_zero,List.set_cons_succ,Nat.zero_add,Nat.reduceAdd]
  exact rfl
 case step =>
  refine ⟨?_,?_,?_,?_,?_,?_,?_,?_,?_,?_,?_,?_,?_,?_,trivial⟩
  ·
   intro x W
   refine ⟨fun _ hW hdep K hK=>?_,(fun h=>absurd h (by decide)),(fun h=>absurd h (by decide))⟩
   clear hdep
   go_simp
   exact hK _ _ rfl hW (fun _ _ h=>h)
  ·
   intro x W
   refine ⟨fun _ hW hdep K hK=>?_,(fun h=>absurd h (by decide)),(fun h=>absurd h (by decide))⟩
   clear hdep
   go_simp
   exact hK _ _ rfl hW (fun _ _ h=>h)
  ·
   intro x W
   refine ⟨fun _ hW hdep K hK=>?_,(fun h=>absurd h (by decide)),(fun h=>absurd h (by decide))⟩
   have h1:x 1=_:=hdep 1 rfl
   have hx:=HA.out.later hW
   have c0:=hx.c0
   clear hdep
   simp only [h1] at hK
   go_simp
   exact hK _ _ rfl hW (fun _ _ h=>h)
  ·
   intro x W
   refine ⟨fun _ hW hdep K hK=>?_,(fun h=>absurd h (by decide)),(fun h=>absurd h (by decide))⟩
   clear hdep
   go_simp
   exact hK _ _ rfl hW (fun _ _ h=>h)
  ·
   intro x W
   refine ⟨fun _ hW hdep K hK=>?_,(fun h=>absurd h (by decide)),(fun h=>absurd h (by decide))⟩
   clear hdep
   go_simp
   exact hK _ _ rfl hW (fun _ _ h=>h)
  ·
   intro x W
   refine ⟨fun _ hW hdep K hK=>?_,(fun h=>absurd h (by decide)),(fun h=>absurd h (by decide))⟩
   have h4:x 4=_:=hdep 4 rfl
   have hx:=HA.out.later hW
   have c1:=hx.c1
   clear hdep
   simp only [h4] at hK
   go_simp
   exact hK _ _ rfl hW (fun _ _ h=>h)
  ·
   intro x W
   refine ⟨fun _ hW hdep K hK=>?_,(fun h=>absurd h (by decide)),(fun h=>absurd h (by decide))⟩
   clear hdep
   go_simp
   exact hK _ _ rfl hW (fun _ _ h=>h)
  ·
   intro x W
   refine ⟨fun _ hW hdep K hK=>?_,(fun h=>absurd h (by decide)),(fun h=>absurd h (by decide))⟩
   have h6:x 6=_:=hdep 6 rfl
   clear hdep
   simp only [h6] at hK
   go_simp
   exact hK _ _ rfl hW (fun _ _ h=>h)
  ·
   intro x W
   refine ⟨fun _ hW hdep K hK=>?_,(fun h=>absurd h (by decide)),(fun h=>absurd h (by decide))⟩
   have h7:x 7=_:=hdep 7 rfl
   clear hdep
   simp only [h7] at hK
   go_simp
   exact hK _ _ rfl hW (fun _ _ h=>h)
  ·
   intro x W
   refine ⟨fun _ hW hdep K hK=>?_,(fun h=>absurd h (by decide)),(fun h=>absurd h (by decide))⟩
   have h8:x 8=_:=hdep 8 rfl
   have c:=(HO.out.later (z8 HB2.out hW)).c2
   clear hdep
   simp only [h8] at hK
   go_simp
   exact hK _ _ rfl hW (fun _ _ h=>h)
  ·
   intro x W
   refine ⟨fun _ hW hdep K hK=>?_,(fun h=>absurd h (by decide)),(fun h=>absurd h (by decide))⟩
   clear hdep
   go_simp
   exact hK _ _ rfl hW (fun _ _ h=>h)
  ·
   intro x W
   refine ⟨fun _ hW hdep K hK=>?_,(fun h=>absurd h (by decide)),(fun h=>absurd h (by decide))⟩
   have h9:x 9=_:=hdep 9 rfl
   have h10:x 10=_:=hdep 10 rfl
   have hc:=HGO.out W (z8 HB2.out hW)
   clear hdep
   simp only [h9,h10] at hK
   go_simp
   refine hc.mono ?_
   rintro e W' ⟨v,rfl,hr,hb⟩
   obtain ⟨ga,gc,rfl⟩:=xA hr
   exact hK _ _ ⟨ga,gc,rfl,zC hr (z8 HB2.out hW).size⟩ (z8 hW hb) (fun j u h=>YTl11_keep hb j u h)
  ·
   intro x W
   refine ⟨fun _ hW hdep K hK=>?_,(fun h=>absurd h (by decide)),(fun h=>absurd h (by decide))⟩
   have h0:x 0=_:=hdep 0 rfl
   have h2:x 2=_:=hdep 2 rfl
   have h3:x 3=_:=hdep 3 rfl
   have h5:x 5=_:=hdep 5 rfl
   have hA:∃ ga gc,x 11=.slice ga gs.length gc∧W.ownsRow w.heap.size 9 1 (.slice ga gs.length gc) gs.length (gs.map encStr):=hdep 11 rfl
   obtain ⟨ga,gc,h11,hr⟩:=hA
   simp only [h11] at hK
   clear hdep
   simp only [h0,h2,h3,h5] at hK
   go_simp
   exact hK _ _ ⟨ga,gc,rfl,hr⟩ hW (fun _ _ h=>h)
  ·
   intro x W
   refine ⟨(fun h=>absurd h (by decide)),fun _ hW hdep K hK=>?_,(fun h=>absurd h (by decide))⟩
   have hA:∃ ga gc,x 12=.agg #[.string n,.string ss,.string mm,.bool dd,.slice ga gs.length gc]∧W.ownsRow w.heap.size 9 1 (.slice ga gs.length gc) gs.length (gs.map encStr):=hdep 12 rfl
   obtain ⟨ga,gc,h12,hr⟩:=hA
   simp only [h12] at hK
   have hz:yf W w.heap.size (.string ⟨#[]⟩) (.string ⟨#[]⟩) (.string ⟨#[]⟩) (.bool false) (.slice none 0 0):=(hW.block _ HLT2.out).trans HZ.out
   have f1:=hz.free
   have q0:=HSO.out W hW ga gc hr
   have r0:_=some (.string ⟨#[]⟩:Value):=hz.at_ 0
   have r1:_=some (.string ⟨#[]⟩:Value):=hz.at_ 1
   have r2:_=some (.string ⟨#[]⟩:Value):=hz.at_ 2
   have r3:_=some (.bool false:Value):=hz.at_ 3
   have r4:_=some (.slice none 0 0:Value):=hz.at_ 4
   clear hz
   clear hdep
   go_simp
   exact hK undef _ trivial q0
 case fin =>
  intro x W hW _
  obtain ⟨ga,gc,hz,hr,hb⟩:=hW
  have HR:=za hr
  have HBB:=za hb
  have q0:_=some (.string n:Value):=hz.at_ 0
  have q1:_=some (.string ss:Value):=hz.at_ 1
  have q2:_=some (.string mm:Value):=hz.at_ 2
  have q3:_=some (.bool dd:Value):=hz.at_ 3
  have q4:_=some (.slice ga gs.length gc:Value):=hz.at_ 4
  clear hr hb hz HSO HZ HA HB2 HGO HO HLT HLT2
  go_wp2_with fail
  refine bodyPost_ret (v:=.agg #[.string n,.string ss,.string mm,.bool dd,.slice ga gs.length gc]) ?_ rfl ⟨_,rfl,⟨ga,gc,rfl,HR.out⟩,HBB.out⟩
  simp [results,Tryz.results54,go_sem,q0,q1,q2,q3,q4]
end

set_option maxRecDepth 100000 in
theorem QI (w:World):Calls Tryz.prog 23 #[] w fun e w'=>∃ D P M G,e=.returned (.pointer (some ⟨D,0,none⟩))∧zo w w' D P M G [] [] []:=by
 have HM:Hid (∀ W,Calls Tryz.prog 63 #[] W fun e w'=>e=.returned (.pointer (some ⟨W.heap.size,0,none⟩))∧w'=W.alloc (.cells #[.map none,.map none] 164)):=fun W=>new9_calls W
 have HG:Hid (∀ W,Calls Tryz.prog 64 #[] W fun e w'=>e=.returned (.pointer (some ⟨W.heap.size,0,none⟩))∧w'=W.alloc (.cells #[.map none] 167)):=fun W=>fp W
 have hmm:=@run_makeMap Tryz.prog
 have a1:=FW w
 have hb1:=z7 (Below.refl w.heap.size w) (.map #[] 0)
 have s1:(w.alloc (.map #[] 0)).heap.size=w.heap.size+1:=by simp
 generalize hw1:w.alloc (.map #[] 0)=w1 at *
 have a2:=idx9_new w1
 have hb2:=z7 (Below.refl w1.heap.size w1) (.cells #[.map none,.map none] 164)
 have s2:(w1.alloc (.cells #[.map none,.map none] 164)).heap.size=w1.heap.size+1:=by simp
 generalize hw2:w1.alloc (.cells #[.map none,.map none] 164)=w2 at *
 have a3:=Xu w2
 have hb3:=z7 (Below.refl w2.heap.size w2) (.cells #[.map none] 167)
 have s3:(w2.alloc (.cells #[.map none] 167)).heap.size=w2.heap.size+1:=by simp
 generalize hw3:w2.alloc (.cells #[.map none] 167)=w3 at *
 have hb4:=z7 (Below.refl w3.heap.size w3) (.cells #[.map (some w.heap.size),.pointer (some ⟨w1.heap.size,0,none⟩),.pointer (some ⟨w2.heap.size,0,none⟩)] 108)
 have a4:=heap_alloc_new w3 (.cells #[.map (some w.heap.size),.pointer (some ⟨w1.heap.size,0,none⟩),.pointer (some ⟨w2.heap.size,0,none⟩)] 108)
 have HF:Hid (zo w (w3.alloc (.cells #[.map (some w.heap.size),.pointer (some ⟨w1.heap.size,0,none⟩),.pointer (some ⟨w2.heap.size,0,none⟩)] 108)) w3.heap.size w.heap.size w1.heap.size w2.heap.size [] [] []):=by
  have hb24:=z8 (z8 hb2 hb3) hb4
  have hb34:=z8 hb3 hb4
  refine ⟨none,none,[],none,[],⟨a4,a1.kept (hb24.block _ (by omega)),a2.later hb34,a3.later hb4,?_,?_,?_⟩,rfl,fun i hi=>⟨?_,id⟩,z8 (z8 (z8 hb1 hb2) hb3) hb4,Nat.zero_le _,fun _ h=>h.elim⟩
  ·
   rintro i (rfl | h | h)
   ·
    omega
   ·
    cases h
   ·
    cases h
  ·
   rintro i (rfl | h | ⟨x,h,_⟩)
   ·
    omega
   ·
    cases h
   ·
    cases h
  ·
   rintro i (rfl | h | h) (h' | h' | ⟨x,h',_⟩)
   ·
    omega
   all_goals first | cases h | cases h'
  ·
   revert hi
   rintro (rfl | rfl | h | h)
   ·
    omega
   ·
    omega
   ·
    rcases h with rfl | h | h
    ·
     omega
    ·
     cases h
    ·
     cases h
   ·
    rcases h with rfl | h | ⟨x,h,_⟩
    ·
     omega
    ·
     cases h
    ·
     cases h
 clear a1 a2 a3 a4 hb1 hb2 hb3 hb4 s1 s2 s3
 go_enter Tryz.func23,Tryz.ntmps23
 go_wp2_with fail
 with_reducible refine (HM.out _).mono ?_
 rintro e u2 ⟨rfl,hu2⟩
 go_wp2_with fail
 with_reducible refine (HG.out _).mono ?_
 rintro e u3 ⟨rfl,hu3⟩
 try rw [hw1] at hu2
 try rw [hw2] at hu2
 try subst hu2
 try rw [hw3] at hu3
 subst hu3
 clear HM HG hmm hw1 hw2 hw3
 go_wp2
 go_ret
 exact ⟨_,_,_,_,rfl,HF.out⟩
end Go.Proofs.YthmomkjingcbiaaGreatDoor
namespace Go.Proofs.YthmomkjingcbiaaGreatDoor
open Go.RowKit Go.Maps
set_option linter.unusedSectionVars false

def YRn11 (D M:Nat) (o n:ByteArray):Nat→Value→Prop
 | 2,v=>v=.pointer (some ⟨D,1,none⟩)
 | 3,v=>v=.pointer (some ⟨M,0,none⟩)
 | 4,v=>v=.string o
 | 5,v=>v=.string n
 | 6,v=>v=.string n
 | _,v=>v=.pointer (some ⟨D,0,none⟩)
def YRnW11 (D M:Nat) (o n:ByteArray) (j:Nat) (v:Value) (_:World):Prop:=YRn11 D M o n j v
section
variable [Fr11] {w0 w:World} {D P M G:Nat} {A:zJ} {L:zB} {S:zw} {k:Nat}
set_option maxRecDepth 100000 in
theorem V1 (o n:ByteArray) (ho:zo w0 w D P M G A L S) (hg:zt A L S k) (h9:k≤900) (hz:o.size≤9223372036854775807) (hn:n.size≤9223372036854775807) :
  Calls Tryz.prog 73 #[.pointer (some ⟨D,0,none⟩),.string o,.string n] w fun e w'=>e=.returned (.int .i64 (jh A o.data.toList n.data.toList))∧zE w0 w D P M G (JY A o.data.toList n.data.toList) (JX A L o.data.toList n.data.toList) (JW A S o.data.toList n.data.toList) w':=by
 have HN:Hid (∀ W,Below w.heap.size w W→Calls Tryz.prog 52 #[.string o] W fun e w'=>e=.returned (.int .i64 (zp (zf o.data.toList) 10))∧Below W.heap.size W w'):=fun W hb=>yb o W hz
 have HH:Hid (∀ W,Below w.heap.size w W→Calls Tryz.prog 52 #[.string n] W fun e w'=>e=.returned (.int .i64 (zp (zf n.data.toList) 10))∧Below W.heap.size W w'):=fun W hb=>yb n W hn
 have HI:Hid (∀ W,Below w.heap.size w W→Calls Tryz.prog 53 #[.pointer (some ⟨D,0,none⟩),.string o] W fun e w'=>e=.returned (.int .i64 (zp (zx A o.data.toList) 8))∧Below W.heap.size W w'):=fun W hb=>yQ o (ho.later hb) hz
 have HL:Hid (∀ W,Below w.heap.size w W→Calls Tryz.prog 117 #[.pointer (some ⟨D,0,none⟩),.string n] W fun e w'=>e=.returned (.int .i64 (zp (!zx A n.data.toList) 9))∧Below W.heap.size W w'):=fun W hb=>fd n (ho.later hb) hn
 have HFS:Hid (∀ W:World,Calls Tryz.prog 51 #[.slice (some ⟨W.heap.size,0,none⟩) 4 4] (W.alloc (.cells #[.int .i64 (zp (zf o.data.toList) 10),.int .i64 (zp (zf n.data.toList) 10),.int .i64 (zp (zx A o.data.toList) 8),.int .i64 (zp (!zx A n.data.toList) 9)] 24)) fun e w'=>e=.returned (.int .i64 (jh A o.data.toList n.data.toList))∧w'=W.alloc (.cells #[.int .i64 (zp (zf o.data.toList) 10),.int .i64 (zp (zf n.data.toList) 10),.int .i64 (zp (zx A o.data.toList) 8),.int .i64 (zp (!zx A n.data.toList) 9)] 24)):=fun W=>by
  have:=vV W [zp (zf o.data.toList) 10,zp (zf n.data.toList) 10,zp (zx A o.data.toList) 8,zp (!zx A n.data.toList) 9] 24 (by simp)
  rw [first11_rn] at this
  exact this
 have HO:=za ho
 have HPT:Hid (jh A o.data.toList n.data.toList=0→∀ W,Below w.heap.size w W→Calls Tryz.prog 119 #[.pointer (some ⟨D,0,none⟩),.string n,.agg #[.string (zI (jr A o.data.toList)),.bool (uK A o.data.toList)]] W fun e w'=>e=.returned (.tuple #[])∧zE w0 w D P M G (zP A n.data.toList (jr A o.data.toList,uK A o.data.toList)) L S w'):=fun e W hb=>by
  obtain ⟨h1,h2,h3,h4⟩:=Yn e
  have:=uE n (zI (jr A o.data.toList)) (uK A o.data.toList) (ho.later hb) (by have:=hg.few; omega) (vh h2) (by rw [xF]; exact jN (Xr hg h3))
  rw [zy] at this
  exact this.mono fun e w' ⟨he,hgo⟩=>⟨he,hgo.ahead hb⟩
 have HK:Hid (∀ W,Below w.heap.size w W→(Instr.lookup 102 (.map (some P)) (.string o) false).run Tryz.prog W=.ok (.agg #[.string (zI (jr A o.data.toList)),.bool (uK A o.data.toList)]) W):=fun W hb=>(ho.later hb).look1 o hz
 have HDR:Hid (∀ W ty A1,zo w0 W D P M G A1 L S→∃ w',(Builtin.delete_ #[102,9] ty #[.map (some P),.string o]).run Tryz.prog W=.ok (.tuple #[]) w'∧zE w0 W D P M G (yu A1 o.data.toList) L S w'):=fun W ty A1 h=>h.drop o hz ty
 have HMR:Hid (∀ W A1 L1 S1,zo w0 W D P M G A1 L1 S1→Calls Tryz.prog 152 #[.pointer (some ⟨M,0,none⟩),.string o,.string n] W fun e w'=>e=.returned (.int .i64 (F8 L1 o.data.toList n.data.toList))∧zE w0 W D P M G A1 (reL9 L1 o.data.toList n.data.toList) S1 w'):=fun W A1 L1 S1 h=>h.mrename o n hz hn
 have HGR:Hid (∀ W A1 L1,zo w0 W D P M G A1 L1 S→Calls Tryz.prog 154 #[.pointer (some ⟨G,0,none⟩),.string o,.string n] W fun e w'=>e=.returned (.int .i64 (fS S o.data.toList n.data.toList))∧zE w0 W D P M G A1 L1 (Zq S o.data.toList n.data.toList) w'):=fun W A1 L1 h=>h.grename hg.grp h9 o n hz hn
 have HC:Hid (jh A o.data.toList n.data.toList=0→∀ W,Calls Tryz.prog 153 #[.string n] W fun e w'=>e=.returned (.string n)∧Below W.heap.size W w'):=fun e W=>xb n W (vh (Yn e).2.1)
 clear ho hg hz hn
 unfold JY JX JW
 generalize jh A o.data.toList n.data.toList=r at *
 generalize zp (zf o.data.toList) 10=e0 at *
 generalize zp (zf n.data.toList) 10=e1 at *
 generalize zp (zx A o.data.toList) 8=e2 at *
 generalize zp (!zx A n.data.toList) 9=e3 at *
 by_cases h0:r=0
 ·
  subst h0
  rw [if_pos rfl,if_pos rfl,if_pos rfl]
  have HP2:=za (HPT.out rfl)
  have HC2:=za (HC.out rfl)
  clear HPT HC
  generalize zP A n.data.toList (jr A o.data.toList,uK A o.data.toList)=A1 at *
  generalize zI (jr A o.data.toList)=ss at *
  generalize uK A o.data.toList=dd at *
  generalize hrr:F8 L o.data.toList n.data.toList=rr at *
  generalize hrl:reL9 L o.data.toList n.data.toList=L2 at *
  have HRR:=za hrr
  have HRL:=za hrl
  clear hrr hrl
  generalize fS S o.data.toList n.data.toList=r10 at *
  generalize Zq S o.data.toList n.data.toList=S2 at *
  go_enter Tryz.func73,Tryz.ntmps73
  have HB0:Hid (Below w.heap.size w w):=Below.refl _ _
  go_wp2_with fail
  with_reducible refine (HN.out w HB0.out).mono ?_
  rintro e u1 ⟨rfl,hb⟩
  have HB1:=za (z8 HB0.out hb)
  clear hb
  go_wp2_with fail
  with_reducible refine (HH.out u1 HB1.out).mono ?_
  rintro e u2 ⟨rfl,hb⟩
  have HB2:=za (z8 HB1.out hb)
  clear hb
  go_wp2_with fail
  with_reducible refine (HI.out u2 HB2.out).mono ?_
  rintro e u3 ⟨rfl,hb⟩
  have HB3:=za (z8 HB2.out hb)
  clear hb
  go_wp2_with fail
  with_reducible refine (HL.out u3 HB3.out).mono ?_
  rintro e u4 ⟨rfl,hb⟩
  have HB4:=za (z8 HB3.out hb)
  clear hb
  go_wp2_with fail
  with_reducible refine (HFS.out _).mono ?_
  rintro e ub ⟨rfl,hub⟩
  have HB:Hid (Below w.heap.size w ub):=by
   show Below _ _ _
   rw [hub]; exact z7 HB4.out _
  clear hub HFS HB0 HB1 HB2 HB3 HB4 HN HH HI HL
  have c0:=(HO.out.later HB.out).c0
  have hk:=HK.out _ HB.out
  clear HK
  go_wp2_with fail
  with_reducible refine (HP2.out _ HB.out).mono ?_
  rintro e w5 ⟨rfl,hg5⟩
  have c0':=hg5.1.c0
  obtain ⟨w6,hrun,hgo⟩:=HDR.out w5 0 _ hg5.1
  have HG6:=za (hg5.next hgo)
  clear hg5 hgo HP2 HB hk c0 HDR
  go_wp2_with fail
  refine yI (by kernel_rfl) 7 (fun W=>Below w6.heap.size w6 W) (fun W=>zE w0 w D P M G (yu A1 o.data.toList) L2 S W) (YRnW11 D M o n) (fun v=>v=.int .i64 rr) ?F ?hF (by kernel_rfl) (by kernel_rfl) (by kernel_rfl) (by kernel_rfl) (by decide) (zZ (Below.refl _ _)) ?step ?fin
  case hF =>
   intro x
   simp only [List.map_cons,List.map_nil,vH,Act.put,List.setIfInBounds_toArray,List.set_cons_zero,List.set_cons_succ,Nat.zero_add,Nat.reduceAdd]
   exact rfl
  case step =>
   refine ⟨?_,?_,?_,?_,?_,?_,?_,?_,trivial⟩
   ·
    intro x W
    refine ⟨fun _ hW hdep K hK=>?_,(fun h=>absurd h (by decide)),(fun h=>absurd h (by decide))⟩
    clear hdep
    go_simp
    exact hK _ _ rfl hW (fun _ _ h=>h)
   ·
    intro x W
    refine ⟨fun _ hW hdep K hK=>?_,(fun h=>absurd h (by decide)),(fun h=>absurd h (by decide))⟩
    have h0:x 0=_:=hdep 0 rfl
    clear hdep
    simp only [h0] at hK
    go_simp
    exact hK _ _ rfl hW (fun _ _ h=>h)
   ·
    intro x W
    refine ⟨fun _ hW hdep K hK=>?_,(fun h=>absurd h (by decide)),(fun h=>absurd h (by decide))⟩
    have h1:x 1=_:=hdep 1 rfl
    clear hdep
    simp only [h1] at hK
    go_simp
    exact hK _ _ rfl hW (fun _ _ h=>h)
   ·
    intro x W
    refine ⟨fun _ hW hdep K hK=>?_,(fun h=>absurd h (by decide)),(fun h=>absurd h (by decide))⟩
    have h2:x 2=_:=hdep 2 rfl
    have c:=(HG6.out.1.later hW).c1
    clear hdep
    simp only [h2] at hK
    go_simp
    exact hK _ _ rfl hW (fun _ _ h=>h)
   ·
    intro x W
    refine ⟨fun _ hW hdep K hK=>?_,(fun h=>absurd h (by decide)),(fun h=>absurd h (by decide))⟩
    clear hdep
    go_simp
    exact hK _ _ rfl hW (fun _ _ h=>h)
   ·
    intro x W
    refine ⟨fun _ hW hdep K hK=>?_,(fun h=>absurd h (by decide)),(fun h=>absurd h (by decide))⟩
    clear hdep
    go_simp
    exact hK _ _ rfl hW (fun _ _ h=>h)
   ·
    intro x W
    refine ⟨fun _ hW hdep K hK=>?_,(fun h=>absurd h (by decide)),(fun h=>absurd h (by decide))⟩
    have h5:x 5=_:=hdep 5 rfl
    have hc:=HC2.out W
    clear hdep
    simp only [h5] at hK
    go_simp
    refine hc.mono ?_
    rintro e W' ⟨rfl,hb⟩
    exact hK _ _ rfl (z8 hW hb) (fun _ _ h=>h)
   ·
    intro x W
    refine ⟨(fun h=>absurd h (by decide)),fun _ hW hdep K hK=>?_,(fun h=>absurd h (by decide))⟩
    have h3:x 3=_:=hdep 3 rfl
    have h4:x 4=_:=hdep 4 rfl
    have h6:x 6=_:=hdep 6 rfl
    have hc:=HMR.out W _ _ _ (HG6.out.1.later hW)
    clear hdep
    simp only [h3,h4,h6] at hK
    go_simp
    refine hc.mono ?_
    rintro e W' ⟨rfl,hg⟩
    rw [HRL.out] at hg
    exact hK _ _ (by rw [HRR.out]) ⟨hg.1,HG6.out.2.trans ((zu.of_below hW).trans hg.2)⟩
  case fin =>
   intro x W hW hZ
   have HF:=za hW
   have c2:=hW.1.c2
   have HGR1:=za (HGR.out W _ _ hW.1)
   clear hW hZ HG6 HMR HGR HC2 HO HRR HRL c0' hrun
   go_wp2_with fail
   with_reducible refine HGR1.out.mono ?_
   rintro e w8 ⟨rfl,hg⟩
   have HFF:=za (HF.out.next hg)
   clear hg HGR1 HF c2
   go_wp2
   go_ret
   exact ⟨rfl,HFF.out⟩
 ·
  rw [if_neg h0,if_neg h0,if_neg h0]
  clear HPT HC HK HDR HMR HGR
  have q1:(r == 0)=false:=by simpa using h0
  have q2:¬ r=0:=h0
  go_enter Tryz.func73,Tryz.ntmps73
  have HB0:Hid (Below w.heap.size w w):=Below.refl _ _
  go_wp2_with fail
  with_reducible refine (HN.out w HB0.out).mono ?_
  rintro e u1 ⟨rfl,hb⟩
  have HB1:=za (z8 HB0.out hb)
  clear hb
  go_wp2_with fail
  with_reducible refine (HH.out u1 HB1.out).mono ?_
  rintro e u2 ⟨rfl,hb⟩
  have HB2:=za (z8 HB1.out hb)
  clear hb
  go_wp2_with fail
  with_reducible refine (HI.out u2 HB2.out).mono ?_
  rintro e u3 ⟨rfl,hb⟩
  have HB3:=za (z8 HB2.out hb)
  clear hb
  go_wp2_with fail
  with_reducible refine (HL.out u3 HB3.out).mono ?_
  rintro e u4 ⟨rfl,hb⟩
  have HB4:=za (z8 HB3.out hb)
  clear hb
  go_wp2_with fail
  with_reducible refine (HFS.out _).mono ?_
  rintro e ub ⟨rfl,hub⟩
  have HB:Hid (Below w.heap.size w ub):=by
   show Below _ _ _
   rw [hub]; exact z7 HB4.out _
  clear hub HFS HB0 HB1 HB2 HB3 HB4 HN HH HI HL
  go_wp2
  go_ret
  exact ⟨rfl,HO.out.still HB.out⟩

theorem U2.low {w w1 W:World} {n:ByteArray} {v:Value} (h:U2 A L S n w1 W v) (hb:Below w.heap.size w w1):U2 A L S n w W v:=by
 obtain ⟨ga,gc,e,hr⟩:=h
 exact ⟨ga,gc,e,zC hr hb.size⟩
end
end Go.Proofs.YthmomkjingcbiaaGreatDoor
