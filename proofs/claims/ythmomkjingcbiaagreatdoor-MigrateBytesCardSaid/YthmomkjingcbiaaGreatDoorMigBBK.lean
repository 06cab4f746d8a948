/-
  The texts that the laws of this seat share, part 11: what the code and the document's own answers tell, walked function by function.
  Conditions: each theorem's own.
-/
import Derived.Test.YthmomkjingcbiaaGreatDoorMigBBJ
set_option maxHeartbeats 16000000
namespace Go.Proofs.YthmomkjingcbiaaGreatDoor
open Go.RowKit Go.Maps Go.Sort Go.Shelf

def fx (w:World) (r:Int×List UInt8) (e:Ending) (w':World):Prop :=
 (r.1≠0∧e=.returned (.tuple #[.pointer none,.int .i64 r.1])∧Below w.heap.size w w') ∨
 (r.1=0∧∃ D P M G A L S k,e=.returned (.tuple #[.pointer (some ⟨D,0,none⟩),.int .i64 0])∧zH w w' D P M G A L S∧ya A L S k∧Xf (zM A L S) (ze S)=r.2)
set_option maxRecDepth 100000 in
theorem fk (u:Value) (bs:List UInt8) (w:World) (hu:Rd w u bs) (h2:yr bs=2) (hl:bs.length≤100000) (hm:vm w) :
  Calls Tryz.prog 28 #[u] w (fx w (xN bs)):=by
 have HS:=z8 (Zl u bs w hu)
 obtain ⟨A0,c0,rfl⟩:=hu.shape
 have HR:Hid (Calls Tryz.prog 85 #[.slice A0 bs.length c0] w fun e w'=>∃ dv er,e=.returned (.tuple #[dv,.int .i64 er])∧fx w (xN bs) (.returned (.tuple #[dv,.int .i64 er])) w'):=by
  refine (V1 _ bs w hu hl hm).mono fun e w' h=>?_
  rw [jJ h2]
  have hg:=@JW bs
  generalize xm bs=r at *
  rcases h with ⟨h0,he,hb⟩ | ⟨h0,D,P,M,G,A,L,S,k,he,ho,hs,hk⟩
  ·
   exact ⟨_,_,he,.inl ⟨by rw [if_neg h0]; exact h0,by rw [if_neg h0],hb⟩⟩
  ·
   refine ⟨_,_,he,.inr ⟨by rw [if_pos h0],D,P,M,G,A,L,S,k,rfl,ho,hs.1.1,?_⟩⟩
   rw [if_pos h0,hs.1.2.1,hs.1.2.2,Uy]
   exact (hg h0).2.2
 rw [h2] at HS
 clear hu hl hm h2
 generalize xN bs=r at *
 generalize bs.length=n at *
 go_enter Tryz.func28,Tryz.ntmps28
 go_wp2_with fail
 with_reducible refine HS.out.mono ?_
 rintro e w1 ⟨rfl,rfl⟩
 clear HS
 go_wp2_with fail
 with_reducible refine HR.out.mono ?_
 rintro e w2 ⟨dv,er,rfl,hf⟩
 have HF:=z8 hf
 clear hf HR
 go_wp2
 go_ret2
 exact HF.out
set_option maxRecDepth 100000 in
theorem uo (u:Value) (bs:List UInt8) (w:World) (hu:Rd w u bs) (h2:yr bs≠2) (hl:bs.length≤1000) (hm:vm w) :
  Calls Tryz.prog 28 #[u] w (fx w (xN bs)):=by
 have HS:=z8 (Zl u bs w hu)
 obtain ⟨A0,c0,rfl⟩:=hu.shape
 have HR:Hid (Calls Tryz.prog 86 #[.slice A0 bs.length c0] w fun e w'=>∃ dv er,e=.returned (.tuple #[dv,.int .i64 er])∧Hid (Calls Tryz.prog 14 #[dv] w' fun e2 w2=>∃ nv,e2=.returned nv∧fx w (xN bs) (.returned (.tuple #[nv,.int .i64 er])) w2)):=by
  refine (Qg _ bs w hu hl hm).mono fun e w' h=>?_
  rw [ZE h2]
  have hg:=@qY bs
  generalize vw bs=r at *
  rcases h with ⟨h0,he,hb⟩ | ⟨h0,B,he,ho⟩
  ·
   refine ⟨_,_,he,(Vt w').mono fun e2 w2 ⟨a,b⟩=>⟨_,a,.inl ⟨by rw [if_neg h0]; exact h0,by rw [if_neg h0],?_⟩⟩⟩
   rw [← b]
   exact hb
  ·
   refine ⟨_,_,he,(JE ho (hg h0) (hm.later ho.below)).mono fun e2 w2 ⟨D,P,M,G,A,L,S,k,a,b,c,d,f,_⟩=>⟨_,a,.inr ⟨by rw [if_pos h0],D,P,M,G,A,L,S,k,rfl,b.base ho.below,c,?_⟩⟩⟩
   rw [if_pos h0,d,f,folT_up13]
 have hz:(yr bs == 2)=false:=by simpa using h2
 clear hu hl hm h2
 generalize xN bs=r at *
 generalize bs.length=n at *
 generalize yr bs=sc at *
 go_enter Tryz.func28,Tryz.ntmps28
 go_wp2_with fail
 with_reducible refine HS.out.mono ?_
 rintro e w1 ⟨rfl,rfl⟩
 clear HS
 go_wp2_with fail
 with_reducible refine HR.out.mono ?_
 rintro e w2 ⟨dv,er,rfl,hu⟩
 clear HR
 go_wp2_with fail
 with_reducible refine hu.out.mono ?_
 rintro e w3 ⟨nv,rfl,hf⟩
 have HF:=z8 hf
 clear hf hu
 go_wp2
 go_ret2
 exact HF.out
theorem XL (u:Value) (bs:List UInt8) (w:World) (hu:Rd w u bs) (hl:bs.length≤1000∨(yr bs=2∧bs.length≤100000)) (hm:vm w) :
  Calls Tryz.prog 28 #[u] w (fx w (xN bs)):=by
 by_cases h2:yr bs=2
 ·
  exact fk u bs w hu h2 (by rcases hl with h | h <;> omega) hm
 ·
  exact uo u bs w hu h2 (by rcases hl with h | h; exact h; exact absurd h.1 h2) hm

def jU (w:World) (r:Int×List UInt8) (e:Ending) (w':World):Prop :=
 ∃ v,e=.returned (.tuple #[v,.int .i64 r.1])∧w'.ownsRow 0 5 1 v r.2.length (cellsOf r.2)∧(∀ k,v.ownBlock=some k→w.heap.size≤k)∧Below w.heap.size w w'
theorem X2 {bs:List UInt8} (h:(xN bs).1≠0):(xN bs).2=[]:=by
 unfold xN at h ⊢
 split
 ·
  split
  ·
   next h2 h0=>rw [if_pos h2,if_pos h0] at h; exact absurd rfl h
  ·
   rfl
 ·
  split
  ·
   next h2 h0=>rw [if_neg h2,if_pos h0] at h; exact absurd rfl h
  ·
   rfl

set_option maxRecDepth 100000 in
theorem ZG (u:Value) (r:Int×List UInt8) (w:World) (hr:Calls Tryz.prog 28 #[u] w (fx w r)) (hn:r.1≠0→r.2=[]) (hu:∃ A n c,u=.slice A n c) (hm:vm w) :
  Calls Tryz.prog 7 #[u] w (jU w r):=by
 have HR:=z8 hr
 have HM:=z8 hm
 have HN:=z8 hn
 obtain ⟨A0,n,c0,rfl⟩:=hu
 clear hr hn hm
 obtain ⟨er,out⟩:=r
 go_enter Tryz.func7,Tryz.ntmps7
 go_wp2_with fail
 with_reducible refine HR.out.mono ?_
 rintro e w1 hcase
 clear HR
 rcases hcase with ⟨h0,rfl,hb⟩ | ⟨h0,D,P,M,G,A,L,S,k,rfl,ho,hg,ht⟩
 ·
  dsimp only at h0 HN ⊢
  have hz:(er != 0)=true:=by simpa using h0
  have hn:=HN.out h0
  subst hn
  have HF:Hid (jU w (er,[]) (.returned (.tuple #[.slice none 0 0,.int .i64 er])) w1):=⟨_,rfl,World.ownsRow_nil _ _ _ _,(fun k h=>by simp [Value.ownBlock] at h),hb⟩
  clear hb h0 HN
  go_wp2
  go_ret2
  exact HF.out
 ·
  dsimp only at h0 ht
  subst h0
  have HB:=Yt ho hg (HM.out.later ho.below)
  rw [ht] at HB
  have HB1:=z8 HB
  have HBL:=z8 ho.below
  clear HB ho hg ht HN HM
  go_wp2_with fail
  with_reducible refine HB1.out.mono ?_
  rintro e w2 ⟨v,rfl,hrow,hnew,hb⟩
  have HF:Hid (jU w (0,out) (.returned (.tuple #[v,.int .i64 0])) w2):=⟨v,rfl,hrow,fun k h=>Nat.le_trans HBL.out.size (hnew k h),z7 HBL.out hb⟩
  clear hrow hnew hb HB1 HBL
  go_wp2
  go_ret2
  exact HF.out

theorem mbytes13_calls (u:Value) (bs:List UInt8) (w:World) (hu:Rd w u bs) (hl:bs.length≤1000∨(yr bs=2∧bs.length≤100000)) (hm:vm w) :
  Calls Tryz.prog 7 #[u] w (jU w (xN bs)) :=
 ZG u _ w (XL u bs w hu hl hm) (@X2 bs) (by obtain ⟨A,c,e⟩:=hu.shape; exact ⟨A,_,c,e⟩) hm
theorem ex13:xN [1,0,0]=(0,[2,0,0,0,0]):=by decide +kernel
set_option maxRecDepth 100000 in
theorem lives13_calls (w:World) (h5:vm w):Calls Tryz.prog 6 #[] w (yt true w):=by
 have HB:Hid (∀ W A,Below w.heap.size w W→Rd W (.slice A 3 3) [1,0,0]→Calls Tryz.prog 7 #[.slice A 3 3] W (jU W (0,[2,0,0,0,0]))):=fun W A hb hr=>by
  have:=ZG _ _ W (uo _ [1,0,0] W hr (by decide) (by decide) (h5.later hb)) (@X2 [1,0,0]) ⟨_,_,_,rfl⟩ (h5.later hb)
  rwa [ex13] at this
 have hb:=za (Below.refl w.heap.size w) (.cells #[.int .u8 1,.int .u8 0,.int .u8 0] 5)
 have HB0:=z8 hb
 have HRD:Hid (Rd (w.alloc (.cells #[.int .u8 1,.int .u8 0,.int .u8 0] 5)) (.slice (some ⟨w.heap.size,0,none⟩) 3 3) [1,0,0]) :=
  ⟨some ⟨w.heap.size,0,none⟩,3,rfl,fun _=>⟨⟨w.heap.size,0,none⟩,rfl,by simp,fun j u hj=>by
   rw [Addr.add_lit,Nat.zero_add,World.cell?_alloc_at _ _ _ _ rfl]
   simpa [cellsOf] using hj⟩⟩
 have HC:=z8 (HB.out _ _ hb HRD.out)
 clear hb HB HRD h5
 go_enter Tryz.func6,Tryz.ntmps6
 go_wp2_with fail
 with_reducible refine HC.out.mono ?_
 rintro e w2 ⟨v2,rfl,ho,_,hb⟩
 have hrd:=(Rd.of_own ho).string (P:=Tryz.prog) (src:=22) (dst:=9) Tryz.underlying22 Tryz.underlying5 Tryz.underlying9
 obtain ⟨A2,c2,rfl⟩:=yD ho
 have HB2:=z8 (z7 HB0.out hb)
 clear ho hb HC
 have hrd6:(convert 22 9 (.slice A2 5 c2)).run Tryz.prog w2=.ok (.string ⟨#[2,0,0,0,0]⟩) w2:=hrd
 clear hrd
 go_wp2
 go_ret
 exact ⟨rfl,HB2.out⟩

theorem Xr (L:zq) (k:Nat) (hk:k<L.length):zT ((L.take (k+1)).map zp)=zT ((L.take k).map zp)++[.string (tx7 L[k].1),.string (tx7 L[k].2),.string ⟨#[]⟩,.bool false,.slice none 0 0]:=by
  rw [List.take_succ_eq_append_getElem hk,List.map_append]
  unfold zT
  rw [List.flatMap_append]
  rfl

set_option maxRecDepth 100000 in
theorem Qa (A:Option Addr) (n c:Nat) (L:zq) (w:World) (hl:n=L.length) (hn:n≤1000) (hr:uz w A (L.map zp)) :
    Calls Tryz.prog 32 #[.slice A n c] w fun e w'=>∃ A2 c2,e=.returned (.agg #[.slice A2 n c2,.slice none 0 0])∧uz w' A2 (L.map zp)∧Below w.heap.size w w':=by
  obtain ⟨i0,hi,hz0,hz1,hz2⟩:=info_parts qe
  have hzd:∀ w:World,(zeroValue ua).run Tryz.prog w=.ok (.agg #[.slice none 0 0,.slice none 0 0]) w:=fun w=>by kernel_rfl
  have HB0:Hid (Below w.heap.size w (w.alloc (.cells #[.slice none 0 0,.slice none 0 0] ua))):=za (Below.refl _ _) _
  have HX0:Hid (jp (w.alloc (.cells #[.slice none 0 0,.slice none 0 0] ua)) w.heap.size (.slice none 0 0) (.slice none 0 0)):=bx11_new _ _ _
  have HR:=z8 hr
  have HL:=z8 hl
  clear hr hl
  go_enter Tryz.func32,Tryz.ntmps32
  go_wp2
  generalize w.alloc (.cells #[.slice none 0 0,.slice none 0 0] ua)=w1 at *
  go_loopg [3,5,8] n (fun gg s3 _ s8 wr=>∃ k:Nat,k≤n∧n - k≤gg∧s8=.int .i64 k∧Hid (Below w1.heap.size w1 wr)∧Hid (wr.ownsRow w1.heap.size 47 5 s3 k (zT ((L.take k).map zp))))
  case atStart=>exact ⟨0,Nat.zero_le _,by omega,rfl,Below.refl _ _,World.ownsRow_nil _ _ _ _⟩
  case round =>
    obtain ⟨k,hk,hg,rfl,HW,HU⟩:=hrel
    by_cases hlt:k<n
    · have hltz:(k:Int)<(n:Int):=by omega
      have hkl:k<L.length:=HL.out ▸ hlt
      have hkm:k<(L.map zp).length:=by rw [List.length_map]; exact hkl
      have hgm:(L.map zp)[k]'hkm=zp L[k]:=List.getElem_map _
      obtain ⟨b,off,rfl,hb,hc⟩:=(HR.out.later (z7 HB0.out HW.out)) (by intro e; rw [e] at hkm; exact absurd hkm (Nat.not_lt_zero _))
      have hc':=hc k hkm
      rw [hgm] at hc'
      have c0:wr.cell? ⟨b,off+k * 5,none⟩=some (.string (tx7 L[k].1)):=hc' 0 _ rfl
      have c1:wr.cell? ⟨b,off+k * 5+1,none⟩=some (.string (tx7 L[k].2)):=hc' 1 _ rfl
      have c2:wr.cell? ⟨b,off+k * 5+2,none⟩=some (.string ⟨#[]⟩):=hc' 2 _ rfl
      have c3:wr.cell? ⟨b,off+k * 5+3,none⟩=some (.bool false):=hc' 3 _ rfl
      have c4:wr.cell? ⟨b,off+k * 5+4,none⟩=some (.slice none 0 0):=hc' 4 _ rfl
      have HT:Hid (zT ((L.take (k+1)).map zp)=zT ((L.take k).map zp)++[.string (tx7 L[k].1),.string (tx7 L[k].2),.string ⟨#[]⟩,.bool false,.slice none 0 0]):=Xr L k hkl
      have hba:=za (Below.refl wr.heap.size wr) (.cells #[.string (tx7 L[k].1),.string (tx7 L[k].2),.string ⟨#[]⟩,.bool false,.slice none 0 0] 47)
      have HUA:=z8 (zY HU.out (Nat.le_refl _) (zb.of_below hba (fun _=>False)) (fun _ _ f=>f))
      have HWA:=z8 (z7 HW.out hba)
      have HLT:Hid (∀ j,(u3.ownBlock=some j→w1.heap.size≤j∧j<wr.heap.size)):=fun j hj=>HU.out.lt j hj
      clear hc hc' hb hgm hkm hba HU HW
      generalize tx7 L[k].1=sn at *
      generalize tx7 L[k].2=sh at *
      go_wp2_with (first
        | (at_builtin; refine wpList_append_own _ rfl _ _ 57 rfl w1.heap.size 47 i0 (.agg #[.string ⟨#[]⟩,.string ⟨#[]⟩,.string ⟨#[]⟩,.bool false,.slice none 0 0]) 5 80 Tryz.underlying57 hi hz0 hz1 hz2 rfl (by decide) _ _ _ rfl (HUA.out.alloc _) ⟨wr.heap.size+1,0,none⟩ 1 1 [.string sn,.string sh,.string ⟨#[]⟩,.bool false,.slice none 0 0] rfl rfl
            (fun j u hu=>by rw [Addr.add_lit,Nat.zero_add,World.cell?_alloc_at _ _ _ _ (by simp)]; simpa using hu) (by simp [Value.oneCell']) (by unfold maxLen; omega) (by omega) (by have:=HWA.out.size; simp at this ⊢; omega) ?_
           intro v' w2 hown' hgrow _
           have HO:=z8 hown'
           have HG:=z8 hgrow
           clear hown' hgrow)
        | fail)
      have R1:Hid (Below w1.heap.size w1 w2):=(z7 HWA.out (za (Below.refl _ _) _)).grown HG.out (by have:=HWA.out.size; simp at this ⊢; omega) (fun j hj=>(HLT.out j hj).1)
      have R2:Hid (w2.ownsRow w1.heap.size 47 5 v' (k+1) (zT ((L.take (k+1)).map zp))):=by rw [HT.out]; exact HO.out
      clear HT HO HG HUA HWA HLT c0 c1 c2 c3 c4
      go_roundg (n - (k+1))
      case measure=>omega
      case rel=>exact ⟨k+1,by omega,by omega,by go_num,R1,R2⟩
    · have hltz:¬ (k:Int)<(n:Int):=by omega
      obtain rfl:k=n:=by omega
      have hu:=HU.out
      rw [List.take_of_length_le (by have:=HL.out; omega)] at hu
      obtain ⟨A2,c2,rfl⟩:=yD (zx hu (Nat.zero_le _))
      have hx:=HX0.out.later HW.out
      have HR2:=z8 (qr hu (by rw [List.length_map]; exact HL.out))
      have HBW:=z8 (z7 HB0.out HW.out)
      have hne:∀ b off,A2=some ⟨b,off,none⟩→b≠w.heap.size:=fun b off e he=>by
        subst e
        have h1:=hu.lt b (by simp [Value.ownBlock])
        have:=hx.lt
        have h2:=HX0.out.lt
        omega
      have x0:=hx.c0
      have x1:=hx.c1
      have f0:=hx.f0
      have f1:=hx.f1
      have hx2:=(hx.set0 (.slice A2 k c2)).set1 (.slice none 0 0)
      have z0:=hx2.c0
      have z1:=hx2.c1
      have HF:Hid (uz ((wr.setCell ⟨w.heap.size,0,none⟩ (.slice A2 k c2)).setCell ⟨w.heap.size,1,none⟩ (.slice none 0 0)) A2 (L.map zp)∧Below w.heap.size w ((wr.setCell ⟨w.heap.size,0,none⟩ (.slice A2 k c2)).setCell ⟨w.heap.size,1,none⟩ (.slice none 0 0))):=by
        refine ⟨fun hl=>?_,(HBW.out.setCell (p:=⟨w.heap.size,0,none⟩) (Nat.le_refl _) _).setCell (p:=⟨w.heap.size,1,none⟩) (Nat.le_refl _) _⟩
        obtain ⟨b,off,e,hb,hc⟩:=HR2.out hl
        have hn:=hne b off e
        refine ⟨b,off,e,by simpa using hb,fun i hi j u hu=>?_⟩
        exact (World.cell?_setCell_other _ _ _ _ (by intro e; injection e with e; exact hn e.symm)).trans ((World.cell?_setCell_other _ _ _ _ (by intro e; injection e with e; exact hn e.symm)).trans (hc i hi j u hu))
      clear hu hx hx2 hne HU HW HR2 HX0
      go_wp2
      refine bodyPost_ret (v:=.agg #[.slice A2 k c2,.slice none 0 0]) ?_ rfl ⟨A2,⟨c2,rfl⟩,HF.out.1,HF.out.2⟩
      simp [results,Tryz.results32,go_sem,z0,z1]

def qE (w:World) (r:Int×List UInt8) (e:Ending) (w':World):Prop:=e=.returned (.tuple #[.string (mk6 r.2),.int .i64 r.1])∧Below w.heap.size w w'
set_option maxRecDepth 100000 in
theorem rbytes13_calls (bs:List UInt8) (w:World) (hl:bs.length≤1000) :
    Calls Tryz.prog 8 #[.string ⟨bs.toArray⟩] w (qE w (xN bs)):=by
  by_cases h2:yr bs=2
  · have HR:Hid (Calls Tryz.prog 29 #[.string ⟨bs.toArray⟩] w fun e w'=>∃ A n c A2 m c2 er,e=.returned (.tuple #[.agg #[.slice A n c,.slice A2 m c2],.int .i64 er])∧(er≠0→xN bs=(er,[]))∧(er=0→xN bs=(0,bs))∧Below w.heap.size w w'):=by
      refine (Xz bs w hl).mono fun e w' ⟨⟨A,A2,n,m,c,c2,he,_⟩,hb⟩=>?_
      rw [← JX] at he
      have hm:=jJ h2
      generalize (xm bs).1=er at *
      refine ⟨A,n,c,A2,m,c2,er,he,fun h=>?_,fun h=>?_,hb⟩
      · rw [hm,if_neg h]
      · rw [hm,if_pos h]
    obtain ⟨b,t,rfl,hb2⟩:∃ b t,bs=b::t∧b.toNat=2:=by
      cases bs with
      | nil=>cases h2
      | cons b t =>
        refine ⟨b,t,rfl,?_⟩
        have h3:(if b.toNat=1∨b.toNat=2 then (b.toNat:Int) else 0)=2:=h2
        split at h3 <;> omega
    have hidx:((⟨(b::t).toArray⟩:ByteArray)[0]'(by show 0<(b::t).toArray.size; simp)).toNat=b.toNat:=rfl
    have hne:((⟨(b::t).toArray⟩:ByteArray).toList != (⟨#[]⟩:ByteArray).toList)=true:=by simp [ByteArray.toList_eq]
    rw [hb2] at hidx
    clear hl h2
    generalize xN (b::t)=r at *
    go_enter Tryz.func8,Tryz.ntmps8
    go_wp2_with fail
    with_reducible refine HR.out.mono ?_
    rintro e w1 ⟨A,n,c,A2,m,c2,er,rfl,h1,h3,hb⟩
    have HB:=z8 (z7 hb (za (Below.refl w1.heap.size w1) (.cells #[.slice A n c,.slice A2 m c2] ua)))
    have H1:=z8 h1
    have H3:=z8 h3
    clear h1 h3 hb HR
    by_cases h0:er=0
    · subst h0
      have hr:=H3.out rfl
      subst hr
      have HF:Hid (qE w (0,b::t) (.returned (.tuple #[.string ⟨(b::t).toArray⟩,.int .i64 0])) (w1.alloc (.cells #[.slice A n c,.slice A2 m c2] ua))):=⟨rfl,HB.out⟩
      clear H1 H3 HB
      go_wp2
      go_ret2
      exact HF.out
    · have hz:(er != 0)=true:=by simpa using h0
      have hr:=H1.out h0
      subst hr
      have HF:Hid (qE w (er,[]) (.returned (.tuple #[.string ⟨#[]⟩,.int .i64 er])) (w1.alloc (.cells #[.slice A n c,.slice A2 m c2] ua))):=⟨rfl,HB.out⟩
      clear H1 H3 HB h0
      go_wp2
      go_ret2
      exact HF.out
  · have HR:Hid (Calls Tryz.prog 30 #[.string ⟨bs.toArray⟩] w fun e w'=>∃ v er,e=.returned (.tuple #[v,.int .i64 er])∧(er≠0→xN bs=(er,[]))∧Below w.heap.size w w' ∧
        (er=0→Calls Tryz.prog 32 #[v] w' fun e2 w2=>∃ u1 u2,e2=.returned (.agg #[u1,u2])∧Calls Tryz.prog 31 #[.agg #[u1,u2]] w2 fun e3 w3=>∃ s,e3=.returned (.string s)∧qE w (xN bs) (.returned (.tuple #[.string s,.int .i64 0])) w3)):=by
      refine (VF bs w hl).mono fun e w' ⟨⟨A,n,c,he,hu⟩,hb⟩=>?_
      have hm:=ZE h2
      have hg:=@qY bs
      generalize vw bs=r at *
      refine ⟨_,_,he,fun h=>by rw [hm,if_neg h],hb,fun h=>?_⟩
      obtain ⟨hn,hr⟩:=hu h
      have hgd:=hg h
      have hf:=hgd.few
      refine (Qa A n c r.2 w' hn (by omega) hr).mono fun e2 w2 ⟨A2,c2,he2,hr2,hb2⟩=>⟨_,_,he2,?_⟩
      have hmay:=may12 hgd.of
      refine (Xy A2 none c2 0 n 0 (r.2.map zp) [] w2 (by rw [List.length_map]; exact hn) rfl hr2 (fun u hu=>?_) (fun h=>absurd rfl h) hmay).mono fun e3 w3 ⟨he3,hb3⟩=>⟨_,he3,?_⟩
      · obtain ⟨q,hq,rfl⟩:=List.mem_map.1 hu
        exact Jz (VV (hgd.chk q hq))
      · rw [hm,if_pos h]
        exact ⟨rfl,z7 hb (z7 hb2 hb3)⟩
    have hcond:bs=[]∨∃ b t,bs=b::t∧b.toNat≠2:=by
      cases bs with
      | nil=>exact .inl rfl
      | cons b t =>
        refine .inr ⟨b,t,rfl,fun hb=>h2 ?_⟩
        show (if b.toNat=1∨b.toNat=2 then (b.toNat:Int) else 0)=2
        rw [if_pos (Or.inr hb),hb]
        rfl
    clear hl h2
    generalize xN bs=r at *
    rcases hcond with rfl | ⟨b,t,rfl,hb2⟩
    · have hnil:(⟨([]:List UInt8).toArray⟩:ByteArray)=⟨#[]⟩:=rfl
      rw [hnil] at HR ⊢
      go_enter Tryz.func8,Tryz.ntmps8
      go_wp2_with fail
      with_reducible refine HR.out.mono ?_
      rintro e w1 ⟨v,er,rfl,h1,hb,h3⟩
      have HB:=z8 hb
      have H1:=z8 h1
      have H3:=z8 h3
      clear h1 h3 hb HR hnil
      by_cases h0:er=0
      · subst h0
        have HU:=z8 (H3.out rfl)
        clear H3 H1 HB
        go_wp2_with fail
        with_reducible refine HU.out.mono ?_
        rintro e w2 ⟨u1,u2,rfl,ht⟩
        have HT:=z8 ht
        clear ht HU
        go_wp2_with fail
        with_reducible refine HT.out.mono ?_
        rintro e w3 ⟨s,rfl,hf⟩
        have HF:=z8 hf
        clear hf HT
        go_wp2
        go_ret2
        exact HF.out
      · have hz:(er != 0)=true:=by simpa using h0
        have hr:=H1.out h0
        subst hr
        have HF:Hid (qE w (er,[]) (.returned (.tuple #[.string ⟨#[]⟩,.int .i64 er])) w1):=⟨rfl,HB.out⟩
        clear H1 H3 HB h0
        go_wp2
        go_ret2
        exact HF.out
    · have hidx:((⟨(b::t).toArray⟩:ByteArray)[0]'(by show 0<(b::t).toArray.size; simp)).toNat=b.toNat:=rfl
      have hb3:((b.toNat:Int) == 2)=false:=by simp; omega
      clear hb2
      go_enter Tryz.func8,Tryz.ntmps8
      go_wp2_with fail
      with_reducible refine HR.out.mono ?_
      rintro e w1 ⟨v,er,rfl,h1,hb,h3⟩
      have HB:=z8 hb
      have H1:=z8 h1
      have H3:=z8 h3
      clear h1 h3 hb HR
      by_cases h0:er=0
      · subst h0
        have HU:=z8 (H3.out rfl)
        clear H3 H1 HB
        go_wp2_with fail
        with_reducible refine HU.out.mono ?_
        rintro e w2 ⟨u1,u2,rfl,ht⟩
        have HT:=z8 ht
        clear ht HU
        go_wp2_with fail
        with_reducible refine HT.out.mono ?_
        rintro e w3 ⟨s,rfl,hf⟩
        have HF:=z8 hf
        clear hf HT
        go_wp2
        go_ret2
        exact HF.out
      · have hz:(er != 0)=true:=by simpa using h0
        have hr:=H1.out h0
        subst hr
        have HF:Hid (qE w (er,[]) (.returned (.tuple #[.string ⟨#[]⟩,.int .i64 er])) w1):=⟨rfl,HB.out⟩
        clear H1 H3 HB h0
        go_wp2
        go_ret2
        exact HF.out
end Go.Proofs.YthmomkjingcbiaaGreatDoor
