/-
  What this law alone needs, the law walked, and its statement.
  Conditions: each theorem's own.
-/
import Derived.Test.YteegkoicalbkbaaGreatDoorHosVBK
set_option maxHeartbeats 16000000
set_option linter.unusedVariables false
namespace Go.Proofs.YteegkoicalbkbaaGreatDoor
open Go.RowKit
set_option linter.unusedVariables false

def YV7 (H:Nat) (bs:List UInt8) (ver:Nat):Nat→Value→World→Prop
 | 0,v,_=>v=.pointer (some ⟨H,0,none⟩)
 | 1,v,W=>Rd W v bs
 | 2,v,_=>v=.string ⟨bs.toArray⟩
 | 3,v,_=>v=.pointer (some ⟨H,0,none⟩)
 | 4,v,_=>v=.int .i64 (ver:Nat)
 | 5,v,_=>v=.string ⟨bs.toArray⟩
 | 6,v,_=>v=.int .i64 (ver:Nat)
 | _,_,_=>True
theorem YV7_keep {H:Nat} {bs:List UInt8} {ver:Nat} {W W':World} (hb:Below W.heap.size W W') (j:Nat) (z:Value) (h:YV7 H bs ver j z W):YV7 H bs ver j z W':=by
 match j,h with
 | 0,h=>exact h
 | 1,h=>exact Rd.still h (zg.of_below hb _)
 | 2,h=>exact h
 | 3,h=>exact h
 | 4,h=>exact h
 | 5,h=>exact h
 | 6,h=>exact h
 | _+7,h=>exact h
def YVa (D X1:Nat) (t:QX) (ck er fr:Int) (ver:Nat) (z:Bool):Nat→Value→Prop
 | 0,v=>v=.bool false
 | 1,v=>v=.bool false
 | 6,v=>v=.bool false
 | 7,v=>v=.bool false
 | 19,v=>v=.bool false
 | _,_=>True
def YVb (D X1:Nat) (t:QX) (ck er fr:Int) (ver:Nat) (z:Bool):Nat→Value→Prop
 | 0,v=>v=.bool true
 | 1,v=>v=.bool true
 | 2,v=>v=.pointer (some ⟨D,2,none⟩)
 | 3,v=>v=.agg #[.int .u8 t.o.kd.toNat,.string t.o.a,.string t.o.b,.int .u8 t.o.nd.toNat,.int .u8 t.o.rl.toNat]
 | 4,v=>v=.int .i64 ck
 | 5,v=>v=.bool false
 | 6,v=>v=.bool false
 | 7,v=>v=.bool false
 | 19,v=>v=.bool false
 | _,_=>True
def YVc (D X1:Nat) (t:QX) (ck er fr:Int) (ver:Nat) (z:Bool):Nat→Value→Prop
 | 0,v=>v=.bool true
 | 1,v=>v=.bool true
 | 2,v=>v=.pointer (some ⟨D,2,none⟩)
 | 3,v=>v=.agg #[.int .u8 t.o.kd.toNat,.string t.o.a,.string t.o.b,.int .u8 t.o.nd.toNat,.int .u8 t.o.rl.toNat]
 | 4,v=>v=.int .i64 ck
 | 5,v=>v=.bool true
 | 6,v=>v=.bool true
 | 7,v=>v=.bool true
 | 8,v=>v=.pointer (some ⟨X1,0,none⟩)
 | 9,v=>v=.int .i64 er
 | 10,v=>v=.bool z
 | 11,v=>v=.pointer (some ⟨D,2,none⟩)
 | 12,v=>v=.pointer (some ⟨D,2,none⟩)
 | 13,v=>v=.int .u8 t.o.kd.toNat
 | 14,v=>v=.int .i64 (t.o.kd.toNat:Int)
 | 15,v=>v=.int .i64 fr
 | 16,v=>v=.int .i64 (ver:Nat)
 | 17,v=>v=.bool z
 | 18,v=>v=.bool false
 | 19,v=>v=.bool false
 | _,_=>True

set_option maxRecDepth 100000 in
theorem hv17_walk (A0:Option Addr) (c n:Nat) (l:List QX) (w:World) (hl:zX w) (h5:vO w) (hn:n=l.length) (hm:n≤9223372036854775807) (hr:RdR17 w A0 l) (ho:∀ t∈l,t.Ok) :
  Calls Tryz.prog 7 #[.slice A0 n c] w (zF (.bool true) w):=by
 have HV:Hid (∀ W,Below w.heap.size w W→Calls Tryz.prog 8 #[] W (zF (.bool true) W)):=fun W hW=>lives17_calls W (hl.later hW) (h5.later hW)
 have HF:Hid (∀ W,Below w.heap.size w W→Calls Tryz.prog 9 #[.slice A0 n c] W (zF (.bool (JZ l)) W)):=fun W hW=>few17_calls A0 c n l W hn hm (hr.later hW)
 have HR:=za hr
 have HL:=za hn
 have HO:=za ho
 clear hr hn ho
 cases hq:JZ l with
 | false =>
  rw [hq] at HF
  clear hl h5 hm hq HR HL HO
  go_enter Tryz.func7,Tryz.ntmps7
  go_wp2_with fail
  with_reducible refine (HV.out w (Below.refl _ _)).mono ?_
  rintro e w1 ⟨rfl,hb1⟩
  have HB1:=za hb1
  clear hb1
  go_wp2_with fail
  with_reducible refine (HF.out _ HB1.out).mono ?_
  rintro e w2 ⟨rfl,hb2⟩
  have HB2:=za (zo HB1.out hb2)
  clear hb2 HB1 HF
  go_wp2_with fail
  with_reducible refine (HV.out _ HB2.out).mono ?_
  rintro e w3 ⟨rfl,hb3⟩
  have HB3:=za (zo HB2.out hb3)
  clear hb3 HB2 HV
  go_wp2
  go_ret
  exact ⟨rfl,HB3.out⟩
 | true =>
 rw [hq] at HF
 have HSZ:Hid (∀ t∈l,t.o.a.size≤1000∧t.o.b.size≤1000):=few17_size hq
 have hle:=few17_len hq
 clear hq
 have HNE:Hid (∀ W,Calls Tryz.prog 10 #[.int .i64 3] W fun e w'=>∃ C,e=.returned (.pointer (some ⟨C,0,none⟩))∧fo W (Vf 3) (.pointer (some ⟨C,0,none⟩)) w'∧Below W.heap.size W w'):=fun W=>JP 3 W (by decide)
 have HGD:Hid ((Vf 3).Good):=new17_good (by decide)
 have HL14:Hid (∀ W,Below w.heap.size w W→zX W):=fun W hW=>hl.later hW
 have HL5:Hid (∀ W,Below w.heap.size w W→vO W):=fun W hW=>h5.later hW
 clear hl h5
 go_enter Tryz.func7,Tryz.ntmps7
 go_wp2_with fail
 with_reducible refine (HV.out w (Below.refl _ _)).mono ?_
 rintro e w1 ⟨rfl,hb1⟩
 have HB1:=za hb1
 clear hb1 HV
 go_wp2_with fail
 with_reducible refine (HF.out _ HB1.out).mono ?_
 rintro e w2 ⟨rfl,hb2⟩
 have HB2:=za (zo HB1.out hb2)
 clear hb2 HB1 HF
 go_wp2_with fail
 with_reducible refine (HNE.out _).mono ?_
 rintro e w3 ⟨H,rfl,h1,h2⟩
 obtain ⟨F0,hs0,_⟩:=QY.made HB2.out h1 h2 HGD.out
 have HS0:=za hs0
 clear h1 h2 hs0 HB2 HNE HGD
 generalize Vf 3=s0 at *
 go_wp2
 go_loopg [21] n (fun gg st wr=>∃ k:Nat,k≤n∧n - k≤gg∧st=.int .i64 k∧Hid (∃ F s,QY w wr H F s))
 case atStart=>exact ⟨0,Nat.zero_le _,by omega,rfl,_,_,HS0.out⟩
 case round =>
  clear HS0
  obtain ⟨k,hk,hg,rfl,HK⟩:=hrel
  generalize wr=wo at *
  by_cases hlt:k<n
  case neg =>
   have hltz:¬ (k:Int)<(n:Int):=by omega
   obtain ⟨F,s,hs⟩:=HK.out
   have HB:=za hs.bel
   clear hs HK
   go_wp2
   go_ret
   exact ⟨rfl,HB.out⟩
  have hltz:(k:Int)<(n:Int):=by omega
  have hkl:k<l.length:=HL.out ▸ hlt
  obtain ⟨F,s,hs⟩:=HK.out
  obtain ⟨b',off,rfl,c0,c1,c2,c3,c4,c5,c6⟩:=(HR.out.later hs.bel).at17 k hkl
  obtain ⟨hsa,hsb⟩:=HSZ.out _ (List.getElem_mem hkl)
  have hok:=HO.out _ (List.getElem_mem hkl)
  generalize l[k]=t at *
  have HRa:Hid (zU (wo.alloc (.cells #[.int .u8 (t.cl:Int),.int .u64 (t.n:Int),.int .u8 t.o.kd.toNat,.string t.o.a,.string t.o.b,.int .u8 t.o.nd.toNat,.int .u8 t.o.rl.toNat] 49)) wo.heap.size t.cl t.n t.o):=heap_alloc_new wo _
  have HSa:=za (hs.later (ze (Below.refl _ wo) (.cells #[.int .u8 (t.cl:Int),.int .u64 (t.n:Int),.int .u8 t.o.kd.toNat,.string t.o.a,.string t.o.b,.int .u8 t.o.nd.toNat,.int .u8 t.o.rl.toNat] 49)))
  have HNa:=za (hs.ne wo.heap.size (Nat.le_refl _))
  clear hs HK
  have HDA:Hid (∀ W,Below (wo.alloc (.cells #[.int .u8 (t.cl:Int),.int .u64 (t.n:Int),.int .u8 t.o.kd.toNat,.string t.o.a,.string t.o.b,.int .u8 t.o.nd.toNat,.int .u8 t.o.rl.toNat] 49)).heap.size (wo.alloc (.cells #[.int .u8 (t.cl:Int),.int .u64 (t.n:Int),.int .u8 t.o.kd.toNat,.string t.o.a,.string t.o.b,.int .u8 t.o.nd.toNat,.int .u8 t.o.rl.toNat] 49)) W→Calls Tryz.prog 18 #[.pointer (some ⟨H,0,none⟩)] W (qA W (dirB17 s.d))):=fun W hW =>
   dir17_calls (HSa.out.later hW).at_ HSa.out.good (HL5.out W (zo HSa.out.bel hW))
  unfold qA at HDA
  have HVA:Hid (∀ W,Below (wo.alloc (.cells #[.int .u8 (t.cl:Int),.int .u64 (t.n:Int),.int .u8 t.o.kd.toNat,.string t.o.a,.string t.o.b,.int .u8 t.o.nd.toNat,.int .u8 t.o.rl.toNat] 49)).heap.size (wo.alloc (.cells #[.int .u8 (t.cl:Int),.int .u64 (t.n:Int),.int .u8 t.o.kd.toNat,.string t.o.a,.string t.o.b,.int .u8 t.o.nd.toNat,.int .u8 t.o.rl.toNat] 49)) W→Calls Tryz.prog 17 #[.pointer (some ⟨H,0,none⟩)] W (zF (.int .i64 (s.d.ver:Nat)) W)):=fun W hW =>
   xS (HSa.out.later hW).at_
  have HAP:Hid (∀ W F',QY w W H F' s→Calls Tryz.prog 15 #[.pointer (some ⟨H,0,none⟩),.agg #[.int .u8 (t.cl:Int),.int .u64 (t.n:Int),.int .u8 t.o.kd.toNat,.string t.o.a,.string t.o.b,.int .u8 t.o.nd.toNat,.int .u8 t.o.rl.toNat]] W fun e w'=>∃ A cc F2,e=.returned (.tuple #[.agg #[.int .i64 (yW s t.cl t.n t.o),.slice A (xQ s t.cl t.n t.o).length cc],.bool (xg s t.cl t.n t.o)])∧QY w w' H F2 (yV s t.cl t.n t.o)∧zg F' W w'):=fun W F' h =>
   (QR h.at_ h.good t.cl t.n t.o (HL14.out W h.bel) (HL5.out W h.bel) hsa hsb).mono fun e w' ⟨A,cc,h1,_,h3⟩=>by
    obtain ⟨F2,k1,_,k2⟩:=h.goes h3 (h.good.app t.cl t.n t.o)
    exact ⟨A,cc,F2,h1,k1,k2⟩
  have HER:Hid (yW s t.cl t.n t.o≠0→(yV s t.cl t.n t.o).d=s.d∧(xQ s t.cl t.n t.o).length=0):=fun h=>by
   obtain ⟨h1,h2⟩:=app17_err HSa.out.good h
   exact ⟨h1,by rw [h2]; rfl⟩
  have HZ:Hid (xg s t.cl t.n t.o=true→vY t.o=0→(yW s t.cl t.n t.o == 6)=decide ((s.d.ver:Int)<vh (t.o.kd.toNat:Int))):=fun h1 h2=>by
   rw [Bool.eq_iff_iff,decide_eq_true_eq,beq_iff_eq]
   exact app17_ver h1 h2
  have HCK:Hid (∀ W,Below w.heap.size w W→Calls Tryz.prog 26 #[.agg #[.int .u8 t.o.kd.toNat,.string t.o.a,.string t.o.b,.int .u8 t.o.nd.toNat,.int .u8 t.o.rl.toNat]] W (zF (.int .i64 (vY t.o)) W)):=fun W hW=>vL t.o W (HL14.out W hW) ⟨by omega,by omega⟩
  have HFR:Hid (∀ W,Below w.heap.size w W→Calls Tryz.prog 27 #[.int .i64 (t.o.kd.toNat:Int)] W (zF (.int .i64 (vh (t.o.kd.toNat:Int))) W)):=fun W hW=>uq (t.o.kd.toNat:Int) W (HL14.out W hW)
  have HD2:Hid (∀ W F' s',QY w W H F' s'→s'.d=s.d→Calls Tryz.prog 18 #[.pointer (some ⟨H,0,none⟩)] W (qA W (dirB17 s.d))):=fun W F' s' h e=>by
   rw [← e]
   exact dir17_calls h.at_ h.good (HL5.out W h.bel)
  unfold qA at HD2
  have hcv:wrap64 (t.o.kd.toNat:Int)=t.o.kd.toNat:=IntWalk.wrap64_in _ (by have:=UInt8.toNat_lt t.o.kd; omega)
  have hcw:IntKind.i64.wrap (t.o.kd.toNat:Int)=t.o.kd.toNat:=IntWalk.i64_in _ (by have:=UInt8.toNat_lt t.o.kd; omega)
  have HCC:Hid (vY t.o=0∨¬ vY t.o=0):=Classical.em _
  clear hsa hsb hok
  obtain ⟨z,hz⟩:∃ z,decide ((s.d.ver:Int)<vh (t.o.kd.toNat:Int))=z:=⟨_,rfl⟩
  have HZD:=za hz
  rw [hz] at HZ
  clear hz
  generalize vh (t.o.kd.toNat:Int)=fr at *
  generalize hbs:dirB17 s.d=bs at *
  generalize s.d.ver=ver at *
  go_wp2
  clear c0 c1 c2 c3 c4 c5 c6
  generalize wo.alloc (.cells #[.int .u8 (t.cl:Int),.int .u64 (t.n:Int),.int .u8 t.o.kd.toNat,.string t.o.a,.string t.o.b,.int .u8 t.o.nd.toNat,.int .u8 t.o.rl.toNat] 49)=wa at *
  generalize hD:wo.heap.size=D at *
  refine yY (by kernel_rfl) (fun W=>Below wa.heap.size wa W) (fun j v W=>YV7 H bs ver j v W) ?F7 ?hF7 (by kernel_rfl) (by kernel_rfl) (jc (Below.refl _ _)) ?step7 ?fin7
  case hF7 =>
   intro x
   simp only [List.map_cons,List.map_nil,vb,Act.put,List.setIfInBounds_toArray,List.set_cons_zero,List.set_cons_succ,Nat.zero_add,Nat.reduceAdd]
   exact rfl
  case step7 =>
   refine ⟨?_,?_,?_,?_,?_,?_,?_,trivial⟩
   all_goals intro x W hW hdep K hK
   ·
    clear hdep
    go_simp
    exact hK _ _ rfl hW (fun _ _ h=>h)
   ·
    have h0:x 0=_:=hdep 0 rfl
    clear hdep
    simp only [h0] at hK
    go_simp
    refine (HDA.out W hW).mono ?_
    rintro e W' ⟨v,rfl,ho,_,hb⟩
    exact hK _ _ (Rd.of_own ho) (zo hW hb) (fun j z h=>YV7_keep hb j z h)
   ·
    have r1:Rd W (x 1) bs:=hdep 1 rfl
    obtain ⟨A1,c1,e1⟩:=r1.shape
    rw [e1] at r1
    have hs:=r1.string (P:=Tryz.prog) (src:=62) (dst:=9) Tryz.underlying62 Tryz.underlying5 Tryz.underlying9
    clear hdep
    simp only [e1] at hK
    go_simp
    exact hK _ _ rfl hW (fun _ _ h=>h)
   ·
    clear hdep
    go_simp
    exact hK _ _ rfl hW (fun _ _ h=>h)
   ·
    have h3:x 3=_:=hdep 3 rfl
    clear hdep
    simp only [h3] at hK
    go_simp
    refine (HVA.out W hW).mono ?_
    rintro e W' ⟨rfl,hb⟩
    exact hK _ _ rfl (zo hW hb) (fun j z h=>YV7_keep hb j z h)
   ·
    have h2:x 2=_:=hdep 2 rfl
    clear hdep
    simp only [h2] at hK
    go_simp
    exact hK _ _ rfl hW (fun _ _ h=>h)
   ·
    have h4:x 4=_:=hdep 4 rfl
    clear hdep
    simp only [h4] at hK
    go_simp
    exact hK _ _ rfl hW (fun _ _ h=>h)
  case fin7 =>
  intro x W hW hY
  have h5:x 5=.string ⟨bs.toArray⟩:=hY 5 (by decide)
  have h6:x 6=.int .i64 (ver:Nat):=hY 6 (by decide)
  have h3:x 3=.pointer (some ⟨H,0,none⟩):=hY 3 (by decide)
  have HSb:=za (HSa.out.later hW)
  have HRb:=za (HRa.out.below hW)
  have y0:=HRb.out.c0
  have y1:=HRb.out.c1
  have y2:=HRb.out.c2
  have y3:=HRb.out.c3
  have y4:=HRb.out.c4
  have y5:=HRb.out.c5
  have y6:=HRb.out.c6

  clear hY hW HSa HRa HDA HVA
  rw [h5,h6]
  go_wp2_with fail
  with_reducible refine (HAP.out _ _ HSb.out).mono ?_
  rintro e w5 ⟨A5,m5,F5,rfl,hs,ht⟩
  have HRc:=za (HRb.out.turns ht HNa.out)
  have HSd:=za (hs.later (ze (Below.refl _ w5) (.cells #[.int .i64 (yW s t.cl t.n t.o),.slice A5 (xQ s t.cl t.n t.o).length m5] 56)))
  have HRd:=za (HRc.out.below (ze (Below.refl _ w5) (.cells #[.int .i64 (yW s t.cl t.n t.o),.slice A5 (xQ s t.cl t.n t.o).length m5] 56)))
  have hxn:(w5.alloc (.cells #[.int .i64 (yW s t.cl t.n t.o),.slice A5 (xQ s t.cl t.n t.o).length m5] 56)).heap[w5.heap.size]? = some (.cells #[.int .i64 (yW s t.cl t.n t.o),.slice A5 (xQ s t.cl t.n t.o).length m5] 56 (0,0)):=heap_alloc_new w5 _
  have HXd:Hid (∀ W,Below (w5.alloc (.cells #[.int .i64 (yW s t.cl t.n t.o),.slice A5 (xQ s t.cl t.n t.o).length m5] 56)).heap.size (w5.alloc (.cells #[.int .i64 (yW s t.cl t.n t.o),.slice A5 (xQ s t.cl t.n t.o).length m5] 56)) W→W.heap[w5.heap.size]? = some (.cells #[.int .i64 (yW s t.cl t.n t.o),.slice A5 (xQ s t.cl t.n t.o).length m5] 56 (0,0))):=fun W hW=>(hW.block _ (Array.getElem?_eq_some_iff.1 hxn).1).trans hxn
  clear hs ht HSb HRb HRc hxn HNa HAP y0 y1 y2 y3 y4 y5 y6
  generalize yW s t.cl t.n t.o=er at *
  generalize (xQ s t.cl t.n t.o).length=m at *
  generalize xg s t.cl t.n t.o=q at *
  generalize vY t.o=ck at *
  generalize yV s t.cl t.n t.o=s2 at *
  generalize hX1:w5.heap.size=X1 at *
  by_cases her:er=0
  ·
   subst her
   clear HER HD2
   cases q with
   | false =>
    go_wp2
    have HS8:=za HSd.out
    have HB8:=za HS8.out.bel
    have HR8:=za HRd.out
    have HX8:Hid (∀ W,Below (w5.alloc (.cells #[.int .i64 0,.slice A5 m m5] 56)).heap.size (w5.alloc (.cells #[.int .i64 0,.slice A5 m m5] 56)) W→W.cell? ⟨X1,0,none⟩=some (.int .i64 0)):=fun W hW=>by rw [cell_of_row _ X1 0 _ _ (0,0) (HXd.out _ hW)]; rfl
    clear HSd HRd HXd
    generalize w5.alloc (.cells #[.int .i64 0,.slice A5 m m5] 56)=w8 at *
    refine yY (by kernel_rfl) (fun W=>Below w8.heap.size w8 W) (fun j v _=>YVa D X1 t ck 0 fr ver z j v) ?F11xa ?hF11xa (by kernel_rfl) (by kernel_rfl) (jc (Below.refl _ _)) ?step11xa ?fin11xa
    case hF11xa =>
     intro x
     simp only [List.map_cons,List.map_nil,vb,Act.put,List.setIfInBounds_toArray,List.set_cons_zero,List.set_cons_succ,Nat.zero_add,Nat.reduceAdd]
     exact rfl
    case step11xa =>
     refine ⟨?_,?_,?_,?_,?_,?_,?_,?_,?_,?_,?_,?_,?_,?_,?_,?_,?_,?_,?_,?_,trivial⟩
     all_goals intro x W hW hdep K hK
     ·
      clear hdep
      go_simp
      exact hK _ _ rfl hW (fun _ _ h=>h)
     ·
      have h0:x 0=_:=hdep 0 rfl
      clear hdep
      simp only [h0] at hK
      go_simp
      exact hK _ _ rfl hW (fun _ _ h=>h)
     ·
      have h1:x 1=_:=hdep 1 rfl
      clear hdep
      simp only [h1] at hK
      go_simp
      exact hK _ _ trivial hW (fun _ _ h=>h)
     ·
      have h1:x 1=_:=hdep 1 rfl
      clear hdep
      simp only [h1] at hK
      go_simp
      exact hK _ _ trivial hW (fun _ _ h=>h)
     ·
      have h1:x 1=_:=hdep 1 rfl
      clear hdep
      simp only [h1] at hK
      go_simp
      exact hK _ _ trivial hW (fun _ _ h=>h)
     ·
      have h1:x 1=_:=hdep 1 rfl
      clear hdep
      simp only [h1] at hK
      go_simp
      exact hK _ _ trivial hW (fun _ _ h=>h)
     ·
      have h1:x 1=_:=hdep 1 rfl
      clear hdep
      simp only [h1] at hK
      go_simp
      exact hK _ _ rfl hW (fun _ _ h=>h)
     ·
      have h6:x 6=_:=hdep 6 rfl
      clear hdep
      simp only [h6] at hK
      go_simp
      exact hK _ _ rfl hW (fun _ _ h=>h)
     ·
      have h7:x 7=_:=hdep 7 rfl
      clear hdep
      simp only [h7] at hK
      go_simp
      exact hK _ _ trivial hW (fun _ _ h=>h)
     ·
      have h7:x 7=_:=hdep 7 rfl
      clear hdep
      simp only [h7] at hK
      go_simp
      exact hK _ _ trivial hW (fun _ _ h=>h)
     ·
      have h7:x 7=_:=hdep 7 rfl
      clear hdep
      simp only [h7] at hK
      go_simp
      exact hK _ _ trivial hW (fun _ _ h=>h)
     ·
      have h7:x 7=_:=hdep 7 rfl
      clear hdep
      simp only [h7] at hK
      go_simp
      exact hK _ _ trivial hW (fun _ _ h=>h)
     ·
      have h7:x 7=_:=hdep 7 rfl
      clear hdep
      simp only [h7] at hK
      go_simp
      exact hK _ _ trivial hW (fun _ _ h=>h)
     ·
      have h7:x 7=_:=hdep 7 rfl
      clear hdep
      simp only [h7] at hK
      go_simp
      exact hK _ _ trivial hW (fun _ _ h=>h)
     ·
      have h7:x 7=_:=hdep 7 rfl
      clear hdep
      simp only [h7] at hK
      go_simp
      exact hK _ _ trivial hW (fun _ _ h=>h)
     ·
      have h7:x 7=_:=hdep 7 rfl
      clear hdep
      simp only [h7] at hK
      go_simp
      exact hK _ _ trivial hW (fun _ _ h=>h)
     ·
      have h7:x 7=_:=hdep 7 rfl
      clear hdep
      simp only [h7] at hK
      go_simp
      exact hK _ _ trivial hW (fun _ _ h=>h)
     ·
      have h7:x 7=_:=hdep 7 rfl
      clear hdep
      simp only [h7] at hK
      go_simp
      exact hK _ _ trivial hW (fun _ _ h=>h)
     ·
      have h7:x 7=_:=hdep 7 rfl
      clear hdep
      simp only [h7] at hK
      go_simp
      exact hK _ _ trivial hW (fun _ _ h=>h)
     ·
      have h7:x 7=_:=hdep 7 rfl
      clear hdep
      simp only [h7] at hK
      go_simp
      exact hK _ _ rfl hW (fun _ _ h=>h)
    case fin11xa =>
     intro x W hW hY
     have h19:x 19=.bool false:=hY 19 (by decide)
     have HSW:=za (HS8.out.later hW)
     clear hY hW
     rw [h19]
     go_wp2
     go_roundg (n - (k+1))
     case measure=>omega
     case rel=>exact ⟨k+1,by omega,by omega,by go_num,_,_,HSW.out⟩

   | true =>
    rcases HCC.out with hc | hc
    ·
     have hz:=HZ.out rfl hc
     have hcb:(ck == 0)=true:=by rw [hc]; rfl
     have HZZ:=za hz
     clear hc hz
     have z1:((0:Int) == 6)=z:=HZZ.out
     have z2:decide (fr > (ver:Int))=z:=HZD.out
     have z3:decide ((ver:Int)<fr)=z:=HZD.out
     have z4:(z != z)=false:=by cases z <;> rfl
     go_wp2
     have HS8:=za HSd.out
     have HB8:=za HS8.out.bel
     have HR8:=za HRd.out
     have HX8:Hid (∀ W,Below (w5.alloc (.cells #[.int .i64 0,.slice A5 m m5] 56)).heap.size (w5.alloc (.cells #[.int .i64 0,.slice A5 m m5] 56)) W→W.cell? ⟨X1,0,none⟩=some (.int .i64 0)):=fun W hW=>by rw [cell_of_row _ X1 0 _ _ (0,0) (HXd.out _ hW)]; rfl
     clear HSd HRd HXd
     generalize w5.alloc (.cells #[.int .i64 0,.slice A5 m m5] 56)=w8 at *
     refine yY (by kernel_rfl) (fun W=>Below w8.heap.size w8 W) (fun j v _=>YVc D X1 t ck 0 fr ver z j v) ?F11xc ?hF11xc (by kernel_rfl) (by kernel_rfl) (jc (Below.refl _ _)) ?step11xc ?fin11xc
     case hF11xc =>
      intro x
      simp only [List.map_cons,List.map_nil,vb,Act.put,List.setIfInBounds_toArray,List.set_cons_zero,List.set_cons_succ,Nat.zero_add,Nat.reduceAdd]
      exact rfl
     case step11xc =>
      refine ⟨?_,?_,?_,?_,?_,?_,?_,?_,?_,?_,?_,?_,?_,?_,?_,?_,?_,?_,?_,?_,trivial⟩
      all_goals intro x W hW hdep K hK
      ·
       clear hdep
       go_simp
       exact hK _ _ rfl hW (fun _ _ h=>h)
      ·
       have h0:x 0=_:=hdep 0 rfl
       clear hdep
       simp only [h0] at hK
       go_simp
       exact hK _ _ rfl hW (fun _ _ h=>h)
      ·
       have h1:x 1=_:=hdep 1 rfl
       clear hdep
       simp only [h1] at hK
       go_simp
       exact hK _ _ rfl hW (fun _ _ h=>h)
      ·
       have h1:x 1=_:=hdep 1 rfl
       have h2:x 2=_:=hdep 2 rfl
       have hro:=HR8.out.below hW
       have y2:=hro.c2
       have y3:=hro.c3
       have y4:=hro.c4
       have y5:=hro.c5
       have y6:=hro.c6
       clear hdep
       simp only [h1,h2] at hK
       go_simp
       exact hK _ _ rfl hW (fun _ _ h=>h)
      ·
       have h1:x 1=_:=hdep 1 rfl
       have h3:x 3=_:=hdep 3 rfl
       clear hdep
       simp only [h1,h3] at hK
       go_simp
       refine (HCK.out W (zo HB8.out hW)).mono ?_
       rintro e W' ⟨rfl,hb⟩
       exact hK _ _ rfl (zo hW hb) (fun _ _ h=>h)
      ·
       have h1:x 1=_:=hdep 1 rfl
       have h4:x 4=_:=hdep 4 rfl
       clear hdep
       simp only [h1,h4] at hK
       go_simp
       exact hK _ _ rfl hW (fun _ _ h=>h)
      ·
       have h1:x 1=_:=hdep 1 rfl
       have h5:x 5=_:=hdep 5 rfl
       clear hdep
       simp only [h1,h5] at hK
       go_simp
       exact hK _ _ rfl hW (fun _ _ h=>h)
      ·
       have h6:x 6=_:=hdep 6 rfl
       clear hdep
       simp only [h6] at hK
       go_simp
       exact hK _ _ rfl hW (fun _ _ h=>h)
      ·
       have h7:x 7=_:=hdep 7 rfl
       clear hdep
       simp only [h7] at hK
       go_simp
       exact hK _ _ rfl hW (fun _ _ h=>h)
      ·
       have h7:x 7=_:=hdep 7 rfl
       have h8:x 8=_:=hdep 8 rfl
       have hx:=HX8.out W hW
       clear hdep
       simp only [h7,h8] at hK
       go_simp
       exact hK _ _ rfl hW (fun _ _ h=>h)
      ·
       have h7:x 7=_:=hdep 7 rfl
       have h9:x 9=_:=hdep 9 rfl
       clear hdep
       simp only [h7,h9] at hK
       go_simp
       exact hK _ _ rfl hW (fun _ _ h=>h)
      ·
       have h7:x 7=_:=hdep 7 rfl
       clear hdep
       simp only [h7] at hK
       go_simp
       exact hK _ _ rfl hW (fun _ _ h=>h)
      ·
       have h7:x 7=_:=hdep 7 rfl
       have h11:x 11=_:=hdep 11 rfl
       clear hdep
       simp only [h7,h11] at hK
       go_simp
       exact hK _ _ rfl hW (fun _ _ h=>h)
      ·
       have h7:x 7=_:=hdep 7 rfl
       have h12:x 12=_:=hdep 12 rfl
       have hro:=HR8.out.below hW
       have y2:=hro.c2
       clear hdep
       simp only [h7,h12] at hK
       go_simp
       exact hK _ _ rfl hW (fun _ _ h=>h)
      ·
       have h7:x 7=_:=hdep 7 rfl
       have h13:x 13=_:=hdep 13 rfl
       clear hdep
       simp only [h7,h13] at hK
       go_simp
       exact hK _ _ rfl hW (fun _ _ h=>h)
      ·
       have h7:x 7=_:=hdep 7 rfl
       have h14:x 14=_:=hdep 14 rfl
       clear hdep
       simp only [h7,h14] at hK
       go_simp
       refine (HFR.out W (zo HB8.out hW)).mono ?_
       rintro e W' ⟨rfl,hb⟩
       exact hK _ _ rfl (zo hW hb) (fun _ _ h=>h)
      ·
       have h7:x 7=_:=hdep 7 rfl
       clear hdep
       simp only [h7] at hK
       go_simp
       exact hK _ _ rfl hW (fun _ _ h=>h)
      ·
       have h7:x 7=_:=hdep 7 rfl
       have h15:x 15=_:=hdep 15 rfl
       have h16:x 16=_:=hdep 16 rfl
       clear hdep
       simp only [h7,h15,h16] at hK
       go_simp
       exact hK _ _ rfl hW (fun _ _ h=>h)
      ·
       have h7:x 7=_:=hdep 7 rfl
       have h10:x 10=_:=hdep 10 rfl
       have h17:x 17=_:=hdep 17 rfl
       clear hdep
       simp only [h7,h10,h17] at hK
       go_simp
       exact hK _ _ rfl hW (fun _ _ h=>h)
      ·
       have h7:x 7=_:=hdep 7 rfl
       have h18:x 18=_:=hdep 18 rfl
       clear hdep
       simp only [h7,h18] at hK
       go_simp
       exact hK _ _ rfl hW (fun _ _ h=>h)
     case fin11xc =>
      intro x W hW hY
      have h19:x 19=.bool false:=hY 19 (by decide)
      have HSW:=za (HS8.out.later hW)
      clear hY hW
      rw [h19]
      go_wp2
      go_roundg (n - (k+1))
      case measure=>omega
      case rel=>exact ⟨k+1,by omega,by omega,by go_num,_,_,HSW.out⟩

    ·
     have hcb:(ck == 0)=false:=by simpa using hc
     clear hc
     go_wp2
     have HS8:=za HSd.out
     have HB8:=za HS8.out.bel
     have HR8:=za HRd.out
     have HX8:Hid (∀ W,Below (w5.alloc (.cells #[.int .i64 0,.slice A5 m m5] 56)).heap.size (w5.alloc (.cells #[.int .i64 0,.slice A5 m m5] 56)) W→W.cell? ⟨X1,0,none⟩=some (.int .i64 0)):=fun W hW=>by rw [cell_of_row _ X1 0 _ _ (0,0) (HXd.out _ hW)]; rfl
     clear HSd HRd HXd
     generalize w5.alloc (.cells #[.int .i64 0,.slice A5 m m5] 56)=w8 at *
     refine yY (by kernel_rfl) (fun W=>Below w8.heap.size w8 W) (fun j v _=>YVb D X1 t ck 0 fr ver z j v) ?F11xb ?hF11xb (by kernel_rfl) (by kernel_rfl) (jc (Below.refl _ _)) ?step11xb ?fin11xb
     case hF11xb =>
      intro x
      simp only [List.map_cons,List.map_nil,vb,Act.put,List.setIfInBounds_toArray,List.set_cons_zero,List.set_cons_succ,Nat.zero_add,Nat.reduceAdd]
      exact rfl
     case step11xb =>
      refine ⟨?_,?_,?_,?_,?_,?_,?_,?_,?_,?_,?_,?_,?_,?_,?_,?_,?_,?_,?_,?_,trivial⟩
      all_goals intro x W hW hdep K hK
      ·
       clear hdep
       go_simp
       exact hK _ _ rfl hW (fun _ _ h=>h)
      ·
       have h0:x 0=_:=hdep 0 rfl
       clear hdep
       simp only [h0] at hK
       go_simp
       exact hK _ _ rfl hW (fun _ _ h=>h)
      ·
       have h1:x 1=_:=hdep 1 rfl
       clear hdep
       simp only [h1] at hK
       go_simp
       exact hK _ _ rfl hW (fun _ _ h=>h)
      ·
       have h1:x 1=_:=hdep 1 rfl
       have h2:x 2=_:=hdep 2 rfl
       have hro:=HR8.out.below hW
       have y2:=hro.c2
       have y3:=hro.c3
       have y4:=hro.c4
       have y5:=hro.c5
       have y6:=hro.c6
       clear hdep
       simp only [h1,h2] at hK
       go_simp
       exact hK _ _ rfl hW (fun _ _ h=>h)
      ·
       have h1:x 1=_:=hdep 1 rfl
       have h3:x 3=_:=hdep 3 rfl
       clear hdep
       simp only [h1,h3] at hK
       go_simp
       refine (HCK.out W (zo HB8.out hW)).mono ?_
       rintro e W' ⟨rfl,hb⟩
       exact hK _ _ rfl (zo hW hb) (fun _ _ h=>h)
      ·
       have h1:x 1=_:=hdep 1 rfl
       have h4:x 4=_:=hdep 4 rfl
       clear hdep
       simp only [h1,h4] at hK
       go_simp
       exact hK _ _ rfl hW (fun _ _ h=>h)
      ·
       have h1:x 1=_:=hdep 1 rfl
       have h5:x 5=_:=hdep 5 rfl
       clear hdep
       simp only [h1,h5] at hK
       go_simp
       exact hK _ _ rfl hW (fun _ _ h=>h)
      ·
       have h6:x 6=_:=hdep 6 rfl
       clear hdep
       simp only [h6] at hK
       go_simp
       exact hK _ _ rfl hW (fun _ _ h=>h)
      ·
       have h7:x 7=_:=hdep 7 rfl
       clear hdep
       simp only [h7] at hK
       go_simp
       exact hK _ _ trivial hW (fun _ _ h=>h)
      ·
       have h7:x 7=_:=hdep 7 rfl
       clear hdep
       simp only [h7] at hK
       go_simp
       exact hK _ _ trivial hW (fun _ _ h=>h)
      ·
       have h7:x 7=_:=hdep 7 rfl
       clear hdep
       simp only [h7] at hK
       go_simp
       exact hK _ _ trivial hW (fun _ _ h=>h)
      ·
       have h7:x 7=_:=hdep 7 rfl
       clear hdep
       simp only [h7] at hK
       go_simp
       exact hK _ _ trivial hW (fun _ _ h=>h)
      ·
       have h7:x 7=_:=hdep 7 rfl
       clear hdep
       simp only [h7] at hK
       go_simp
       exact hK _ _ trivial hW (fun _ _ h=>h)
      ·
       have h7:x 7=_:=hdep 7 rfl
       clear hdep
       simp only [h7] at hK
       go_simp
       exact hK _ _ trivial hW (fun _ _ h=>h)
      ·
       have h7:x 7=_:=hdep 7 rfl
       clear hdep
       simp only [h7] at hK
       go_simp
       exact hK _ _ trivial hW (fun _ _ h=>h)
      ·
       have h7:x 7=_:=hdep 7 rfl
       clear hdep
       simp only [h7] at hK
       go_simp
       exact hK _ _ trivial hW (fun _ _ h=>h)
      ·
       have h7:x 7=_:=hdep 7 rfl
       clear hdep
       simp only [h7] at hK
       go_simp
       exact hK _ _ trivial hW (fun _ _ h=>h)
      ·
       have h7:x 7=_:=hdep 7 rfl
       clear hdep
       simp only [h7] at hK
       go_simp
       exact hK _ _ trivial hW (fun _ _ h=>h)
      ·
       have h7:x 7=_:=hdep 7 rfl
       clear hdep
       simp only [h7] at hK
       go_simp
       exact hK _ _ trivial hW (fun _ _ h=>h)
      ·
       have h7:x 7=_:=hdep 7 rfl
       clear hdep
       simp only [h7] at hK
       go_simp
       exact hK _ _ rfl hW (fun _ _ h=>h)
     case fin11xb =>
      intro x W hW hY
      have h19:x 19=.bool false:=hY 19 (by decide)
      have HSW:=za (HS8.out.later hW)
      clear hY hW
      rw [h19]
      go_wp2
      go_roundg (n - (k+1))
      case measure=>omega
      case rel=>exact ⟨k+1,by omega,by omega,by go_num,_,_,HSW.out⟩

  ·
   have her0:(er != 0)=true:=by simpa using her
   obtain ⟨hd,hm0⟩:=HER.out her
   have HD3:=za (HD2.out _ _ _ HSd.out hd)
   have xa0:(w5.alloc (.cells #[.int .i64 er,.slice A5 m m5] 56)).cell? ⟨X1,0,none⟩=some (.int .i64 er):=by rw [cell_of_row _ X1 0 _ _ (0,0) (HXd.out _ (Below.refl _ _))]; rfl
   have hbb:((⟨bs.toArray⟩:ByteArray).toList != (⟨bs.toArray⟩:ByteArray).toList)=false:=by simp
   clear HER HD2 hd her
   subst hm0
   go_wp2_with fail
   with_reducible refine HD3.out.mono ?_
   rintro e w8 ⟨v8,rfl,ho,_,hb⟩
   obtain ⟨A8,c8,e8⟩:=(Rd.of_own ho).shape
   have hr8:=Rd.of_own ho
   rw [e8] at hr8
   have hstr:=hr8.string (P:=Tryz.prog) (src:=62) (dst:=9) Tryz.underlying62 Tryz.underlying5 Tryz.underlying9
   subst e8
   have HS8:=za (HSd.out.later hb)
   have HB8:=za HS8.out.bel
   have HR8:=za (HRd.out.below hb)
   have xb0:w8.cell? ⟨X1,1,none⟩=some (.slice A5 0 m5):=by rw [cell_of_row _ X1 1 _ _ (0,0) (HXd.out _ hb)]; rfl
   have HX8:Hid (∀ W,Below w8.heap.size w8 W→W.cell? ⟨X1,0,none⟩=some (.int .i64 er)):=fun W hW=>by rw [cell_of_row _ X1 0 _ _ (0,0) (HXd.out _ (zo hb hW))]; rfl
   clear hb ho hr8 HSd HRd HXd HD3 xa0
   cases q with
   | false =>
    go_wp2
    refine yY (by kernel_rfl) (fun W=>Below w8.heap.size w8 W) (fun j v _=>YVa D X1 t ck er fr ver z j v) ?F11ya ?hF11ya (by kernel_rfl) (by kernel_rfl) (jc (Below.refl _ _)) ?step11ya ?fin11ya
    case hF11ya =>
     intro x
     simp only [List.map_cons,List.map_nil,vb,Act.put,List.setIfInBounds_toArray,List.set_cons_zero,List.set_cons_succ,Nat.zero_add,Nat.reduceAdd]
     exact rfl
    case step11ya =>
     refine ⟨?_,?_,?_,?_,?_,?_,?_,?_,?_,?_,?_,?_,?_,?_,?_,?_,?_,?_,?_,?_,trivial⟩
     all_goals intro x W hW hdep K hK
     ·
      clear hdep
      go_simp
      exact hK _ _ rfl hW (fun _ _ h=>h)
     ·
      have h0:x 0=_:=hdep 0 rfl
      clear hdep
      simp only [h0] at hK
      go_simp
      exact hK _ _ rfl hW (fun _ _ h=>h)
     ·
      have h1:x 1=_:=hdep 1 rfl
      clear hdep
      simp only [h1] at hK
      go_simp
      exact hK _ _ trivial hW (fun _ _ h=>h)
     ·
      have h1:x 1=_:=hdep 1 rfl
      clear hdep
      simp only [h1] at hK
      go_simp
      exact hK _ _ trivial hW (fun _ _ h=>h)
     ·
      have h1:x 1=_:=hdep 1 rfl
      clear hdep
      simp only [h1] at hK
      go_simp
      exact hK _ _ trivial hW (fun _ _ h=>h)
     ·
      have h1:x 1=_:=hdep 1 rfl
      clear hdep
      simp only [h1] at hK
      go_simp
      exact hK _ _ trivial hW (fun _ _ h=>h)
     ·
      have h1:x 1=_:=hdep 1 rfl
      clear hdep
      simp only [h1] at hK
      go_simp
      exact hK _ _ rfl hW (fun _ _ h=>h)
     ·
      have h6:x 6=_:=hdep 6 rfl
      clear hdep
      simp only [h6] at hK
      go_simp
      exact hK _ _ rfl hW (fun _ _ h=>h)
     ·
      have h7:x 7=_:=hdep 7 rfl
      clear hdep
      simp only [h7] at hK
      go_simp
      exact hK _ _ trivial hW (fun _ _ h=>h)
     ·
      have h7:x 7=_:=hdep 7 rfl
      clear hdep
      simp only [h7] at hK
      go_simp
      exact hK _ _ trivial hW (fun _ _ h=>h)
     ·
      have h7:x 7=_:=hdep 7 rfl
      clear hdep
      simp only [h7] at hK
      go_simp
      exact hK _ _ trivial hW (fun _ _ h=>h)
     ·
      have h7:x 7=_:=hdep 7 rfl
      clear hdep
      simp only [h7] at hK
      go_simp
      exact hK _ _ trivial hW (fun _ _ h=>h)
     ·
      have h7:x 7=_:=hdep 7 rfl
      clear hdep
      simp only [h7] at hK
      go_simp
      exact hK _ _ trivial hW (fun _ _ h=>h)
     ·
      have h7:x 7=_:=hdep 7 rfl
      clear hdep
      simp only [h7] at hK
      go_simp
      exact hK _ _ trivial hW (fun _ _ h=>h)
     ·
      have h7:x 7=_:=hdep 7 rfl
      clear hdep
      simp only [h7] at hK
      go_simp
      exact hK _ _ trivial hW (fun _ _ h=>h)
     ·
      have h7:x 7=_:=hdep 7 rfl
      clear hdep
      simp only [h7] at hK
      go_simp
      exact hK _ _ trivial hW (fun _ _ h=>h)
     ·
      have h7:x 7=_:=hdep 7 rfl
      clear hdep
      simp only [h7] at hK
      go_simp
      exact hK _ _ trivial hW (fun _ _ h=>h)
     ·
      have h7:x 7=_:=hdep 7 rfl
      clear hdep
      simp only [h7] at hK
      go_simp
      exact hK _ _ trivial hW (fun _ _ h=>h)
     ·
      have h7:x 7=_:=hdep 7 rfl
      clear hdep
      simp only [h7] at hK
      go_simp
      exact hK _ _ trivial hW (fun _ _ h=>h)
     ·
      have h7:x 7=_:=hdep 7 rfl
      clear hdep
      simp only [h7] at hK
      go_simp
      exact hK _ _ rfl hW (fun _ _ h=>h)
    case fin11ya =>
     intro x W hW hY
     have h19:x 19=.bool false:=hY 19 (by decide)
     have HSW:=za (HS8.out.later hW)
     clear hY hW
     rw [h19]
     go_wp2
     go_roundg (n - (k+1))
     case measure=>omega
     case rel=>exact ⟨k+1,by omega,by omega,by go_num,_,_,HSW.out⟩

   | true =>
    rcases HCC.out with hc | hc
    ·
     have hz:=HZ.out rfl hc
     have hcb:(ck == 0)=true:=by rw [hc]; rfl
     have HZZ:=za hz
     clear hc hz
     have z1:(er == 6)=z:=HZZ.out
     have z2:decide (fr > (ver:Int))=z:=HZD.out
     have z3:decide ((ver:Int)<fr)=z:=HZD.out
     have z4:(z != z)=false:=by cases z <;> rfl
     go_wp2
     refine yY (by kernel_rfl) (fun W=>Below w8.heap.size w8 W) (fun j v _=>YVc D X1 t ck er fr ver z j v) ?F11yc ?hF11yc (by kernel_rfl) (by kernel_rfl) (jc (Below.refl _ _)) ?step11yc ?fin11yc
     case hF11yc =>
      intro x
      simp only [List.map_cons,List.map_nil,vb,Act.put,List.setIfInBounds_toArray,List.set_cons_zero,List.set_cons_succ,Nat.zero_add,Nat.reduceAdd]
      exact rfl
     case step11yc =>
      refine ⟨?_,?_,?_,?_,?_,?_,?_,?_,?_,?_,?_,?_,?_,?_,?_,?_,?_,?_,?_,?_,trivial⟩
      all_goals intro x W hW hdep K hK
      ·
       clear hdep
       go_simp
       exact hK _ _ rfl hW (fun _ _ h=>h)
      ·
       have h0:x 0=_:=hdep 0 rfl
       clear hdep
       simp only [h0] at hK
       go_simp
       exact hK _ _ rfl hW (fun _ _ h=>h)
      ·
       have h1:x 1=_:=hdep 1 rfl
       clear hdep
       simp only [h1] at hK
       go_simp
       exact hK _ _ rfl hW (fun _ _ h=>h)
      ·
       have h1:x 1=_:=hdep 1 rfl
       have h2:x 2=_:=hdep 2 rfl
       have hro:=HR8.out.below hW
       have y2:=hro.c2
       have y3:=hro.c3
       have y4:=hro.c4
       have y5:=hro.c5
       have y6:=hro.c6
       clear hdep
       simp only [h1,h2] at hK
       go_simp
       exact hK _ _ rfl hW (fun _ _ h=>h)
      ·
       have h1:x 1=_:=hdep 1 rfl
       have h3:x 3=_:=hdep 3 rfl
       clear hdep
       simp only [h1,h3] at hK
       go_simp
       refine (HCK.out W (zo HB8.out hW)).mono ?_
       rintro e W' ⟨rfl,hb⟩
       exact hK _ _ rfl (zo hW hb) (fun _ _ h=>h)
      ·
       have h1:x 1=_:=hdep 1 rfl
       have h4:x 4=_:=hdep 4 rfl
       clear hdep
       simp only [h1,h4] at hK
       go_simp
       exact hK _ _ rfl hW (fun _ _ h=>h)
      ·
       have h1:x 1=_:=hdep 1 rfl
       have h5:x 5=_:=hdep 5 rfl
       clear hdep
       simp only [h1,h5] at hK
       go_simp
       exact hK _ _ rfl hW (fun _ _ h=>h)
      ·
       have h6:x 6=_:=hdep 6 rfl
       clear hdep
       simp only [h6] at hK
       go_simp
       exact hK _ _ rfl hW (fun _ _ h=>h)
      ·
       have h7:x 7=_:=hdep 7 rfl
       clear hdep
       simp only [h7] at hK
       go_simp
       exact hK _ _ rfl hW (fun _ _ h=>h)
      ·
       have h7:x 7=_:=hdep 7 rfl
       have h8:x 8=_:=hdep 8 rfl
       have hx:=HX8.out W hW
       clear hdep
       simp only [h7,h8] at hK
       go_simp
       exact hK _ _ rfl hW (fun _ _ h=>h)
      ·
       have h7:x 7=_:=hdep 7 rfl
       have h9:x 9=_:=hdep 9 rfl
       clear hdep
       simp only [h7,h9] at hK
       go_simp
       exact hK _ _ rfl hW (fun _ _ h=>h)
      ·
       have h7:x 7=_:=hdep 7 rfl
       clear hdep
       simp only [h7] at hK
       go_simp
       exact hK _ _ rfl hW (fun _ _ h=>h)
      ·
       have h7:x 7=_:=hdep 7 rfl
       have h11:x 11=_:=hdep 11 rfl
       clear hdep
       simp only [h7,h11] at hK
       go_simp
       exact hK _ _ rfl hW (fun _ _ h=>h)
      ·
       have h7:x 7=_:=hdep 7 rfl
       have h12:x 12=_:=hdep 12 rfl
       have hro:=HR8.out.below hW
       have y2:=hro.c2
       clear hdep
       simp only [h7,h12] at hK
       go_simp
       exact hK _ _ rfl hW (fun _ _ h=>h)
      ·
       have h7:x 7=_:=hdep 7 rfl
       have h13:x 13=_:=hdep 13 rfl
       clear hdep
       simp only [h7,h13] at hK
       go_simp
       exact hK _ _ rfl hW (fun _ _ h=>h)
      ·
       have h7:x 7=_:=hdep 7 rfl
       have h14:x 14=_:=hdep 14 rfl
       clear hdep
       simp only [h7,h14] at hK
       go_simp
       refine (HFR.out W (zo HB8.out hW)).mono ?_
       rintro e W' ⟨rfl,hb⟩
       exact hK _ _ rfl (zo hW hb) (fun _ _ h=>h)
      ·
       have h7:x 7=_:=hdep 7 rfl
       clear hdep
       simp only [h7] at hK
       go_simp
       exact hK _ _ rfl hW (fun _ _ h=>h)
      ·
       have h7:x 7=_:=hdep 7 rfl
       have h15:x 15=_:=hdep 15 rfl
       have h16:x 16=_:=hdep 16 rfl
       clear hdep
       simp only [h7,h15,h16] at hK
       go_simp
       exact hK _ _ rfl hW (fun _ _ h=>h)
      ·
       have h7:x 7=_:=hdep 7 rfl
       have h10:x 10=_:=hdep 10 rfl
       have h17:x 17=_:=hdep 17 rfl
       clear hdep
       simp only [h7,h10,h17] at hK
       go_simp
       exact hK _ _ rfl hW (fun _ _ h=>h)
      ·
       have h7:x 7=_:=hdep 7 rfl
       have h18:x 18=_:=hdep 18 rfl
       clear hdep
       simp only [h7,h18] at hK
       go_simp
       exact hK _ _ rfl hW (fun _ _ h=>h)
     case fin11yc =>
      intro x W hW hY
      have h19:x 19=.bool false:=hY 19 (by decide)
      have HSW:=za (HS8.out.later hW)
      clear hY hW
      rw [h19]
      go_wp2
      go_roundg (n - (k+1))
      case measure=>omega
      case rel=>exact ⟨k+1,by omega,by omega,by go_num,_,_,HSW.out⟩

    ·
     have hcb:(ck == 0)=false:=by simpa using hc
     clear hc
     go_wp2
     refine yY (by kernel_rfl) (fun W=>Below w8.heap.size w8 W) (fun j v _=>YVb D X1 t ck er fr ver z j v) ?F11yb ?hF11yb (by kernel_rfl) (by kernel_rfl) (jc (Below.refl _ _)) ?step11yb ?fin11yb
     case hF11yb =>
      intro x
      simp only [List.map_cons,List.map_nil,vb,Act.put,List.setIfInBounds_toArray,List.set_cons_zero,List.set_cons_succ,Nat.zero_add,Nat.reduceAdd]
      exact rfl
     case step11yb =>
      refine ⟨?_,?_,?_,?_,?_,?_,?_,?_,?_,?_,?_,?_,?_,?_,?_,?_,?_,?_,?_,?_,trivial⟩
      all_goals intro x W hW hdep K hK
      ·
       clear hdep
       go_simp
       exact hK _ _ rfl hW (fun _ _ h=>h)
      ·
       have h0:x 0=_:=hdep 0 rfl
       clear hdep
       simp only [h0] at hK
       go_simp
       exact hK _ _ rfl hW (fun _ _ h=>h)
      ·
       have h1:x 1=_:=hdep 1 rfl
       clear hdep
       simp only [h1] at hK
       go_simp
       exact hK _ _ rfl hW (fun _ _ h=>h)
      ·
       have h1:x 1=_:=hdep 1 rfl
       have h2:x 2=_:=hdep 2 rfl
       have hro:=HR8.out.below hW
       have y2:=hro.c2
       have y3:=hro.c3
       have y4:=hro.c4
       have y5:=hro.c5
       have y6:=hro.c6
       clear hdep
       simp only [h1,h2] at hK
       go_simp
       exact hK _ _ rfl hW (fun _ _ h=>h)
      ·
       have h1:x 1=_:=hdep 1 rfl
       have h3:x 3=_:=hdep 3 rfl
       clear hdep
       simp only [h1,h3] at hK
       go_simp
       refine (HCK.out W (zo HB8.out hW)).mono ?_
       rintro e W' ⟨rfl,hb⟩
       exact hK _ _ rfl (zo hW hb) (fun _ _ h=>h)
      ·
       have h1:x 1=_:=hdep 1 rfl
       have h4:x 4=_:=hdep 4 rfl
       clear hdep
       simp only [h1,h4] at hK
       go_simp
       exact hK _ _ rfl hW (fun _ _ h=>h)
      ·
       have h1:x 1=_:=hdep 1 rfl
       have h5:x 5=_:=hdep 5 rfl
       clear hdep
       simp only [h1,h5] at hK
       go_simp
       exact hK _ _ rfl hW (fun _ _ h=>h)
      ·
       have h6:x 6=_:=hdep 6 rfl
       clear hdep
       simp only [h6] at hK
       go_simp
       exact hK _ _ rfl hW (fun _ _ h=>h)
      ·
       have h7:x 7=_:=hdep 7 rfl
       clear hdep
       simp only [h7] at hK
       go_simp
       exact hK _ _ trivial hW (fun _ _ h=>h)
      ·
       have h7:x 7=_:=hdep 7 rfl
       clear hdep
       simp only [h7] at hK
       go_simp
       exact hK _ _ trivial hW (fun _ _ h=>h)
      ·
       have h7:x 7=_:=hdep 7 rfl
       clear hdep
       simp only [h7] at hK
       go_simp
       exact hK _ _ trivial hW (fun _ _ h=>h)
      ·
       have h7:x 7=_:=hdep 7 rfl
       clear hdep
       simp only [h7] at hK
       go_simp
       exact hK _ _ trivial hW (fun _ _ h=>h)
      ·
       have h7:x 7=_:=hdep 7 rfl
       clear hdep
       simp only [h7] at hK
       go_simp
       exact hK _ _ trivial hW (fun _ _ h=>h)
      ·
       have h7:x 7=_:=hdep 7 rfl
       clear hdep
       simp only [h7] at hK
       go_simp
       exact hK _ _ trivial hW (fun _ _ h=>h)
      ·
       have h7:x 7=_:=hdep 7 rfl
       clear hdep
       simp only [h7] at hK
       go_simp
       exact hK _ _ trivial hW (fun _ _ h=>h)
      ·
       have h7:x 7=_:=hdep 7 rfl
       clear hdep
       simp only [h7] at hK
       go_simp
       exact hK _ _ trivial hW (fun _ _ h=>h)
      ·
       have h7:x 7=_:=hdep 7 rfl
       clear hdep
       simp only [h7] at hK
       go_simp
       exact hK _ _ trivial hW (fun _ _ h=>h)
      ·
       have h7:x 7=_:=hdep 7 rfl
       clear hdep
       simp only [h7] at hK
       go_simp
       exact hK _ _ trivial hW (fun _ _ h=>h)
      ·
       have h7:x 7=_:=hdep 7 rfl
       clear hdep
       simp only [h7] at hK
       go_simp
       exact hK _ _ trivial hW (fun _ _ h=>h)
      ·
       have h7:x 7=_:=hdep 7 rfl
       clear hdep
       simp only [h7] at hK
       go_simp
       exact hK _ _ rfl hW (fun _ _ h=>h)
     case fin11yb =>
      intro x W hW hY
      have h19:x 19=.bool false:=hY 19 (by decide)
      have HSW:=za (HS8.out.later hW)
      clear hY hW
      rw [h19]
      go_wp2
      go_roundg (n - (k+1))
      case measure=>omega
      case rel=>exact ⟨k+1,by omega,by omega,by go_num,_,_,HSW.out⟩

end Go.Proofs.YteegkoicalbkbaaGreatDoor
