/-
  The texts that the laws of this seat share, part 12: what the code and the document's own answers tell, walked function by function.
  Conditions: each theorem's own.
-/
import Derived.Test.YteegkoicalbkbaaGreatDoorHosOBK
set_option maxHeartbeats 16000000
set_option linter.unusedVariables false
namespace Go.Proofs.YteegkoicalbkbaaGreatDoor
open Go.RowKit Go.Maps
set_option linter.unusedVariables false

theorem Qr (a:Option Addr) (w:World):(binOp .eql 66 (.pointer a) (.pointer none)).run Tryz.prog w=.ok (.bool a.isNone) w:=by
 cases a <;> kernel_rfl
set_option maxRecDepth 100000 in
theorem hnew17_none (n:Int) (w:World) (h:XN n=false):Calls Tryz.prog 10 #[.int .i64 n] w fun e w'=>e=.returned (.pointer none)∧w=w':=by
 have HN:=za (New16_none n w h)
 have hp:=Qr none
 clear h
 go_enter Tryz.func10,Tryz.ntmps10
 go_wp2_with fail
 with_reducible refine HN.out.mono ?_
 rintro e w2 ⟨rfl,rfl⟩
 go_wp2
 go_ret
 exact ⟨rfl,rfl⟩
set_option maxRecDepth 100000 in
theorem FA (n:Nat) (w:World) (h:XN n=true):Calls Tryz.prog 10 #[.int .i64 (n:Int)] w fun e w'=>∃ C,e=.returned (.pointer (some ⟨C,0,none⟩))∧vz w (VL n) (.pointer (some ⟨C,0,none⟩)) w'∧Below w.heap.size w w':=by
 have HN:=za (New16_calls n w h)
 unfold Newly16 at HN
 have HED:=za new7_calls
 have HTN:=za Vq
 have HMK:Hid (∀ w2 B A,w.heap.size≤A→w.heap.size≤B→Below w.heap.size w w2→qp w2 B A n (List.replicate n 0) →
   vz w (VL n) (.pointer (some ⟨w2.heap.size+2,0,none⟩)) (((w2.alloc (.cells #[.map none] 120)).alloc (.cells (Ys fun _=>uF) 123)).alloc (.cells #[.iface 80 (.agg #[.pointer (some ⟨w2.heap.size,0,none⟩)]),.pointer (some ⟨w2.heap.size+1,0,none⟩),.pointer (some ⟨B,0,none⟩)] 84)) ∧
   Below w.heap.size w (((w2.alloc (.cells #[.map none] 120)).alloc (.cells (Ys fun _=>uF) 123)).alloc (.cells #[.iface 80 (.agg #[.pointer (some ⟨w2.heap.size,0,none⟩)]),.pointer (some ⟨w2.heap.size+1,0,none⟩),.pointer (some ⟨B,0,none⟩)] 84))):=fun w2 B A h1 h2 h3 h4=>by
  have b3:=ze h3 (.cells #[.map none] 120)
  have b4:=ze b3 (.cells (Ys fun _=>uF) 123)
  have d2:yY ((w2.alloc (.cells #[.map none] 120)).alloc (.cells (Ys fun _=>uF) 123)) (yA w2.heap.size) (fun i=>i=w2.heap.size∨(none:Option Nat)=some i) (.old []) :=
   ⟨w2.heap.size,none,rfl,(dir7_new w2).later (ze (Below.refl _ _) _),fun _=>Iff.rfl⟩
  have t2:vH ((w2.alloc (.cells #[.map none] 120)).alloc (.cells (Ys fun _=>uF) 123)) (w2.heap.size+1+1) (w2.heap.size+1) (fun _=>uF):=by
   have:=JX (w2.alloc (.cells #[.map none] 120)) (w2.heap.size+1+1) (by simp)
   rwa [World.size_alloc] at this
  have hb2:=(h4.later (ze (Below.refl _ w2) (.cells #[.map none] 120))).later (ze (Below.refl _ _) (.cells (Ys fun _=>uF) 123))
  have hm:=vz.make (d:=.old []) (X:=fun _=>noP15) (b:=List.replicate n 0) b4 ⟨_,d2,fun i hi=>by
   rcases hi with rfl | e
   ·
    exact h3.size
   ·
    cases e⟩ ⟨w2.heap.size+1,_,rfl,by have:=h3.size; omega,t2,fun i _=>rfl⟩ ⟨B,A,n,rfl,h1,h2,hb2⟩
  rw [World.size_alloc,World.size_alloc] at hm
  exact ⟨hm,ze b4 _⟩
 have hp:=fun a=>Qr (some a)
 clear h
 go_enter Tryz.func10,Tryz.ntmps10
 go_wp2_with fail
 with_reducible refine HN.out.mono ?_
 rintro e w2 ⟨B,A,rfl,h1,h2,h3,h4⟩
 have HE:=za (HMK.out w2 B A h1 h2 h3 h4)
 clear h1 h2 h3 h4 HMK HN
 go_wp2_with fail
 with_reducible refine (HED.out _).mono ?_
 rintro e w3 ⟨rfl,rfl⟩
 go_wp2_with fail
 with_reducible refine (HTN.out _).mono ?_
 rintro e w4 ⟨rfl,rfl⟩
 clear HED HTN
 go_wp2
 go_ret
 refine ⟨_,rfl,?_,?_⟩
 ·
  exact HE.out.1
 ·
  exact HE.out.2
def up17 (s:H17) (cl n:Nat) (o:O14):Bool:=decide (o.kd.toNat=15) && decide (s.d.ver<(zF s cl n o).d.ver)
theorem zq.fresh {W w2 w3:World} {C:Nat} {F:Nat→Prop} {s':H17} (hb:Below W.heap.size W w2) (hF:∀ i,F i→W.heap.size≤i) (hg:zq w2 C F s' w3):Below W.heap.size W w3∧∃ F',zS w3 C F' s'∧∀ i,F' i→W.heap.size≤i:=by
 obtain ⟨F',h1,h2,h3⟩:=hg
 refine ⟨hb.trans (h3.below_at hb.size hF),F',h1,fun i hi=>?_⟩
 rcases h2 i hi with e | e
 ·
  exact hF i e
 ·
  exact Nat.le_trans hb.size e
section
variable {W:World} {H:Nat} {F:Nat→Prop} {s:H17}
set_option maxRecDepth 100000 in
theorem upgrades17_calls (h:zS W H F s) (hg:s.Good) (cl n:Nat) (o:O14) (hl:yc W) (h5:vY W) (ha:o.a.size≤1000) (hb:o.b.size≤1000) :
  Calls Tryz.prog 24 #[.pointer (some ⟨H,0,none⟩),.agg #[.int .u8 (cl:Int),.int .u64 (n:Int),.int .u8 o.kd.toNat,.string o.a,.string o.b,.int .u8 o.nd.toNat,.int .u8 o.rl.toNat]] W (zC (.bool (up17 s cl n o)) W):=by
 have hb1:=ze (Below.refl _ W) (.cells #[.int .u8 (cl:Int),.int .u64 (n:Int),.int .u8 o.kd.toNat,.string o.a,.string o.b,.int .u8 o.nd.toNat,.int .u8 o.rl.toNat] 49)
 have ho1:zM (W.alloc (.cells #[.int .u8 (cl:Int),.int .u64 (n:Int),.int .u8 o.kd.toNat,.string o.a,.string o.b,.int .u8 o.nd.toNat,.int .u8 o.rl.toNat] 49)) W.heap.size cl n o:=heap_alloc_new W _
 by_cases hk:o.kd.toNat=15
 ·
  have hU:up17 s cl n o=decide (s.d.ver<(zF s cl n o).d.ver):=by unfold up17; simp [hk]
  rw [hU]
  have HKD:=za hk
  have hq:((o.kd.toNat:Int) != 15)=false:=by rw [HKD.out]; rfl
  have HCP:Hid (∀ W',Below W.heap.size W W'→Calls Tryz.prog 21 #[.pointer (some ⟨H,0,none⟩)] W' fun e w'=>∃ C F',e=.returned (.pointer (some ⟨C,0,none⟩))∧zS w' C F' s∧(∀ i,F' i→W.heap.size≤i)∧Below W'.heap.size W' w'):=fun W' hW =>
   (FZ (h.later hW) hg).mono fun e w' ⟨C,h1,⟨C',F',e2,h2,h3⟩,h4⟩=>by
    injection e2 with e2
    injection e2 with e2
    injection e2 with e2
    subst e2
    exact ⟨C,F',h1,h2,fun i hi=>Nat.le_trans hW.size (h3 i hi),h4⟩
  have HAP:Hid (∀ W' C F',Below W.heap.size W W'→zS W' C F' s→(∀ i,F' i→W.heap.size≤i)→Calls Tryz.prog 15 #[.pointer (some ⟨C,0,none⟩),.agg #[.int .u8 (cl:Int),.int .u64 (n:Int),.int .u8 o.kd.toNat,.string o.a,.string o.b,.int .u8 o.nd.toNat,.int .u8 o.rl.toNat]] W' fun en w'=>∃ A m c e q,en=.returned (.tuple #[.agg #[.int .i64 e,.slice A m c],.bool q])∧Below W.heap.size W w'∧∃ F2,zS w' C F2 (zF s cl n o)):=fun W' C F' hW hh hF =>
   (ZB hh hg cl n o (hl.later hW) (h5.later hW) ha hb).mono fun en w' ⟨A,c,h1,h2,h3⟩=>by
    obtain ⟨k1,F2,k2,_⟩:=zq.fresh hW hF h3
    exact ⟨A,_,c,_,_,h1,k1,F2,k2⟩
  have HVC:Hid (∀ W' C F' s',zS W' C F' s'→Calls Tryz.prog 17 #[.pointer (some ⟨C,0,none⟩)] W' fun e w'=>e=.returned (.int .i64 (s'.d.ver:Nat))∧Below W'.heap.size W' w'):=fun W' C F' s' hh=>xC hh
  have HH:Hid (∀ W',Below W.heap.size W W'→zS W' H F s):=fun W' hW=>h.later hW
  have HB1:=za hb1
  have HO:=za ho1
  clear hb1 ho1 hk hU h hg hl h5 ha hb
  generalize zF s cl n o=s2 at *
  go_enter Tryz.func24,Tryz.ntmps24
  go_wp2_with fail
  generalize W.alloc (.cells #[.int .u8 (cl:Int),.int .u64 (n:Int),.int .u8 o.kd.toNat,.string o.a,.string o.b,.int .u8 o.nd.toNat,.int .u8 o.rl.toNat] 49)=w1 at *
  with_reducible refine (HCP.out _ HB1.out).mono ?_
  rintro e w2 ⟨C,F2,rfl,hc,hF2,hb⟩
  have HB2:=za (zj HB1.out hb)
  have ho2:=HO.out.below hb
  have y0:=ho2.c0
  have y1:=ho2.c1
  have y2:=ho2.c2
  have y3:=ho2.c3
  have y4:=ho2.c4
  have y5:=ho2.c5
  have y6:=ho2.c6
  have HAP2:=za (HAP.out w2 C F2 HB2.out hc hF2)
  clear hb ho2 HCP HAP hc hF2 HO HB1
  go_wp2_with fail
  with_reducible refine HAP2.out.mono ?_
  rintro e w3 ⟨A5,m5,c5,e5,q5,rfl,hb,F3,hc⟩
  have HB3:=za hb
  have HC3:=za hc
  clear hb hc HAP2 HB2 y0 y1 y2 y3 y4 y5 y6
  go_wp2_with fail
  with_reducible refine (HVC.out _ _ _ _ HC3.out).mono ?_
  rintro e w4 ⟨rfl,hb⟩
  have HB4:=za (zj HB3.out hb)
  clear hb HC3 HB3
  go_wp2_with fail
  with_reducible refine (HVC.out _ _ _ _ (HH.out _ HB4.out)).mono ?_
  rintro e w5 ⟨rfl,hb⟩
  have HB5:=za (zj HB4.out hb)
  clear hb HVC HB4 HH
  go_wp2
  go_ret
  exact ⟨rfl,HB5.out⟩
 ·
  have hU:up17 s cl n o=false:=by unfold up17; simp [hk]
  rw [hU]
  have hq:((o.kd.toNat:Int) != 15)=true:=by simp; omega
  have HB1:=za hb1
  clear hb1 ho1 hk hU h hg hl h5 ha hb
  go_enter Tryz.func24,Tryz.ntmps24
  go_wp2
  go_ret
  exact ⟨rfl,HB1.out⟩
end
end Go.Proofs.YteegkoicalbkbaaGreatDoor
namespace Go.Proofs.YteegkoicalbkbaaGreatDoor
open Go.ChangeShapes Go.WideShapes Go.ChangeAt Go.RowKit Go.Deep

structure Jx where
 cl:Nat
 n:Nat
 o:O14
def Jx.cells (t:Jx):List Value:=[.int .u8 (t.cl:Int),.int .u64 (t.n:Int),.int .u8 t.o.kd.toNat,.string t.o.a,.string t.o.b,.int .u8 t.o.nd.toNat,.int .u8 t.o.rl.toNat]
structure Jx.Ok (t:Jx):Prop where
 cl:t.cl<256
 n:t.n<18446744073709551616
def RdR17 (w:World) (A:Option Addr) (l:List Jx):Prop :=
 l≠[]→∃ b off,A=some ⟨b,off,none⟩∧b<w.heap.size∧∀ i (hi:i<l.length) j u,l[i].cells[j]? = some u→w.cell? ⟨b,off+i * 7+j,none⟩=some u
theorem RdR17.later {w w':World} {A:Option Addr} {l:List Jx} (h:RdR17 w A l) (hb:Below w.heap.size w w'):RdR17 w' A l:=fun hl=>by
 obtain ⟨b,off,rfl,hlt,hc⟩:=h hl
 exact ⟨b,off,rfl,Nat.lt_of_lt_of_le hlt hb.size,fun i hi j u hu=>(hb.cell (p:=⟨b,off+i * 7+j,none⟩) hlt).trans (hc i hi j u hu)⟩
theorem RdR17.at17 {w:World} {A:Option Addr} {l:List Jx} (h:RdR17 w A l) (i:Nat) (hi:i<l.length):∃ b off,A=some ⟨b,off,none⟩ ∧
  w.cell? ⟨b,off+i * 7,none⟩=some (.int .u8 (l[i].cl:Int))∧w.cell? ⟨b,off+i * 7+1,none⟩=some (.int .u64 (l[i].n:Int))∧w.cell? ⟨b,off+i * 7+2,none⟩=some (.int .u8 l[i].o.kd.toNat) ∧
  w.cell? ⟨b,off+i * 7+3,none⟩=some (.string l[i].o.a)∧w.cell? ⟨b,off+i * 7+4,none⟩=some (.string l[i].o.b)∧w.cell? ⟨b,off+i * 7+5,none⟩=some (.int .u8 l[i].o.nd.toNat)∧w.cell? ⟨b,off+i * 7+6,none⟩=some (.int .u8 l[i].o.rl.toNat):=by
 obtain ⟨b,off,rfl,_,hc⟩:=h (fun e=>by rw [e] at hi; cases hi)
 exact ⟨b,off,rfl,hc i hi 0 _ rfl,hc i hi 1 _ rfl,hc i hi 2 _ rfl,hc i hi 3 _ rfl,hc i hi 4 _ rfl,hc i hi 5 _ rfl,hc i hi 6 _ rfl⟩
def IsReqs17 (w:World) (A:Option Addr) (len:Nat) (l:List Jx):Prop:=len=l.length∧l.length≤9223372036854775807∧RdR17 w A l∧∀ t∈l,t.Ok

theorem cells17U64:Tryz.prog.cellsOf 32=1:=by kernel_rfl
theorem UV:Tryz.prog.cellsOf 49=7:=by kernel_rfl
theorem bound17_u8 {x:Int} (h:(Lit.int .u8 x).wf=true):∃ n:Nat,x=n∧n<256:=by
 have hb:0≤x∧x≤255:=by
  simp [Lit.wf,IntKind.min,IntKind.max,IntKind.signed,IntKind.bits] at h
  omega
 exact ⟨x.toNat,by omega,by omega⟩
theorem bound17_u64 {x:Int} (h:(Lit.int .u64 x).wf=true):∃ n:Nat,x=n∧n<18446744073709551616:=by
 have hb:0≤x∧x≤18446744073709551615:=by
  simp [Lit.wf,IntKind.min,IntKind.max,IntKind.signed,IntKind.bits] at h
  omega
 exact ⟨x.toNat,by omega,by omega⟩
theorem pick17_req (d:Jx) {φ:Nat→Jx→Prop} {m:Nat} (h:∀ i,i<m→∃ t,φ i t):∃ T:Nat→Jx,∀ i,i<m→φ i (T i):=by
 refine ⟨fun i=>if hi:i<m then Classical.choose (h i hi) else d,fun i hi=>?_⟩
 have:(if hi:i<m then Classical.choose (h i hi) else d)=Classical.choose (h i hi):=dif_pos hi
 show φ i (if hi:i<m then Classical.choose (h i hi) else d)
 rw [this]
 exact Classical.choose_spec (h i hi)
section
variable {H:Type} {enc:TypeId×Value→H} {W:World} {base:Nat} {sp:Nat→Bool} {hd:Bool} {fuel:Nat}
set_option maxRecDepth 100000 in
theorem req17_of {cs:List Value} {x:DataW H×List MemPlace} (h:DataW.trod enc Tryz.prog W base sp hd fuel 49 cs=some x) :
  ∃ t:Jx,cs=t.cells∧t.Ok:=by
 obtain ⟨ys,n,_,_,hlen,hyl,hf⟩:=DataW.trod_struct Tryz.underlying49 h
 rw [UV] at hlen
 match cs,hlen,ys,hyl with
 | [c0,c1,c2,c3,c4,c5,c6],_,[y0,y1,y2],_ =>
  have f0:DataW.trod enc Tryz.prog W base sp hd n 5 (([c0,c1,c2,c3,c4,c5,c6].drop 0).take (Tryz.prog.cellsOf 5))=some y0:=hf 0 _ rfl
  have f1:DataW.trod enc Tryz.prog W base sp hd n 32 (([c0,c1,c2,c3,c4,c5,c6].drop 1).take (Tryz.prog.cellsOf 32))=some y1:=hf 1 _ rfl
  have f2:DataW.trod enc Tryz.prog W base sp hd n 47 (([c0,c1,c2,c3,c4,c5,c6].drop 2).take (Tryz.prog.cellsOf 47))=some y2:=hf 2 _ rfl
  rw [Vj] at f0
  rw [cells17U64] at f1
  rw [cells14Op] at f2
  obtain ⟨cl,e0,_,w0⟩:=DataW.trod_int Tryz.underlying5 f0
  obtain ⟨nm,e1,_,w1⟩:=DataW.trod_int Tryz.underlying32 f1
  obtain ⟨o,e2⟩:=op14_of f2
  have e2:[c2,c3,c4,c5,c6]=[.int .u8 o.kd.toNat,.string o.a,.string o.b,.int .u8 o.nd.toNat,.int .u8 o.rl.toNat]:=e2
  simp only [List.drop_zero,List.drop_succ_cons,List.take_succ_cons,List.take_zero,List.cons.injEq,and_true] at e0 e1 e2
  obtain ⟨g2,g3,g4,g5,g6⟩:=e2
  subst e0 e1 g2 g3 g4 g5 g6
  obtain ⟨cl,rfl,b0⟩:=bound17_u8 w0
  obtain ⟨nm,rfl,b1⟩:=bound17_u64 w1
  exact ⟨⟨cl,nm,o⟩,rfl,b0,b1⟩

set_option maxRecDepth 100000 in
theorem reqs17_of {a:Option Addr} {len cap:Nat} {d:DataW H} {p:List MemPlace} (h:DataW.Trod enc Tryz.prog W base sp hd 22 (.slice a len cap) d p):∃ l,IsReqs17 W a len l:=by
 obtain ⟨fuel,hf⟩:=h
 rcases open_slice Tryz.underlying22 hf with ⟨hcs,_⟩ | ⟨x,l,c,m,n,D,Pl,hcs,_,hl,hm,hmm,_,hi⟩
 ·
  simp [Value.cells] at hcs
  obtain ⟨rfl,rfl,rfl⟩:=hcs
  exact ⟨[],rfl,by simp,fun h=>absurd rfl h,by simp⟩
 ·
  simp [Value.cells] at hcs
  obtain ⟨rfl,rfl,rfl⟩:=hcs
  have hlm:len≤m:=by rw [hmm]; split <;> omega
  rw [UV] at hi
  have hex:∀ i,i<m→∃ t:Jx,(∀ j,j<7→W.cell? ((x.add (i * 7)).add j)=t.cells[j]?)∧t.Ok:=by
   intro i him
   obtain ⟨cs',hc,ht'⟩:=hi i him
   obtain ⟨t,rfl,hrest⟩:=req17_of ht'
   exact ⟨t,(World.cells?_some hc).2.2,hrest⟩
  obtain ⟨T,hT⟩:=pick17_req ⟨0,0,⟨0,⟨#[]⟩,⟨#[]⟩,0,0⟩⟩ hex
  refine ⟨(List.range len).map T,by simp,by simpa [maxLen] using Nat.le_trans hl hm,fun hne=>?_,fun t ht=>?_⟩
  ·
   have hp:0<len:=by
    rcases Nat.eq_zero_or_pos len with h | h
    ·
     subst h; simp at hne
    ·
     exact h
   have hc0:=(hT 0 (by omega)).1 0 (by omega)
   have h00:(T 0).cells[0]? = some (.int .u8 (T 0).cl):=rfl
   rw [h00,Nat.zero_mul] at hc0
   have hx:x=⟨x.block,x.off,none⟩:=by
    have hs:x.spot=none:=World.cell?_spot hc0
    rw [← hs]
   refine ⟨x.block,x.off,by rw [← hx],?_,fun i hi' j u hu=>?_⟩
   ·
    exact World.block_lt_of_cell? W _ hc0
   ·
    rw [List.length_map,List.length_range] at hi'
    have e:((List.range len).map T)[i]'(by simpa using hi')=T i:=by simp
    rw [e] at hu
    have hj:j<7:=(List.getElem?_eq_some_iff.1 hu).1
    have:=(hT i (by omega)).1 j hj
    rw [hx,Addr.add_lit,Addr.add_lit] at this
    exact this.trans hu
  ·
   obtain ⟨i,hi',rfl⟩:=List.mem_map.1 ht
   rw [List.mem_range] at hi'
   exact (hT i (by omega)).2
end
/-! ### The wrap -/
theorem returns_laid17 {H:Type} {enc:TypeId×Value→H} {a:Assume} {C:Checked} {os:Os} {f:FuncId} {fn:Func} {s:ChangeSpec} {conds:List PathCond} {apart fresh handsOn again:Bool} {X:World→Array Value→Prop}
  (hX:∀ w w' args,w.heap=w'.heap→X w args→X w' args)
  (own:ownKnob C.prog.godebug=none) (started:os.Started) (noInit:C.prog.inits.idxOf? f=none) (hfn:C.prog.funcs[f]? = some fn)
  (witness:∃ (w:World) (tape:Tape) (i:Input),w.os=os∧(w.forCall tape i).Shaped C.prog∧i.vars=[]∧Input.okWide C.prog (w.forCall tape i) .any w.heap.size f i ∧
   ((s.pre enc C.prog fn conds apart (w.forCall tape i).memory i.args∧X (w.forCall tape i).memory i.args)∧sizedMet enc C.prog fn (OpenSpec.ofChange s) apart (w.forCall tape i).memory i.args)∧a.holds C.prog (lone (Frame.enter C.prog f i.args .normal) [] (w.forCall tape i)))
  (contract:∀ (W:World) (base:Nat) (args:Array Value) (ds gs:List (DataW H)) (before:List MemPlace),
   (∀ (j:Nat) t v,fn.params[j]? = some t→args[j]? = some v→Value.okWide C.prog W .any base t v) →
   DataW.Whole enc C.prog fn.params.toList s.vars apart W args.toList ds gs before →
   W.ShapedOpen C.prog→X W args →
   Calls C.prog f args W fun e W'=>∃ v,e=.returned v∧s.post enc C.prog fn apart fresh handsOn again W args v W') :
  ReturnsInHanded a C os f .any (fun w args=>(s.pre enc C.prog fn conds apart w args∧X w args)∧sizedMet enc C.prog fn (OpenSpec.ofChange s) apart w args) (s.post enc C.prog fn apart fresh handsOn again):=by
 refine returnsInHanded_of_calls own started noInit witness ?_
 intro w tape i _ hsh _ hok hpre _
 obtain ⟨_,_,_,fn',hfn',_,_,_,_,hval⟩:=hok
 have e:fn'=fn:=Option.some.inj (hfn'.symm.trans hfn)
 subst e
 obtain ⟨⟨⟨ds,gs,before,hw,_⟩,hx⟩,_⟩:=hpre
 have hw':=DataW.Whole.of_heap (w':=w.forCall tape i) (by rfl) hw
 refine (contract (w.forCall tape i) w.heap.size i.args ds gs before hval hw' hsh (hX (w.forCall tape i).memory (w.forCall tape i) _ rfl hx)).mono fun e W' ⟨v,he,hp⟩=>?_
 subst he
 exact ChangeSpec.post_blind hp
theorem laid17_of {W:World} {p r:String×DataW Unit} (h:laidMetH Tryz.prog [p,("interrex/op.traits",Rows.laid_interrex_op_traits),r] W) (hp:p.2.handleName?.isNone=true) (hr:r.2.handleName?.isNone=true):yc W:=by
 rw [MakeChecks.laidMetH_plain _ _ _ (by simp only [List.all_cons,List.all_nil,hp,hr,Bool.true_and,Bool.and_true]; kernel_rfl)] at h
 refine laid14_of ?_
 rw [MakeChecks.laidMetH_plain _ _ _ (by kernel_rfl)]
 obtain ⟨ps,h1,h2,h3⟩:=h
 obtain ⟨g,t,cs,fuel,p1,q1,_,_,_,_,⟨g2,t2,cs2,fuel2,p2,q2,e1,e2,e3,e4,_,rfl⟩,rfl⟩:=h1
 have hs:(MemPlace.row ⟨g2,0,none⟩ cs2.size++p2++[]).Sublist (MemPlace.row ⟨g,0,none⟩ cs.size++p1++(MemPlace.row ⟨g2,0,none⟩ cs2.size++p2++q2)) :=
  ((List.Sublist.refl _).append (List.nil_sublist _)).trans (List.sublist_append_right _ _)
 exact ⟨_,⟨g2,t2,cs2,fuel2,p2,[],e1,e2,e3,e4,rfl,rfl⟩,h2.sublist hs,fun b off hb=>h3 b off (hs.subset hb)⟩
end Go.Proofs.YteegkoicalbkbaaGreatDoor
namespace Go.Proofs.YteegkoicalbkbaaGreatDoor
open Go.RowKit Go.Maps
set_option linter.unusedVariables false

/-! ### plain -/
theorem runE17_zero {s:H17} {cl:Nat} {o:O14} (h:zL s cl o≠0):yt s cl o=s:=by unfold yt; rw [if_pos h]
theorem Vm {s:H17} {cl:Nat} {o:O14} (h:yv s cl o≠0):xQ s cl o=s:=by
 unfold xQ
 split
 ·
  rfl
 ·
  rename_i hc
  unfold yv at h
  rw [if_neg hc] at h
  exact runE17_zero h
theorem app17_err {s:H17} (hg:s.Good) {cl n:Nat} {o:O14} (h:yu s cl n o≠0):(zF s cl n o).d=s.d∧yZ s cl n o=[]:=by
 by_cases hcl:cl=255
 ·
  refine ⟨?_,by unfold yZ; rw [if_pos hcl]⟩
  unfold zF
  by_cases hb:zY s cl n o=true
  ·
   rw [if_pos hb,if_pos hcl]
   unfold yu at h
   rw [if_pos hcl,if_pos hb] at h
   rw [Vm h]
  ·
   rw [if_neg hb]
 ·
  have hB:zY s cl n o=decide (J15 (s.X cl).n cl n=3):=by unfold zY; rw [if_neg hcl]
  unfold yu at h
  rw [if_neg hcl] at h
  unfold yZ zF
  simp only [hcl,if_false,hB]
  by_cases h0:J15 (s.X cl).n cl n=0
  ·
   rw [if_pos h0,h0]; exact ⟨rfl,rfl⟩
  ·
   rw [if_neg h0] at h ⊢
   by_cases h1:J15 (s.X cl).n cl n=1
   ·
    rw [if_pos h1,h1]; exact ⟨rfl,rfl⟩
   ·
    rw [if_neg h1] at h ⊢
    by_cases h2:J15 (s.X cl).n cl n=2
    ·
     rw [if_pos h2] at h ⊢
     rw [h2]
     refine ⟨rfl,(hg.x cl ?_).t (fun e=>h (by rw [e]; rfl))⟩
     by_cases hc8:cl<8
     ·
      exact hc8
     ·
      exfalso
      apply h0
      unfold J15
      rw [if_neg (fun e=>hc8 e.1)]
    ·
     rw [if_neg h2] at h ⊢
     refine ⟨?_,by unfold yS; rw [if_neg h]⟩
     split
     ·
      show (xQ s cl o).d=s.d
      rw [Vm h]
     ·
      rfl
theorem app17_ver {s:H17} {cl n:Nat} {o:O14} (hb:zY s cl n o=true) (hc:uk o=0):(yu s cl n o=6)↔(s.d.ver:Int)<vn o.kd.toNat:=by
 have hrun:∀ c,(zL s c o=6)↔(s.d.ver:Int)<vn o.kd.toNat:=fun c=>by
  unfold zL
  split
  ·
   rename_i h; exact ⟨fun _=>h,fun _=>rfl⟩
  ·
   rename_i h
   refine ⟨fun e=>absurd e ?_,fun e=>absurd e h⟩
   split
   ·
    split
    ·
     split <;> decide
    ·
     decide
   ·
    split
    ·
     split
     ·
      unfold Zt; split <;> decide
     ·
      decide
    ·
     exact (dE17_er _ _ _ _).ne.1
 have hans:∀ c,yv s c o=zL s c o:=fun c=>by unfold yv; rw [if_neg (by rw [hc]; decide)]
 by_cases hcl:cl=255
 ·
  have:yu s cl n o=yv s 255 o:=by unfold yu; rw [if_pos hcl,if_pos hb]
  rw [this,hans]
  exact hrun 255
 ·
  have h3:J15 (s.X cl).n cl n=3:=by
   unfold zY at hb
   rw [if_neg hcl] at hb
   exact of_decide_eq_true hb
  have:yu s cl n o=yv s cl o:=by
   unfold yu
   rw [if_neg hcl,h3]
   rfl
  rw [this,hans]
  exact hrun cl

structure Um (w W:World) (H:Nat) (F:Nat→Prop) (s:H17):Prop where
 at_:zS W H F s
 good:s.Good
 new:∀ i,F i→w.heap.size≤i
 bel:Below w.heap.size w W
theorem Um.later {w W W':World} {H:Nat} {F:Nat→Prop} {s:H17} (h:Um w W H F s) (hb:Below W.heap.size W W'):Um w W' H F s:=⟨h.at_.later hb,h.good,h.new,zj h.bel hb⟩
theorem Um.goes {w W W':World} {H:Nat} {F:Nat→Prop} {s s':H17} (h:Um w W H F s) (hg:zq W H F s' W') (hs:s'.Good):∃ F',Um w W' H F' s'∧(∀ i,F' i→F i∨W.heap.size≤i)∧zg F W W':=by
 obtain ⟨F',h1,h2,h3⟩:=hg
 refine ⟨F',⟨h1,hs,fun i hi=>?_,h.bel.trans (h3.below_at h.bel.size h.new)⟩,h2,h3⟩
 rcases h2 i hi with e | e
 ·
  exact h.new i e
 ·
  exact Nat.le_trans h.bel.size e
theorem Um.made {w W W':World} {C:Nat} {s:H17} (hb:Below w.heap.size w W) (h:vz W s (.pointer (some ⟨C,0,none⟩)) W') (hn:Below W.heap.size W W') (hs:s.Good):∃ F,Um w W' C F s∧∀ i,F i→W.heap.size≤i:=by
 obtain ⟨H,F,e,h1,h2⟩:=h
 injection e with e
 injection e with e
 injection e with e
 subst e
 exact ⟨F,⟨h1,hs,fun i hi=>Nat.le_trans hb.size (h2 i hi),zj hb hn⟩,h2⟩
theorem Um.ne {w W:World} {H:Nat} {F:Nat→Prop} {s:H17} (h:Um w W H F s) (D:Nat) (hD:W.heap.size≤D):¬ F D:=fun hF=>by
 have:=h.at_.lt hF
 omega

/-! ### Few -/
def sm17 (t:Jx):Bool:=decide (t.o.a.size≤100) && decide (t.o.b.size≤100)
def FL (l:List Jx):Bool:=l.all sm17 && decide (l.length≤60)
theorem few17_len {l:List Jx} (h:FL l=true):l.length≤60:=by
 unfold FL at h
 simp only [Bool.and_eq_true,decide_eq_true_eq] at h
 exact h.2
theorem few17_size {l:List Jx} (h:FL l=true):∀ t∈l,t.o.a.size≤1000∧t.o.b.size≤1000:=by
 unfold FL at h
 simp only [Bool.and_eq_true] at h
 intro t ht
 have:=List.all_eq_true.1 h.1 t ht
 unfold sm17 at this
 simp only [Bool.and_eq_true,decide_eq_true_eq] at this
 omega
set_option maxRecDepth 100000 in
theorem few17_calls (A:Option Addr) (c n:Nat) (l:List Jx) (w:World) (hl:n=l.length) (hn:n≤9223372036854775807) (hr:RdR17 w A l) :
  Calls Tryz.prog 9 #[.slice A n c] w (zC (.bool (FL l)) w):=by
 have HR:=za hr
 have HL:=za hl
 clear hr hl
 obtain ⟨r,hr⟩:∃ r,r=FL l:=⟨_,rfl⟩
 rw [← hr]
 have HRR:=za hr
 clear hr
 go_enter Tryz.func9,Tryz.ntmps9
 go_wp2
 go_loopg [4,7] n (fun gg _ s7 wr=>∃ k:Nat,k≤n∧n - k≤gg∧s7=.int .i64 k∧Hid (Below w.heap.size w wr)∧Hid (∀ j (h:j<l.length),j<k→sm17 l[j]=true))
 case atStart=>exact ⟨0,Nat.zero_le _,by omega,rfl,Below.refl _ _,fun j _ hj=>absurd hj (Nat.not_lt_zero _)⟩
 case round =>
  obtain ⟨k,hk,hg,rfl,HW,A0⟩:=hrel
  by_cases hlt:k<n
  ·
   have hltz:(k:Int)<(n:Int):=by omega
   have hkl:k<l.length:=HL.out ▸ hlt
   obtain ⟨b,off,rfl,c0,c1,c2,c3,c4,c5,c6⟩:=(HR.out.later HW.out).at17 k hkl
   have HX:Hid (sm17 l[k]=true→∀ j (h:j<l.length),j<k+1→sm17 l[j]=true):=fun hq j h hj=>by
    by_cases e:j=k
    ·
     subst e; exact hq
    ·
     exact A0.out j h (by omega)
   have HF:Hid (sm17 l[k]=false→r=false):=fun hf=>by
    rw [HRR.out]
    have:l.all sm17=false:=List.all_eq_false.2 ⟨l[k],List.getElem_mem hkl,by rw [hf]; simp⟩
    unfold FL
    rw [this]; rfl
   have HB3:=za (z7 HW.out (zb (Below.refl wr.heap.size wr) (.cells #[.int .u8 (l[k].cl:Int),.int .u64 (l[k].n:Int),.int .u8 l[k].o.kd.toNat,.string l[k].o.a,.string l[k].o.b,.int .u8 l[k].o.nd.toNat,.int .u8 l[k].o.rl.toNat] 49)))
   unfold sm17 at HX HF
   clear A0
   generalize l[k].cl=cl at *
   generalize l[k].n=nr at *
   generalize l[k].o.kd=kd at *
   generalize l[k].o.a=nm at *
   generalize l[k].o.b=hs at *
   generalize l[k].o.nd=nd at *
   generalize l[k].o.rl=rl at *
   by_cases h1:nm.size≤100
   ·
    by_cases h2:hs.size≤100
    ·
     have HY:=za (HX.out (by simp [h1,h2]))
     have z1:¬ (nm.size:Int) > 100:=by omega
     have z2:¬ (hs.size:Int) > 100:=by omega
     have y1:¬ 100<nm.size:=by omega
     have y2:¬ 100<hs.size:=by omega
     have x1:decide ((nm.size:Int) > 100)=false:=decide_eq_false z1
     have x2:decide ((hs.size:Int) > 100)=false:=decide_eq_false z2
     clear HX HF
     go_wp2
     go_roundg (n - (k+1))
     case measure=>omega
     case rel=>exact ⟨k+1,by omega,by omega,by go_num,HB3,HY⟩
    ·
     have hr:r=false:=HF.out (by simp [h2])
     subst hr
     have z1:¬ (nm.size:Int) > 100:=by omega
     have z2:(hs.size:Int) > 100:=by omega
     have y1:¬ 100<nm.size:=by omega
     have y2:100<hs.size:=by omega
     have x1:decide ((nm.size:Int) > 100)=false:=decide_eq_false z1
     have x2:decide ((hs.size:Int) > 100)=true:=decide_eq_true z2
     clear HX HF
     go_wp2
     go_ret
     exact ⟨rfl,HB3.out⟩
   ·
    have hr:r=false:=HF.out (by simp [h1])
    subst hr
    have z1:(nm.size:Int) > 100:=by omega
    have y1:100<nm.size:=by omega
    have x1:decide ((nm.size:Int) > 100)=true:=decide_eq_true z1
    clear HX HF
    go_wp2
    go_ret
    exact ⟨rfl,HB3.out⟩
  ·
   have hltz:¬ (k:Int)<(n:Int):=by omega
   obtain rfl:k=n:=by omega
   have hr0:r=decide (k≤60):=by
    rw [HRR.out]
    have:l.all sm17=true:=by
     rw [List.all_eq_true]
     intro x hx
     obtain ⟨j,hj,rfl⟩:=List.getElem_of_mem hx
     exact A0.out j hj (by have:=HL.out; omega)
    unfold FL
    rw [this,← HL.out]; rfl
   have HZ:=za hr0
   clear A0 hr0
   by_cases h60:k≤60
   ·
    have z:(k:Int)≤60:=by omega
    go_wp2
    go_ret
    exact ⟨by rw [HZ.out,decide_eq_true h60]; rfl,HW.out⟩
   ·
    have z:¬ (k:Int)≤60:=by omega
    go_wp2
    go_ret
    exact ⟨by rw [HZ.out,decide_eq_false h60]; rfl,HW.out⟩

/-! ### Lives -/
def ex17:O14:=⟨15,⟨#[]⟩,⟨#[]⟩,0,0⟩
theorem tabnil17 (a:Option Addr) (w:World):(binOp .eql 64 (.pointer a) (.pointer none)).run Tryz.prog w=.ok (.bool a.isNone) w:=by
 cases a <;> kernel_rfl
theorem hostnil17 (a:Option Addr) (w:World):(binOp .eql 25 (.pointer a) (.pointer none)).run Tryz.prog w=.ok (.bool a.isNone) w:=by
 cases a <;> kernel_rfl
set_option maxRecDepth 100000 in
theorem lives17_calls (w:World) (hl:yc w) (h5:vY w):Calls Tryz.prog 8 #[] w (zC (.bool true) w):=by
 have HNE:Hid (Calls Tryz.prog 10 #[.int .i64 3] w fun e w'=>∃ C,e=.returned (.pointer (some ⟨C,0,none⟩))∧vz w (VL 3) (.pointer (some ⟨C,0,none⟩)) w'∧Below w.heap.size w w'):=FA 3 w (by decide)
 have HT:Hid (∀ W F H s,Um w W H F s→Calls Tryz.prog 19 #[.pointer (some ⟨H,0,none⟩)] W fun e w'=>∃ C,e=.returned (.pointer (some ⟨C,0,none⟩))∧Um w w' H F s):=fun W F H s h =>
  (Qf h.at_).mono fun e w' ⟨C,h1,_,h3⟩=>⟨C,h1,h.later h3⟩
 have HBO:Hid (∀ W F H s,Um w W H F s→Calls Tryz.prog 20 #[.pointer (some ⟨H,0,none⟩)] W fun e w'=>∃ C,e=.returned (.pointer (some ⟨C,0,none⟩))∧Um w w' H F s):=fun W F H s h =>
  (Jp h.at_).mono fun e w' ⟨C,h1,_,h3⟩=>⟨C,h1,h.later h3⟩
 have HAP:Hid (∀ W F H s,Um w W H F s→Calls Tryz.prog 15 #[.pointer (some ⟨H,0,none⟩),.agg #[.int .u8 0,.int .u64 1,.int .u8 15,.string ⟨#[]⟩,.string ⟨#[]⟩,.int .u8 0,.int .u8 0]] W fun e w'=>∃ A m c F',e=.returned (.tuple #[.agg #[.int .i64 (yu s 0 1 ex17),.slice A m c],.bool (zY s 0 1 ex17)])∧Um w w' H F' (zF s 0 1 ex17)∧zg F W w'):=fun W F H s h =>
  (ZB h.at_ h.good 0 1 ex17 (hl.later h.bel) (h5.later h.bel) (by decide) (by decide)).mono fun e w' ⟨A,c,h1,_,h3⟩=>by
   obtain ⟨F',k1,_,k2⟩:=h.goes h3 (h.good.app 0 1 ex17)
   exact ⟨A,_,c,F',h1,k1,k2⟩
 have HDI:Hid (∀ W F H s,Um w W H F s→Calls Tryz.prog 18 #[.pointer (some ⟨H,0,none⟩)] W (qJ W (dirB17 s.d))):=fun W F H s h=>dir17_calls h.at_ h.good (h5.later h.bel)
 have e1:yu (VL 3) 0 1 ex17=13:=by decide +kernel
 have e2:zY (VL 3) 0 1 ex17=true:=by decide +kernel
 have e3:yu (zF (VL 3) 0 1 ex17) 0 1 ex17=13:=by decide +kernel
 have e4:zY (zF (VL 3) 0 1 ex17) 0 1 ex17=false:=by decide +kernel
 have e5:dirB17 (zF (zF (VL 3) 0 1 ex17) 0 1 ex17).d=[1,0,0]:=by decide +kernel
 have hg:=new17_good (n:=3) (by decide)
 have htn:=fun a w=>tabnil17 (some a) w
 have hbn:=fun a w=>Qr (some a) w
 have hhn:=fun a w=>hostnil17 (some a) w
 clear hl h5
 go_enter Tryz.func8,Tryz.ntmps8
 go_wp2_with fail
 with_reducible refine HNE.out.mono ?_
 rintro e w1 ⟨H,rfl,h1,h2⟩
 obtain ⟨F,hs,_⟩:=Um.made (Below.refl _ w) h1 h2 hg
 have HS:=za hs
 clear h1 h2 hs HNE hg
 generalize VL 3=s0 at *
 go_wp2_with fail
 with_reducible refine (HT.out _ _ _ _ HS.out).mono ?_
 rintro e w2 ⟨C,rfl,hs⟩
 have HS2:=za hs
 clear hs HS HT
 go_wp2_with fail
 with_reducible refine (HBO.out _ _ _ _ HS2.out).mono ?_
 rintro e w3 ⟨C2,rfl,hs⟩
 have HS3:=za (hs.later (ze (Below.refl _ w3) (.cells #[.int .u8 0,.int .u64 1,.int .u8 15,.string ⟨#[]⟩,.string ⟨#[]⟩,.int .u8 0,.int .u8 0] 49)))
 have hR:zM (w3.alloc (.cells #[.int .u8 0,.int .u64 1,.int .u8 15,.string ⟨#[]⟩,.string ⟨#[]⟩,.int .u8 0,.int .u8 0] 49)) w3.heap.size 0 1 ex17:=heap_alloc_new w3 _
 have hnF:=hs.ne w3.heap.size (Nat.le_refl _)
 have HR:=za hR
 have HN:=za hnF
 clear hs HS2 HBO hR hnF
 go_wp2_with fail
 generalize w3.alloc (.cells #[.int .u8 0,.int .u64 1,.int .u8 15,.string ⟨#[]⟩,.string ⟨#[]⟩,.int .u8 0,.int .u8 0] 49)=w4 at *
 generalize w3.heap.size=D at *
 with_reducible refine (HAP.out _ _ _ _ HS3.out).mono ?_
 rintro e w5 ⟨A5,m5,c5,F5,rfl,hs,ht⟩
 simp only [e1,e2]
 have HR5:=za (HR.out.turns ht HN.out)
 have HS5:=za (hs.later (ze (Below.refl _ w5) (.cells #[.int .i64 13,.slice A5 m5 c5] 56)))
 have HR6:=za (HR5.out.below (ze (Below.refl _ w5) (.cells #[.int .i64 13,.slice A5 m5 c5] 56)))
 have hnew:(w5.alloc (.cells #[.int .i64 13,.slice A5 m5 c5] 56)).heap[w5.heap.size]? = some (.cells #[.int .i64 13,.slice A5 m5 c5] 56 (0,0)):=heap_alloc_new w5 _
 have HX6:=za hnew
 have hnF:=hs.ne w5.heap.size (Nat.le_refl _)
 have HNX:=za hnF
 have y0:=HR6.out.c0
 have y1:=HR6.out.c1
 have y2:=HR6.out.c2
 have y3:=HR6.out.c3
 have y4:=HR6.out.c4
 have y5:=HR6.out.c5
 have y6:=HR6.out.c6
 clear hs ht HS3 HR5 HR hnF hnew HN HR6
 simp only [ex17] at y2 y3 y4 y5 y6
 generalize zF s0 0 1 ex17=s1 at *
 go_wp2_with fail
 generalize w5.alloc (.cells #[.int .i64 13,.slice A5 m5 c5] 56)=w6 at *
 generalize w5.heap.size=X1 at *
 with_reducible refine (HAP.out _ _ _ _ HS5.out).mono ?_
 rintro e w7 ⟨A7,m7,c7,F7,rfl,hs,ht⟩
 simp only [e3,e4]
 have hx1:w7.heap[X1]? = some (.cells #[.int .i64 13,.slice A5 m5 c5] 56 (0,0)):=(ht.block X1 (Array.getElem?_eq_some_iff.1 HX6.out).1 HNX.out).trans HX6.out
 have hx2:=((ze (Below.refl _ w7) (.cells #[.int .i64 13,.slice A7 m7 c7] 56)).block X1 (Array.getElem?_eq_some_iff.1 hx1).1).trans hx1
 have x0:(w7.alloc (.cells #[.int .i64 13,.slice A7 m7 c7] 56)).cell? ⟨X1,0,none⟩=some (.int .i64 13):=by rw [cell_of_row _ X1 0 _ _ (0,0) hx2]; rfl
 have HS7:=za (hs.later (ze (Below.refl _ w7) (.cells #[.int .i64 13,.slice A7 m7 c7] 56)))
 have HDI7:=za (HDI.out _ _ _ _ HS7.out)
 rw [e5] at HDI7
 unfold qJ at HDI7
 have HB7:=za HS7.out.bel
 clear hs ht HS5 HX6 HNX hx1 hx2 HAP HDI HS7 y0 y1 y2 y3 y4 y5 y6 e1 e2 e3 e4 e5
 go_wp2_with fail
 with_reducible refine HDI7.out.mono ?_
 rintro e w8 ⟨v8,rfl,ho,_,hb⟩
 have hr:Rd w8 v8 [1,0,0]:=Rd.of_own ho
 obtain ⟨A8,c8,rfl⟩:=hr.shape
 have hstr:=hr.string (P:=Tryz.prog) (src:=62) (dst:=9) Tryz.underlying62 Tryz.underlying5 Tryz.underlying9
 simp only [List.length_cons,List.length_nil,Nat.zero_add,Nat.reduceAdd] at hstr
 have HB8:=za (zj HB7.out hb)
 clear hr ho hb HDI7 HB7
 go_wp2
 go_ret
 exact ⟨rfl,HB8.out⟩
end Go.Proofs.YteegkoicalbkbaaGreatDoor
namespace Go.Proofs.YteegkoicalbkbaaGreatDoor
open Go.RowKit Go.Maps
set_option linter.unusedVariables false

def XQ (s:H17) (c:Nat):Nat:=if c<8 then (s.X c).n else 0
theorem getT_last17 {T:Nat→R15} {s:H17} (h:∀ i,i<8→(T i).p=s.X i) (c:Nat):(qT T c).n=XQ s c:=by
 unfold XQ qT
 split
 ·
  rename_i hc
  exact congrArg P15.n (h c hc)
 ·
  rfl
theorem once_b17 (s:H17) {cl:Nat} (hcl:cl≠255) (n:Nat) (o:O14):zY s cl n o=(decide (cl<8) && decide (XQ s cl<n) && decide (n≤1099511627776)):=by
 unfold zY
 rw [if_neg hcl,Bool.eq_iff_iff]
 simp only [decide_eq_true_eq,Bool.and_eq_true]
 unfold J15 XQ YU
 constructor
 ·
  intro h
  split at h
  ·
   rename_i hc
   rw [if_pos hc.1]
   simp only [Bool.and_eq_true,decide_eq_true_eq] at hc
   refine ⟨⟨hc.1,?_⟩,hc.2.2⟩
   split at h
   ·
    cases h
   ·
    split at h
    ·
     cases h
    ·
     omega
  ·
   cases h
 ·
  intro h
  rw [if_pos h.1.1] at h
  rw [if_pos ⟨h.1.1,by simp only [Bool.and_eq_true,decide_eq_true_eq]; omega⟩,if_neg (by omega),if_neg (by omega)]
theorem once_c17 (s:H17) (cl n:Nat):¬ cl<8∨(cl<8∧¬ XQ s cl<n)∨(cl<8∧XQ s cl<n∧¬ n≤1099511627776)∨(cl<8∧XQ s cl<n∧n≤1099511627776):=by omega
theorem ZH {s:H17} {cl n:Nat} {o:O14} (hcl:cl≠255) (hb:zY s cl n o=true):J15 (s.X cl).n cl n=3:=by
 unfold zY at hb
 rw [if_neg hcl] at hb
 exact of_decide_eq_true hb
theorem appT17_few {s:H17} (hg:s.Good) {cl n:Nat} {o:O14} (hcl:cl≠255) (hb:zY s cl n o=true):(yZ s cl n o).length≤14:=by
 have h3:=ZH hcl hb
 unfold yZ
 rw [if_neg hcl,h3]
 exact (Yg hg cl o).1
theorem YH {s:H17} {cl n:Nat} {o:O14} (h:zY s cl n o=false):zF s cl n o=s:=by unfold zF; rw [h]; rfl
theorem appX17 {s:H17} {cl n:Nat} {o:O14} (hcl:cl≠255) (hb:zY s cl n o=true):(zF s cl n o).X cl=⟨n,(yv s cl o).toNat,yS s cl o⟩:=by
 have h3:=ZH hcl hb
 unfold zF
 rw [if_pos hb,if_neg hcl]
 show vJ s.X cl n (yv s cl o).toNat (yS s cl o) cl=_
 unfold vJ
 rw [if_pos ⟨rfl,h3⟩]
 have:yP (((yv s cl o).toNat:Nat):Int) (yS s cl o)=yS s cl o:=by
  unfold yP
  rw [(uS s cl o).1]
  split
  ·
   rfl
  ·
   rename_i h
   unfold yS
   rw [if_neg h]
 rw [this]
theorem once_again17 {s:H17} {cl n:Nat} {o:O14} (hcl:cl≠255) (hb:zY s cl n o=true) :
  zY (zF s cl n o) cl n o=false∧yu (zF s cl n o) cl n o=yu s cl n o∧yZ (zF s cl n o) cl n o=yZ s cl n o∧zF (zF s cl n o) cl n o=zF s cl n o:=by
 have h3:=ZH hcl hb
 obtain ⟨h8,h0,h40,_⟩:=jP h3
 have hx:=appX17 hcl hb
 have hj:J15 ((zF s cl n o).X cl).n cl n=2:=by
  rw [hx]
  show J15 n cl n=2
  unfold J15 YU
  rw [if_pos ⟨h8,by simp only [Bool.and_eq_true,decide_eq_true_eq]; omega⟩,if_neg (Nat.lt_irrefl n),if_pos rfl]
 have hB:zY (zF s cl n o) cl n o=false:=by unfold zY; rw [if_neg hcl,hj]; rfl
 refine ⟨hB,?_,?_,?_⟩
 ·
  have e1:yu (zF s cl n o) cl n o=(((zF s cl n o).X cl).e:Nat):=by
   conv=>lhs; unfold yu
   rw [if_neg hcl,hj]
   rfl
  have e2:yu s cl n o=yv s cl o:=by unfold yu; rw [if_neg hcl,h3]; rfl
  rw [e1,e2,hx]
  exact (uS s cl o).1
 ·
  have e1:yZ (zF s cl n o) cl n o=((zF s cl n o).X cl).ss:=by
   conv=>lhs; unfold yZ
   rw [if_neg hcl,hj]
   rfl
  have e2:yZ s cl n o=yS s cl o:=by unfold yZ; rw [if_neg hcl,h3]; rfl
  rw [e1,e2,hx]
 ·
  exact YH hB
theorem once_elder17 {s:H17} {cl n:Nat} {o:O14} (hcl:cl≠255) (hb:zY s cl n o=true) :
  zY (zF s cl n o) cl (n - 1) o=false∧zF (zF s cl n o) cl (n - 1) o=zF s cl n o∧(0<n - 1→yu (zF s cl n o) cl (n - 1) o=12):=by
 have h3:=ZH hcl hb
 obtain ⟨h8,h0,h40,_⟩:=jP h3
 have hx:=appX17 hcl hb
 have hj:J15 ((zF s cl n o).X cl).n cl (n - 1)=if 0<n - 1 then 1 else 0:=by
  rw [hx]
  show J15 n cl (n - 1)=_
  unfold J15 YU
  by_cases hp:0<n - 1
  ·
   rw [if_pos ⟨h8,by simp only [Bool.and_eq_true,decide_eq_true_eq]; omega⟩,if_pos (by omega),if_pos hp]
  ·
   rw [if_neg (by simp only [Bool.and_eq_true,decide_eq_true_eq]; omega),if_neg hp]
 have hB:zY (zF s cl n o) cl (n - 1) o=false:=by
  unfold zY
  rw [if_neg hcl,hj]
  split <;> rfl
 refine ⟨hB,?_,fun hp=>?_⟩
 ·
  exact YH hB
 ·
  conv=>lhs; unfold yu
  rw [if_neg hcl,hj,if_pos hp]
  rfl

/-! ### a request's variable -/
section
variable {w W:World} {H D cl n:Nat} {F:Nat→Prop} {s:H17} {o:O14}
theorem zM.fr (h:zM w D cl n o) (i:Nat):w.frozen? ⟨D,i,none⟩=false:=by unfold zM at h; simp [World.frozen?,h]
theorem zM.set1 (h:zM w D cl n o) (m:Nat):zM (w.setCell ⟨D,1,none⟩ (.int .u64 (m:Int))) D cl m o:=by
 unfold zM at h ⊢
 obtain ⟨hlt,hk⟩:=Array.getElem?_eq_some_iff.1 h
 show (w.heap.modify D _)[D]? = _
 rw [Array.getElem?_eq_getElem (by rw [Array.size_modify]; exact hlt),Array.getElem_modify_self,hk]
 rfl
theorem Um.set1 (h:Um w W H F s) (hn:¬ F D) (hr:zM W D cl n o) (hD:w.heap.size≤D) (u:Value):Um w (W.setCell ⟨D,1,none⟩ u) H F s:=by
 have ht:zg (fun k=>k=D) W (W.setCell ⟨D,1,none⟩ u):=(zg.refl (fun k=>k=D) W).setCell (p:=⟨D,1,none⟩) (fun _=>rfl) u
 refine ⟨h.at_.turns ht (fun i hi e=>hn (e ▸ hi)) (fun i e=>?_),h.good,h.new,h.bel.trans (ht.below_at h.bel.size (fun i e=>by rw [e]; exact hD))⟩
 rw [e]
 exact xR hr (fun s e=>by simp at e)
end
end Go.Proofs.YteegkoicalbkbaaGreatDoor
