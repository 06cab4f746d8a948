/-
  The texts that the laws of this seat share, part 11: what the code and the document's own answers tell, walked function by function.
  Conditions: each theorem's own.
-/
import Derived.Test.YteegkoicalbkbaaGreatDoorHosVBJ
set_option maxHeartbeats 16000000
set_option linter.unusedVariables false
namespace Go.Proofs.YteegkoicalbkbaaGreatDoor
open Go.RowKit Go.Maps
set_option linter.unusedVariables false

theorem yP.shape {W:World} {v:Value} {F:Nat→Prop} {d:D17} (h:yP W v F d):(∃ B p E,d=.old E∧v=.iface 80 (.agg #[.pointer (some ⟨B,0,none⟩)])∧vm W B p E∧∀ i,F i↔(i=B∨p=some i)) ∨
  (∃ D P M G A p q L LM pg T,d=.new A L (z8 T)∧v=.iface 150 (.agg #[.pointer (some ⟨D,0,none⟩)])∧yg W D P A M p q L LM G pg T∧∀ i,F i↔yU D P M p q G pg T i):=by
 cases d with
 | old E =>
  obtain ⟨B,p,hv,hd,hF⟩:=h
  exact .inl ⟨B,p,E,rfl,hv,hd,hF⟩
 | new A L S =>
  obtain ⟨D,P,M,G,p,q,LM,pg,T,hv,hd,rfl,hF⟩:=h
  exact .inr ⟨D,P,M,G,A,p,q,L,LM,pg,T,rfl,hv,hd,hF⟩
section
variable {W:World} {H:Nat} {F:Nat→Prop} {s:H17}
set_option maxRecDepth 100000 in
theorem xS (h:zW W H F s):Calls Tryz.prog 17 #[.pointer (some ⟨H,0,none⟩)] W (zF (.int .i64 (s.d.ver:Nat)) W):=by
 obtain ⟨v,FD,hc,hd,_⟩:=h.dir
 rcases hd.shape with ⟨B,p,E,e,rfl,_,_⟩ | ⟨D,P,M,G,A,p,q,L,LM,pg,T,e,rfl,_,_⟩
 ·
  rw [e]
  have hm:=Xg B
  show Calls _ _ _ _ (zF (.int .i64 1) W)
  clear h hd e
  go_enter Tryz.func17,Tryz.ntmps17
  go_wp2
  go_ret
  exact ⟨rfl,ze (Below.refl _ _) _⟩
 ·
  rw [e]
  have hm:=Xh D
  show Calls _ _ _ _ (zF (.int .i64 2) W)
  clear h hd e
  go_enter Tryz.func17,Tryz.ntmps17
  go_wp2
  go_ret
  exact ⟨rfl,ze (Below.refl _ _) _⟩
def dirB17:D17→List UInt8
 | .old E=>shotR E
 | .new A L S=>XC (zl A L S) (zc S)
theorem qA.ahead17 {W W1:World} {l:List UInt8} {e:Ending} {w':World} (hb:Below W.heap.size W W1) (h:qA W1 l e w'):qA W l e w':=by
 obtain ⟨v,h1,h2,h3,h4⟩:=h
 exact ⟨v,h1,h2,fun k hk=>Nat.le_trans hb.size (h3 k hk),zo hb h4⟩
set_option maxRecDepth 100000 in
theorem Jq {W:World} {B:Nat} {p:Option Nat} {E:zj} (hd:vm W B p E) (hg:yT E) (h5:vO W):Calls Tryz.prog 304 #[.agg #[.pointer (some ⟨B,0,none⟩)]] W (qA W (shotR E)):=by
 have hb:=ze (Below.refl _ W) (.cells #[.pointer (some ⟨B,0,none⟩)] 80)
 have HC:=za ((Fp B p E _ (hd.later hb) hg.chk (h5.later hb)).mono fun e w' h=>qA.ahead17 hb h)
 unfold qA at HC ⊢
 clear hd hg h5 hb
 go_enter Tryz.func304,Tryz.ntmps304
 go_wp2_with fail
 with_reducible refine HC.out.mono ?_
 rintro e w2 ⟨v,rfl,ho,hn,hb⟩
 obtain ⟨A5,c5,rfl⟩:=yB (zy ho (Nat.zero_le _))
 have HO:=za ho
 have HN:=za hn
 have HB:=za hb
 clear ho hn hb HC
 go_wp2
 go_ret
 exact ⟨_,rfl,HO.out,HN.out,HB.out⟩
set_option maxRecDepth 100000 in
theorem JF {W:World} {D P M G:Nat} {A:zt} {p q pg:Option Nat} {L LM:zj} {T:zq} (hd:yg W D P A M p q L LM G pg T) (hg:zm A L (z8 T) 12) (h5:vO W):Calls Tryz.prog 341 #[.agg #[.pointer (some ⟨D,0,none⟩)]] W (qA W (XC (zl A L (z8 T)) (zc (z8 T)))):=by
 have hb:=ze (Below.refl _ W) (.cells #[.pointer (some ⟨D,0,none⟩)] 150)
 have HC:=za ((Vs (hd.later hb).plain17 hg (h5.later hb)).mono fun e w' h=>qA.ahead17 hb h)
 unfold qA at HC ⊢
 clear hd hg h5 hb
 generalize XC (zl A L (z8 T)) (zc (z8 T))=bs at *
 go_enter Tryz.func341,Tryz.ntmps341
 go_wp2_with fail
 with_reducible refine HC.out.mono ?_
 rintro e w2 ⟨v,rfl,ho,hn,hb⟩
 obtain ⟨A5,c5,rfl⟩:=yB (zy ho (Nat.zero_le _))
 have HO:=za ho
 have HN:=za hn
 have HB:=za hb
 clear ho hn hb HC
 go_wp2
 go_ret
 exact ⟨_,rfl,HO.out,HN.out,HB.out⟩
set_option maxRecDepth 100000 in
theorem dir17_calls (h:zW W H F s) (hg:s.Good) (h5:vO W):Calls Tryz.prog 18 #[.pointer (some ⟨H,0,none⟩)] W (qA W (dirB17 s.d)):=by
 obtain ⟨v,FD,hc,hd,_⟩:=h.dir
 have hgd:=hg.d
 rcases hd.shape with ⟨B,p,E,e,rfl,hd7,_⟩ | ⟨D,P,M,G,A,p,q,L,LM,pg,T,e,rfl,hd11,_⟩
 ·
  rw [e] at hgd ⊢
  have HC:=za (Jq hd7 hgd h5)
  have hm:=Q7 B
  show Calls _ _ _ _ (qA W (shotR E))
  clear h hd e hg hgd h5 hd7
  unfold qA at HC ⊢
  generalize shotR E=bs at *
  go_enter Tryz.func18,Tryz.ntmps18
  go_wp2_with fail
  with_reducible refine HC.out.mono ?_
  rintro e w2 ⟨v,rfl,ho,hn,hb⟩
  obtain ⟨A5,c5,rfl⟩:=yB (zy ho (Nat.zero_le _))
  have HO:=za ho
  have HN:=za hn
  have HB:=za hb
  clear ho hn hb HC hm hc
  go_wp2
  go_ret
  exact ⟨_,rfl,HO.out,HN.out,HB.out⟩
 ·
  rw [e] at hgd ⊢
  have HC:=za (JF hd11 hgd h5)
  have hm:=Q8 D
  show Calls _ _ _ _ (qA W (XC (zl A L (z8 T)) (zc (z8 T))))
  clear h hd e hg hgd h5 hd11
  unfold qA at HC ⊢
  generalize XC (zl A L (z8 T)) (zc (z8 T))=bs at *
  go_enter Tryz.func18,Tryz.ntmps18
  go_wp2_with fail
  with_reducible refine HC.out.mono ?_
  rintro e w2 ⟨v,rfl,ho,hn,hb⟩
  obtain ⟨A5,c5,rfl⟩:=yB (zy ho (Nat.zero_le _))
  have HO:=za ho
  have HN:=za hn
  have HB:=za hb
  clear ho hn hb HC hm hc
  go_wp2
  go_ret
  exact ⟨_,rfl,HO.out,HN.out,HB.out⟩
def jD (W:World) (X:Nat→P15) (v:Value) (w':World):Prop:=∃ C T,v=.pointer (some ⟨C,0,none⟩)∧W.heap.size≤C∧vy w' (C+1) C T∧∀ i,i<8→(T i).p=X i
def XZ (W:World) (b:List UInt8) (v:Value) (w':World):Prop:=∃ B A c,v=.pointer (some ⟨B,0,none⟩)∧W.heap.size≤A∧W.heap.size≤B∧qg w' B A c b
def jF (W:World) (d:D17) (v:Value) (w':World):Prop:=∃ F,yP w' v F d∧∀ i,F i→W.heap.size≤i
def fo (W:World) (s:H17) (v:Value) (w':World):Prop:=∃ H F,v=.pointer (some ⟨H,0,none⟩)∧zW w' H F s∧∀ i,F i→W.heap.size≤i
theorem jD.later {W w1 w2:World} {X:Nat→P15} {v:Value} (h:jD W X v w1) (hb:Below w1.heap.size w1 w2):jD W X v w2:=by
 obtain ⟨C,T,h1,h2,h3,h4⟩:=h
 exact ⟨C,T,h1,h2,h3.later hb,h4⟩
theorem XZ.later {W w1 w2:World} {b:List UInt8} {v:Value} (h:XZ W b v w1) (hb:Below w1.heap.size w1 w2):XZ W b v w2:=by
 obtain ⟨B,A,c,h1,h2,h3,h4⟩:=h
 exact ⟨B,A,c,h1,h2,h3,h4.later hb⟩
theorem jF.later {W w1 w2:World} {d:D17} {v:Value} (h:jF W d v w1) (hb:Below w1.heap.size w1 w2):jF W d v w2:=by
 obtain ⟨F,h1,h2⟩:=h
 exact ⟨F,h1.later hb,h2⟩
theorem fo.later {W w1 w2:World} {s:H17} {v:Value} (h:fo W s v w1) (hb:Below w1.heap.size w1 w2):fo W s v w2:=by
 obtain ⟨H,F,h1,h2,h3⟩:=h
 exact ⟨H,F,h1,h2.later hb,h3⟩
theorem jD.low {W W1 w':World} {X:Nat→P15} {v:Value} (h:jD W1 X v w') (hb:Below W.heap.size W W1):jD W X v w':=by
 obtain ⟨C,T,h1,h2,h3,h4⟩:=h
 exact ⟨C,T,h1,Nat.le_trans hb.size h2,h3,h4⟩
theorem XZ.low {W W1 w':World} {b:List UInt8} {v:Value} (h:XZ W1 b v w') (hb:Below W.heap.size W W1):XZ W b v w':=by
 obtain ⟨B,A,c,h1,h2,h3,h4⟩:=h
 exact ⟨B,A,c,h1,Nat.le_trans hb.size h2,Nat.le_trans hb.size h3,h4⟩
theorem jF.low {W W1 w':World} {d:D17} {v:Value} (h:jF W1 d v w') (hb:Below W.heap.size W W1):jF W d v w':=by
 obtain ⟨F,h1,h2⟩:=h
 exact ⟨F,h1,fun i e=>Nat.le_trans hb.size (h2 i e)⟩
theorem fo.make {W w1:World} {d:D17} {X:Nat→P15} {b:List UInt8} {v x y:Value} (hb:Below W.heap.size W w1) (h1:jF W d v w1) (h2:jD W X x w1) (h3:XZ W b y w1) :
  fo W ⟨d,X,b⟩ (.pointer (some ⟨w1.heap.size,0,none⟩)) (w1.alloc (.cells #[v,x,y] 84)):=by
 obtain ⟨FD,a1,a2⟩:=h1
 obtain ⟨C,T,rfl,b2,b3,b4⟩:=h2
 obtain ⟨B,A,c,rfl,c2,c3,c4⟩:=h3
 refine ⟨_,_,rfl,zW.make a1 b3 b4 c4,fun i hi=>?_⟩
 rcases hi with rfl | e | rfl | rfl | rfl
 ·
  exact hb.size
 ·
  exact a2 i e
 ·
  exact b2
 ·
  exact c3
 ·
  exact c2
theorem UF {TB:Nat} {T:Nat→R15} {X:Nat→P15} (h:vy W (TB+1) TB T) (hx:∀ i,i<8→(T i).p=X i):Calls Tryz.prog 45 #[.pointer (some ⟨TB,0,none⟩)] W fun e w'=>∃ C,e=.returned (.pointer (some ⟨C,0,none⟩))∧jD W X (.pointer (some ⟨C,0,none⟩)) w'∧Below W.heap.size W w':=by
 refine (FO h).mono fun e w' ⟨he,hb,V,hV,hp⟩=>⟨_,he,⟨_,V,rfl,Nat.le_refl _,hV,fun i hi=>(hp i hi hi).trans (hx i hi)⟩,hb⟩
theorem QP {BB BA c:Nat} {b:List UInt8} (h:qg W BB BA c b):Calls Tryz.prog 46 #[.pointer (some ⟨BB,0,none⟩)] W fun e w'=>∃ C,e=.returned (.pointer (some ⟨C,0,none⟩))∧XZ W b (.pointer (some ⟨C,0,none⟩)) w'∧Below W.heap.size W w':=by
 refine (FN h).mono fun e w' ⟨B,A,c',he,h1,h2,h3,h4⟩=>⟨B,he,⟨B,A,c',rfl,h1,h2,h4⟩,h3⟩
set_option maxRecDepth 100000 in
theorem UG (h:zW W H F s):Calls Tryz.prog 19 #[.pointer (some ⟨H,0,none⟩)] W fun e w'=>∃ C,e=.returned (.pointer (some ⟨C,0,none⟩))∧jD W s.X (.pointer (some ⟨C,0,none⟩)) w'∧Below W.heap.size W w':=by
 obtain ⟨TB,T,hc,ht,hx,_⟩:=h.tab
 have HC:=za (UF ht hx)
 clear h ht hx
 go_enter Tryz.func19,Tryz.ntmps19
 go_wp2_with fail
 with_reducible refine HC.out.mono ?_
 rintro e w2 ⟨C,rfl,h1,h2⟩
 have H1:=za h1
 have H2:=za h2
 clear h1 h2 HC hc
 go_wp2
 go_ret
 exact ⟨C,rfl,H1.out,H2.out⟩
set_option maxRecDepth 100000 in
theorem QO (h:zW W H F s):Calls Tryz.prog 20 #[.pointer (some ⟨H,0,none⟩)] W fun e w'=>∃ C,e=.returned (.pointer (some ⟨C,0,none⟩))∧XZ W s.b (.pointer (some ⟨C,0,none⟩)) w'∧Below W.heap.size W w':=by
 obtain ⟨BB,BA,c,hc,hb,_⟩:=h.board
 have HC:=za (QP hb)
 clear h hb
 go_enter Tryz.func20,Tryz.ntmps20
 go_wp2_with fail
 with_reducible refine HC.out.mono ?_
 rintro e w2 ⟨C,rfl,h1,h2⟩
 have H1:=za h1
 have H2:=za h2
 clear h1 h2 HC hc
 go_wp2
 go_ret
 exact ⟨C,rfl,H1.out,H2.out⟩
theorem zu.dirV17 {W w':World} {D P M G:Nat} {A:zt} {L:zj} {S:zn} (h:zu W w' D P M G A L S):jF W (.new A L S) (zP D) w':=by
 obtain ⟨p,q,LM,pg,T,hn,hS,h1,_⟩:=h
 exact ⟨fun i=>yU D P M p q G pg T i,⟨D,P,M,G,p,q,LM,pg,T,rfl,hn,hS,fun _=>Iff.rfl⟩,fun i hi=>(h1 i hi).1⟩

theorem jF.one {W w':World} {d:D17} {v:Value} (h:jF W d v w'):∃ t x,v=.iface t x:=by
 obtain ⟨F,hd,_⟩:=h
 rcases hd.shape with ⟨B,p,E,_,e,_⟩ | ⟨D,P,M,G,A,p,q,L,LM,pg,T,_,e,_⟩
 ·
  exact ⟨_,_,e⟩
 ·
  exact ⟨_,_,e⟩
theorem jD.one {W w':World} {X:Nat→P15} {v:Value} (h:jD W X v w'):∃ a,v=.pointer a:=by
 obtain ⟨C,T,e,_⟩:=h
 exact ⟨_,e⟩
theorem XZ.one {W w':World} {b:List UInt8} {v:Value} (h:XZ W b v w'):∃ a,v=.pointer a:=by
 obtain ⟨B,A,c,e,_⟩:=h
 exact ⟨_,e⟩


end
end Go.Proofs.YteegkoicalbkbaaGreatDoor
namespace Go.Proofs.YteegkoicalbkbaaGreatDoor

def uL (e:Int):Prop:=e=0∨e=4∨e=7∨e=8∨e=9∨e=10∨e=11∨e=12
theorem uL.ne {e:Int} (h:uL e):e≠6∧0≤e∧e≤18:=by unfold uL at h; omega
theorem uV:∀ {l:List Int},(∀ e∈l,uL e)→uL (xP l)
 | [],_=>.inl rfl
 | e::l,h=>by
  unfold xP
  split
  ·
   exact uV fun x hx=>h x (List.mem_cons_of_mem _ hx)
  ·
   exact h e (List.mem_cons_self ..)
theorem xY (b:Bool) {n:Int} (h:uL n):uL (zi b n):=by cases b <;> simp [zi] <;> first | exact h | exact .inl rfl
theorem oE17_er (kd:Nat) (E:zj) (a b:List UInt8):uL (oE17 kd E a b):=by
 have e10:uL 10:=by unfold uL; omega
 have e4:uL 4:=by unfold uL; omega
 have e9:uL 9:=by unfold uL; omega
 have e8:uL 8:=by unfold uL; omega
 have e7:uL 7:=by unfold uL; omega
 have h1:uL (deE E a):=uV (by intro e he; simp at he; rcases he with rfl | rfl; exact xY _ e10; exact xY _ e8)
 unfold oE17
 split
 ·
  exact uV (by intro e he; simp only [List.mem_cons,List.not_mem_nil,or_false] at he; rcases he with rfl | rfl | rfl | rfl; exact xY _ e10; exact xY _ e4; exact xY _ e9; exact xY _ e7)
 ·
  split
  ·
   exact h1
  ·
   split
   ·
    exact uV (by intro e he; simp only [List.mem_cons,List.not_mem_nil,or_false] at he; rcases he with rfl | rfl | rfl; exact xY _ e10; exact xY _ e4; exact xY _ e8)
   ·
    split
    ·
     exact h1
    ·
     exact uV (by intro e he; simp only [List.mem_cons,List.not_mem_nil,or_false] at he; subst he; exact xY _ e10)
theorem ZR (S:zn) (g:List UInt8) (l:List (List UInt8)):uL (zV S g l):=by
 unfold zV uL
 split
 ·
  split <;> simp
 ·
  simp
theorem Uq (A:zt) (g n:List UInt8):uL (yN A g n):=by
 unfold yN uL
 split
 ·
  split
  ·
   split <;> simp
  ·
   simp
 ·
  simp
theorem nE17_er (kd:Nat) (A:zt) (L:zj) (S:zn) (a b:List UInt8):uL (nE17 kd A L S a b):=by
 have e10:uL 10:=by unfold uL; omega
 have hcr:∀ x y z t,uL (crF11 x y z t):=by intro x y z t; cases x <;> cases y <;> cases z <;> cases t <;> (unfold uL; decide)
 have hde:∀ x z,uL (deF11 x z):=by intro x z; cases x <;> cases z <;> (unfold uL; decide)
 have hsh:∀ x y z t,uL (shF11 x y z t):=by intro x y z t; cases x <;> cases y <;> cases z <;> cases t <;> (unfold uL; decide)
 have hsm:∀ x y z t,uL (smF11 x y z t):=by intro x y z t; cases x <;> cases y <;> cases z <;> cases t <;> (unfold uL; decide)
 have hdi:∀ x z t,uL (diF11 x z t):=by intro x z t; cases x <;> cases z <;> cases t <;> (unfold uL; decide)
 have hrn:∀ x y z t,uL (rnF11 x y z t):=by intro x y z t; cases x <;> cases y <;> cases z <;> cases t <;> (unfold uL; decide)
 have hdr:uL (uW S a):=ZR S a []
 match kd with
 | 0=>exact hcr _ _ _ _
 | 1=>exact hde _ _
 | 2=>exact hsh _ _ _ _
 | 3=>exact hde _ _
 | 4=>exact xY _ e10
 | 5=>exact hsm _ _ _ _
 | 6=>exact hdi _ _ _
 | 7=>exact hdi _ _ _
 | 8=>exact hrn _ _ _ _
 | 9 =>
  show uL (qv S a)
  unfold qv uL
  split
  ·
   split
   ·
    simp
   ·
    split <;> simp
  ·
   simp
 | 10=>exact hdr
 | 11 =>
  show uL (Ys A S a b)
  unfold Ys
  split
  ·
   unfold qw
   split
   ·
    unfold uL; split <;> simp
   ·
    exact ZR _ _ _
  ·
   exact Uq _ _ _
 | 12 =>
  show uL (Yr A S a b)
  unfold Yr
  split
  ·
   unfold ZM
   split
   ·
    unfold uL; split <;> simp
   ·
    exact ZR _ _ _
  ·
   exact Uq _ _ _
 | 13 =>
  show uL (fiE9 L a)
  unfold fiE9 uL
  split
  ·
   split <;> simp
  ·
   simp
 | _+14=>exact hdr
theorem dE17_er (d:D17) (kd:Nat) (a b:List UInt8):uL (yX d kd a b):=by
 cases d with
 | old E=>exact oE17_er kd E a b
 | new A L S=>exact nE17_er kd A L S a b

/-! ### what is good stays good -/
theorem D17.Good.deed {d:D17} (h:d.Good) (kd:Nat) (a b:List UInt8):(xq d kd a b).Good:=by
 cases d with
 | old E =>
  show yT (oL17 kd E a b)
  have h':yT E:=h
  unfold oL17
  split
  ·
   exact h'.create a b
  ·
   split
   ·
    exact h'.delete a
   ·
    split
    ·
     exact h'.set a b
    ·
     exact h'
 | new A L S =>
  have h':zm A L S 12:=h
  exact (now17_one h' kd a b).1.trim
theorem FU (E:zj):zc (FV E)=E.map (·.1):=by
 unfold FV zc
 rw [List.map_map]
 rfl
theorem VP {E:zj} (h:yT E):zm (FV E) [] [] 12:=by
 refine ⟨?_,?_,?_,⟨[],yh.nil⟩,(fun _ h=>nomatch h),(fun _ h=>nomatch h),Nat.zero_le _,zC.nil.mono (Nat.zero_le _),fun g n h=>by simp [vP,Vm,qe,zz] at h⟩
 ·
  have h1:zJ (up13 E):=by
   have:=h.rise
   exact List.Pairwise.map _ (fun x y hxy=>hxy) this
  exact xH (L:=up13 E) h1 (by rw [FU,up_names13])
 ·
  unfold FV; rw [List.length_map]; exact h.few
 ·
  intro p hp
  obtain ⟨q,hq,rfl⟩:=List.mem_map.1 hp
  exact h.all q hq
theorem tell_upA17 (E:zj):zl (FV E) [] []=up13 E:=by
 unfold zl FV up13
 rw [List.map_map]
 apply List.map_congr_left
 intro q _
 rfl
theorem D17.Good.up {d:D17} (h:d.Good):(upD17 d).Good:=by
 cases d with
 | old E=>exact VP h
 | new A L S=>exact h

theorem acc_inj17 {A A':zt} {L L':zj} {S S':zn} (h:zl A L S=zl A' L' S'):A=A':=by
 have key:∀ (A:zt) (L:zj) (S:zn),(zl A L S).map (fun q=>(q.1,(q.2.hs,q.2.dis)))=A:=fun A L S=>by
  unfold zl
  rw [List.map_map]
  conv=>rhs; rw [← List.map_id A]
  apply List.map_congr_left
  intro p _
  rfl
 rw [← key A L S,h,key]
section
variable {A:zt} {L L':zj} {S S':zn} {k k':Nat}
theorem VR (hr:zJ A) (h:zl A L S=zl A L' S') {n:List UInt8} (hn:zz A n=true):yG L n=yG L' n∧yS S n=yS S' n:=by
 obtain ⟨a,ha⟩:=qT hn
 have h1:=yA (L:=L) (S:=S) hr n
 have h2:=yA (L:=L') (S:=S') hr n
 rw [h,h2,ha] at h1
 injection h1 with h1
 exact ⟨(congrArg U11.ml h1).symm,(congrArg U11.gs h1).symm⟩
theorem mails_inj17 (h1:zm A L S k) (h2:zm A L' S' k') (h:zl A L S=zl A L' S'):L=L':=by
 have hg:∀ n,yG L n=yG L' n:=fun n=>by
  cases hn:zz A n with
  | true=>exact (VR h1.rise h hn).1
  | false=>rw [(h1.free hn).2.1,(h2.free hn).2.1]
 have key:∀ {L L':zj} {S S':zn} {k k':Nat},zm A L S k→zm A L' S' k'→(∀ n,yG L n=yG L' n)→∀ x,x∈L→x∈L':=fun g1 g2 hg x hx=>by
  have e:=jv g1.lrise hx
  have hne:=(g1.all x hx).ne2
  rw [hg] at e
  exact ZP e hne
 exact F3 (V:=List UInt8) h1.lrise h2.lrise fun x=>⟨key h1 h2 hg x,key h2 h1 (fun n=>(hg n).symm) x⟩
theorem grs_inj17 (h1:zm A L S k) (h2:zm A L' S' k') (h:zl A L S=zl A L' S') (hN:zc S=zc S'):S=S':=by
 have hin:∀ g n,vP S g n=vP S' g n:=fun g n=>by
  cases hn:zz A n with
  | true =>
   have e:=(VR h1.rise h hn).2
   rw [Bool.eq_iff_iff,← xd h1.grp.rise,← xd h2.grp.rise,e]
  | false =>
   have a1:vP S g n=false:=by
    cases hh:vP S g n with
    | false=>rfl
    | true=>rw [h1.mem g n hh] at hn; cases hn
   have a2:vP S' g n=false:=by
    cases hh:vP S' g n with
    | false=>rfl
    | true=>rw [h2.mem g n hh] at hn; cases hn
   rw [a1,a2]
 have key:∀ {L L':zj} {S S':zn} {k k':Nat},zm A L S k→zm A L' S' k'→zc S=zc S'→(∀ g n,vP S g n=vP S' g n)→∀ x,x∈S→x∈S':=fun {_ _ S S' _ _} g1 g2 hN hin x hx=>by
  have hx1:x.1∈zc S':=by rw [← hN]; exact List.mem_map.2 ⟨x,hx,rfl⟩
  obtain ⟨y,hy,e⟩:=List.mem_map.1 hx1
  have m1:=ql g1.grp.rise hx
  have m2:=ql g2.grp.rise hy
  have e2:x.2=y.2:=by
   refine F3 (V:=Unit) (g1.grp.sets x hx) (g2.grp.sets y hy) fun z=>?_
   have hz:=hin x.1 z.1
   unfold vP at hz
   rw [m1,← e,m2] at hz
   have a:∀ (l:zI),z∈l↔zz l z.1=true:=fun l=>by
    rw [vf]
    constructor
    ·
     intro h; exact ⟨z,h,rfl⟩
    ·
     rintro ⟨p,hp,e⟩
     have:p=z:=Prod.ext e rfl
     exact this ▸ hp
   rw [a,a,hz]
  have:x=y:=Prod.ext e.symm e2
  exact this ▸ hy
 exact F3 h1.grp.rise h2.grp.rise fun x=>⟨key h1 h2 hN hin x,key h2 h1 hN.symm (fun g n=>(hin g n).symm) x⟩
end
theorem new_inj17 {A A':zt} {L L':zj} {S S':zn} {k k':Nat} (h1:zm A L S k) (h2:zm A' L' S' k') (h:zl A L S=zl A' L' S') (hN:zc S=zc S'):A=A'∧L=L'∧S=S':=by
 have e:=acc_inj17 h
 subst e
 exact ⟨rfl,mails_inj17 h1 h2 h,grs_inj17 h1 h2 h hN⟩
end Go.Proofs.YteegkoicalbkbaaGreatDoor
namespace Go.Proofs.YteegkoicalbkbaaGreatDoor
open Go.RowKit Go.Maps
set_option linter.unusedVariables false

theorem Fw (B:Nat) (w:World):(Instr.typeAssert (.iface 80 (.agg #[.pointer (some ⟨B,0,none⟩)])) 82 80 true).run Tryz.prog w=.ok (.tuple #[.agg #[.pointer (some ⟨B,0,none⟩)],.bool true]) w:=by kernel_rfl
theorem asLater17 (B:Nat) (w:World):(Instr.typeAssert (.iface 150 (.agg #[.pointer (some ⟨B,0,none⟩)])) 82 80 true).run Tryz.prog w=.ok (.tuple #[.agg #[.pointer none],.bool false]) w:=by kernel_rfl
theorem upgraded17 {E:zj} (hg:yT E) {W w':World} {D P M G:Nat} {A:zt} {L:zj} {S:zn} {k:Nat} (ho:zu W w' D P M G A L S) (h1:zm A L S k) (h2:zl A L S=up13 E) (h3:zc S=[]):jF W (upD17 (.old E)) (zP D) w':=by
 obtain ⟨e1,e2,e3⟩:=new_inj17 h1 (VP hg) (h2.trans (tell_upA17 E).symm) h3
 subst e1 e2 e3
 exact ho.dirV17
def YAd17 (H P0 BB nd rl:Nat):Nat→Value→World→Prop
 | 3,v,_=>v=.pointer (some ⟨BB,0,none⟩)
 | 2,v,_=>v=.pointer (some ⟨H,2,none⟩)
 | 4,v,_=>v=.pointer (some ⟨P0,3,none⟩)
 | 5,v,_=>v=.int .u8 nd
 | 6,v,_=>v=.pointer (some ⟨P0,4,none⟩)
 | 7,v,_=>v=.int .u8 rl
 | _,v,_=>v=.pointer (some ⟨H,0,none⟩)
section
variable {W:World} {H:Nat} {F:Nat→Prop} {s:H17}
set_option maxRecDepth 100000 in
theorem UA {A:zt} {L:zj} {S:zn} (h:zW W H F s) (hd:s.d=.new A L S):Calls Tryz.prog 98 #[.pointer (some ⟨H,0,none⟩)] W (zF (.int .i64 14) W):=by
 obtain ⟨v,FD,hc,hv,_⟩:=h.dir
 rw [hd] at hv
 obtain ⟨D,P,M,G,p,q,LM,pg,T,rfl,_⟩:=hv
 unfold zP at hc
 have has:=asLater17 D
 clear h hd
 go_enter Tryz.func98,Tryz.ntmps98
 go_wp2
 go_ret
 exact ⟨rfl,ze (Below.refl _ _) _⟩
set_option maxRecDepth 100000 in
theorem Zx {E:zj} (h:zW W H F s) (hd:s.d=.old E) (hr:rdy17 s.b=false):Calls Tryz.prog 98 #[.pointer (some ⟨H,0,none⟩)] W (zF (.int .i64 13) W):=by
 obtain ⟨v,FD,hc,hv,_⟩:=h.dir
 rw [hd] at hv
 obtain ⟨B,p,rfl,_⟩:=hv
 unfold xo at hc
 obtain ⟨BB,BA,c,hc2,hb,_⟩:=h.board
 have hb1:=ze (Below.refl _ W) (.cells #[.pointer (some ⟨B,0,none⟩)] 80)
 have HA:Hid (Calls Tryz.prog 25 #[.pointer (some ⟨BB,0,none⟩),.int .u8 2] (W.alloc (.cells #[.pointer (some ⟨B,0,none⟩)] 80)) fun e w'=>e=.returned (.bool false)∧Below (W.alloc (.cells #[.pointer (some ⟨B,0,none⟩)] 80)).heap.size (W.alloc (.cells #[.pointer (some ⟨B,0,none⟩)] 80)) w'):=by
  have:=V2 (hb.later hb1) 2 (by decide)
  unfold rdy17 at hr
  rwa [hr] at this
 have HB1:=za hb1
 have hx:(W.alloc (.cells #[.pointer (some ⟨B,0,none⟩)] 80)).cell? ⟨H,2,none⟩=some (.pointer (some ⟨BB,0,none⟩)):=(hb1.cell (p:=⟨H,2,none⟩) (World.block_lt_of_cell? W _ hc2)).trans hc2
 have hxb:=World.block_lt_of_cell? W _ hc2
 have has:=Fw B
 clear h hd hb hb1 hr
 go_enter Tryz.func98,Tryz.ntmps98
 go_wp2_with fail
 with_reducible refine HA.out.mono ?_
 rintro e w2 ⟨rfl,hb⟩
 have HB2:=za (zo HB1.out hb)
 clear hb HA HB1 has
 go_wp2
 go_ret
 exact ⟨rfl,HB2.out⟩
set_option maxRecDepth 100000 in
theorem YL {E:zj} (h:zW W H F s) (hgd:yT E) (hd:s.d=.old E) (hr:rdy17 s.b=true) (h5:vO W):Calls Tryz.prog 98 #[.pointer (some ⟨H,0,none⟩)] W fun e w'=>e=.returned (.int .i64 0)∧zp W H F { s with d:=upD17 (.old E) } w':=by
 obtain ⟨v,FD,hc,hv,_⟩:=h.dir
 rw [hd] at hv
 obtain ⟨B,p,rfl,hd7,_⟩:=hv
 unfold xo at hc
 obtain ⟨BB,BA,c,hc2,hb,_⟩:=h.board
 have hb1:=ze (Below.refl _ W) (.cells #[.pointer (some ⟨B,0,none⟩)] 80)
 have HA:Hid (Calls Tryz.prog 25 #[.pointer (some ⟨BB,0,none⟩),.int .u8 2] (W.alloc (.cells #[.pointer (some ⟨B,0,none⟩)] 80)) fun e w'=>e=.returned (.bool true)∧Below (W.alloc (.cells #[.pointer (some ⟨B,0,none⟩)] 80)).heap.size (W.alloc (.cells #[.pointer (some ⟨B,0,none⟩)] 80)) w'):=by
  have:=V2 (hb.later hb1) 2 (by decide)
  unfold rdy17 at hr
  rwa [hr] at this
 have HB1:=za hb1
 have hx:(W.alloc (.cells #[.pointer (some ⟨B,0,none⟩)] 80)).cell? ⟨H,2,none⟩=some (.pointer (some ⟨BB,0,none⟩)):=(hb1.cell (p:=⟨H,2,none⟩) (World.block_lt_of_cell? W _ hc2)).trans hc2
 have hxb:=World.block_lt_of_cell? W _ hc2
 have has:=Fw B
 have HBX:Hid (∀ W',Below (W.alloc (.cells #[.pointer (some ⟨B,0,none⟩)] 80)).heap.size (W.alloc (.cells #[.pointer (some ⟨B,0,none⟩)] 80)) W'→W'.cell? ⟨W.heap.size,0,none⟩=some (.pointer (some ⟨B,0,none⟩))):=fun W' hW=>by
  refine (hW.cell (p:=⟨W.heap.size,0,none⟩) (by simp)).trans ?_
  rw [cell_of_row _ _ 0 _ _ (0,0) (heap_alloc_new W _)]
  rfl
 have HUP:Hid (∀ W',Below W.heap.size W W'→Calls Tryz.prog 138 #[.pointer (some ⟨B,0,none⟩)] W' fun e w'=>∃ D,e=.returned (.pointer (some ⟨D,0,none⟩))∧Below W'.heap.size W' w'∧zp W H F { s with d:=upD17 (.old E) } (w'.setCell ⟨H,0,none⟩ (.iface 150 (.agg #[.pointer (some ⟨D,0,none⟩)])))):=fun W' hW=>by
  have hown:fm (jB W') W' B E:=⟨p,hd7.later hW,Nat.zero_le _,fun _ _=>Nat.zero_le _,jA W'⟩
  refine (up13_calls hown hgd (h5.later hW)).mono fun e w' ⟨D,P,M,G,A,L,S,k,he,ho,h1,h2,h3,_⟩=>⟨D,he,ho.below,?_⟩
  obtain ⟨F',hv1,hv2⟩:=upgraded17 hgd ho h1 h2 h3
  exact h.store (zo hW ho.below) hv1 (fun i hi=>Nat.le_trans hW.size (hv2 i hi))
 have HC0:Hid (∀ W',Below W.heap.size W W'→W'.cell? ⟨H,0,none⟩=some (.iface 80 (.agg #[.pointer (some ⟨B,0,none⟩)]))∧W'.frozen? ⟨H,0,none⟩=false):=fun W' hW=>by
  obtain ⟨v',FD',TB,T,BB',BA',c',hblk,_⟩:=h.later hW
  refine ⟨(hW.cell (p:=⟨H,0,none⟩) (World.block_lt_of_cell? W _ hc)).trans hc,?_⟩
  simp [World.frozen?,hblk]
 clear h hd hb hb1 hr h5 hgd hd7
 go_enter Tryz.func98,Tryz.ntmps98
 go_wp2_with fail
 with_reducible refine HA.out.mono ?_
 rintro e w2 ⟨rfl,hb⟩
 have hcb:=HBX.out _ hb
 have HB2:=za (zo HB1.out hb)
 clear hb HA HB1 has hx hc hc2 HBX
 go_wp2_with fail
 with_reducible refine (HUP.out _ HB2.out).mono ?_
 rintro e w3 ⟨D5,rfl,hb,hgo⟩
 obtain ⟨c0,f0⟩:=HC0.out _ (zo HB2.out hb)
 have HGO:=za hgo
 clear hb hgo HUP HC0 HB2 hcb
 go_wp2
 go_ret
 exact ⟨rfl,HGO.out⟩
set_option maxRecDepth 100000 in
theorem ZV (h:zW W H F s) (cl:Nat) (o:O14):Calls Tryz.prog 99 #[.pointer (some ⟨H,0,none⟩),.int .u8 (cl:Int),o.v] W fun e w'=>e=.returned (.int .i64 (if cl=255 then (Zj s.b o.nd.toNat o.rl.toNat:Nat) else 1))∧zp W H F (if cl=255 then { s with b:=uj s.b o.nd.toNat o.rl.toNat } else s) w':=by
 unfold O14.v O14.cells
 have hb1:=ze (Below.refl _ W) (.cells #[.int .u8 o.kd.toNat,.string o.a,.string o.b,.int .u8 o.nd.toNat,.int .u8 o.rl.toNat] 47)
 by_cases hcl:cl=255
 ·
  rw [if_pos hcl,if_pos hcl]
  obtain ⟨BB,BA,c,hc2,hb,hgo⟩:=h.board
  have HN:Hid (∀ W',Below W.heap.size W W'→Calls Tryz.prog 139 #[.pointer (some ⟨BB,0,none⟩),.int .u8 (o.nd.toNat:Int),.int .u8 (o.rl.toNat:Int)] W' fun e w'=>e=.returned (.int .i64 (Zj s.b o.nd.toNat o.rl.toNat:Nat))∧zp W H F { s with b:=uj s.b o.nd.toNat o.rl.toNat } w'):=fun W' hW =>
   (FG (hb.later hW) o.nd.toNat o.rl.toNat (UInt8.toNat_lt o.nd)).mono fun e w' ⟨h1,h2,h3⟩=>⟨h1,hgo _ _ h2 ((zg.of_below hW _).next h3 (fun _ _ e=>e))⟩
  have HX:Hid (∀ W',Below W.heap.size W W'→W'.cell? ⟨H,2,none⟩=some (.pointer (some ⟨BB,0,none⟩))):=fun W' hW=>(hW.cell (p:=⟨H,2,none⟩) (World.block_lt_of_cell? W _ hc2)).trans hc2
  have HB1:=za hb1
  have ho1:xx (W.alloc (.cells #[.int .u8 o.kd.toNat,.string o.a,.string o.b,.int .u8 o.nd.toNat,.int .u8 o.rl.toNat] 47)) W.heap.size o:=heap_alloc_new W _
  have HO:=za ho1
  have HCL:=za hcl
  have hq:((cl:Int) != 255)=false:=by rw [HCL.out]; rfl
  clear h hb hgo hb1 ho1 hc2 hcl
  go_enter Tryz.func99,Tryz.ntmps99
  go_wp2_with fail
  generalize W.alloc (.cells #[.int .u8 o.kd.toNat,.string o.a,.string o.b,.int .u8 o.nd.toNat,.int .u8 o.rl.toNat] 47)=w1 at *
  generalize W.heap.size=P0 at HO
  refine zA (by kernel_rfl) 8 (fun W=>Below w1.heap.size w1 W) (fun W'=>zp W H F { s with b:=uj s.b o.nd.toNat o.rl.toNat } W') (YAd17 H P0 BB o.nd.toNat o.rl.toNat) (fun v=>v=.int .i64 (Zj s.b o.nd.toNat o.rl.toNat:Nat)) ?F ?hF (by kernel_rfl) (by kernel_rfl) (by kernel_rfl) (by kernel_rfl) (by decide) (jc (Below.refl _ _)) ?step ?fin
  case hF =>
   intro x
   simp only [List.map_cons,List.map_nil,vb,Act.put,List.setIfInBounds_toArray,List.set_cons_zero,List.set_cons_succ,Nat.zero_add,Nat.reduceAdd]
   exact rfl
  case step =>
   refine ⟨?_,?_,?_,?_,?_,?_,?_,?_,?_,?_,trivial⟩
   ·
    intro x W
    refine ⟨fun _ hW hdep K hK=>?_,(fun h=>absurd h (by decide)),(fun h=>absurd h (by decide))⟩
    clear hdep
    go_simp
    exact hK _ _ rfl hW (fun _ _ h=>h)
   ·
    intro x W
    refine ⟨fun _ hW hdep K hK=>?_,(fun h=>absurd h (by decide)),(fun h=>absurd h (by decide))⟩
    have h0:x 0=_:=hdep 0 rfl
    clear hdep
    simp only [h0] at hK
    go_simp
    exact hK _ _ rfl hW (fun _ _ h=>h)
   ·
    intro x W
    refine ⟨fun _ hW hdep K hK=>?_,(fun h=>absurd h (by decide)),(fun h=>absurd h (by decide))⟩
    have h1:x 1=_:=hdep 1 rfl
    clear hdep
    simp only [h1] at hK
    go_simp
    exact hK _ _ rfl hW (fun _ _ h=>h)
   ·
    intro x W
    refine ⟨fun _ hW hdep K hK=>?_,(fun h=>absurd h (by decide)),(fun h=>absurd h (by decide))⟩
    have h2:x 2=_:=hdep 2 rfl
    have c:=HX.out _ (zo HB1.out hW)
    clear hdep
    simp only [h2] at hK
    go_simp
    exact hK _ _ rfl hW (fun _ _ h=>h)
   ·
    intro x W
    refine ⟨fun _ hW hdep K hK=>?_,(fun h=>absurd h (by decide)),(fun h=>absurd h (by decide))⟩
    clear hdep
    go_simp
    exact hK _ _ rfl hW (fun _ _ h=>h)
   ·
    intro x W
    refine ⟨fun _ hW hdep K hK=>?_,(fun h=>absurd h (by decide)),(fun h=>absurd h (by decide))⟩
    have h4:x 4=_:=hdep 4 rfl
    have c:=(HO.out.below hW).c3
    clear hdep
    simp only [h4] at hK
    go_simp
    exact hK _ _ rfl hW (fun _ _ h=>h)
   ·
    intro x W
    refine ⟨fun _ hW hdep K hK=>?_,(fun h=>absurd h (by decide)),(fun h=>absurd h (by decide))⟩
    clear hdep
    go_simp
    exact hK _ _ rfl hW (fun _ _ h=>h)
   ·
    intro x W
    refine ⟨fun _ hW hdep K hK=>?_,(fun h=>absurd h (by decide)),(fun h=>absurd h (by decide))⟩
    have h6:x 6=_:=hdep 6 rfl
    have c:=(HO.out.below hW).c4
    clear hdep
    simp only [h6] at hK
    go_simp
    exact hK _ _ rfl hW (fun _ _ h=>h)
   ·
    intro x W
    refine ⟨(fun h=>absurd h (by decide)),fun _ hW hdep K hK=>?_,(fun h=>absurd h (by decide))⟩
    have h3:x 3=_:=hdep 3 rfl
    have h5:x 5=_:=hdep 5 rfl
    have h7:x 7=_:=hdep 7 rfl
    have hc:=HN.out _ (zo HB1.out hW)
    clear hdep
    simp only [h3,h5,h7] at hK
    go_simp
    refine hc.mono ?_
    rintro e W' ⟨rfl,hg⟩
    exact hK _ _ rfl hg
   ·
    intro x W
    refine ⟨(fun h=>absurd h (by decide)),(fun h=>absurd h (by decide)),fun _ hW hdep K hK=>?_⟩
    have h8:x 8=_:=hdep 8 rfl (by decide)
    clear hdep
    simp only [h8] at hK
    go_simp
    exact hK _ rfl
  case fin =>
   intro x W' hW hrest
   have HW:=za hW
   have h9:x 9=_:=hrest 9 (by decide) (by decide)
   clear hW hrest
   simp only [h9]
   go_wp2
   go_ret
   exact ⟨rfl,HW.out⟩
 ·
  rw [if_neg hcl,if_neg hcl]
  have HS:=za (zp.still h hb1)
  have hq:((cl:Int) != 255)=true:=by simp; omega
  clear h hb1 hcl
  go_enter Tryz.func99,Tryz.ntmps99
  go_wp2
  go_ret
  exact ⟨rfl,HS.out⟩
end
end Go.Proofs.YteegkoicalbkbaaGreatDoor
namespace Go.Proofs.YteegkoicalbkbaaGreatDoor
open Go.RowKit Go.Maps
set_option linter.unusedVariables false

set_option maxRecDepth 100000 in
theorem yv (e:Int) (w:World):Calls Tryz.prog 40 #[.int .i64 e] w (zF (.agg #[.int .i64 e,.slice none 0 0]) w):=by
 have h1:vT (w.alloc (.cells #[.int .i64 e,.slice none 0 0] 56)) w.heap.size e (.slice none 0 0):=heap_alloc_new w _
 have HR:=za h1
 clear h1
 go_enter Tryz.func40,Tryz.ntmps40
 go_wp2
 exact bodyPost_ret (results_cell_row Tryz.results40 _ _ w.heap.size _ #[.int .i64 e,.slice none 0 0] (0,0) _ rfl HR.out Tryz.underlying56 rfl xw) rfl ⟨rfl,ze (Below.refl _ _) _⟩
theorem dD17_err (d:D17) (kd:Nat) (a b:List UInt8) (h:yX d kd a b≠0):xq d kd a b=d:=by
 cases d with
 | old E =>
  have h':oE17 kd E a b≠0:=h
  show D17.old (oL17 kd E a b)=D17.old E
  congr 1
  unfold oE17 at h'
  unfold oL17
  split
  ·
   rename_i hk
   rw [if_pos hk] at h'
   unfold crL
   rw [if_neg h']
  ·
   rename_i hk
   rw [if_neg hk] at h'
   split
   ·
    rename_i hk1
    rw [if_pos hk1] at h'
    unfold deL
    rw [if_neg h']
   ·
    rename_i hk1
    rw [if_neg hk1] at h'
    split
    ·
     rename_i hk2
     rw [if_pos hk2] at h'
     unfold seL
     rw [if_neg h']
    ·
     rfl
 | new A L S =>
  have h':nE17 kd A L S a b≠0:=h
  have key:nA17 kd A a b=A∧nL17 kd A L a b=L∧nS17 kd A S a b=S:=by
   match kd,h' with
   | 0,h'=>exact ⟨if_neg h',rfl,rfl⟩
   | 1,h'=>exact ⟨if_neg h',if_neg h',if_neg h'⟩
   | 2,h'=>exact ⟨if_neg h',rfl,rfl⟩
   | 3,h'=>exact ⟨rfl,rfl,rfl⟩
   | 4,h'=>exact ⟨rfl,rfl,rfl⟩
   | 5,h'=>exact ⟨rfl,if_neg h',rfl⟩
   | 6,h'=>exact ⟨if_neg h',rfl,rfl⟩
   | 7,h'=>exact ⟨if_neg h',rfl,rfl⟩
   | 8,h'=>exact ⟨if_neg h',if_neg h',if_neg h'⟩
   | 9,h'=>exact ⟨rfl,rfl,if_neg h'⟩
   | 10,h'=>exact ⟨rfl,rfl,if_neg h'⟩
   | 11,h'=>exact ⟨rfl,rfl,joS_no h'⟩
   | 12,h'=>exact ⟨rfl,rfl,leS_no h'⟩
   | 13,h'=>exact ⟨rfl,rfl,rfl⟩
   | _+14,h'=>exact ⟨rfl,rfl,rfl⟩
  show D17.new (nA17 kd A a b) (nL17 kd A L a b) (nS17 kd A S a b)=D17.new A L S
  rw [key.1,key.2.1,key.2.2]
theorem note16_err {b:List UInt8} {nd rl:Nat} (h:Zj b nd rl≠0):uj b nd rl=b:=by
 unfold Zj at h
 unfold uj
 cases ht:ur b nd rl with
 | true=>rw [ht] at h; exact absurd rfl h
 | false=>rfl
def fL (W:World) (H:Nat) (F:Nat→Prop) (s:H17) (cl:Nat) (o:O14) (en:Ending) (w':World):Prop :=
 ∃ A n c,en=.returned (.tuple #[.slice A n c,.int .i64 (zH s cl o)])∧(zH s cl o=0→n=(xy s o).length∧vu w' A (xy s o))∧zp W H F (yj s cl o) w'
theorem ZD {W:World} {H:Nat} {F:Nat→Prop} {s:H17} {cl:Nat} {o:O14} {e:Int} {s':H17} {w':World} (he:e=zH s cl o) (hs:s'=yj s cl o) (ht:zH s cl o=0→xy s o=[]) (hg:zp W H F s' w') :
  fL W H F s cl o (.returned (.tuple #[.slice none 0 0,.int .i64 e])) w':=by
 subst hs
 exact ⟨none,0,0,by rw [he],fun h0=>by rw [ht h0]; exact ⟨rfl,vu.none _ _⟩,hg⟩
def St17 (R D:World→Prop) (m:Nat) (W:World):Prop:=if m=0 then R W else D W
def YDo17 (H:Nat) (vd vo:Value) (er:Int) (t0:List ByteArray) (tn:Nat):Nat→Value→World→Prop
 | 3,v,_=>v=vd
 | 4,v,_=>v=vo
 | 5,v,W=>∃ A n c,v=.tuple #[.slice A n c,.int .i64 er]∧(er=0→n=tn∧vu W A t0)
 | 6,v,W=>∃ A n c,v=.slice A n c∧(er=0→n=tn∧vu W A t0)
 | 7,v,_=>v=.int .i64 er
 | 8,v,W=>∃ A n c,v=.slice A n c∧(er=0→n=tn∧vu W A t0)
 | 9,v,_=>v=.int .i64 er
 | _,v,_=>v=.pointer (some ⟨H,0,none⟩)
theorem Ut {H:Nat} {vd vo:Value} {er:Int} {t0:List ByteArray} {tn:Nat} {W W':World} {j:Nat} {z:Value} (hj:j≠5∧j≠6∧j≠8) (h:YDo17 H vd vo er t0 tn j z W):YDo17 H vd vo er t0 tn j z W':=by
 match j,hj,h with
 | 0,_,h=>exact h
 | 1,_,h=>exact h
 | 2,_,h=>exact h
 | 3,_,h=>exact h
 | 4,_,h=>exact h
 | 5,hj,h=>exact absurd rfl hj.1
 | 6,hj,h=>exact absurd rfl hj.2.1
 | 7,_,h=>exact h
 | 8,hj,h=>exact absurd rfl hj.2.2
 | 9,_,h=>exact h
 | _+10,_,h=>exact h
set_option maxRecDepth 100000 in
theorem do17_old {W:World} {H B:Nat} {F:Nat→Prop} {s:H17} (h:zW W H F s) (hc0:W.cell? ⟨H,0,none⟩=some (.iface 80 (.agg #[.pointer (some ⟨B,0,none⟩)]))) (cl:Nat) (o:O14) (hl:zX W) (hk:o.kd.toNat≤14) (hv:vh o.kd.toNat≤(s.d.ver:Int))
  (ha:∀ W',Below W.heap.size W W'→Calls Tryz.prog 303 #[.agg #[.pointer (some ⟨B,0,none⟩)],o.v] W' fun en w'=>∃ A n c,en=.returned (.tuple #[.slice A n c,.int .i64 (zH s cl o)])∧(zH s cl o=0→n=(xy s o).length∧vu w' A (xy s o))∧zp W H F (yj s cl o) w') :
  Calls Tryz.prog 71 #[.pointer (some ⟨H,0,none⟩),.int .u8 (cl:Int),o.v] W (fL W H F s cl o):=by
 unfold fL
 unfold O14.v O14.cells at ha ⊢
 have hb1:=ze (Below.refl _ W) (.cells #[.int .u8 o.kd.toNat,.string o.a,.string o.b,.int .u8 o.nd.toNat,.int .u8 o.rl.toNat] 47)
 have HFR:=za (uq (o.kd.toNat:Int) _ (hl.later hb1))
 have HVE:Hid (∀ W',Below W.heap.size W W'→Calls Tryz.prog 17 #[.pointer (some ⟨H,0,none⟩)] W' (zF (.int .i64 (s.d.ver:Nat)) W')):=fun W' hW=>xS (h.later hW)
 unfold zF at HFR HVE
 have HA:=za ha
 have HX:Hid (∀ W',Below W.heap.size W W'→W'.cell? ⟨H,0,none⟩=some (.iface 80 (.agg #[.pointer (some ⟨B,0,none⟩)]))):=fun W' hW=>(hW.cell (p:=⟨H,0,none⟩) (World.block_lt_of_cell? W _ hc0)).trans hc0
 have HMT:=za (mth_ask_old B)
 have HB1:=za hb1
 have ho1:xx (W.alloc (.cells #[.int .u8 o.kd.toNat,.string o.a,.string o.b,.int .u8 o.nd.toNat,.int .u8 o.rl.toNat] 47)) W.heap.size o:=heap_alloc_new W _
 have HO:=za ho1
 have hcv:wrap64 (o.kd.toNat:Int)=o.kd.toNat:=IntWalk.wrap64_in _ (by have:=UInt8.toNat_lt o.kd; omega)
 have hgt:decide (vh o.kd.toNat > (s.d.ver:Int))=false:=by simp; omega
 have q15:((o.kd.toNat:Int) == 15)=false:=by simp; omega
 have q16:((o.kd.toNat:Int) == 16)=false:=by simp; omega
 clear h hc0 hl hk hv ha hb1 ho1
 generalize xy s o=t0 at *
 generalize t0.length=tn at *
 generalize zH s cl o=er at *
 generalize yj s cl o=s' at *
 generalize vh o.kd.toNat=fr at *
 generalize (s.d.ver:Int)=vr at *
 go_enter Tryz.func71,Tryz.ntmps71
 go_wp2_with fail
 generalize W.alloc (.cells #[.int .u8 o.kd.toNat,.string o.a,.string o.b,.int .u8 o.nd.toNat,.int .u8 o.rl.toNat] 47)=w1 at *
 generalize W.heap.size=P0 at HO ⊢
 have c0:=HO.out.c0
 with_reducible refine HFR.out.mono ?_
 rintro e w2 ⟨rfl,hb⟩
 have HB2:=za (zo HB1.out hb)
 have HO2:=za (HO.out.below hb)
 clear hb HFR HB1 HO c0
 go_wp2_with fail
 with_reducible refine (HVE.out _ HB2.out).mono ?_
 rintro e w3 ⟨rfl,hb⟩
 have HB3:=za (zo HB2.out hb)
 have HO3:=za (HO2.out.below hb)
 have c0:=HO3.out.c0
 clear hb HVE HB2 HO2
 go_wp2_with fail
 have HG0:Hid (jj [5] (St17 (fun W'=>Below w3.heap.size w3 W') (fun W'=>zp W H F s' W')) (fun _=>false) w3.drew):=jj.start (jc (Below.refl _ w3))
 refine ug (by kernel_rfl) (YDo17 H (.iface 80 (.agg #[.pointer (some ⟨B,0,none⟩)])) (.agg #[.int .u8 o.kd.toNat,.string o.a,.string o.b,.int .u8 o.nd.toNat,.int .u8 o.rl.toNat]) er t0 tn) (jj [5] (St17 (fun W'=>Below w3.heap.size w3 W') (fun W'=>zp W H F s' W'))) ?F ?hF (by kernel_rfl) (by kernel_rfl) HG0.out ?step ?fin
 case hF =>
  intro x
  simp only [List.map_cons,List.map_nil,vb,Act.put,List.setIfInBounds_toArray,List.set_cons_zero,List.set_cons_succ,Nat.zero_add,Nat.reduceAdd]
  exact rfl
 case step =>
  refine ⟨?_,?_,?_,?_,?_,?_,?_,?_,?_,?_,trivial⟩
  all_goals intro L x W' hL hd hcl hG hY K hK
  ·
   clear hd hcl hY
   go_simp
   exact hK _ _ rfl (hG.same 0 rfl (fun _ h=>h)) (fun _ _ h=>h)
  ·
   have h0:x 0=_:=hY 0 (hd 0 rfl)
   clear hd hcl hY
   simp only [h0] at hK
   go_simp
   exact hK _ _ rfl (hG.same 1 rfl (fun _ h=>h)) (fun _ _ h=>h)
  ·
   have h1:x 1=_:=hY 1 (hd 1 rfl)
   clear hd hcl hY
   simp only [h1] at hK
   go_simp
   exact hK _ _ rfl (hG.same 2 rfl (fun _ h=>h)) (fun _ _ h=>h)
  ·
   have h2:x 2=_:=hY 2 (hd 2 rfl)
   have z5:L 5=false:=by
    cases h:L 5 with
    | false=>rfl
    | true=>exact absurd (hcl 5 _ rfl h 3 (by rfl)) (by rw [hL]; decide)
   have hW:Below w3.heap.size w3 W':=hG.at_ 0 (by decide) z5 (.inl rfl)
   clear z5
   have c:=HX.out _ (zo HB3.out hW)
   clear hd hcl hY
   simp only [h2] at hK
   go_simp
   exact hK _ _ rfl (hG.same 3 rfl (fun _ h=>h)) (fun _ _ h=>h)
  ·
   have z5:L 5=false:=by
    cases h:L 5 with
    | false=>rfl
    | true=>exact absurd (hcl 5 _ rfl h 4 (by rfl)) (by rw [hL]; decide)
   have hW:Below w3.heap.size w3 W':=hG.at_ 0 (by decide) z5 (.inl rfl)
   clear z5
   have ho:=HO3.out.below hW
   have k0:=ho.c0
   have k1:=ho.c1
   have k2:=ho.c2
   have k3:=ho.c3
   have k4:=ho.c4
   clear ho
   clear hd hcl hY
   go_simp
   exact hK _ _ rfl (hG.same 4 rfl (fun _ h=>h)) (fun _ _ h=>h)
  ·
   have h3:x 3=_:=hY 3 (hd 3 rfl)
   have h4:x 4=_:=hY 4 (hd 4 rfl)
   have hW:Below w3.heap.size w3 W':=hG.at_ 0 (by decide) hL (.inl rfl)
   have HNX:=za (fun W2 (h:zp W H F s' W2)=>hG.next (W':=W2) 0 5 (by decide) rfl hL (.inl rfl) (by decide) h)
   have n5:∀ j,L j=true→j≠5∧j≠6∧j≠8:=fun j hj=>by
    refine ⟨fun e=>?_,fun e=>?_,fun e=>?_⟩
    ·
     rw [e,hL] at hj; cases hj
    ·
     subst e; have:=hcl 6 _ rfl hj 5 (by rfl); rw [hL] at this; cases this
    ·
     subst e; have:=hcl 6 _ rfl (hcl 8 _ rfl hj 6 (by rfl)) 5 (by rfl); rw [hL] at this; cases this
   have hc:=HA.out _ (zo HB3.out hW)
   have hm:=HMT.out
   clear hW
   clear hd hcl hY
   simp only [h3,h4] at hK
   go_simp
   refine hc.mono ?_
   rintro e W2 ⟨A5,n5',c5,rfl,ht,hgo⟩
   exact hK _ _ ⟨A5,n5',c5,rfl,ht⟩ (HNX.out W2 hgo) (fun j hj h=>Ut (n5 j hj) h)
  ·
   obtain ⟨A5,n5,c5,h5,ht⟩:=hY 5 (hd 5 rfl)
   clear hd hcl hY
   simp only [h5] at hK
   go_simp
   exact hK _ _ ⟨A5,n5,c5,rfl,ht⟩ (hG.same 6 rfl (fun _ h=>h)) (fun _ _ h=>h)
  ·
   obtain ⟨A5,n5,c5,h5,ht⟩:=hY 5 (hd 5 rfl)
   clear ht
   clear hd hcl hY
   simp only [h5] at hK
   go_simp
   exact hK _ _ rfl (hG.same 7 rfl (fun _ h=>h)) (fun _ _ h=>h)
  ·
   obtain ⟨A5,n5,c5,h6,ht⟩:=hY 6 (hd 6 rfl)
   clear hd hcl hY
   simp only [h6] at hK
   go_simp
   exact hK _ _ ⟨A5,n5,c5,rfl,ht⟩ (hG.same 8 rfl (fun _ h=>h)) (fun _ _ h=>h)
  ·
   have h7:x 7=_:=hY 7 (hd 7 rfl)
   clear hd hcl hY
   simp only [h7] at hK
   go_simp
   exact hK _ _ rfl (hG.same 9 rfl (fun _ h=>h)) (fun _ _ h=>h)
 case fin =>
  intro L x W' hall hG hY
  obtain ⟨A5,n5,c5,h8,ht⟩:=hY 8 (by decide)
  have h9:x 9=_:=hY 9 (by decide)
  have hgo:zp W H F s' W':=hG.last (fun r hr=>by match r,hr with | 0,_=>exact hall 5 (by decide))
  have HT:=za ht
  have HGO:=za hgo
  clear hY hG hall ht hgo
  simp only [h8,h9]
  go_wp2
  go_ret2
  exact ⟨A5,n5,c5,rfl,HT.out,HGO.out⟩
set_option maxRecDepth 100000 in
theorem do17_new {W:World} {H D:Nat} {F:Nat→Prop} {s:H17} (h:zW W H F s) (hc0:W.cell? ⟨H,0,none⟩=some (.iface 150 (.agg #[.pointer (some ⟨D,0,none⟩)]))) (cl:Nat) (o:O14) (hl:zX W) (hk:o.kd.toNat≤14) (hv:vh o.kd.toNat≤(s.d.ver:Int))
  (ha:∀ W',Below W.heap.size W W'→Calls Tryz.prog 340 #[.agg #[.pointer (some ⟨D,0,none⟩)],o.v] W' fun en w'=>∃ A n c,en=.returned (.tuple #[.slice A n c,.int .i64 (zH s cl o)])∧(zH s cl o=0→n=(xy s o).length∧vu w' A (xy s o))∧zp W H F (yj s cl o) w') :
  Calls Tryz.prog 71 #[.pointer (some ⟨H,0,none⟩),.int .u8 (cl:Int),o.v] W (fL W H F s cl o):=by
 unfold fL
 unfold O14.v O14.cells at ha ⊢
 have hb1:=ze (Below.refl _ W) (.cells #[.int .u8 o.kd.toNat,.string o.a,.string o.b,.int .u8 o.nd.toNat,.int .u8 o.rl.toNat] 47)
 have HFR:=za (uq (o.kd.toNat:Int) _ (hl.later hb1))
 have HVE:Hid (∀ W',Below W.heap.size W W'→Calls Tryz.prog 17 #[.pointer (some ⟨H,0,none⟩)] W' (zF (.int .i64 (s.d.ver:Nat)) W')):=fun W' hW=>xS (h.later hW)
 unfold zF at HFR HVE
 have HA:=za ha
 have HX:Hid (∀ W',Below W.heap.size W W'→W'.cell? ⟨H,0,none⟩=some (.iface 150 (.agg #[.pointer (some ⟨D,0,none⟩)]))):=fun W' hW=>(hW.cell (p:=⟨H,0,none⟩) (World.block_lt_of_cell? W _ hc0)).trans hc0
 have HMT:=za (mth_ask_new D)
 have HB1:=za hb1
 have ho1:xx (W.alloc (.cells #[.int .u8 o.kd.toNat,.string o.a,.string o.b,.int .u8 o.nd.toNat,.int .u8 o.rl.toNat] 47)) W.heap.size o:=heap_alloc_new W _
 have HO:=za ho1
 have hcv:wrap64 (o.kd.toNat:Int)=o.kd.toNat:=IntWalk.wrap64_in _ (by have:=UInt8.toNat_lt o.kd; omega)
 have hgt:decide (vh o.kd.toNat > (s.d.ver:Int))=false:=by simp; omega
 have q15:((o.kd.toNat:Int) == 15)=false:=by simp; omega
 have q16:((o.kd.toNat:Int) == 16)=false:=by simp; omega
 clear h hc0 hl hk hv ha hb1 ho1
 generalize xy s o=t0 at *
 generalize t0.length=tn at *
 generalize zH s cl o=er at *
 generalize yj s cl o=s' at *
 generalize vh o.kd.toNat=fr at *
 generalize (s.d.ver:Int)=vr at *
 go_enter Tryz.func71,Tryz.ntmps71
 go_wp2_with fail
 generalize W.alloc (.cells #[.int .u8 o.kd.toNat,.string o.a,.string o.b,.int .u8 o.nd.toNat,.int .u8 o.rl.toNat] 47)=w1 at *
 generalize W.heap.size=P0 at HO ⊢
 have c0:=HO.out.c0
 with_reducible refine HFR.out.mono ?_
 rintro e w2 ⟨rfl,hb⟩
 have HB2:=za (zo HB1.out hb)
 have HO2:=za (HO.out.below hb)
 clear hb HFR HB1 HO c0
 go_wp2_with fail
 with_reducible refine (HVE.out _ HB2.out).mono ?_
 rintro e w3 ⟨rfl,hb⟩
 have HB3:=za (zo HB2.out hb)
 have HO3:=za (HO2.out.below hb)
 have c0:=HO3.out.c0
 clear hb HVE HB2 HO2
 go_wp2_with fail
 have HG0:Hid (jj [5] (St17 (fun W'=>Below w3.heap.size w3 W') (fun W'=>zp W H F s' W')) (fun _=>false) w3.drew):=jj.start (jc (Below.refl _ w3))
 refine ug (by kernel_rfl) (YDo17 H (.iface 150 (.agg #[.pointer (some ⟨D,0,none⟩)])) (.agg #[.int .u8 o.kd.toNat,.string o.a,.string o.b,.int .u8 o.nd.toNat,.int .u8 o.rl.toNat]) er t0 tn) (jj [5] (St17 (fun W'=>Below w3.heap.size w3 W') (fun W'=>zp W H F s' W'))) ?F ?hF (by kernel_rfl) (by kernel_rfl) HG0.out ?step ?fin
 case hF =>
  intro x
  simp only [List.map_cons,List.map_nil,vb,Act.put,List.setIfInBounds_toArray,List.set_cons_zero,List.set_cons_succ,Nat.zero_add,Nat.reduceAdd]
  exact rfl
 case step =>
  refine ⟨?_,?_,?_,?_,?_,?_,?_,?_,?_,?_,trivial⟩
  all_goals intro L x W' hL hd hcl hG hY K hK
  ·
   clear hd hcl hY
   go_simp
   exact hK _ _ rfl (hG.same 0 rfl (fun _ h=>h)) (fun _ _ h=>h)
  ·
   have h0:x 0=_:=hY 0 (hd 0 rfl)
   clear hd hcl hY
   simp only [h0] at hK
   go_simp
   exact hK _ _ rfl (hG.same 1 rfl (fun _ h=>h)) (fun _ _ h=>h)
  ·
   have h1:x 1=_:=hY 1 (hd 1 rfl)
   clear hd hcl hY
   simp only [h1] at hK
   go_simp
   exact hK _ _ rfl (hG.same 2 rfl (fun _ h=>h)) (fun _ _ h=>h)
  ·
   have h2:x 2=_:=hY 2 (hd 2 rfl)
   have z5:L 5=false:=by
    cases h:L 5 with
    | false=>rfl
    | true=>exact absurd (hcl 5 _ rfl h 3 (by rfl)) (by rw [hL]; decide)
   have hW:Below w3.heap.size w3 W':=hG.at_ 0 (by decide) z5 (.inl rfl)
   clear z5
   have c:=HX.out _ (zo HB3.out hW)
   clear hd hcl hY
   simp only [h2] at hK
   go_simp
   exact hK _ _ rfl (hG.same 3 rfl (fun _ h=>h)) (fun _ _ h=>h)
  ·
   have z5:L 5=false:=by
    cases h:L 5 with
    | false=>rfl
    | true=>exact absurd (hcl 5 _ rfl h 4 (by rfl)) (by rw [hL]; decide)
   have hW:Below w3.heap.size w3 W':=hG.at_ 0 (by decide) z5 (.inl rfl)
   clear z5
   have ho:=HO3.out.below hW
   have k0:=ho.c0
   have k1:=ho.c1
   have k2:=ho.c2
   have k3:=ho.c3
   have k4:=ho.c4
   clear ho
   clear hd hcl hY
   go_simp
   exact hK _ _ rfl (hG.same 4 rfl (fun _ h=>h)) (fun _ _ h=>h)
  ·
   have h3:x 3=_:=hY 3 (hd 3 rfl)
   have h4:x 4=_:=hY 4 (hd 4 rfl)
   have hW:Below w3.heap.size w3 W':=hG.at_ 0 (by decide) hL (.inl rfl)
   have HNX:=za (fun W2 (h:zp W H F s' W2)=>hG.next (W':=W2) 0 5 (by decide) rfl hL (.inl rfl) (by decide) h)
   have n5:∀ j,L j=true→j≠5∧j≠6∧j≠8:=fun j hj=>by
    refine ⟨fun e=>?_,fun e=>?_,fun e=>?_⟩
    ·
     rw [e,hL] at hj; cases hj
    ·
     subst e; have:=hcl 6 _ rfl hj 5 (by rfl); rw [hL] at this; cases this
    ·
     subst e; have:=hcl 6 _ rfl (hcl 8 _ rfl hj 6 (by rfl)) 5 (by rfl); rw [hL] at this; cases this
   have hc:=HA.out _ (zo HB3.out hW)
   have hm:=HMT.out
   clear hW
   clear hd hcl hY
   simp only [h3,h4] at hK
   go_simp
   refine hc.mono ?_
   rintro e W2 ⟨A5,n5',c5,rfl,ht,hgo⟩
   exact hK _ _ ⟨A5,n5',c5,rfl,ht⟩ (HNX.out W2 hgo) (fun j hj h=>Ut (n5 j hj) h)
  ·
   obtain ⟨A5,n5,c5,h5,ht⟩:=hY 5 (hd 5 rfl)
   clear hd hcl hY
   simp only [h5] at hK
   go_simp
   exact hK _ _ ⟨A5,n5,c5,rfl,ht⟩ (hG.same 6 rfl (fun _ h=>h)) (fun _ _ h=>h)
  ·
   obtain ⟨A5,n5,c5,h5,ht⟩:=hY 5 (hd 5 rfl)
   clear ht
   clear hd hcl hY
   simp only [h5] at hK
   go_simp
   exact hK _ _ rfl (hG.same 7 rfl (fun _ h=>h)) (fun _ _ h=>h)
  ·
   obtain ⟨A5,n5,c5,h6,ht⟩:=hY 6 (hd 6 rfl)
   clear hd hcl hY
   simp only [h6] at hK
   go_simp
   exact hK _ _ ⟨A5,n5,c5,rfl,ht⟩ (hG.same 8 rfl (fun _ h=>h)) (fun _ _ h=>h)
  ·
   have h7:x 7=_:=hY 7 (hd 7 rfl)
   clear hd hcl hY
   simp only [h7] at hK
   go_simp
   exact hK _ _ rfl (hG.same 9 rfl (fun _ h=>h)) (fun _ _ h=>h)
 case fin =>
  intro L x W' hall hG hY
  obtain ⟨A5,n5,c5,h8,ht⟩:=hY 8 (by decide)
  have h9:x 9=_:=hY 9 (by decide)
  have hgo:zp W H F s' W':=hG.last (fun r hr=>by match r,hr with | 0,_=>exact hall 5 (by decide))
  have HT:=za ht
  have HGO:=za hgo
  clear hY hG hall ht hgo
  simp only [h8,h9]
  go_wp2
  go_ret2
  exact ⟨A5,n5,c5,rfl,HT.out,HGO.out⟩
end Go.Proofs.YteegkoicalbkbaaGreatDoor
namespace Go.Proofs.YteegkoicalbkbaaGreatDoor
open Go.RowKit Go.Maps
set_option linter.unusedVariables false

section
variable {W:World} {H:Nat} {F:Nat→Prop} {s:H17}
set_option maxRecDepth 100000 in
theorem Fd (h:zW W H F s) (cl:Nat) (o:O14) (hl:zX W) (hv:(s.d.ver:Int)<vh o.kd.toNat) :
  Calls Tryz.prog 71 #[.pointer (some ⟨H,0,none⟩),.int .u8 (cl:Int),o.v] W (fL W H F s cl o):=by
 have he:zH s cl o=6:=by unfold zH; rw [if_pos hv]
 have hs:yj s cl o=s:=by unfold yj; rw [if_pos (by rw [he]; decide)]
 have HEND:Hid (∀ w',Below W.heap.size W w'→fL W H F s cl o (.returned (.tuple #[.slice none 0 0,.int .i64 6])) w'):=fun w' hw=>ZD he.symm hs.symm (fun h0=>by rw [he] at h0; cases h0) (zp.still h hw)
 unfold O14.v O14.cells
 have hb1:=ze (Below.refl _ W) (.cells #[.int .u8 o.kd.toNat,.string o.a,.string o.b,.int .u8 o.nd.toNat,.int .u8 o.rl.toNat] 47)
 have HFR:=za (uq (o.kd.toNat:Int) _ (hl.later hb1))
 have HVE:Hid (∀ W',Below W.heap.size W W'→Calls Tryz.prog 17 #[.pointer (some ⟨H,0,none⟩)] W' (zF (.int .i64 (s.d.ver:Nat)) W')):=fun W' hW=>xS (h.later hW)
 unfold zF at HFR HVE
 have HB1:=za hb1
 have ho1:xx (W.alloc (.cells #[.int .u8 o.kd.toNat,.string o.a,.string o.b,.int .u8 o.nd.toNat,.int .u8 o.rl.toNat] 47)) W.heap.size o:=heap_alloc_new W _
 have HO:=za ho1
 have hcv:wrap64 (o.kd.toNat:Int)=o.kd.toNat:=IntWalk.wrap64_in _ (by have:=UInt8.toNat_lt o.kd; omega)
 have hgt:decide (vh o.kd.toNat > (s.d.ver:Int))=true:=by simp; omega
 clear h hl hv hb1 ho1 he hs
 generalize fL W H F s cl o=Q at *
 generalize vh o.kd.toNat=fr at *
 generalize (s.d.ver:Int)=vr at *
 go_enter Tryz.func71,Tryz.ntmps71
 go_wp2_with fail
 generalize W.alloc (.cells #[.int .u8 o.kd.toNat,.string o.a,.string o.b,.int .u8 o.nd.toNat,.int .u8 o.rl.toNat] 47)=w1 at *
 generalize W.heap.size=P0 at HO ⊢
 have c0:=HO.out.c0
 with_reducible refine HFR.out.mono ?_
 rintro e w2 ⟨rfl,hb⟩
 have HB2:=za (zo HB1.out hb)
 have HO2:=za (HO.out.below hb)
 clear hb HFR HB1 HO c0
 go_wp2_with fail
 with_reducible refine (HVE.out _ HB2.out).mono ?_
 rintro e w3 ⟨rfl,hb⟩
 have HB3:=za (zo HB2.out hb)
 have HO3:=za (HO2.out.below hb)
 have c0:=HO3.out.c0
 have c1:=HO3.out.c1
 have c2:=HO3.out.c2
 have c3:=HO3.out.c3
 have c4:=HO3.out.c4
 clear hb HVE HB2 HO2
 go_wp2
 exact HEND.out _ HB3.out
set_option maxRecDepth 100000 in
theorem do17_up (h:zW W H F s) (cl:Nat) (o:O14) (hl:zX W) (hv:vh o.kd.toNat≤(s.d.ver:Int)) (hk:o.kd.toNat=15)
  (hu:∀ W',Below W.heap.size W W'→Calls Tryz.prog 98 #[.pointer (some ⟨H,0,none⟩)] W' fun e w'=>e=.returned (.int .i64 (zH s cl o))∧zp W H F (yj s cl o) w') :
  Calls Tryz.prog 71 #[.pointer (some ⟨H,0,none⟩),.int .u8 (cl:Int),o.v] W (fL W H F s cl o):=by
 have ht:xy s o=[]:=by unfold xy; rw [if_neg (by omega)]
 have HEND:Hid (∀ w',zp W H F (yj s cl o) w'→fL W H F s cl o (.returned (.tuple #[.slice none 0 0,.int .i64 (zH s cl o)])) w'):=fun w' hw=>ZD rfl rfl (fun _=>ht) hw
 unfold O14.v O14.cells
 have hb1:=ze (Below.refl _ W) (.cells #[.int .u8 o.kd.toNat,.string o.a,.string o.b,.int .u8 o.nd.toNat,.int .u8 o.rl.toNat] 47)
 have HFR:=za (uq (o.kd.toNat:Int) _ (hl.later hb1))
 have HVE:Hid (∀ W',Below W.heap.size W W'→Calls Tryz.prog 17 #[.pointer (some ⟨H,0,none⟩)] W' (zF (.int .i64 (s.d.ver:Nat)) W')):=fun W' hW=>xS (h.later hW)
 unfold zF at HFR HVE
 have HB1:=za hb1
 have ho1:xx (W.alloc (.cells #[.int .u8 o.kd.toNat,.string o.a,.string o.b,.int .u8 o.nd.toNat,.int .u8 o.rl.toNat] 47)) W.heap.size o:=heap_alloc_new W _
 have HO:=za ho1
 have hcv:wrap64 (o.kd.toNat:Int)=o.kd.toNat:=IntWalk.wrap64_in _ (by have:=UInt8.toNat_lt o.kd; omega)
 have HU:=za hu
 have hgt:decide (vh o.kd.toNat > (s.d.ver:Int))=false:=by simp; omega
 have HKD:=za hk
 have q15:((o.kd.toNat:Int) == 15)=true:=by rw [HKD.out]; rfl
 clear h hl hv hb1 ho1 ht hk hu
 generalize zH s cl o=er at *
 generalize yj s cl o=s' at *
 generalize fL W H F s cl o=Q at *
 generalize vh o.kd.toNat=fr at *
 generalize (s.d.ver:Int)=vr at *
 go_enter Tryz.func71,Tryz.ntmps71
 go_wp2_with fail
 generalize W.alloc (.cells #[.int .u8 o.kd.toNat,.string o.a,.string o.b,.int .u8 o.nd.toNat,.int .u8 o.rl.toNat] 47)=w1 at *
 generalize W.heap.size=P0 at HO ⊢
 have c0:=HO.out.c0
 with_reducible refine HFR.out.mono ?_
 rintro e w2 ⟨rfl,hb⟩
 have HB2:=za (zo HB1.out hb)
 have HO2:=za (HO.out.below hb)
 clear hb HFR HB1 HO c0
 go_wp2_with fail
 with_reducible refine (HVE.out _ HB2.out).mono ?_
 rintro e w3 ⟨rfl,hb⟩
 have HB3:=za (zo HB2.out hb)
 have HO3:=za (HO2.out.below hb)
 have c0:=HO3.out.c0
 have c1:=HO3.out.c1
 have c2:=HO3.out.c2
 have c3:=HO3.out.c3
 have c4:=HO3.out.c4
 clear hb HVE HB2 HO2
 go_wp2_with fail
 with_reducible refine (HU.out _ HB3.out).mono ?_
 rintro e w4 ⟨rfl,hg⟩
 have HG:=za (HEND.out _ hg)
 clear hg HU HEND
 go_wp2
 exact HG.out
set_option maxRecDepth 100000 in
theorem do17_adv (h:zW W H F s) (cl:Nat) (o:O14) (hl:zX W) (hv:vh o.kd.toNat≤(s.d.ver:Int)) (hk:o.kd.toNat=16)
  (hu:∀ W',Below W.heap.size W W'→Calls Tryz.prog 99 #[.pointer (some ⟨H,0,none⟩),.int .u8 (cl:Int),o.v] W' fun e w'=>e=.returned (.int .i64 (zH s cl o))∧zp W H F (yj s cl o) w') :
  Calls Tryz.prog 71 #[.pointer (some ⟨H,0,none⟩),.int .u8 (cl:Int),o.v] W (fL W H F s cl o):=by
 have ht:xy s o=[]:=by unfold xy; rw [if_neg (by omega)]
 have HEND:Hid (∀ w',zp W H F (yj s cl o) w'→fL W H F s cl o (.returned (.tuple #[.slice none 0 0,.int .i64 (zH s cl o)])) w'):=fun w' hw=>ZD rfl rfl (fun _=>ht) hw
 unfold O14.v O14.cells at hu ⊢
 have hb1:=ze (Below.refl _ W) (.cells #[.int .u8 o.kd.toNat,.string o.a,.string o.b,.int .u8 o.nd.toNat,.int .u8 o.rl.toNat] 47)
 have HFR:=za (uq (o.kd.toNat:Int) _ (hl.later hb1))
 have HVE:Hid (∀ W',Below W.heap.size W W'→Calls Tryz.prog 17 #[.pointer (some ⟨H,0,none⟩)] W' (zF (.int .i64 (s.d.ver:Nat)) W')):=fun W' hW=>xS (h.later hW)
 unfold zF at HFR HVE
 have HB1:=za hb1
 have ho1:xx (W.alloc (.cells #[.int .u8 o.kd.toNat,.string o.a,.string o.b,.int .u8 o.nd.toNat,.int .u8 o.rl.toNat] 47)) W.heap.size o:=heap_alloc_new W _
 have HO:=za ho1
 have hcv:wrap64 (o.kd.toNat:Int)=o.kd.toNat:=IntWalk.wrap64_in _ (by have:=UInt8.toNat_lt o.kd; omega)
 have HU:=za hu
 have hgt:decide (vh o.kd.toNat > (s.d.ver:Int))=false:=by simp; omega
 have HKD:=za hk
 have q15:((o.kd.toNat:Int) == 15)=false:=by rw [HKD.out]; rfl
 have q16:((o.kd.toNat:Int) == 16)=true:=by rw [HKD.out]; rfl
 clear h hl hv hb1 ho1 ht hk hu
 generalize zH s cl o=er at *
 generalize yj s cl o=s' at *
 generalize fL W H F s cl o=Q at *
 generalize vh o.kd.toNat=fr at *
 generalize (s.d.ver:Int)=vr at *
 go_enter Tryz.func71,Tryz.ntmps71
 go_wp2_with fail
 generalize W.alloc (.cells #[.int .u8 o.kd.toNat,.string o.a,.string o.b,.int .u8 o.nd.toNat,.int .u8 o.rl.toNat] 47)=w1 at *
 generalize W.heap.size=P0 at HO ⊢
 have c0:=HO.out.c0
 with_reducible refine HFR.out.mono ?_
 rintro e w2 ⟨rfl,hb⟩
 have HB2:=za (zo HB1.out hb)
 have HO2:=za (HO.out.below hb)
 clear hb HFR HB1 HO c0
 go_wp2_with fail
 with_reducible refine (HVE.out _ HB2.out).mono ?_
 rintro e w3 ⟨rfl,hb⟩
 have HB3:=za (zo HB2.out hb)
 have HO3:=za (HO2.out.below hb)
 have c0:=HO3.out.c0
 have c1:=HO3.out.c1
 have c2:=HO3.out.c2
 have c3:=HO3.out.c3
 have c4:=HO3.out.c4
 clear hb HVE HB2 HO2
 go_wp2_with fail
 with_reducible refine (HU.out _ HB3.out).mono ?_
 rintro e w4 ⟨rfl,hg⟩
 have HG:=za (HEND.out _ hg)
 clear hg HU HEND
 go_wp2
 exact HG.out
theorem Ui (h:zW W H F s) (hg:s.Good) (cl:Nat) (o:O14) (hl:zX W) (h5:vO W) (hk:o.kd.toNat≤16) (ha:o.a.size≤1000) (hb:o.b.size≤1000) :
  Calls Tryz.prog 71 #[.pointer (some ⟨H,0,none⟩),.int .u8 (cl:Int),o.v] W (fL W H F s cl o):=by
 by_cases hv:(s.d.ver:Int)<vh o.kd.toNat
 ·
  exact Fd h cl o hl hv
 have hv':vh o.kd.toNat≤(s.d.ver:Int):=by omega
 have hgd:=hg.d
 by_cases h15:o.kd.toNat=15
 ·
  have h16:¬ (s.d.ver:Int)<vh o.kd.toNat:=hv
  refine do17_up h cl o hl hv' h15 fun W' hW=>?_
  cases hd:s.d with
  | old E =>
   have hgE:yT E:=by rw [hd] at hgd; exact hgd
   cases hr:rdy17 s.b with
   | true =>
    have he:zH s cl o=0:=by unfold zH; rw [if_neg hv,if_pos h15,hd,hr]; rfl
    have hs:yj s cl o={ s with d:=upD17 (.old E) }:=by unfold yj; rw [if_neg (by rw [he]; decide),if_pos h15,hd]
    rw [he,hs]
    exact (YL (h.later hW) hgE hd hr (h5.later hW)).mono fun e w' ⟨h1,h2⟩=>⟨h1,h2.ahead hW⟩
   | false =>
    have he:zH s cl o=13:=by unfold zH; rw [if_neg hv,if_pos h15,hd,hr]; rfl
    have hs:yj s cl o=s:=by unfold yj; rw [if_pos (by rw [he]; decide)]
    rw [he,hs]
    exact (Zx (h.later hW) hd hr).mono fun e w' ⟨h1,h2⟩=>⟨h1,zp.still h (zo hW h2)⟩
  | new A L S =>
   have he:zH s cl o=14:=by unfold zH; rw [if_neg hv,if_pos h15,hd]
   have hs:yj s cl o=s:=by unfold yj; rw [if_pos (by rw [he]; decide)]
   rw [he,hs]
   exact (UA (h.later hW) hd).mono fun e w' ⟨h1,h2⟩=>⟨h1,zp.still h (zo hW h2)⟩
 by_cases h16:o.kd.toNat=16
 ·
  refine do17_adv h cl o hl hv' h16 fun W' hW=>?_
  have he:zH s cl o=(if cl=255 then ((Zj s.b o.nd.toNat o.rl.toNat:Nat):Int) else (1:Int)):=by unfold zH; rw [if_neg hv,if_neg h15,if_pos h16]
  have hs:yj s cl o=if cl=255 then { s with b:=uj s.b o.nd.toNat o.rl.toNat } else s:=by
   unfold yj
   rw [he]
   by_cases hc:cl=255
   ·
    rw [if_pos hc,if_pos hc]
    by_cases h0:((Zj s.b o.nd.toNat o.rl.toNat:Nat):Int)=0
    ·
     rw [if_neg (by rw [h0]; decide),if_neg h15,if_pos h16]
    ·
     rw [if_pos h0,note16_err (by omega)]
   ·
    rw [if_neg hc,if_neg hc]
    rfl
  rw [he,hs]
  exact (ZV (h.later hW) cl o).mono fun e w' ⟨h1,h2⟩=>⟨h1,h2.ahead hW⟩
 have h14:o.kd.toNat≤14:=by omega
 have he:zH s cl o=yX s.d o.kd.toNat o.a.data.toList o.b.data.toList:=by unfold zH; rw [if_neg hv,if_neg h15,if_neg h16]
 have hs:yj s cl o={ s with d:=xq s.d o.kd.toNat o.a.data.toList o.b.data.toList }:=by
  unfold yj
  rw [he]
  by_cases h0:yX s.d o.kd.toNat o.a.data.toList o.b.data.toList=0
  ·
   rw [if_neg (by rw [h0]; decide),if_neg h15,if_neg h16]
  ·
   rw [if_pos h0,dD17_err _ _ _ _ h0]
 have ht:xy s o=(xD s.d o.kd.toNat o.a.data.toList).map xN:=by unfold xy; rw [if_pos h14]
 obtain ⟨v,FD,hc,hd,hgo⟩:=h.dir
 have hend:∀ W',Below W.heap.size W W'→∀ en w',zv W' v FD s.d o.kd.toNat o.a o.b en w'→∃ A n c,en=.returned (.tuple #[.slice A n c,.int .i64 (zH s cl o)])∧(zH s cl o=0→n=(xy s o).length∧vu w' A (xy s o))∧zp W H F (yj s cl o) w':=fun W' hW en w' ⟨A,n,c,h1,h2,h3⟩=>by
  rw [he,hs,ht,List.length_map]
  exact ⟨A,n,c,h1,h2,hgo _ _ (h3.ahead hW)⟩
 rcases hd.shape with ⟨B,p,E,e,hv0,hd7,hF⟩ | ⟨D,P,M,G,A,p,q,L,LM,pg,T,e,hv0,hd11,hF⟩
 ·
  subst hv0
  have h4:o.kd.toNat≤4:=by
   rw [e] at hv'
   have h1:vh o.kd.toNat≤1:=hv'
   clear hend hs he ht hv hv' hd hgo
   generalize o.kd.toNat=k at *
   match k,h14,h1 with
   | 0,_,_=>omega
   | 1,_,_=>omega
   | 2,_,_=>omega
   | 3,_,_=>omega
   | 4,_,_=>omega
   | 5,_,h1=>exact absurd h1 (by decide)
   | 6,_,h1=>exact absurd h1 (by decide)
   | 7,_,h1=>exact absurd h1 (by decide)
   | 8,_,h1=>exact absurd h1 (by decide)
   | 9,_,h1=>exact absurd h1 (by decide)
   | 10,_,h1=>exact absurd h1 (by decide)
   | 11,_,h1=>exact absurd h1 (by decide)
   | 12,_,h1=>exact absurd h1 (by decide)
   | 13,_,h1=>exact absurd h1 (by decide)
   | 14,_,h1=>exact absurd h1 (by decide)
   | k+15,hk,_=>omega
  refine do17_old h hc cl o hl h14 hv' fun W' hW=>?_
  rw [e] at hend
  exact (ask_old17 W' B p E FD (hd7.later hW) hF o.kd.toNat o.a o.b o.nd.toNat o.rl.toNat ha hb h4).mono (hend W' hW)
 ·
  subst hv0
  rw [e] at hgd
  refine do17_new h hc cl o hl h14 hv' fun W' hW=>?_
  rw [e] at hend
  exact (ask_new17 W' FD (hd11.later hW) hgd hF (h5.later hW) o.kd.toNat o.a o.b o.nd.toNat o.rl.toNat ha hb h14).mono (hend W' hW)
end
end Go.Proofs.YteegkoicalbkbaaGreatDoor
namespace Go.Proofs.YteegkoicalbkbaaGreatDoor
open Go.RowKit Go.Maps
set_option linter.unusedVariables false

theorem Uk {o:O14} (h:vY o=0):o.kd.toNat≤16:=by
 unfold vY at h
 split at h
 ·
  rename_i hf
  unfold JV at hf
  simp only [Bool.and_eq_true] at hf
  have hk:=hf.2.1
  unfold vS at hk
  simp at hk
  omega
 ·
  cases h
theorem zp.keeps {W w':World} {H:Nat} {F:Nat→Prop} {s s':H17} (h:zW W H F s) (hg:zp W H F s' w'):yO W w':=by
 obtain ⟨F',_,_,ht⟩:=hg
 exact h.keeps ht (fun i e=>e)
theorem yO.rep {W w':World} {R:Nat} {e:Int} {v:Value} (hk:yO W w') (h:vT W R e v):vT w' R e v:=hk R _ _ _ h (by decide)
theorem yO.op {W w':World} {R:Nat} {o:O14} (hk:yO W w') (h:xx W R o):xx w' R o:=hk R _ _ _ h (by decide)
theorem yi (w:World) (R:Nat) (x y:Value):zg (fun i=>i=R) w ((w.setCell ⟨R,0,none⟩ x).setCell ⟨R,1,none⟩ y) :=
 ((zg.refl (fun i=>i=R) w).setCell (p:=⟨R,0,none⟩) (fun _=>rfl) x).setCell (p:=⟨R,1,none⟩) (fun _=>rfl) y
theorem vT.nos17 {W:World} {R:Nat} {e:Int} {v:Value} (h:vT W R e v):fM W R:=ve h (fun s e=>by simp at e)
theorem zp.beside {W w1 w2:World} {H:Nat} {F:Nat→Prop} {s':H17} {R:Nat} (hg:zp W H F s' w1) {cs:Array Value} {X:TypeId} {fr:Nat×Nat} (hr:w1.heap[R]? = some (.cells cs X fr)) (hX:¬ TyF17 X) (hn:fM w1 R) (hlo:W.heap.size≤R) (ht:zg (fun i=>i=R) w1 w2):zp W H F s' w2:=by
 obtain ⟨F',h1,h2,h3⟩:=hg
 exact ⟨F',h1.turns ht (fun i hi e=>by subst e; exact hX (h1.ty hi hr)) (fun i e=>by subst e; exact hn),h2,h3.next ht (fun i hi e=>by subst e; omega)⟩
theorem zW.beside {w1 w2:World} {H:Nat} {F:Nat→Prop} {s:H17} {R:Nat} (h:zW w1 H F s) {cs:Array Value} {X:TypeId} {fr:Nat×Nat} (hr:w1.heap[R]? = some (.cells cs X fr)) (hX:¬ TyF17 X) (hn:fM w1 R) (ht:zg (fun i=>i=R) w1 w2):zW w2 H F s :=
 h.turns ht (fun i hi e=>by subst e; exact hX (h.ty hi hr)) (fun i e=>by subst e; exact hn)
def V1 (W:World) (H:Nat) (F:Nat→Prop) (s:H17) (cl:Nat) (o:O14) (en:Ending) (w':World):Prop :=
 ∃ A c,en=.returned (.agg #[.int .i64 (yD s cl o),.slice A (xC s cl o).length c])∧vu w' A (xC s cl o)∧zp W H F (xK s cl o) w'
section
variable {W:World} {H:Nat} {F:Nat→Prop} {s:H17}
set_option maxRecDepth 100000 in
theorem Fy (h:zW W H F s) (cl:Nat) (o:O14) (hl:zX W) (ha:o.a.size≤1000) (hb:o.b.size≤1000) (hc:vY o≠0) :
  Calls Tryz.prog 42 #[.pointer (some ⟨H,0,none⟩),.int .u8 (cl:Int),o.v] W (V1 W H F s cl o):=by
 have he:yD s cl o=vY o:=by unfold yD; rw [if_pos hc]
 have hs:xK s cl o=s:=by unfold xK; rw [if_pos hc]
 have ht:xC s cl o=[]:=by unfold xC; rw [he,if_neg hc]
 unfold V1
 rw [he,hs,ht]
 have HCK:Hid (∀ W',Below W.heap.size W W'→Calls Tryz.prog 26 #[o.v] W' (zF (.int .i64 (vY o)) W')):=fun W' hW=>vL o W' (hl.later hW) ⟨by omega,by omega⟩
 have q:=HCK.out
 unfold O14.v O14.cells at HCK ⊢
 unfold zF at HCK
 have hb1:=ze (Below.refl _ W) (.cells #[.int .u8 o.kd.toNat,.string o.a,.string o.b,.int .u8 o.nd.toNat,.int .u8 o.rl.toNat] 47)
 have hb2:=ze hb1 (.cells #[.int .i64 0,.slice none 0 0] 56)
 have HR:Hid (vT ((W.alloc (.cells #[.int .u8 o.kd.toNat,.string o.a,.string o.b,.int .u8 o.nd.toNat,.int .u8 o.rl.toNat] 47)).alloc (.cells #[.int .i64 0,.slice none 0 0] 56)) (W.heap.size+1) 0 (.slice none 0 0)):=heap_alloc2_new W _ _
 have HRF:=za (fun (e:Int) W'=>yv e W')
 unfold zF at HRF
 have HB2:=za hb2
 have HH:=za h
 have hq:(vY o != 0)=true:=by simp [hc]
 clear hb1 hb2 h hl ha hb hc he hs ht q
 generalize vY o=ck at *
 go_enter Tryz.func42,Tryz.ntmps42
 go_wp2_with fail
 generalize (W.alloc (.cells #[.int .u8 o.kd.toNat,.string o.a,.string o.b,.int .u8 o.nd.toNat,.int .u8 o.rl.toNat] 47)).alloc (.cells #[.int .i64 0,.slice none 0 0] 56)=w2 at *
 with_reducible refine (HCK.out _ HB2.out).mono ?_
 rintro e w3 ⟨rfl,hb⟩
 have HB3:=za (zo HB2.out hb)
 have HR3:=za (HR.out.below hb)
 clear hb HCK HB2 HR
 go_wp2_with fail
 with_reducible refine (HRF.out _ _).mono ?_
 rintro e w4 ⟨rfl,hb⟩
 have HB4:=za (zo HB3.out hb)
 have hr4:=HR3.out.below hb
 have x0:=hr4.c0
 have x1:=hr4.c1
 have xf:=hr4.fr
 have HR4:=za hr4
 clear hb HRF HB3 HR3 hr4
 go_wp2
 refine bodyPost_ret (results_cell_row Tryz.results42 _ _ (W.heap.size+1) _ _ (0,0) _ rfl (HR4.out.setAll ck (.slice none 0 0)) Tryz.underlying56 rfl xw) rfl ⟨none,0,rfl,vu.none _ _,?_⟩
 exact (zp.still HH.out HB4.out).beside (R:=W.heap.size+1) HR4.out (by decide) HR4.out.nos17 (by omega) (yi _ _ _ _)
set_option maxRecDepth 100000 in
theorem answer17_no (h:zW W H F s) (hg:s.Good) (cl:Nat) (o:O14) (hl:zX W) (h5:vO W) (ha:o.a.size≤1000) (hb:o.b.size≤1000) (hc:vY o=0) (hr:zH s cl o≠0) :
  Calls Tryz.prog 42 #[.pointer (some ⟨H,0,none⟩),.int .u8 (cl:Int),o.v] W (V1 W H F s cl o):=by
 have hc0:¬ vY o≠0:=fun e=>e hc
 have he:yD s cl o=zH s cl o:=by unfold yD; rw [if_neg hc0]
 have hs:xK s cl o=yj s cl o:=by unfold xK; rw [if_neg hc0]
 have ht:xC s cl o=[]:=by unfold xC; rw [he,if_neg hr]
 unfold V1
 rw [he,hs,ht]
 have HCK:Hid (∀ W',Below W.heap.size W W'→Calls Tryz.prog 26 #[o.v] W' (zF (.int .i64 0) W')):=fun W' hW=>by
  have:=vL o W' (hl.later hW) ⟨by omega,by omega⟩
  rwa [hc] at this
 have HDO:Hid (∀ W',Below W.heap.size W W'→Calls Tryz.prog 71 #[.pointer (some ⟨H,0,none⟩),.int .u8 (cl:Int),o.v] W' fun en w'=>∃ A n c,en=.returned (.tuple #[.slice A n c,.int .i64 (zH s cl o)])∧(zH s cl o=0→n=(xy s o).length∧vu w' A (xy s o))∧zp W H F (yj s cl o) w'∧yO W' w'):=fun W' hW =>
  (Ui (h.later hW) hg cl o (hl.later hW) (h5.later hW) (Uk hc) ha hb).mono fun en w' ⟨A,n,c,h1,h2,h3⟩=>⟨A,n,c,h1,h2,h3.ahead hW,h3.keeps (h.later hW)⟩
 have HRF:=za (fun (e:Int) W'=>yv e W')
 unfold zF at HRF
 unfold O14.v O14.cells at HCK HDO ⊢
 unfold zF at HCK
 have hb1:=ze (Below.refl _ W) (.cells #[.int .u8 o.kd.toNat,.string o.a,.string o.b,.int .u8 o.nd.toNat,.int .u8 o.rl.toNat] 47)
 have hb2:=ze hb1 (.cells #[.int .i64 0,.slice none 0 0] 56)
 have HR:Hid (vT ((W.alloc (.cells #[.int .u8 o.kd.toNat,.string o.a,.string o.b,.int .u8 o.nd.toNat,.int .u8 o.rl.toNat] 47)).alloc (.cells #[.int .i64 0,.slice none 0 0] 56)) (W.heap.size+1) 0 (.slice none 0 0)):=heap_alloc2_new W _ _
 have HO:Hid (xx ((W.alloc (.cells #[.int .u8 o.kd.toNat,.string o.a,.string o.b,.int .u8 o.nd.toNat,.int .u8 o.rl.toNat] 47)).alloc (.cells #[.int .i64 0,.slice none 0 0] 56)) W.heap.size o):=by
  have ho:xx (W.alloc (.cells #[.int .u8 o.kd.toNat,.string o.a,.string o.b,.int .u8 o.nd.toNat,.int .u8 o.rl.toNat] 47)) W.heap.size o:=heap_alloc_new W _
  exact ho.below (ze (Below.refl _ _) _)
 have HB2:=za hb2
 have HER:Hid (zH s cl o≠0):=hr
 have hq:(zH s cl o != 0)=true:=by simp [hr]
 clear hb1 hb2 h hl ha hb hc he hs ht hc0 hg h5 hr
 generalize xy s o=t0 at *
 generalize zH s cl o=er at *
 generalize yj s cl o=s' at *
 go_enter Tryz.func42,Tryz.ntmps42
 go_wp2_with fail
 generalize (W.alloc (.cells #[.int .u8 o.kd.toNat,.string o.a,.string o.b,.int .u8 o.nd.toNat,.int .u8 o.rl.toNat] 47)).alloc (.cells #[.int .i64 0,.slice none 0 0] 56)=w2 at *
 with_reducible refine (HCK.out _ HB2.out).mono ?_
 rintro e w3 ⟨rfl,hb⟩
 have HB3:=za (zo HB2.out hb)
 have HR3:=za (HR.out.below hb)
 have ho3:=HO.out.below hb
 have y0:=ho3.c0
 have y1:=ho3.c1
 have y2:=ho3.c2
 have y3:=ho3.c3
 have y4:=ho3.c4
 clear hb HCK HB2 HR HO ho3
 go_wp2_with fail
 with_reducible refine (HDO.out _ HB3.out).mono ?_
 rintro e w4 ⟨A5,n5,c5,rfl,htx,hgo,hkp⟩
 have hr4:=hkp.rep HR3.out
 have HR4:=za hr4
 have HGO:=za hgo
 have HHS:=za hkp
 clear htx hgo hkp HDO HB3 HR3 hr4 y0 y1 y2 y3 y4
 go_wp2_with fail
 with_reducible refine (HRF.out _ _).mono ?_
 rintro e w5 ⟨rfl,hb⟩
 have hr5:=HR4.out.below hb
 have x0:=hr5.c0
 have x1:=hr5.c1
 have xf:=hr5.fr
 have HR5:=za hr5
 have HGO5:=za (HGO.out.behind hb)
 clear hb HRF HR4 HGO hr5
 go_wp2
 refine bodyPost_ret (results_cell_row Tryz.results42 _ _ (W.heap.size+1) _ _ (0,0) _ rfl (HR5.out.setAll er (.slice none 0 0)) Tryz.underlying56 rfl xw) rfl ⟨none,0,rfl,vu.none _ _,?_⟩
 exact HGO5.out.beside (R:=W.heap.size+1) HR5.out (by decide) HR5.out.nos17 (by omega) (yi _ _ _ _)
set_option maxRecDepth 100000 in
theorem Fx (h:zW W H F s) (hg:s.Good) (cl:Nat) (o:O14) (hl:zX W) (h5:vO W) (ha:o.a.size≤1000) (hb:o.b.size≤1000) (hc:vY o=0) (hr:zH s cl o=0) :
  Calls Tryz.prog 42 #[.pointer (some ⟨H,0,none⟩),.int .u8 (cl:Int),o.v] W (V1 W H F s cl o):=by
 have hc0:¬ vY o≠0:=fun e=>e hc
 have he:yD s cl o=zH s cl o:=by unfold yD; rw [if_neg hc0]
 have hs:xK s cl o=yj s cl o:=by unfold xK; rw [if_neg hc0]
 have ht:xC s cl o=xy s o:=by unfold xC; rw [he,if_pos hr]
 unfold V1
 rw [he,hs,ht]
 have HCK:Hid (∀ W',Below W.heap.size W W'→Calls Tryz.prog 26 #[o.v] W' (zF (.int .i64 0) W')):=fun W' hW=>by
  have:=vL o W' (hl.later hW) ⟨by omega,by omega⟩
  rwa [hc] at this
 have HDO:Hid (∀ W',Below W.heap.size W W'→Calls Tryz.prog 71 #[.pointer (some ⟨H,0,none⟩),.int .u8 (cl:Int),o.v] W' fun en w'=>∃ A n c,en=.returned (.tuple #[.slice A n c,.int .i64 (zH s cl o)])∧(zH s cl o=0→n=(xy s o).length∧vu w' A (xy s o))∧zp W H F (yj s cl o) w'∧yO W' w'):=fun W' hW =>
  (Ui (h.later hW) hg cl o (hl.later hW) (h5.later hW) (Uk hc) ha hb).mono fun en w' ⟨A,n,c,h1,h2,h3⟩=>⟨A,n,c,h1,h2,h3.ahead hW,h3.keeps (h.later hW)⟩
 have HRF:=za (fun (e:Int) W'=>yv e W')
 unfold zF at HRF
 unfold O14.v O14.cells at HCK HDO ⊢
 unfold zF at HCK
 have hb1:=ze (Below.refl _ W) (.cells #[.int .u8 o.kd.toNat,.string o.a,.string o.b,.int .u8 o.nd.toNat,.int .u8 o.rl.toNat] 47)
 have hb2:=ze hb1 (.cells #[.int .i64 0,.slice none 0 0] 56)
 have HR:Hid (vT ((W.alloc (.cells #[.int .u8 o.kd.toNat,.string o.a,.string o.b,.int .u8 o.nd.toNat,.int .u8 o.rl.toNat] 47)).alloc (.cells #[.int .i64 0,.slice none 0 0] 56)) (W.heap.size+1) 0 (.slice none 0 0)):=heap_alloc2_new W _ _
 have HO:Hid (xx ((W.alloc (.cells #[.int .u8 o.kd.toNat,.string o.a,.string o.b,.int .u8 o.nd.toNat,.int .u8 o.rl.toNat] 47)).alloc (.cells #[.int .i64 0,.slice none 0 0] 56)) W.heap.size o):=by
  have ho:xx (W.alloc (.cells #[.int .u8 o.kd.toNat,.string o.a,.string o.b,.int .u8 o.nd.toNat,.int .u8 o.rl.toNat] 47)) W.heap.size o:=heap_alloc_new W _
  exact ho.below (ze (Below.refl _ _) _)
 have HB2:=za hb2
 have HER:Hid (zH s cl o=0):=hr
 have hq:(zH s cl o != 0)=false:=by simp [hr]
 clear hb1 hb2 h hl ha hb hc he hs ht hc0 hg h5 hr
 generalize xy s o=t0 at *
 generalize zH s cl o=er at *
 generalize yj s cl o=s' at *
 go_enter Tryz.func42,Tryz.ntmps42
 go_wp2_with fail
 generalize (W.alloc (.cells #[.int .u8 o.kd.toNat,.string o.a,.string o.b,.int .u8 o.nd.toNat,.int .u8 o.rl.toNat] 47)).alloc (.cells #[.int .i64 0,.slice none 0 0] 56)=w2 at *
 with_reducible refine (HCK.out _ HB2.out).mono ?_
 rintro e w3 ⟨rfl,hb⟩
 have HB3:=za (zo HB2.out hb)
 have HR3:=za (HR.out.below hb)
 have ho3:=HO.out.below hb
 have y0:=ho3.c0
 have y1:=ho3.c1
 have y2:=ho3.c2
 have y3:=ho3.c3
 have y4:=ho3.c4
 clear hb HCK HB2 HR HO ho3
 go_wp2_with fail
 with_reducible refine (HDO.out _ HB3.out).mono ?_
 rintro e w4 ⟨A5,n5,c5,rfl,htx,hgo,hkp⟩
 have hr4:=hkp.rep HR3.out
 obtain ⟨hn5,htx5⟩:=htx HER.out
 have er0:er=0:=HER.out
 have x0:=hr4.c0
 have x1:=hr4.c1
 have xf:=hr4.fr
 have HR4:=za hr4
 have HGO:=za hgo
 have HTX:=za htx5
 have HN5:=za hn5
 have HE0:=za er0
 clear htx hgo hkp HDO HB3 HR3 hr4 htx5 hn5 er0 y0 y1 y2 y3 y4 HRF
 go_wp2
 refine bodyPost_ret (results_cell_row Tryz.results42 _ _ (W.heap.size+1) _ _ (0,0) _ rfl (HR4.out.setAll 0 (.slice A5 n5 c5)) Tryz.underlying56 rfl xw) rfl ⟨A5,c5,by rw [HE0.out,HN5.out],?_,?_⟩
 ·
  exact HTX.out.turns (yi _ _ _ _) (fun i e=>by rw [e]; exact HR4.out.nos17)
 ·
  exact HGO.out.beside (R:=W.heap.size+1) HR4.out (by decide) HR4.out.nos17 (by omega) (yi _ _ _ _)
theorem fk (h:zW W H F s) (hg:s.Good) (cl:Nat) (o:O14) (hl:zX W) (h5:vO W) (ha:o.a.size≤1000) (hb:o.b.size≤1000) :
  Calls Tryz.prog 42 #[.pointer (some ⟨H,0,none⟩),.int .u8 (cl:Int),o.v] W (V1 W H F s cl o):=by
 by_cases hc:vY o=0
 ·
  by_cases hr:zH s cl o=0
  ·
   exact Fx h hg cl o hl h5 ha hb hc hr
  ·
   exact answer17_no h hg cl o hl h5 ha hb hc hr
 ·
  exact Fy h cl o hl ha hb hc
end
end Go.Proofs.YteegkoicalbkbaaGreatDoor
namespace Go.Proofs.YteegkoicalbkbaaGreatDoor

def fK (l:List (List UInt8)):Prop:=l.length≤14∧∀ t∈l,t.length≤50
theorem fK.nil:fK []:=⟨Nat.zero_le _,fun t ht=>by cases ht⟩
theorem fK.one {t:List UInt8} (h:t.length≤50):fK [t]:=⟨by simp,fun x hx=>by rw [List.mem_singleton.1 hx]; exact h⟩
theorem Ub {l:List UInt8} (h:ym l=true):l.length≤12:=by
 unfold ym at h
 simp at h
 omega
theorem Ud {L:zj} {k:List UInt8} (h:yG L k≠[]):(k,yG L k)∈L:=ZP rfl h
theorem Xf {V:Type} {L:yK V} (hl:L.length≤12) (hn:∀ p∈L,zh p.1=true) (f:List UInt8→Bool):fK ((zc L).filter f):=by
 refine ⟨Nat.le_trans (List.length_filter_le _ _) (by unfold zc; rw [List.length_map]; omega),fun t ht=>?_⟩
 obtain ⟨p,hp,rfl⟩:=List.mem_map.1 (List.mem_filter.1 ht).1
 have:=js (hn p hp)
 omega
theorem oT17_few {E:zj} (h:yT E) (kd:Nat) (a:List UInt8):fK (oT17 kd E a):=by
 unfold oT17
 split
 ·
  exact fK.nil
 ·
  split
  ·
   refine fK.one ?_
   unfold loS
   split
   ·
    by_cases h0:yG E a=[]
    ·
     rw [h0]; exact Nat.zero_le _
    ·
     have:=Ub (h.all _ (Ud h0)).2
     exact Nat.le_trans this (by decide)
   ·
    exact Nat.zero_le _
  ·
   unfold liL
   split
   ·
    exact Xf (V:=List UInt8) (L:=E) h.few (fun p hp=>(h.all p hp).1) _
   ·
    exact fK.nil
theorem nT17_few {A:zt} {L:zj} {S:zn} (h:zm A L S 12) (kd:Nat) (a:List UInt8):fK (nT17 kd A L S a):=by
 have hme:fK (fy S a):=by
  unfold fy
  split
  ·
   rename_i h0
   have hh:∃ p∈S,p.1=a:=by
    unfold uW zV at h0
    split at h0
    ·
     split at h0
     ·
      exact vf.1 (by assumption)
     ·
      cases h0
    ·
     cases h0
   obtain ⟨p,hp,rfl⟩:=hh
   rw [ql h.grp.rise hp]
   refine ⟨by unfold zc; rw [List.length_map]; have:=h.grp.little p hp; omega,fun t ht=>?_⟩
   obtain ⟨m,hm,rfl⟩:=List.mem_map.1 ht
   have:=js (h.grp.whos p hp m hm)
   omega
  ·
   exact fK.nil
 match kd with
 | 0=>exact fK.nil
 | 1=>exact fK.nil
 | 2=>exact fK.nil
 | 3 =>
  show fK (match qe (zl A L S) a with
   | some u=>us17 u
   | none=>[])
  rw [yA h.rise]
  cases ha:qe A a with
  | none=>exact fK.nil
  | some x =>
   have hx:=(ye (k:=a) (v:=x) h.rise).1 ha
   show fK (us17 (xJ L S a x))
   unfold us17 xJ
   refine ⟨?_,fun t ht=>?_⟩
   ·
    have h1:=ZE S a
    have h2:=h.grp.few
    rw [List.length_append]
    show 3+(yS S a).length≤14
    omega
   ·
    rcases List.mem_append.1 ht with ht | ht
    ·
     simp only [List.mem_cons,List.not_mem_nil,or_false] at ht
     rcases ht with rfl | rfl | rfl
     ·
      have:=Ub (h.nm _ hx).2
      exact Nat.le_trans this (by decide)
     ·
      by_cases h0:yG L a=[]
      ·
       rw [h0]; exact Nat.zero_le _
      ·
       have:=Z6 (h.all _ (Ud h0)).2.1
       exact Nat.le_trans this (by decide)
     ·
      split <;> decide
    ·
     have hg:=jM ht
     obtain ⟨p,hp,rfl⟩:=List.mem_map.1 hg
     have:=js (h.grp.named p hp)
     omega
 | 4 =>
  show fK (Qf (zc (zl A L S)) a)
  unfold Qf
  split
  ·
   rw [qD]
   exact Xf h.few (fun p hp=>(h.nm p hp).1) _
  ·
   exact fK.nil
 | 5=>exact fK.nil
 | 6=>exact fK.nil
 | 7=>exact fK.nil
 | 8=>exact fK.nil
 | 9=>exact fK.nil
 | 10=>exact fK.nil
 | 11=>exact fK.nil
 | 12=>exact fK.nil
 | 13 =>
  refine fK.one ?_
  show (fiS9 L a).length≤50
  unfold fiS9
  split
  ·
   unfold V3
   split
   ·
    rename_i p hp
    have hm:=List.mem_of_find?_eq_some hp
    have:=js (h.all p hm).1
    omega
   ·
    exact Nat.zero_le _
  ·
   exact Nat.zero_le _
 | 14=>exact hme
 | _+15=>exact fK.nil
theorem dT17_few {d:D17} (h:d.Good) (kd:Nat) (a:List UInt8):fK (xD d kd a):=by
 cases d with
 | old E=>exact oT17_few h kd a
 | new A L S=>exact nT17_few h kd a
section
variable {s:H17}
theorem Un (h:s.Good) (cl:Nat) (o:O14):(xC s cl o).length≤14∧∀ t∈xC s cl o,t.size≤50:=by
 unfold xC
 split
 ·
  unfold xy
  split
  ·
   obtain ⟨h1,h2⟩:=dT17_few h.d o.kd.toNat o.a.data.toList
   refine ⟨by rw [List.length_map]; exact h1,fun t ht=>?_⟩
   obtain ⟨l,hl,rfl⟩:=List.mem_map.1 ht
   rw [fR]
   exact h2 l hl
  ·
   exact ⟨Nat.zero_le _,fun t ht=>by cases ht⟩
 ·
  exact ⟨Nat.zero_le _,fun t ht=>by cases ht⟩
theorem runE17_few (s:H17) (cl:Nat) (o:O14):0≤zH s cl o∧zH s cl o≤18:=by
 unfold zH
 split
 ·
  decide
 ·
  split
  ·
   split
   ·
    split <;> decide
   ·
    decide
  ·
   split
   ·
    split
    ·
     unfold Zj
     split <;> decide
    ·
     decide
   ·
    exact (dE17_er _ _ _ _).ne.2
theorem ansE17_few (s:H17) (cl:Nat) (o:O14):0≤yD s cl o∧yD s cl o≤18:=by
 unfold yD
 split
 ·
  unfold vY
  split
  ·
   split <;> decide
  ·
   decide
 ·
  exact runE17_few s cl o
theorem jW (s:H17) (cl:Nat) (o:O14):(((yD s cl o).toNat:Nat):Int)=yD s cl o∧(yD s cl o).toNat≤18:=by
 have:=ansE17_few s cl o
 omega
theorem runS17_X (s:H17) (cl:Nat) (o:O14):(yj s cl o).X=s.X:=by
 unfold yj
 split
 ·
  rfl
 ·
  split
  ·
   rfl
  ·
   split <;> rfl
theorem ansS17_X (s:H17) (cl:Nat) (o:O14):(xK s cl o).X=s.X:=by
 unfold xK
 split
 ·
  rfl
 ·
  exact runS17_X s cl o
theorem H17.Good.run (h:s.Good) (cl:Nat) (o:O14):(yj s cl o).Good:=by
 unfold yj
 split
 ·
  exact h
 ·
  split
  ·
   exact ⟨h.d.up,h.b,h.x⟩
  ·
   split
   ·
    rename_i h1 h2 h3
    refine ⟨h.d,h.b.note _ ?_,h.x⟩
    exact UInt8.toNat_lt o.rl
   ·
    exact ⟨h.d.deed _ _ _,h.b,h.x⟩
theorem H17.Good.ans (h:s.Good) (cl:Nat) (o:O14):(xK s cl o).Good:=by
 unfold xK
 split
 ·
  exact h
 ·
  exact h.run cl o
theorem H17.Good.put (h:s.Good) {cl n e:Nat} {ss:List ByteArray} (he:e≤18) (hs:ss.length≤14∧∀ t∈ss,t.size≤50):H17.Good { s with X:=vR s.X cl n e ss }:=by
 refine ⟨h.d,h.b,fun i hi=>?_⟩
 show FH (vR s.X cl n e ss i)
 unfold vR
 split
 ·
  rename_i hj
  have h3:=XY hj.2
  refine ⟨h3.2.2.1,he,fun h0=>?_,fun h0=>?_,?_,?_⟩
  ·
   have:n=0:=h0
   omega
  ·
   show xU e ss=[]
   unfold xU
   have:e≠0:=h0
   rw [if_neg (by omega)]
  ·
   show (xU e ss).length≤14
   unfold xU
   split
   ·
    exact hs.1
   ·
    exact Nat.zero_le _
  ·
   show ∀ t∈xU e ss,t.size≤50
   unfold xU
   split
   ·
    exact hs.2
   ·
    intro t ht; cases ht
 ·
  exact h.x i hi
theorem H17.Good.app (h:s.Good) (cl n:Nat) (o:O14):(yV s cl n o).Good:=by
 unfold yV
 split
 ·
  split
  ·
   exact h.ans 255 o
  ·
   have:=(h.ans cl o).put (cl:=cl) (n:=n) (jW s cl o).2 (Un h cl o)
   rwa [ansS17_X] at this
 ·
  exact h
theorem new17_good {n:Nat} (hn:Qd n=true):(Vf n).Good:=⟨yT.nil,qJ.new hn,fun _ _=>ZH.p⟩
end
end Go.Proofs.YteegkoicalbkbaaGreatDoor
namespace Go.Proofs.YteegkoicalbkbaaGreatDoor
open Go.RowKit Go.Maps
set_option linter.unusedVariables false

def zU (w:World) (R cl n:Nat) (o:O14):Prop:=w.heap[R]? = some (.cells #[.int .u8 (cl:Int),.int .u64 (n:Int),.int .u8 o.kd.toNat,.string o.a,.string o.b,.int .u8 o.nd.toNat,.int .u8 o.rl.toNat] 49 (0,0))
section
variable {w w':World} {R cl n:Nat} {o:O14}
theorem zU.lt (h:zU w R cl n o):R<w.heap.size:=(Array.getElem?_eq_some_iff.1 h).1
theorem zU.below (h:zU w R cl n o) (hb:Below w.heap.size w w'):zU w' R cl n o:=(hb.block R h.lt).trans h
theorem zU.turns {S:Nat→Prop} (h:zU w R cl n o) (ht:zg S w w') (hn:¬ S R):zU w' R cl n o:=(ht.block R h.lt hn).trans h
theorem zU.c0 (h:zU w R cl n o):w.cell? ⟨R,0,none⟩=some (.int .u8 (cl:Int)):=by rw [cell_of_row w R 0 _ _ (0,0) h]; rfl
theorem zU.c1 (h:zU w R cl n o):w.cell? ⟨R,1,none⟩=some (.int .u64 (n:Int)):=by rw [cell_of_row w R 1 _ _ (0,0) h]; rfl
theorem zU.c2 (h:zU w R cl n o):w.cell? ⟨R,2,none⟩=some (.int .u8 o.kd.toNat):=by rw [cell_of_row w R 2 _ _ (0,0) h]; rfl
theorem zU.c3 (h:zU w R cl n o):w.cell? ⟨R,3,none⟩=some (.string o.a):=by rw [cell_of_row w R 3 _ _ (0,0) h]; rfl
theorem zU.c4 (h:zU w R cl n o):w.cell? ⟨R,4,none⟩=some (.string o.b):=by rw [cell_of_row w R 4 _ _ (0,0) h]; rfl
theorem zU.c5 (h:zU w R cl n o):w.cell? ⟨R,5,none⟩=some (.int .u8 o.nd.toNat):=by rw [cell_of_row w R 5 _ _ (0,0) h]; rfl
theorem zU.c6 (h:zU w R cl n o):w.cell? ⟨R,6,none⟩=some (.int .u8 o.rl.toNat):=by rw [cell_of_row w R 6 _ _ (0,0) h]; rfl
theorem yO.rq {W:World} (hk:yO W w') (h:zU W R cl n o):zU w' R cl n o:=hk R _ _ _ h (by decide)
end
def vE (W:World) (H:Nat) (F:Nat→Prop) (s:H17) (cl n:Nat) (o:O14) (en:Ending) (w':World):Prop :=
 ∃ A c,en=.returned (.tuple #[.agg #[.int .i64 (yW s cl n o),.slice A (xQ s cl n o).length c],.bool (xg s cl n o)])∧vu w' A (xQ s cl n o)∧zp W H F (yV s cl n o) w'
theorem ansT17_sys (s:H17) (o:O14) (hk:o.kd.toNat=16):xC s 255 o=[]:=by
 unfold xC
 split
 ·
  unfold xy; rw [if_neg (by omega)]
 ·
  rfl
theorem J17 {T:Nat→R15} {X:Nat→P15} (h:∀ i,i<8→(T i).p=X i) (c n:Nat):J15 (jb T c).n c n=J15 (X c).n c n:=by
 rw [getT_n15]
 by_cases hc:c<8
 ·
  rw [show (T c).n=(X c).n from congrArg P15.n (h c hc)]
 ·
  unfold J15
  rw [if_neg (fun e=>hc e.1),if_neg (fun e=>hc e.1)]
section
variable {W:World} {H:Nat} {F:Nat→Prop} {s:H17}
set_option maxRecDepth 100000 in
theorem hear17_bad1 (h:zW W H F s) (n:Nat) (o:O14) (hn:n≠0):Calls Tryz.prog 38 #[.pointer (some ⟨H,0,none⟩),.agg #[.int .u8 255,.int .u64 (n:Int),.int .u8 o.kd.toNat,.string o.a,.string o.b,.int .u8 o.nd.toNat,.int .u8 o.rl.toNat]] W (vE W H F s 255 n o):=by
 have hB:xg s 255 n o=false:=by unfold xg; rw [if_pos rfl]; simp [hn]
 have hE:yW s 255 n o=1:=by unfold yW; rw [if_pos rfl,hB]; rfl
 have hT:xQ s 255 n o=[]:=by unfold xQ; rw [if_pos rfl]
 have hS:yV s 255 n o=s:=by unfold yV; rw [hB]; rfl
 unfold vE
 rw [hB,hE,hT,hS]
 have hb1:=ze (Below.refl _ W) (.cells #[.int .u8 255,.int .u64 (n:Int),.int .u8 o.kd.toNat,.string o.a,.string o.b,.int .u8 o.nd.toNat,.int .u8 o.rl.toNat] 49)
 have hb2:=ze hb1 (.cells #[.int .i64 0,.slice none 0 0] 56)
 have HR:Hid (vT ((W.alloc (.cells #[.int .u8 255,.int .u64 (n:Int),.int .u8 o.kd.toNat,.string o.a,.string o.b,.int .u8 o.nd.toNat,.int .u8 o.rl.toNat] 49)).alloc (.cells #[.int .i64 0,.slice none 0 0] 56)) (W.heap.size+1) 0 (.slice none 0 0)):=heap_alloc2_new W _ _
 have HO:Hid (zU ((W.alloc (.cells #[.int .u8 255,.int .u64 (n:Int),.int .u8 o.kd.toNat,.string o.a,.string o.b,.int .u8 o.nd.toNat,.int .u8 o.rl.toNat] 49)).alloc (.cells #[.int .i64 0,.slice none 0 0] 56)) W.heap.size 255 n o):=by
  have ho:zU (W.alloc (.cells #[.int .u8 255,.int .u64 (n:Int),.int .u8 o.kd.toNat,.string o.a,.string o.b,.int .u8 o.nd.toNat,.int .u8 o.rl.toNat] 49)) W.heap.size 255 n o:=heap_alloc_new W _
  exact ho.below (ze (Below.refl _ _) _)
 have HB2:=za hb2
 have HRF:=za (fun W'=>yv 1 W')
 unfold zF at HRF
 have HH:=za h
 have hq:((n:Int) != 0)=true:=by simp; omega
 clear h hn hB hE hT hS hb1 hb2
 go_enter Tryz.func38,Tryz.ntmps38
 go_wp2_with fail
 generalize (W.alloc (.cells #[.int .u8 255,.int .u64 (n:Int),.int .u8 o.kd.toNat,.string o.a,.string o.b,.int .u8 o.nd.toNat,.int .u8 o.rl.toNat] 49)).alloc (.cells #[.int .i64 0,.slice none 0 0] 56)=w2 at *
 with_reducible refine (HRF.out _).mono ?_
 rintro e w5 ⟨rfl,hb⟩
 have hr5:=HR.out.below hb
 have x0:=hr5.c0
 have x1:=hr5.c1
 have xf:=hr5.fr
 have HR5:=za hr5
 have HB5:=za (zo HB2.out hb)
 clear hb HRF hr5
 go_wp2
 refine bodyPost_ret (yL Tryz.results38 _ _ (W.heap.size+1) _ _ (0,0) _ rfl (HR5.out.setAll 1 (.slice none 0 0)) Tryz.underlying56 rfl xw) rfl ⟨none,0,rfl,vu.none _ _,?_⟩
 exact (zp.still HH.out HB5.out).beside (R:=W.heap.size+1) HR5.out (by decide) HR5.out.nos17 (by omega) (yi _ _ _ _)
set_option maxRecDepth 100000 in
theorem hear17_bad2 (h:zW W H F s) (n:Nat) (o:O14) (hn:n=0) (hk:o.kd.toNat≠16):Calls Tryz.prog 38 #[.pointer (some ⟨H,0,none⟩),.agg #[.int .u8 255,.int .u64 (n:Int),.int .u8 o.kd.toNat,.string o.a,.string o.b,.int .u8 o.nd.toNat,.int .u8 o.rl.toNat]] W (vE W H F s 255 n o):=by
 have hB:xg s 255 n o=false:=by unfold xg; rw [if_pos rfl]; simp [hk]
 have hE:yW s 255 n o=1:=by unfold yW; rw [if_pos rfl,hB]; rfl
 have hT:xQ s 255 n o=[]:=by unfold xQ; rw [if_pos rfl]
 have hS:yV s 255 n o=s:=by unfold yV; rw [hB]; rfl
 unfold vE
 rw [hB,hE,hT,hS]
 have hb1:=ze (Below.refl _ W) (.cells #[.int .u8 255,.int .u64 (n:Int),.int .u8 o.kd.toNat,.string o.a,.string o.b,.int .u8 o.nd.toNat,.int .u8 o.rl.toNat] 49)
 have hb2:=ze hb1 (.cells #[.int .i64 0,.slice none 0 0] 56)
 have HR:Hid (vT ((W.alloc (.cells #[.int .u8 255,.int .u64 (n:Int),.int .u8 o.kd.toNat,.string o.a,.string o.b,.int .u8 o.nd.toNat,.int .u8 o.rl.toNat] 49)).alloc (.cells #[.int .i64 0,.slice none 0 0] 56)) (W.heap.size+1) 0 (.slice none 0 0)):=heap_alloc2_new W _ _
 have HO:Hid (zU ((W.alloc (.cells #[.int .u8 255,.int .u64 (n:Int),.int .u8 o.kd.toNat,.string o.a,.string o.b,.int .u8 o.nd.toNat,.int .u8 o.rl.toNat] 49)).alloc (.cells #[.int .i64 0,.slice none 0 0] 56)) W.heap.size 255 n o):=by
  have ho:zU (W.alloc (.cells #[.int .u8 255,.int .u64 (n:Int),.int .u8 o.kd.toNat,.string o.a,.string o.b,.int .u8 o.nd.toNat,.int .u8 o.rl.toNat] 49)) W.heap.size 255 n o:=heap_alloc_new W _
  exact ho.below (ze (Below.refl _ _) _)
 have HB2:=za hb2
 have HRF:=za (fun W'=>yv 1 W')
 unfold zF at HRF
 have HH:=za h
 have HN:=za hn
 have hq:((n:Int) != 0)=false:=by rw [HN.out]; rfl
 have hq2:((o.kd.toNat:Int) != 16)=true:=by simp; omega
 clear h hn hB hE hT hS hb1 hb2 hk
 go_enter Tryz.func38,Tryz.ntmps38
 go_wp2_with fail
 generalize (W.alloc (.cells #[.int .u8 255,.int .u64 (n:Int),.int .u8 o.kd.toNat,.string o.a,.string o.b,.int .u8 o.nd.toNat,.int .u8 o.rl.toNat] 49)).alloc (.cells #[.int .i64 0,.slice none 0 0] 56)=w2 at *
 with_reducible refine (HRF.out _).mono ?_
 rintro e w5 ⟨rfl,hb⟩
 have hr5:=HR.out.below hb
 have x0:=hr5.c0
 have x1:=hr5.c1
 have xf:=hr5.fr
 have HR5:=za hr5
 have HB5:=za (zo HB2.out hb)
 clear hb HRF hr5
 go_wp2
 refine bodyPost_ret (yL Tryz.results38 _ _ (W.heap.size+1) _ _ (0,0) _ rfl (HR5.out.setAll 1 (.slice none 0 0)) Tryz.underlying56 rfl xw) rfl ⟨none,0,rfl,vu.none _ _,?_⟩
 exact (zp.still HH.out HB5.out).beside (R:=W.heap.size+1) HR5.out (by decide) HR5.out.nos17 (by omega) (yi _ _ _ _)
set_option maxRecDepth 100000 in
theorem hear17_bad3 (h:zW W H F s) (n:Nat) (o:O14) (hn:n=0) (hk:o.kd.toNat=16) (hc:vY o≠0) (hl:zX W) (ha:o.a.size≤1000) (hb:o.b.size≤1000):Calls Tryz.prog 38 #[.pointer (some ⟨H,0,none⟩),.agg #[.int .u8 255,.int .u64 (n:Int),.int .u8 o.kd.toNat,.string o.a,.string o.b,.int .u8 o.nd.toNat,.int .u8 o.rl.toNat]] W (vE W H F s 255 n o):=by
 have hB:xg s 255 n o=false:=by unfold xg; rw [if_pos rfl]; simp [hc]
 have hE:yW s 255 n o=1:=by unfold yW; rw [if_pos rfl,hB]; rfl
 have hT:xQ s 255 n o=[]:=by unfold xQ; rw [if_pos rfl]
 have hS:yV s 255 n o=s:=by unfold yV; rw [hB]; rfl
 unfold vE
 rw [hB,hE,hT,hS]
 have hb1:=ze (Below.refl _ W) (.cells #[.int .u8 255,.int .u64 (n:Int),.int .u8 o.kd.toNat,.string o.a,.string o.b,.int .u8 o.nd.toNat,.int .u8 o.rl.toNat] 49)
 have hb2:=ze hb1 (.cells #[.int .i64 0,.slice none 0 0] 56)
 have HR:Hid (vT ((W.alloc (.cells #[.int .u8 255,.int .u64 (n:Int),.int .u8 o.kd.toNat,.string o.a,.string o.b,.int .u8 o.nd.toNat,.int .u8 o.rl.toNat] 49)).alloc (.cells #[.int .i64 0,.slice none 0 0] 56)) (W.heap.size+1) 0 (.slice none 0 0)):=heap_alloc2_new W _ _
 have HO:Hid (zU ((W.alloc (.cells #[.int .u8 255,.int .u64 (n:Int),.int .u8 o.kd.toNat,.string o.a,.string o.b,.int .u8 o.nd.toNat,.int .u8 o.rl.toNat] 49)).alloc (.cells #[.int .i64 0,.slice none 0 0] 56)) W.heap.size 255 n o):=by
  have ho:zU (W.alloc (.cells #[.int .u8 255,.int .u64 (n:Int),.int .u8 o.kd.toNat,.string o.a,.string o.b,.int .u8 o.nd.toNat,.int .u8 o.rl.toNat] 49)) W.heap.size 255 n o:=heap_alloc_new W _
  exact ho.below (ze (Below.refl _ _) _)
 have HB2:=za hb2
 have HRF:=za (fun W'=>yv 1 W')
 unfold zF at HRF
 have HH:=za h
 have HN:=za hn
 have hq:((n:Int) != 0)=false:=by rw [HN.out]; rfl
 have HKD:=za hk
 have hq2:((o.kd.toNat:Int) != 16)=false:=by rw [HKD.out]; rfl
 have HCK:Hid (∀ W',Below W.heap.size W W'→Calls Tryz.prog 26 #[o.v] W' (zF (.int .i64 (vY o)) W')):=fun W' hW=>vL o W' (hl.later hW) ⟨by omega,by omega⟩
 unfold O14.v O14.cells at HCK
 unfold zF at HCK
 have hq3:(vY o != 0)=true:=by simp [hc]
 clear hl ha hb
 clear h hn hB hE hT hS hb1 hb2 hk hc
 generalize vY o=ck at *
 go_enter Tryz.func38,Tryz.ntmps38
 go_wp2_with fail
 generalize (W.alloc (.cells #[.int .u8 255,.int .u64 (n:Int),.int .u8 o.kd.toNat,.string o.a,.string o.b,.int .u8 o.nd.toNat,.int .u8 o.rl.toNat] 49)).alloc (.cells #[.int .i64 0,.slice none 0 0] 56)=w2 at *
 with_reducible refine (HCK.out _ HB2.out).mono ?_
 rintro e w3 ⟨rfl,hb⟩
 have HB3:=za (zo HB2.out hb)
 have HR3:=za (HR.out.below hb)
 clear hb HCK HB2 HR
 go_wp2_with fail
 with_reducible refine (HRF.out _).mono ?_
 rintro e w5 ⟨rfl,hb⟩
 have hr5:=HR3.out.below hb
 have x0:=hr5.c0
 have x1:=hr5.c1
 have xf:=hr5.fr
 have HR5:=za hr5
 have HB5:=za (zo HB3.out hb)
 clear hb HRF hr5
 go_wp2
 refine bodyPost_ret (yL Tryz.results38 _ _ (W.heap.size+1) _ _ (0,0) _ rfl (HR5.out.setAll 1 (.slice none 0 0)) Tryz.underlying56 rfl xw) rfl ⟨none,0,rfl,vu.none _ _,?_⟩
 exact (zp.still HH.out HB5.out).beside (R:=W.heap.size+1) HR5.out (by decide) HR5.out.nos17 (by omega) (yi _ _ _ _)
set_option maxRecDepth 100000 in
theorem hear17_good (h:zW W H F s) (hg:s.Good) (n:Nat) (o:O14) (hn:n=0) (hk:o.kd.toNat=16) (hc:vY o=0) (hl:zX W) (h5:vO W) (ha:o.a.size≤1000) (hb:o.b.size≤1000):Calls Tryz.prog 38 #[.pointer (some ⟨H,0,none⟩),.agg #[.int .u8 255,.int .u64 (n:Int),.int .u8 o.kd.toNat,.string o.a,.string o.b,.int .u8 o.nd.toNat,.int .u8 o.rl.toNat]] W (vE W H F s 255 n o):=by
 have hB:xg s 255 n o=true:=by unfold xg; rw [if_pos rfl]; simp [hn,hk,hc]
 have hE:yW s 255 n o=yD s 255 o:=by unfold yW; rw [if_pos rfl,hB]; rfl
 have hT:xQ s 255 n o=[]:=by unfold xQ; rw [if_pos rfl]
 have hS:yV s 255 n o=xK s 255 o:=by unfold yV; rw [hB]; rfl
 unfold vE
 rw [hB,hE,hT,hS]
 have hb1:=ze (Below.refl _ W) (.cells #[.int .u8 255,.int .u64 (n:Int),.int .u8 o.kd.toNat,.string o.a,.string o.b,.int .u8 o.nd.toNat,.int .u8 o.rl.toNat] 49)
 have hb2:=ze hb1 (.cells #[.int .i64 0,.slice none 0 0] 56)
 have HR:Hid (vT ((W.alloc (.cells #[.int .u8 255,.int .u64 (n:Int),.int .u8 o.kd.toNat,.string o.a,.string o.b,.int .u8 o.nd.toNat,.int .u8 o.rl.toNat] 49)).alloc (.cells #[.int .i64 0,.slice none 0 0] 56)) (W.heap.size+1) 0 (.slice none 0 0)):=heap_alloc2_new W _ _
 have HO:Hid (zU ((W.alloc (.cells #[.int .u8 255,.int .u64 (n:Int),.int .u8 o.kd.toNat,.string o.a,.string o.b,.int .u8 o.nd.toNat,.int .u8 o.rl.toNat] 49)).alloc (.cells #[.int .i64 0,.slice none 0 0] 56)) W.heap.size 255 n o):=by
  have ho:zU (W.alloc (.cells #[.int .u8 255,.int .u64 (n:Int),.int .u8 o.kd.toNat,.string o.a,.string o.b,.int .u8 o.nd.toNat,.int .u8 o.rl.toNat] 49)) W.heap.size 255 n o:=heap_alloc_new W _
  exact ho.below (ze (Below.refl _ _) _)
 have HB2:=za hb2
 have HN:=za hn
 have hq:((n:Int) != 0)=false:=by rw [HN.out]; rfl
 have HKD:=za hk
 have hq2:((o.kd.toNat:Int) != 16)=false:=by rw [HKD.out]; rfl
 have HCK:Hid (∀ W',Below W.heap.size W W'→Calls Tryz.prog 26 #[o.v] W' (zF (.int .i64 0) W')):=fun W' hW=>by
  have:=vL o W' (hl.later hW) ⟨by omega,by omega⟩
  rwa [hc] at this
 have HAN:Hid (∀ W',Below W.heap.size W W'→Calls Tryz.prog 42 #[.pointer (some ⟨H,0,none⟩),.int .u8 255,o.v] W' fun en w'=>∃ A c,en=.returned (.agg #[.int .i64 (yD s 255 o),.slice A 0 c])∧zp W H F (xK s 255 o) w'∧yO W' w'):=fun W' hW =>
  (fk (h.later hW) hg 255 o (hl.later hW) (h5.later hW) ha hb).mono fun en w' ⟨A,c,h1,h2,h3⟩=>by
   rw [ansT17_sys s o hk] at h1
   exact ⟨A,c,h1,h3.ahead hW,h3.keeps (h.later hW)⟩
 unfold O14.v O14.cells at HCK HAN
 unfold zF at HCK
 clear h hn hk hc hB hE hT hS hb1 hb2 hl h5 ha hb hg
 generalize yD s 255 o=er at *
 generalize xK s 255 o=s' at *
 go_enter Tryz.func38,Tryz.ntmps38
 go_wp2_with fail
 generalize (W.alloc (.cells #[.int .u8 255,.int .u64 (n:Int),.int .u8 o.kd.toNat,.string o.a,.string o.b,.int .u8 o.nd.toNat,.int .u8 o.rl.toNat] 49)).alloc (.cells #[.int .i64 0,.slice none 0 0] 56)=w2 at *
 with_reducible refine (HCK.out _ HB2.out).mono ?_
 rintro e w3 ⟨rfl,hb⟩
 have HB3:=za (zo HB2.out hb)
 have HR3:=za (HR.out.below hb)
 have ho3:=HO.out.below hb
 have y2:=ho3.c2
 have y3:=ho3.c3
 have y4:=ho3.c4
 have y5:=ho3.c5
 have y6:=ho3.c6
 clear hb HCK HB2 HR HO ho3
 go_wp2_with fail
 with_reducible refine (HAN.out _ HB3.out).mono ?_
 rintro e w4 ⟨A5,c5,rfl,hgo,hkp⟩
 have hr4:=hkp.rep HR3.out
 have x0:=hr4.c0
 have x1:=hr4.c1
 have xf:=hr4.fr
 have HR4:=za hr4
 have HGO:=za hgo
 clear hgo hkp HAN HB3 HR3 hr4 y2 y3 y4 y5 y6
 go_wp2
 refine bodyPost_ret (yL Tryz.results38 _ _ (W.heap.size+1) _ _ (0,0) _ rfl (HR4.out.setAll er (.slice A5 0 c5)) Tryz.underlying56 rfl xw) rfl ⟨A5,c5,rfl,vu.none _ _,?_⟩
 exact HGO.out.beside (R:=W.heap.size+1) HR4.out (by decide) HR4.out.nos17 (by omega) (yi _ _ _ _)
theorem JR (h:zW W H F s) (hg:s.Good) (n:Nat) (o:O14) (hl:zX W) (h5:vO W) (ha:o.a.size≤1000) (hb:o.b.size≤1000):Calls Tryz.prog 38 #[.pointer (some ⟨H,0,none⟩),.agg #[.int .u8 255,.int .u64 (n:Int),.int .u8 o.kd.toNat,.string o.a,.string o.b,.int .u8 o.nd.toNat,.int .u8 o.rl.toNat]] W (vE W H F s 255 n o):=by
 by_cases hn:n=0
 ·
  by_cases hk:o.kd.toNat=16
  ·
   by_cases hc:vY o=0
   ·
    exact hear17_good h hg n o hn hk hc hl h5 ha hb
   ·
    exact hear17_bad3 h n o hn hk hc hl ha hb
  ·
   exact hear17_bad2 h n o hn hk
 ·
  exact hear17_bad1 h n o hn
def YJu17 (H R TB cl n:Nat) (j:Int):Nat→Value→World→Prop
 | 2,v,_=>v=.pointer (some ⟨H,1,none⟩)
 | 3,v,_=>v=.pointer (some ⟨TB,0,none⟩)
 | 4,v,_=>v=.pointer (some ⟨R,0,none⟩)
 | 5,v,_=>v=.int .u8 (cl:Int)
 | 6,v,_=>v=.pointer (some ⟨R,1,none⟩)
 | 7,v,_=>v=.int .u64 (n:Int)
 | 8,v,_=>v=.int .i64 j
 | _,v,_=>v=.pointer (some ⟨H,0,none⟩)
theorem Zr {H R TB cl n:Nat} {j0:Int} {W W':World} (j:Nat) (z:Value) (h:YJu17 H R TB cl n j0 j z W):YJu17 H R TB cl n j0 j z W':=by
 match j,h with
 | 0,h=>exact h
 | 1,h=>exact h
 | 2,h=>exact h
 | 3,h=>exact h
 | 4,h=>exact h
 | 5,h=>exact h
 | 6,h=>exact h
 | 7,h=>exact h
 | 8,h=>exact h
 | _+9,h=>exact h
set_option maxRecDepth 100000 in
theorem apply17_sys (h:zW W H F s) (hg:s.Good) (cl n:Nat) (o:O14) (hcl:cl=255) (hl:zX W) (h5:vO W) (ha:o.a.size≤1000) (hb:o.b.size≤1000):Calls Tryz.prog 15 #[.pointer (some ⟨H,0,none⟩),.agg #[.int .u8 (cl:Int),.int .u64 (n:Int),.int .u8 o.kd.toNat,.string o.a,.string o.b,.int .u8 o.nd.toNat,.int .u8 o.rl.toNat]] W (vE W H F s cl n o):=by
 subst hcl
 have hb1:=ze (Below.refl _ W) (.cells #[.int .u8 255,.int .u64 (n:Int),.int .u8 o.kd.toNat,.string o.a,.string o.b,.int .u8 o.nd.toNat,.int .u8 o.rl.toNat] 49)
 have hb2:=ze hb1 (.cells #[.int .i64 0,.slice none 0 0] 56)
 have HR:Hid (vT ((W.alloc (.cells #[.int .u8 255,.int .u64 (n:Int),.int .u8 o.kd.toNat,.string o.a,.string o.b,.int .u8 o.nd.toNat,.int .u8 o.rl.toNat] 49)).alloc (.cells #[.int .i64 0,.slice none 0 0] 56)) (W.heap.size+1) 0 (.slice none 0 0)):=heap_alloc2_new W _ _
 have HO:Hid (zU ((W.alloc (.cells #[.int .u8 255,.int .u64 (n:Int),.int .u8 o.kd.toNat,.string o.a,.string o.b,.int .u8 o.nd.toNat,.int .u8 o.rl.toNat] 49)).alloc (.cells #[.int .i64 0,.slice none 0 0] 56)) W.heap.size 255 n o):=by
  have ho:zU (W.alloc (.cells #[.int .u8 255,.int .u64 (n:Int),.int .u8 o.kd.toNat,.string o.a,.string o.b,.int .u8 o.nd.toNat,.int .u8 o.rl.toNat] 49)) W.heap.size 255 n o:=heap_alloc_new W _
  exact ho.below (ze (Below.refl _ _) _)
 have HB2:=za hb2
 have HHE:Hid (∀ W',Below W.heap.size W W'→Calls Tryz.prog 38 #[.pointer (some ⟨H,0,none⟩),.agg #[.int .u8 255,.int .u64 (n:Int),.int .u8 o.kd.toNat,.string o.a,.string o.b,.int .u8 o.nd.toNat,.int .u8 o.rl.toNat]] W' fun en w'=>∃ A c,en=.returned (.tuple #[.agg #[.int .i64 (yW s 255 n o),.slice A (xQ s 255 n o).length c],.bool (xg s 255 n o)])∧vu w' A (xQ s 255 n o)∧zp W H F (yV s 255 n o) w'∧yO W' w'):=fun W' hW =>
  (JR (h.later hW) hg n o (hl.later hW) (h5.later hW) ha hb).mono fun en w' ⟨A,c,h1,h2,h3⟩=>⟨A,c,h1,h2,h3.ahead hW,h3.keeps (h.later hW)⟩
 unfold vE
 show Calls _ _ #[_,.agg #[.int .u8 255,.int .u64 (n:Int),.int .u8 o.kd.toNat,.string o.a,.string o.b,.int .u8 o.nd.toNat,.int .u8 o.rl.toNat]] _ _
 clear h hg hl h5 ha hb hb1 hb2
 generalize yW s 255 n o=er at *
 generalize xQ s 255 n o=t0 at *
 generalize xg s 255 n o=bb at *
 generalize yV s 255 n o=s' at *
 generalize hn0:t0.length=n0 at *
 go_enter Tryz.func15,Tryz.ntmps15
 go_wp2_with fail
 generalize (W.alloc (.cells #[.int .u8 255,.int .u64 (n:Int),.int .u8 o.kd.toNat,.string o.a,.string o.b,.int .u8 o.nd.toNat,.int .u8 o.rl.toNat] 49)).alloc (.cells #[.int .i64 0,.slice none 0 0] 56)=w2 at *
 have y0:=HO.out.c0
 have y1:=HO.out.c1
 have y2:=HO.out.c2
 have y3:=HO.out.c3
 have y4:=HO.out.c4
 have y5:=HO.out.c5
 have y6:=HO.out.c6
 have HN0:=za hn0
 clear hn0
 with_reducible refine (HHE.out _ HB2.out).mono ?_
 rintro e w4 ⟨A5,c5,rfl,htx,hgo,hkp⟩
 have hr4:=hkp.rep HR.out
 have x0:=hr4.c0
 have x1:=hr4.c1
 have xf:=hr4.fr
 have HR4:=za hr4
 have HGO:=za hgo
 have HTX:=za htx
 clear hgo hkp htx HHE HB2 HR hr4 y0 y1 y2 y3 y4 y5 y6 HO
 go_wp2
 refine bodyPost_ret (yL Tryz.results15 _ _ (W.heap.size+1) _ _ (0,0) _ rfl (HR4.out.setAll er (.slice A5 n0 c5)) Tryz.underlying56 rfl xw) rfl ⟨A5,c5,rfl,?_,?_⟩
 ·
  exact HTX.out.turns (yi _ _ _ _) (fun i e=>by rw [e]; exact HR4.out.nos17)
 ·
  exact HGO.out.beside (R:=W.heap.size+1) HR4.out (by decide) HR4.out.nos17 (by omega) (yi _ _ _ _)
set_option maxRecDepth 100000 in
theorem apply17_j0 (h:zW W H F s) (hg:s.Good) (cl n:Nat) (o:O14) (hcl:cl≠255) (hj:J15 (s.X cl).n cl n=0):Calls Tryz.prog 15 #[.pointer (some ⟨H,0,none⟩),.agg #[.int .u8 (cl:Int),.int .u64 (n:Int),.int .u8 o.kd.toNat,.string o.a,.string o.b,.int .u8 o.nd.toNat,.int .u8 o.rl.toNat]] W (vE W H F s cl n o):=by
 have hB:xg s cl n o=false:=by unfold xg; rw [if_neg hcl,hj]; rfl
 have hE:yW s cl n o=1:=by unfold yW; rw [if_neg hcl,hj]; rfl
 have hT:xQ s cl n o=[]:=by unfold xQ; rw [if_neg hcl,hj]; rfl
 have hS:yV s cl n o=s:=by unfold yV; rw [hB]; rfl
 unfold vE
 rw [hB,hE,hT,hS]
 have hb1:=ze (Below.refl _ W) (.cells #[.int .u8 (cl:Int),.int .u64 (n:Int),.int .u8 o.kd.toNat,.string o.a,.string o.b,.int .u8 o.nd.toNat,.int .u8 o.rl.toNat] 49)
 have hb2:=ze hb1 (.cells #[.int .i64 0,.slice none 0 0] 56)
 have HR:Hid (vT ((W.alloc (.cells #[.int .u8 (cl:Int),.int .u64 (n:Int),.int .u8 o.kd.toNat,.string o.a,.string o.b,.int .u8 o.nd.toNat,.int .u8 o.rl.toNat] 49)).alloc (.cells #[.int .i64 0,.slice none 0 0] 56)) (W.heap.size+1) 0 (.slice none 0 0)):=heap_alloc2_new W _ _
 have HO:Hid (zU ((W.alloc (.cells #[.int .u8 (cl:Int),.int .u64 (n:Int),.int .u8 o.kd.toNat,.string o.a,.string o.b,.int .u8 o.nd.toNat,.int .u8 o.rl.toNat] 49)).alloc (.cells #[.int .i64 0,.slice none 0 0] 56)) W.heap.size cl n o):=by
  have ho:zU (W.alloc (.cells #[.int .u8 (cl:Int),.int .u64 (n:Int),.int .u8 o.kd.toNat,.string o.a,.string o.b,.int .u8 o.nd.toNat,.int .u8 o.rl.toNat] 49)) W.heap.size cl n o:=heap_alloc_new W _
  exact ho.below (ze (Below.refl _ _) _)
 have HB2:=za hb2
 obtain ⟨TB,T,hc1,hta,hxp,_⟩:=h.tab
 have HX:Hid (∀ W',Below W.heap.size W W'→W'.cell? ⟨H,1,none⟩=some (.pointer (some ⟨TB,0,none⟩))):=fun W' hW=>(hW.cell (p:=⟨H,1,none⟩) (World.block_lt_of_cell? W _ hc1)).trans hc1
 have HJ:Hid (∀ W',Below W.heap.size W W'→Calls Tryz.prog 39 #[.pointer (some ⟨TB,0,none⟩),.int .u8 (cl:Int),.int .u64 (n:Int)] W' (zF (.int .i64 0) W')):=fun W' hW=>by
  have:=vM TB T cl n W' (hta.later hW).at_
  rw [J17 hxp,hj] at this
  exact this
 unfold zF at HJ
 have hq:((cl:Int) == 255)=false:=by simp; omega
 have HH:=za h
 have HRF:=za (fun W'=>yv 1 W')
 unfold zF at HRF
 clear h hb1 hb2 hc1 hta hxp hcl hj hg hB hE hT hS
 go_enter Tryz.func15,Tryz.ntmps15
 go_wp2_with fail
 generalize (W.alloc (.cells #[.int .u8 (cl:Int),.int .u64 (n:Int),.int .u8 o.kd.toNat,.string o.a,.string o.b,.int .u8 o.nd.toNat,.int .u8 o.rl.toNat] 49)).alloc (.cells #[.int .i64 0,.slice none 0 0] 56)=w2 at *
 refine yY (by kernel_rfl) (fun W=>Below w2.heap.size w2 W) (YJu17 H W.heap.size TB cl n 0) ?F ?hF (by kernel_rfl) (by kernel_rfl) (jc (Below.refl _ _)) ?step ?fin
 case hF =>
  intro x
  simp only [List.map_cons,List.map_nil,vb,Act.put,List.setIfInBounds_toArray,List.set_cons_zero,List.set_cons_succ,Nat.zero_add,Nat.reduceAdd]
  exact rfl
 case step =>
  refine ⟨?_,?_,?_,?_,?_,?_,?_,?_,?_,trivial⟩
  all_goals intro x W hW hdep K hK
  ·
   clear hdep
   go_simp
   exact hK _ _ rfl hW (fun _ _ h=>h)
  ·
   have h0:x 0=_:=hdep 0 rfl
   clear hdep
   simp only [h0] at hK
   go_simp
   exact hK _ _ rfl hW (fun _ _ h=>h)
  ·
   have h1:x 1=_:=hdep 1 rfl
   clear hdep
   simp only [h1] at hK
   go_simp
   exact hK _ _ rfl hW (fun _ _ h=>h)
  ·
   have h2:x 2=_:=hdep 2 rfl
   have c:=HX.out _ (zo HB2.out hW)
   clear hdep
   simp only [h2] at hK
   go_simp
   exact hK _ _ rfl hW (fun _ _ h=>h)
  ·
   clear hdep
   go_simp
   exact hK _ _ rfl hW (fun _ _ h=>h)
  ·
   have h4:x 4=_:=hdep 4 rfl
   have c:=(HO.out.below hW).c0
   clear hdep
   simp only [h4] at hK
   go_simp
   exact hK _ _ rfl hW (fun _ _ h=>h)
  ·
   clear hdep
   go_simp
   exact hK _ _ rfl hW (fun _ _ h=>h)
  ·
   have h6:x 6=_:=hdep 6 rfl
   have c:=(HO.out.below hW).c1
   clear hdep
   simp only [h6] at hK
   go_simp
   exact hK _ _ rfl hW (fun _ _ h=>h)
  ·
   have h3:x 3=_:=hdep 3 rfl
   have h5:x 5=_:=hdep 5 rfl
   have h7:x 7=_:=hdep 7 rfl
   have hc:=HJ.out _ (zo HB2.out hW)
   clear hdep
   simp only [h3,h5,h7] at hK
   go_simp
   refine hc.mono ?_
   rintro e W' ⟨rfl,hb⟩
   exact hK _ _ rfl (zo hW hb) (fun j z h=>Zr j z h)
 case fin =>
  intro x w3 hW hY
  have h8:x 8=_:=hY 8 (by decide)
  have HB3:=za (zo HB2.out hW)
  have HR3:=za (HR.out.below hW)
  have HO3:=za (HO.out.below hW)
  clear hW hY HB2 HR HO HX HJ
  simp only [h8]
  go_wp2_with fail
  with_reducible refine (HRF.out _).mono ?_
  rintro e w5 ⟨rfl,hb⟩
  have hr5:=HR3.out.below hb
  have x0:=hr5.c0
  have x1:=hr5.c1
  have xf:=hr5.fr
  have HR5:=za hr5
  have HB5:=za (zo HB3.out hb)
  clear hb HRF hr5
  go_wp2
  refine bodyPost_ret (yL Tryz.results15 _ _ (W.heap.size+1) _ _ (0,0) _ rfl (HR5.out.setAll 1 (.slice none 0 0)) Tryz.underlying56 rfl xw) rfl ⟨none,0,rfl,vu.none _ _,?_⟩
  exact (zp.still HH.out HB5.out).beside (R:=W.heap.size+1) HR5.out (by decide) HR5.out.nos17 (by omega) (yi _ _ _ _)
set_option maxRecDepth 100000 in
theorem apply17_j1 (h:zW W H F s) (hg:s.Good) (cl n:Nat) (o:O14) (hcl:cl≠255) (hj:J15 (s.X cl).n cl n=1):Calls Tryz.prog 15 #[.pointer (some ⟨H,0,none⟩),.agg #[.int .u8 (cl:Int),.int .u64 (n:Int),.int .u8 o.kd.toNat,.string o.a,.string o.b,.int .u8 o.nd.toNat,.int .u8 o.rl.toNat]] W (vE W H F s cl n o):=by
 have hB:xg s cl n o=false:=by unfold xg; rw [if_neg hcl,hj]; rfl
 have hE:yW s cl n o=12:=by unfold yW; rw [if_neg hcl,hj]; rfl
 have hT:xQ s cl n o=[]:=by unfold xQ; rw [if_neg hcl,hj]; rfl
 have hS:yV s cl n o=s:=by unfold yV; rw [hB]; rfl
 unfold vE
 rw [hB,hE,hT,hS]
 have hb1:=ze (Below.refl _ W) (.cells #[.int .u8 (cl:Int),.int .u64 (n:Int),.int .u8 o.kd.toNat,.string o.a,.string o.b,.int .u8 o.nd.toNat,.int .u8 o.rl.toNat] 49)
 have hb2:=ze hb1 (.cells #[.int .i64 0,.slice none 0 0] 56)
 have HR:Hid (vT ((W.alloc (.cells #[.int .u8 (cl:Int),.int .u64 (n:Int),.int .u8 o.kd.toNat,.string o.a,.string o.b,.int .u8 o.nd.toNat,.int .u8 o.rl.toNat] 49)).alloc (.cells #[.int .i64 0,.slice none 0 0] 56)) (W.heap.size+1) 0 (.slice none 0 0)):=heap_alloc2_new W _ _
 have HO:Hid (zU ((W.alloc (.cells #[.int .u8 (cl:Int),.int .u64 (n:Int),.int .u8 o.kd.toNat,.string o.a,.string o.b,.int .u8 o.nd.toNat,.int .u8 o.rl.toNat] 49)).alloc (.cells #[.int .i64 0,.slice none 0 0] 56)) W.heap.size cl n o):=by
  have ho:zU (W.alloc (.cells #[.int .u8 (cl:Int),.int .u64 (n:Int),.int .u8 o.kd.toNat,.string o.a,.string o.b,.int .u8 o.nd.toNat,.int .u8 o.rl.toNat] 49)) W.heap.size cl n o:=heap_alloc_new W _
  exact ho.below (ze (Below.refl _ _) _)
 have HB2:=za hb2
 obtain ⟨TB,T,hc1,hta,hxp,_⟩:=h.tab
 have HX:Hid (∀ W',Below W.heap.size W W'→W'.cell? ⟨H,1,none⟩=some (.pointer (some ⟨TB,0,none⟩))):=fun W' hW=>(hW.cell (p:=⟨H,1,none⟩) (World.block_lt_of_cell? W _ hc1)).trans hc1
 have HJ:Hid (∀ W',Below W.heap.size W W'→Calls Tryz.prog 39 #[.pointer (some ⟨TB,0,none⟩),.int .u8 (cl:Int),.int .u64 (n:Int)] W' (zF (.int .i64 1) W')):=fun W' hW=>by
  have:=vM TB T cl n W' (hta.later hW).at_
  rw [J17 hxp,hj] at this
  exact this
 unfold zF at HJ
 have hq:((cl:Int) == 255)=false:=by simp; omega
 have HH:=za h
 have HRF:=za (fun W'=>yv 12 W')
 unfold zF at HRF
 clear h hb1 hb2 hc1 hta hxp hcl hj hg hB hE hT hS
 go_enter Tryz.func15,Tryz.ntmps15
 go_wp2_with fail
 generalize (W.alloc (.cells #[.int .u8 (cl:Int),.int .u64 (n:Int),.int .u8 o.kd.toNat,.string o.a,.string o.b,.int .u8 o.nd.toNat,.int .u8 o.rl.toNat] 49)).alloc (.cells #[.int .i64 0,.slice none 0 0] 56)=w2 at *
 refine yY (by kernel_rfl) (fun W=>Below w2.heap.size w2 W) (YJu17 H W.heap.size TB cl n 1) ?F ?hF (by kernel_rfl) (by kernel_rfl) (jc (Below.refl _ _)) ?step ?fin
 case hF =>
  intro x
  simp only [List.map_cons,List.map_nil,vb,Act.put,List.setIfInBounds_toArray,List.set_cons_zero,List.set_cons_succ,Nat.zero_add,Nat.reduceAdd]
  exact rfl
 case step =>
  refine ⟨?_,?_,?_,?_,?_,?_,?_,?_,?_,trivial⟩
  all_goals intro x W hW hdep K hK
  ·
   clear hdep
   go_simp
   exact hK _ _ rfl hW (fun _ _ h=>h)
  ·
   have h0:x 0=_:=hdep 0 rfl
   clear hdep
   simp only [h0] at hK
   go_simp
   exact hK _ _ rfl hW (fun _ _ h=>h)
  ·
   have h1:x 1=_:=hdep 1 rfl
   clear hdep
   simp only [h1] at hK
   go_simp
   exact hK _ _ rfl hW (fun _ _ h=>h)
  ·
   have h2:x 2=_:=hdep 2 rfl
   have c:=HX.out _ (zo HB2.out hW)
   clear hdep
   simp only [h2] at hK
   go_simp
   exact hK _ _ rfl hW (fun _ _ h=>h)
  ·
   clear hdep
   go_simp
   exact hK _ _ rfl hW (fun _ _ h=>h)
  ·
   have h4:x 4=_:=hdep 4 rfl
   have c:=(HO.out.below hW).c0
   clear hdep
   simp only [h4] at hK
   go_simp
   exact hK _ _ rfl hW (fun _ _ h=>h)
  ·
   clear hdep
   go_simp
   exact hK _ _ rfl hW (fun _ _ h=>h)
  ·
   have h6:x 6=_:=hdep 6 rfl
   have c:=(HO.out.below hW).c1
   clear hdep
   simp only [h6] at hK
   go_simp
   exact hK _ _ rfl hW (fun _ _ h=>h)
  ·
   have h3:x 3=_:=hdep 3 rfl
   have h5:x 5=_:=hdep 5 rfl
   have h7:x 7=_:=hdep 7 rfl
   have hc:=HJ.out _ (zo HB2.out hW)
   clear hdep
   simp only [h3,h5,h7] at hK
   go_simp
   refine hc.mono ?_
   rintro e W' ⟨rfl,hb⟩
   exact hK _ _ rfl (zo hW hb) (fun j z h=>Zr j z h)
 case fin =>
  intro x w3 hW hY
  have h8:x 8=_:=hY 8 (by decide)
  have HB3:=za (zo HB2.out hW)
  have HR3:=za (HR.out.below hW)
  have HO3:=za (HO.out.below hW)
  clear hW hY HB2 HR HO HX HJ
  simp only [h8]
  go_wp2_with fail
  with_reducible refine (HRF.out _).mono ?_
  rintro e w5 ⟨rfl,hb⟩
  have hr5:=HR3.out.below hb
  have x0:=hr5.c0
  have x1:=hr5.c1
  have xf:=hr5.fr
  have HR5:=za hr5
  have HB5:=za (zo HB3.out hb)
  clear hb HRF hr5
  go_wp2
  refine bodyPost_ret (yL Tryz.results15 _ _ (W.heap.size+1) _ _ (0,0) _ rfl (HR5.out.setAll 12 (.slice none 0 0)) Tryz.underlying56 rfl xw) rfl ⟨none,0,rfl,vu.none _ _,?_⟩
  exact (zp.still HH.out HB5.out).beside (R:=W.heap.size+1) HR5.out (by decide) HR5.out.nos17 (by omega) (yi _ _ _ _)
def YRp17 (H R TB cl:Nat) (e:Nat) (ss:List ByteArray) (m:Nat):Nat→Value→World→Prop
 | 2,v,_=>v=.pointer (some ⟨H,1,none⟩)
 | 3,v,_=>v=.pointer (some ⟨TB,0,none⟩)
 | 4,v,_=>v=.pointer (some ⟨R,0,none⟩)
 | 5,v,_=>v=.int .u8 (cl:Int)
 | 6,v,W=>∃ A q,v=.agg #[.int .i64 (e:Int),.slice A m q]∧vu W A ss
 | _,v,_=>v=.pointer (some ⟨H,0,none⟩)
theorem YRp17_keep {H R TB cl e:Nat} {ss:List ByteArray} {m:Nat} {W W':World} (hb:Below W.heap.size W W') (j:Nat) (z:Value) (h:YRp17 H R TB cl e ss m j z W):YRp17 H R TB cl e ss m j z W':=by
 match j,h with
 | 0,h=>exact h
 | 1,h=>exact h
 | 2,h=>exact h
 | 3,h=>exact h
 | 4,h=>exact h
 | 5,h=>exact h
 | 6,h=>obtain ⟨A,q,h1,h2⟩:=h; exact ⟨A,q,h1,h2.later hb⟩
 | _+7,h=>exact h
set_option maxRecDepth 100000 in
theorem apply17_j2 {W0:World} (h:zW W0 H F s) (hg:s.Good) (cl n:Nat) (o:O14) (hcl:cl≠255) (hj:J15 (s.X cl).n cl n=2):Calls Tryz.prog 15 #[.pointer (some ⟨H,0,none⟩),.agg #[.int .u8 (cl:Int),.int .u64 (n:Int),.int .u8 o.kd.toNat,.string o.a,.string o.b,.int .u8 o.nd.toNat,.int .u8 o.rl.toNat]] W0 (vE W0 H F s cl n o):=by
 have hB:xg s cl n o=false:=by unfold xg; rw [if_neg hcl,hj]; rfl
 have hE:yW s cl n o=((s.X cl).e:Nat):=by unfold yW; rw [if_neg hcl,hj]; rfl
 have hT:xQ s cl n o=(s.X cl).ss:=by unfold xQ; rw [if_neg hcl,hj]; rfl
 have hS:yV s cl n o=s:=by unfold yV; rw [hB]; rfl
 unfold vE
 rw [hB,hE,hT,hS]
 have hc8:cl<8:=by
  unfold J15 at hj
  split at hj
  ·
   rename_i h8; exact h8.1
  ·
   cases hj
 have hb1:=ze (Below.refl _ W0) (.cells #[.int .u8 (cl:Int),.int .u64 (n:Int),.int .u8 o.kd.toNat,.string o.a,.string o.b,.int .u8 o.nd.toNat,.int .u8 o.rl.toNat] 49)
 have hb2:=ze hb1 (.cells #[.int .i64 0,.slice none 0 0] 56)
 have HR:Hid (vT ((W0.alloc (.cells #[.int .u8 (cl:Int),.int .u64 (n:Int),.int .u8 o.kd.toNat,.string o.a,.string o.b,.int .u8 o.nd.toNat,.int .u8 o.rl.toNat] 49)).alloc (.cells #[.int .i64 0,.slice none 0 0] 56)) (W0.heap.size+1) 0 (.slice none 0 0)):=heap_alloc2_new W0 _ _
 have HO:Hid (zU ((W0.alloc (.cells #[.int .u8 (cl:Int),.int .u64 (n:Int),.int .u8 o.kd.toNat,.string o.a,.string o.b,.int .u8 o.nd.toNat,.int .u8 o.rl.toNat] 49)).alloc (.cells #[.int .i64 0,.slice none 0 0] 56)) W0.heap.size cl n o):=by
  have ho:zU (W0.alloc (.cells #[.int .u8 (cl:Int),.int .u64 (n:Int),.int .u8 o.kd.toNat,.string o.a,.string o.b,.int .u8 o.nd.toNat,.int .u8 o.rl.toNat] 49)) W0.heap.size cl n o:=heap_alloc_new W0 _
  exact ho.below (ze (Below.refl _ _) _)
 have HB2:=za hb2
 obtain ⟨TB,T,hc1,hta,hxp,_⟩:=h.tab
 have HX:Hid (∀ W',Below W0.heap.size W0 W'→W'.cell? ⟨H,1,none⟩=some (.pointer (some ⟨TB,0,none⟩))):=fun W' hW=>(hW.cell (p:=⟨H,1,none⟩) (World.block_lt_of_cell? W0 _ hc1)).trans hc1
 have HJ:Hid (∀ W',Below W0.heap.size W0 W'→Calls Tryz.prog 39 #[.pointer (some ⟨TB,0,none⟩),.int .u8 (cl:Int),.int .u64 (n:Int)] W' (zF (.int .i64 2) W')):=fun W' hW=>by
  have:=vM TB T cl n W' (hta.later hW).at_
  rw [J17 hxp,hj] at this
  exact this
 unfold zF at HJ
 have hq:((cl:Int) == 255)=false:=by simp; omega
 have HH:=za h
 have HRE:Hid (∀ W',Below W0.heap.size W0 W'→Calls Tryz.prog 41 #[.pointer (some ⟨TB,0,none⟩),.int .u8 (cl:Int)] W' fun e w'=>∃ A q,e=.returned (.agg #[.int .i64 ((s.X cl).e:Nat),.slice A (s.X cl).ss.length q])∧vu w' A (s.X cl).ss∧Below W'.heap.size W' w'):=fun W' hW=>by
  have:=VM (hta.later hW) cl
  rw [show jb T cl=T cl from if_pos hc8,show (T cl).e=(s.X cl).e from congrArg P15.e (hxp cl hc8),show (T cl).ss=(s.X cl).ss from congrArg P15.ss (hxp cl hc8)] at this
  exact this.mono fun e w' ⟨A,q,h1,h2,h3,h4⟩=>⟨A,q,h1,⟨h2.rd,fun hne a ha=>⟨Nat.zero_le _,(h3 hne a ha).2⟩⟩,h4⟩
 generalize (s.X cl).ss=t0 at *
 generalize (s.X cl).e=er at *
 generalize t0.length=m at *
 clear h hb1 hb2 hc1 hta hxp hcl hj hg hB hE hT hS hc8
 go_enter Tryz.func15,Tryz.ntmps15
 go_wp2_with fail
 generalize (W0.alloc (.cells #[.int .u8 (cl:Int),.int .u64 (n:Int),.int .u8 o.kd.toNat,.string o.a,.string o.b,.int .u8 o.nd.toNat,.int .u8 o.rl.toNat] 49)).alloc (.cells #[.int .i64 0,.slice none 0 0] 56)=w2 at *
 refine yY (by kernel_rfl) (fun W0=>Below w2.heap.size w2 W0) (YJu17 H W0.heap.size TB cl n 2) ?F ?hF (by kernel_rfl) (by kernel_rfl) (jc (Below.refl _ _)) ?step ?fin
 case hF =>
  intro x
  simp only [List.map_cons,List.map_nil,vb,Act.put,List.setIfInBounds_toArray,List.set_cons_zero,List.set_cons_succ,Nat.zero_add,Nat.reduceAdd]
  exact rfl
 case step =>
  refine ⟨?_,?_,?_,?_,?_,?_,?_,?_,?_,trivial⟩
  all_goals intro x W0 hW hdep K hK
  ·
   clear hdep
   go_simp
   exact hK _ _ rfl hW (fun _ _ h=>h)
  ·
   have h0:x 0=_:=hdep 0 rfl
   clear hdep
   simp only [h0] at hK
   go_simp
   exact hK _ _ rfl hW (fun _ _ h=>h)
  ·
   have h1:x 1=_:=hdep 1 rfl
   clear hdep
   simp only [h1] at hK
   go_simp
   exact hK _ _ rfl hW (fun _ _ h=>h)
  ·
   have h2:x 2=_:=hdep 2 rfl
   have c:=HX.out _ (zo HB2.out hW)
   clear hdep
   simp only [h2] at hK
   go_simp
   exact hK _ _ rfl hW (fun _ _ h=>h)
  ·
   clear hdep
   go_simp
   exact hK _ _ rfl hW (fun _ _ h=>h)
  ·
   have h4:x 4=_:=hdep 4 rfl
   have c:=(HO.out.below hW).c0
   clear hdep
   simp only [h4] at hK
   go_simp
   exact hK _ _ rfl hW (fun _ _ h=>h)
  ·
   clear hdep
   go_simp
   exact hK _ _ rfl hW (fun _ _ h=>h)
  ·
   have h6:x 6=_:=hdep 6 rfl
   have c:=(HO.out.below hW).c1
   clear hdep
   simp only [h6] at hK
   go_simp
   exact hK _ _ rfl hW (fun _ _ h=>h)
  ·
   have h3:x 3=_:=hdep 3 rfl
   have h5:x 5=_:=hdep 5 rfl
   have h7:x 7=_:=hdep 7 rfl
   have hc:=HJ.out _ (zo HB2.out hW)
   clear hdep
   simp only [h3,h5,h7] at hK
   go_simp
   refine hc.mono ?_
   rintro e W' ⟨rfl,hb⟩
   exact hK _ _ rfl (zo hW hb) (fun j z h=>Zr j z h)
 case fin =>
  intro x w3 hW hY
  have h8:x 8=_:=hY 8 (by decide)
  have HB3:=za (zo HB2.out hW)
  have HR3:=za (HR.out.below hW)
  have HO3:=za (HO.out.below hW)
  clear hW hY HB2 HR HO HJ
  simp only [h8]
  go_wp2_with fail
  refine zA (by kernel_rfl) 7 (fun W=>Below w3.heap.size w3 W) (fun W'=>∃ A q,vT W' (W0.heap.size+1) er (.slice A m q)∧vu W' A t0∧zp W0 H F s W') (YRp17 H W0.heap.size TB cl er t0 m) (fun v=>v=.bool false) ?F9 ?hF9 (by kernel_rfl) (by kernel_rfl) (by kernel_rfl) (by kernel_rfl) (by decide) (jc (Below.refl _ _)) ?step9 ?fin9
  case hF9 =>
   intro x
   simp only [List.map_cons,List.map_nil,vb,Act.put,List.setIfInBounds_toArray,List.set_cons_zero,List.set_cons_succ,Nat.zero_add,Nat.reduceAdd]
   exact rfl
  case step9 =>
   refine ⟨?_,?_,?_,?_,?_,?_,?_,?_,?_,trivial⟩
   ·
    intro x W
    refine ⟨fun _ hW hdep K hK=>?_,(fun h=>absurd h (by decide)),(fun h=>absurd h (by decide))⟩
    clear hdep
    go_simp
    exact hK _ _ rfl hW (fun _ _ h=>h)
   ·
    intro x W
    refine ⟨fun _ hW hdep K hK=>?_,(fun h=>absurd h (by decide)),(fun h=>absurd h (by decide))⟩
    have h0:x 0=_:=hdep 0 rfl
    clear hdep
    simp only [h0] at hK
    go_simp
    exact hK _ _ rfl hW (fun _ _ h=>h)
   ·
    intro x W
    refine ⟨fun _ hW hdep K hK=>?_,(fun h=>absurd h (by decide)),(fun h=>absurd h (by decide))⟩
    have h1:x 1=_:=hdep 1 rfl
    clear hdep
    simp only [h1] at hK
    go_simp
    exact hK _ _ rfl hW (fun _ _ h=>h)
   ·
    intro x W
    refine ⟨fun _ hW hdep K hK=>?_,(fun h=>absurd h (by decide)),(fun h=>absurd h (by decide))⟩
    have h2:x 2=_:=hdep 2 rfl
    have c:=HX.out _ (zo HB3.out hW)
    clear hdep
    simp only [h2] at hK
    go_simp
    exact hK _ _ rfl hW (fun _ _ h=>h)
   ·
    intro x W
    refine ⟨fun _ hW hdep K hK=>?_,(fun h=>absurd h (by decide)),(fun h=>absurd h (by decide))⟩
    clear hdep
    go_simp
    exact hK _ _ rfl hW (fun _ _ h=>h)
   ·
    intro x W
    refine ⟨fun _ hW hdep K hK=>?_,(fun h=>absurd h (by decide)),(fun h=>absurd h (by decide))⟩
    have h4:x 4=_:=hdep 4 rfl
    have c:=(HO3.out.below hW).c0
    clear hdep
    simp only [h4] at hK
    go_simp
    exact hK _ _ rfl hW (fun _ _ h=>h)
   ·
    intro x W
    refine ⟨fun _ hW hdep K hK=>?_,(fun h=>absurd h (by decide)),(fun h=>absurd h (by decide))⟩
    have h3:x 3=_:=hdep 3 rfl
    have h5:x 5=_:=hdep 5 rfl
    have hc:=HRE.out _ (zo HB3.out hW)
    clear hdep
    simp only [h3,h5] at hK
    go_simp
    refine hc.mono ?_
    rintro e W' ⟨A5,q5,rfl,ht,hb⟩
    exact hK _ _ ⟨A5,q5,rfl,ht⟩ (zo hW hb) (fun j z h=>YRp17_keep hb j z h)
   ·
    intro x W
    refine ⟨(fun h=>absurd h (by decide)),fun _ hW hdep K hK=>?_,(fun h=>absurd h (by decide))⟩
    obtain ⟨A5,q5,h6,ht⟩:=hdep 6 rfl
    have hr:=HR3.out.below hW
    have k0:=hr.c0
    have k1:=hr.c1
    have kf:=hr.fr
    have HRR:=za hr
    have HTT:=za ht
    have HWW:=za (zo HB3.out hW)
    clear hr ht
    clear hdep
    simp only [h6] at hK
    go_simp
    exact hK (.bool false) _ rfl ⟨A5,q5,HRR.out.setAll er (.slice A5 m q5),HTT.out.turns (yi _ _ _ _) (fun i e=>by rw [e]; exact HRR.out.nos17),(zp.still HH.out HWW.out).beside (R:=W0.heap.size+1) HRR.out (by decide) HRR.out.nos17 (by omega) (yi _ _ _ _)⟩
   ·
    intro x W
    refine ⟨(fun h=>absurd h (by decide)),(fun h=>absurd h (by decide)),fun _ hW hdep K hK=>?_⟩
    clear hdep
    go_simp
    exact hK _ rfl
  case fin9 =>
   intro x W' hD hrest
   obtain ⟨A5,q5,hr,ht,hg⟩:=hD
   have h8:x 8=_:=hrest 8 (by decide) (by decide)
   have HR4:=za hr
   have HT4:=za ht
   have HG4:=za hg
   clear hr ht hg hrest
   simp only [h8]
   go_wp2
   exact bodyPost_ret (yL Tryz.results15 _ _ (W0.heap.size+1) _ _ (0,0) _ rfl HR4.out Tryz.underlying56 rfl xw) rfl ⟨A5,q5,rfl,HT4.out,HG4.out⟩
def YPu17 (H R TB cl n:Nat) (vr:Value):Nat→Value→World→Prop
 | 2,v,_=>v=.pointer (some ⟨H,1,none⟩)
 | 3,v,_=>v=.pointer (some ⟨TB,0,none⟩)
 | 4,v,_=>v=.pointer (some ⟨R,0,none⟩)
 | 5,v,_=>v=.int .u8 (cl:Int)
 | 6,v,_=>v=.pointer (some ⟨R,1,none⟩)
 | 7,v,_=>v=.int .u64 (n:Int)
 | 8,v,_=>v=vr
 | 9,_,_=>True
 | _,v,_=>v=.pointer (some ⟨H,0,none⟩)
theorem zp.trans17 {W w5 w':World} {H:Nat} {F F':Nat→Prop} {s2:H17} (h2:∀ i,F' i→F i∨W.heap.size≤i) (h3:zg F W w5) (hg:zp w5 H F' s2 w'):zp W H F s2 w':=by
 obtain ⟨F2,a1,a2,a3⟩:=hg
 refine ⟨F2,a1,fun i hi=>?_,h3.next a3 (fun i hi e=>?_)⟩
 ·
  rcases a2 i hi with e | e
  ·
   exact h2 i e
  ·
   exact .inr (Nat.le_trans h3.size e)
 ·
  rcases h2 i e with e | e
  ·
   exact e
  ·
   omega
theorem hput17 {W w5:World} {H:Nat} {F:Nat→Prop} {s1:H17} {X:Nat→P15} (hg:zp W H F s1 w5) (hX:s1.X=X) (cl n e:Nat) (A:Option Addr) (c:Nat) (ss:List ByteArray) (hc8:cl<8) (ht:vu w5 A ss) (he:e≤18) (hs:ss.length≤14∧∀ t∈ss,t.size≤50) :
  ∃ TB,w5.cell? ⟨H,1,none⟩=some (.pointer (some ⟨TB,0,none⟩))∧∀ W',Below w5.heap.size w5 W'→Calls Tryz.prog 43 #[.pointer (some ⟨TB,0,none⟩),.int .u8 (cl:Int),.int .u64 (n:Int),.agg #[.int .i64 (e:Int),.slice A ss.length c]] W' fun en w' =>
   ∃ q:Int,en=.returned (.int .i64 q)∧zp W H F { s1 with X:=vR X cl n e ss } w'∧yO w5 w'∧vu w' A ss:=by
 obtain ⟨F',h1,h2,h3⟩:=hg
 obtain ⟨TB,T,hc,hta,hxp,hgo⟩:=h1.tab
 refine ⟨TB,hc,fun W' hW=>(Put15_calls (hta.later hW) cl n e A c ss (ht.later hW).1 he hs).mono fun en w' ⟨h,T',a1,a2,a3⟩=>⟨_,h,?_⟩⟩
 have hx:∀ i,i<8→(T' i).p=vR X cl n e ss i:=fun i hi=>by
  rw [a3 i hi]
  unfold vR
  show (if i=cl∧J15 (T cl).p.n cl n=3 then _ else (T i).p)=_
  rw [show (T cl).p=X cl by rw [hxp cl hc8,hX],show (T i).p=X i by rw [hxp i hi,hX]]
 have htn:zg (fun k=>k=TB) w5 w':=(zg.of_below hW _).next a2 (fun _ _ e=>e)
 have hgg:=hgo T' (vR X cl n e ss) w' a1 htn hx
 refine ⟨zp.trans17 h2 h3 hgg,hgg.keeps h1,ht.turns htn (fun i e=>?_)⟩
 rw [e]
 exact J7 hta
set_option maxRecDepth 100000 in
theorem apply17_j3 {W0:World} (h:zW W0 H F s) (hg:s.Good) (cl n:Nat) (o:O14) (hcl:cl≠255) (hj:J15 (s.X cl).n cl n=3) (hl:zX W0) (h5:vO W0) (ha:o.a.size≤1000) (hb:o.b.size≤1000):Calls Tryz.prog 15 #[.pointer (some ⟨H,0,none⟩),.agg #[.int .u8 (cl:Int),.int .u64 (n:Int),.int .u8 o.kd.toNat,.string o.a,.string o.b,.int .u8 o.nd.toNat,.int .u8 o.rl.toNat]] W0 (vE W0 H F s cl n o):=by
 have hB:xg s cl n o=true:=by unfold xg; rw [if_neg hcl,hj]; rfl
 have hE:yW s cl n o=yD s cl o:=by unfold yW; rw [if_neg hcl,hj]; rfl
 have hT:xQ s cl n o=xC s cl o:=by unfold xQ; rw [if_neg hcl,hj]; rfl
 have hS:yV s cl n o={ xK s cl o with X:=vR s.X cl n (yD s cl o).toNat (xC s cl o) }:=by unfold yV; rw [hB,if_pos rfl,if_neg hcl]
 unfold vE
 rw [hB,hE,hT,hS]
 have hc8:cl<8:=(XY hj).1
 have hb1:=ze (Below.refl _ W0) (.cells #[.int .u8 (cl:Int),.int .u64 (n:Int),.int .u8 o.kd.toNat,.string o.a,.string o.b,.int .u8 o.nd.toNat,.int .u8 o.rl.toNat] 49)
 have hb2:=ze hb1 (.cells #[.int .i64 0,.slice none 0 0] 56)
 have HR:Hid (vT ((W0.alloc (.cells #[.int .u8 (cl:Int),.int .u64 (n:Int),.int .u8 o.kd.toNat,.string o.a,.string o.b,.int .u8 o.nd.toNat,.int .u8 o.rl.toNat] 49)).alloc (.cells #[.int .i64 0,.slice none 0 0] 56)) (W0.heap.size+1) 0 (.slice none 0 0)):=heap_alloc2_new W0 _ _
 have HO:Hid (zU ((W0.alloc (.cells #[.int .u8 (cl:Int),.int .u64 (n:Int),.int .u8 o.kd.toNat,.string o.a,.string o.b,.int .u8 o.nd.toNat,.int .u8 o.rl.toNat] 49)).alloc (.cells #[.int .i64 0,.slice none 0 0] 56)) W0.heap.size cl n o):=by
  have ho:zU (W0.alloc (.cells #[.int .u8 (cl:Int),.int .u64 (n:Int),.int .u8 o.kd.toNat,.string o.a,.string o.b,.int .u8 o.nd.toNat,.int .u8 o.rl.toNat] 49)) W0.heap.size cl n o:=heap_alloc_new W0 _
  exact ho.below (ze (Below.refl _ _) _)
 have HB2:=za hb2
 obtain ⟨TB,T,hc1,hta,hxp,_⟩:=h.tab
 have HX:Hid (∀ W',Below W0.heap.size W0 W'→W'.cell? ⟨H,1,none⟩=some (.pointer (some ⟨TB,0,none⟩))):=fun W' hW=>(hW.cell (p:=⟨H,1,none⟩) (World.block_lt_of_cell? W0 _ hc1)).trans hc1
 have HJ:Hid (∀ W',Below W0.heap.size W0 W'→Calls Tryz.prog 39 #[.pointer (some ⟨TB,0,none⟩),.int .u8 (cl:Int),.int .u64 (n:Int)] W' (zF (.int .i64 3) W')):=fun W' hW=>by
  have:=vM TB T cl n W' (hta.later hW).at_
  rw [J17 hxp,hj] at this
  exact this
 unfold zF at HJ
 have hq:((cl:Int) == 255)=false:=by simp; omega
 have HH:=za h
 have HAN:Hid (∀ W',Below W0.heap.size W0 W'→Calls Tryz.prog 42 #[.pointer (some ⟨H,0,none⟩),.int .u8 (cl:Int),o.v] W' fun en w'=>∃ A c,en=.returned (.agg #[.int .i64 ((yD s cl o).toNat:Nat),.slice A (xC s cl o).length c])∧vu w' A (xC s cl o)∧zp W0 H F (xK s cl o) w'∧yO W' w'):=fun W' hW=>by
  rw [(jW s cl o).1]
  exact (fk (h.later hW) hg cl o (hl.later hW) (h5.later hW) ha hb).mono fun en w' ⟨A,c,h1,h2,h3⟩=>⟨A,c,h1,h2,h3.ahead hW,h3.keeps (h.later hW)⟩
 have HPP:Hid (∀ w5 A c,zp W0 H F (xK s cl o) w5→vu w5 A (xC s cl o)→∃ TB,w5.cell? ⟨H,1,none⟩=some (.pointer (some ⟨TB,0,none⟩))∧∀ W',Below w5.heap.size w5 W'→Calls Tryz.prog 43 #[.pointer (some ⟨TB,0,none⟩),.int .u8 (cl:Int),.int .u64 (n:Int),.agg #[.int .i64 ((yD s cl o).toNat:Nat),.slice A (xC s cl o).length c]] W' fun en w' =>
   ∃ q:Int,en=.returned (.int .i64 q)∧zp W0 H F { xK s cl o with X:=vR s.X cl n (yD s cl o).toNat (xC s cl o) } w'∧yO w5 w'∧vu w' A (xC s cl o)):=fun w5 A c h1 h2 =>
  hput17 h1 (ansS17_X s cl o) cl n (yD s cl o).toNat A c (xC s cl o) hc8 h2 (jW s cl o).2 (Un hg cl o)
 generalize ({ xK s cl o with X:=vR s.X cl n (yD s cl o).toNat (xC s cl o) }:H17)=s2 at *
 rw [← (jW s cl o).1]
 unfold O14.v O14.cells at HAN
 generalize (yD s cl o).toNat=er at *
 generalize xK s cl o=s1 at *
 generalize xC s cl o=t0 at *
 generalize t0.length=m at *
 clear h hb1 hb2 hc1 hta hxp hcl hj hg hB hE hT hS hc8 hl h5 ha hb
 go_enter Tryz.func15,Tryz.ntmps15
 go_wp2_with fail
 generalize (W0.alloc (.cells #[.int .u8 (cl:Int),.int .u64 (n:Int),.int .u8 o.kd.toNat,.string o.a,.string o.b,.int .u8 o.nd.toNat,.int .u8 o.rl.toNat] 49)).alloc (.cells #[.int .i64 0,.slice none 0 0] 56)=w2 at *
 refine yY (by kernel_rfl) (fun W0=>Below w2.heap.size w2 W0) (YJu17 H W0.heap.size TB cl n 3) ?F ?hF (by kernel_rfl) (by kernel_rfl) (jc (Below.refl _ _)) ?step ?fin
 case hF =>
  intro x
  simp only [List.map_cons,List.map_nil,vb,Act.put,List.setIfInBounds_toArray,List.set_cons_zero,List.set_cons_succ,Nat.zero_add,Nat.reduceAdd]
  exact rfl
 case step =>
  refine ⟨?_,?_,?_,?_,?_,?_,?_,?_,?_,trivial⟩
  all_goals intro x W0 hW hdep K hK
  ·
   clear hdep
   go_simp
   exact hK _ _ rfl hW (fun _ _ h=>h)
  ·
   have h0:x 0=_:=hdep 0 rfl
   clear hdep
   simp only [h0] at hK
   go_simp
   exact hK _ _ rfl hW (fun _ _ h=>h)
  ·
   have h1:x 1=_:=hdep 1 rfl
   clear hdep
   simp only [h1] at hK
   go_simp
   exact hK _ _ rfl hW (fun _ _ h=>h)
  ·
   have h2:x 2=_:=hdep 2 rfl
   have c:=HX.out _ (zo HB2.out hW)
   clear hdep
   simp only [h2] at hK
   go_simp
   exact hK _ _ rfl hW (fun _ _ h=>h)
  ·
   clear hdep
   go_simp
   exact hK _ _ rfl hW (fun _ _ h=>h)
  ·
   have h4:x 4=_:=hdep 4 rfl
   have c:=(HO.out.below hW).c0
   clear hdep
   simp only [h4] at hK
   go_simp
   exact hK _ _ rfl hW (fun _ _ h=>h)
  ·
   clear hdep
   go_simp
   exact hK _ _ rfl hW (fun _ _ h=>h)
  ·
   have h6:x 6=_:=hdep 6 rfl
   have c:=(HO.out.below hW).c1
   clear hdep
   simp only [h6] at hK
   go_simp
   exact hK _ _ rfl hW (fun _ _ h=>h)
  ·
   have h3:x 3=_:=hdep 3 rfl
   have h5:x 5=_:=hdep 5 rfl
   have h7:x 7=_:=hdep 7 rfl
   have hc:=HJ.out _ (zo HB2.out hW)
   clear hdep
   simp only [h3,h5,h7] at hK
   go_simp
   refine hc.mono ?_
   rintro e W' ⟨rfl,hb⟩
   exact hK _ _ rfl (zo hW hb) (fun j z h=>Zr j z h)
 case fin =>
  intro x w3 hW hY
  have h8:x 8=_:=hY 8 (by decide)
  have HB3:=za (zo HB2.out hW)
  have HR3:=za (HR.out.below hW)
  have HO3:=za (HO.out.below hW)
  clear hW hY HB2 HR HO HX HJ
  simp only [h8]
  have y0:=HO3.out.c0
  have y1:=HO3.out.c1
  have y2:=HO3.out.c2
  have y3:=HO3.out.c3
  have y4:=HO3.out.c4
  have y5:=HO3.out.c5
  have y6:=HO3.out.c6
  go_wp2_with fail
  with_reducible refine (HAN.out _ HB3.out).mono ?_
  rintro e w4 ⟨A5,c5,rfl,htx,hgo,hkp⟩
  have hr4:=hkp.rep HR3.out
  have ho4:=hkp.rq HO3.out
  have HGO5:Hid (zp W0 H F s1 (w4.alloc (.cells #[.int .i64 (er:Int),.slice A5 m c5] 56))):=hgo.behind (ze (Below.refl _ _) _)
  have HTX5:Hid (vu (w4.alloc (.cells #[.int .i64 (er:Int),.slice A5 m c5] 56)) A5 t0):=htx.later (ze (Below.refl _ _) _)
  have HR5:Hid (vT (w4.alloc (.cells #[.int .i64 (er:Int),.slice A5 m c5] 56)) (W0.heap.size+1) 0 (.slice none 0 0)):=hr4.below (ze (Below.refl _ _) _)
  have HO5:Hid (zU (w4.alloc (.cells #[.int .i64 (er:Int),.slice A5 m c5] 56)) W0.heap.size cl n o):=ho4.below (ze (Below.refl _ _) _)
  have HQ5:Hid (vT (w4.alloc (.cells #[.int .i64 (er:Int),.slice A5 m c5] 56)) w4.heap.size er (.slice A5 m c5)):=heap_alloc_new w4 _
  clear htx hgo hkp HAN HB3 HR3 HO3 hr4 ho4 y0 y1 y2 y3 y4 y5 y6
  go_wp2_with fail
  generalize w4.alloc (.cells #[.int .i64 (er:Int),.slice A5 m c5] 56)=w5 at *
  generalize w4.heap.size=Q6 at *
  obtain ⟨TB5,hcT,hpt⟩:=HPP.out w5 A5 c5 HGO5.out HTX5.out
  have HX5:Hid (∀ W',Below w5.heap.size w5 W'→W'.cell? ⟨H,1,none⟩=some (.pointer (some ⟨TB5,0,none⟩))):=fun W' hW=>(hW.cell (p:=⟨H,1,none⟩) (World.block_lt_of_cell? w5 _ hcT)).trans hcT
  have HPT:=za hpt
  clear hcT hpt HPP HGO5 HTX5
  refine zA (by kernel_rfl) 9 (fun W=>Below w5.heap.size w5 W) (fun W'=>zp W0 H F s2 W'∧yO w5 W'∧vu W' A5 t0) (YPu17 H W0.heap.size TB5 cl n (.agg #[.int .i64 (er:Int),.slice A5 m c5])) (fun _=>True) ?F11 ?hF11 (by kernel_rfl) (by kernel_rfl) (by kernel_rfl) (by kernel_rfl) (by decide) (jc (Below.refl _ _)) ?step11 ?fin11
  case hF11 =>
   intro x
   simp only [List.map_cons,List.map_nil,vb,Act.put,List.setIfInBounds_toArray,List.set_cons_zero,List.set_cons_succ,Nat.zero_add,Nat.reduceAdd]
   exact rfl
  case step11 =>
   refine ⟨?_,?_,?_,?_,?_,?_,?_,?_,?_,?_,trivial⟩
   ·
    intro x W
    refine ⟨fun _ hW hdep K hK=>?_,(fun h=>absurd h (by decide)),(fun h=>absurd h (by decide))⟩
    clear hdep
    go_simp
    exact hK _ _ rfl hW (fun _ _ h=>h)
   ·
    intro x W
    refine ⟨fun _ hW hdep K hK=>?_,(fun h=>absurd h (by decide)),(fun h=>absurd h (by decide))⟩
    have h0:x 0=_:=hdep 0 rfl
    clear hdep
    simp only [h0] at hK
    go_simp
    exact hK _ _ rfl hW (fun _ _ h=>h)
   ·
    intro x W
    refine ⟨fun _ hW hdep K hK=>?_,(fun h=>absurd h (by decide)),(fun h=>absurd h (by decide))⟩
    have h1:x 1=_:=hdep 1 rfl
    clear hdep
    simp only [h1] at hK
    go_simp
    exact hK _ _ rfl hW (fun _ _ h=>h)
   ·
    intro x W
    refine ⟨fun _ hW hdep K hK=>?_,(fun h=>absurd h (by decide)),(fun h=>absurd h (by decide))⟩
    have h2:x 2=_:=hdep 2 rfl
    have c:=HX5.out _ hW
    clear hdep
    simp only [h2] at hK
    go_simp
    exact hK _ _ rfl hW (fun _ _ h=>h)
   ·
    intro x W
    refine ⟨fun _ hW hdep K hK=>?_,(fun h=>absurd h (by decide)),(fun h=>absurd h (by decide))⟩
    clear hdep
    go_simp
    exact hK _ _ rfl hW (fun _ _ h=>h)
   ·
    intro x W
    refine ⟨fun _ hW hdep K hK=>?_,(fun h=>absurd h (by decide)),(fun h=>absurd h (by decide))⟩
    have h4:x 4=_:=hdep 4 rfl
    have c:=(HO5.out.below hW).c0
    clear hdep
    simp only [h4] at hK
    go_simp
    exact hK _ _ rfl hW (fun _ _ h=>h)
   ·
    intro x W
    refine ⟨fun _ hW hdep K hK=>?_,(fun h=>absurd h (by decide)),(fun h=>absurd h (by decide))⟩
    clear hdep
    go_simp
    exact hK _ _ rfl hW (fun _ _ h=>h)
   ·
    intro x W
    refine ⟨fun _ hW hdep K hK=>?_,(fun h=>absurd h (by decide)),(fun h=>absurd h (by decide))⟩
    have h6:x 6=_:=hdep 6 rfl
    have c:=(HO5.out.below hW).c1
    clear hdep
    simp only [h6] at hK
    go_simp
    exact hK _ _ rfl hW (fun _ _ h=>h)
   ·
    intro x W
    refine ⟨fun _ hW hdep K hK=>?_,(fun h=>absurd h (by decide)),(fun h=>absurd h (by decide))⟩
    have hr:=HQ5.out.below hW
    have k0:=hr.c0
    have k1:=hr.c1
    clear hr
    clear hdep
    go_simp
    exact hK _ _ rfl hW (fun _ _ h=>h)
   ·
    intro x W
    refine ⟨(fun h=>absurd h (by decide)),fun _ hW hdep K hK=>?_,(fun h=>absurd h (by decide))⟩
    have h3:x 3=_:=hdep 3 rfl
    have h5:x 5=_:=hdep 5 rfl
    have h7:x 7=_:=hdep 7 rfl
    have h8:x 8=_:=hdep 8 rfl
    have hc:=HPT.out _ hW
    clear hdep
    simp only [h3,h5,h7,h8] at hK
    go_simp
    refine hc.mono ?_
    rintro e W' ⟨q9,rfl,hd9⟩
    exact hK _ _ trivial hd9
  case fin11 =>
   intro x W' hD hrest
   obtain ⟨hgo,hkp,htx⟩:=hD
   have hq:=hkp.rep HQ5.out
   have hr:=hkp.rep HR5.out
   have k0:=hq.c0
   have k1:=hq.c1
   have x0:=hr.c0
   have x1:=hr.c1
   have xf:=hr.fr
   have HR6:=za hr
   have HG6:=za hgo
   have HT6:=za htx
   clear hgo hkp htx hq hr hrest HPT HX5 HO5
   go_wp2
   refine bodyPost_ret (yL Tryz.results15 _ _ (W0.heap.size+1) _ _ (0,0) _ rfl (HR6.out.setAll er (.slice A5 m c5)) Tryz.underlying56 rfl xw) rfl ⟨A5,c5,rfl,?_,?_⟩
   ·
    exact HT6.out.turns (yi _ _ _ _) (fun i e=>by rw [e]; exact HR6.out.nos17)
   ·
    exact HG6.out.beside (R:=W0.heap.size+1) HR6.out (by decide) HR6.out.nos17 (by omega) (yi _ _ _ _)
theorem QR (h:zW W H F s) (hg:s.Good) (cl n:Nat) (o:O14) (hl:zX W) (h5:vO W) (ha:o.a.size≤1000) (hb:o.b.size≤1000):Calls Tryz.prog 15 #[.pointer (some ⟨H,0,none⟩),.agg #[.int .u8 (cl:Int),.int .u64 (n:Int),.int .u8 o.kd.toNat,.string o.a,.string o.b,.int .u8 o.nd.toNat,.int .u8 o.rl.toNat]] W (vE W H F s cl n o):=by
 by_cases hcl:cl=255
 ·
  exact apply17_sys h hg cl n o hcl hl h5 ha hb
 ·
  have hj:J15 (s.X cl).n cl n=0∨J15 (s.X cl).n cl n=1∨J15 (s.X cl).n cl n=2∨J15 (s.X cl).n cl n=3:=by
   unfold J15
   split
   ·
    split
    ·
     exact .inr (.inl rfl)
    ·
     split
     ·
      exact .inr (.inr (.inl rfl))
     ·
      exact .inr (.inr (.inr rfl))
   ·
    exact .inl rfl
  rcases hj with hj | hj | hj | hj
  ·
   exact apply17_j0 h hg cl n o hcl hj
  ·
   exact apply17_j1 h hg cl n o hcl hj
  ·
   exact apply17_j2 h hg cl n o hcl hj
  ·
   exact apply17_j3 h hg cl n o hcl hj hl h5 ha hb
end
end Go.Proofs.YteegkoicalbkbaaGreatDoor
namespace Go.Proofs.YteegkoicalbkbaaGreatDoor
open Go.RowKit Go.Maps
set_option linter.unusedVariables false

theorem ptrnil17 (a:Option Addr) (w:World):(binOp .eql 66 (.pointer a) (.pointer none)).run Tryz.prog w=.ok (.bool a.isNone) w:=by
 cases a <;> kernel_rfl
set_option maxRecDepth 100000 in
theorem JP (n:Nat) (w:World) (h:Qd n=true):Calls Tryz.prog 10 #[.int .i64 (n:Int)] w fun e w'=>∃ C,e=.returned (.pointer (some ⟨C,0,none⟩))∧fo w (Vf n) (.pointer (some ⟨C,0,none⟩)) w'∧Below w.heap.size w w':=by
 have HN:=za (New16_calls n w h)
 unfold Newly16 at HN
 have HED:=za new7_calls
 have HTN:=za XV
 have HMK:Hid (∀ w2 B A,w.heap.size≤A→w.heap.size≤B→Below w.heap.size w w2→qg w2 B A n (List.replicate n 0) →
   fo w (Vf n) (.pointer (some ⟨w2.heap.size+2,0,none⟩)) (((w2.alloc (.cells #[.map none] 120)).alloc (.cells (Y8 fun _=>uw) 123)).alloc (.cells #[.iface 80 (.agg #[.pointer (some ⟨w2.heap.size,0,none⟩)]),.pointer (some ⟨w2.heap.size+1,0,none⟩),.pointer (some ⟨B,0,none⟩)] 84)) ∧
   Below w.heap.size w (((w2.alloc (.cells #[.map none] 120)).alloc (.cells (Y8 fun _=>uw) 123)).alloc (.cells #[.iface 80 (.agg #[.pointer (some ⟨w2.heap.size,0,none⟩)]),.pointer (some ⟨w2.heap.size+1,0,none⟩),.pointer (some ⟨B,0,none⟩)] 84))):=fun w2 B A h1 h2 h3 h4=>by
  have b3:=ze h3 (.cells #[.map none] 120)
  have b4:=ze b3 (.cells (Y8 fun _=>uw) 123)
  have d2:yP ((w2.alloc (.cells #[.map none] 120)).alloc (.cells (Y8 fun _=>uw) 123)) (xo w2.heap.size) (fun i=>i=w2.heap.size∨(none:Option Nat)=some i) (.old []) :=
   ⟨w2.heap.size,none,rfl,(dir7_new w2).later (ze (Below.refl _ _) _),fun _=>Iff.rfl⟩
  have t2:vy ((w2.alloc (.cells #[.map none] 120)).alloc (.cells (Y8 fun _=>uw) 123)) (w2.heap.size+1+1) (w2.heap.size+1) (fun _=>uw):=by
   have:=Jn (w2.alloc (.cells #[.map none] 120)) (w2.heap.size+1+1) (by simp)
   rwa [World.size_alloc] at this
  have hb2:=(h4.later (ze (Below.refl _ w2) (.cells #[.map none] 120))).later (ze (Below.refl _ _) (.cells (Y8 fun _=>uw) 123))
  have hm:=fo.make (d:=.old []) (X:=fun _=>noP15) (b:=List.replicate n 0) b4 ⟨_,d2,fun i hi=>by
   rcases hi with rfl | e
   ·
    exact h3.size
   ·
    cases e⟩ ⟨w2.heap.size+1,_,rfl,by have:=h3.size; omega,t2,fun i _=>rfl⟩ ⟨B,A,n,rfl,h1,h2,hb2⟩
  rw [World.size_alloc,World.size_alloc] at hm
  exact ⟨hm,ze b4 _⟩
 have hp:=fun a=>ptrnil17 (some a)
 clear h
 go_enter Tryz.func10,Tryz.ntmps10
 go_wp2_with fail
 with_reducible refine HN.out.mono ?_
 rintro e w2 ⟨B,A,rfl,h1,h2,h3,h4⟩
 have HE:=za (HMK.out w2 B A h1 h2 h3 h4)
 clear h1 h2 h3 h4 HMK HN
 go_wp2_with fail
 with_reducible refine (HED.out _).mono ?_
 rintro e w3 ⟨rfl,rfl⟩
 go_wp2_with fail
 with_reducible refine (HTN.out _).mono ?_
 rintro e w4 ⟨rfl,rfl⟩
 clear HED HTN
 go_wp2
 go_ret
 refine ⟨_,rfl,?_,?_⟩
 ·
  exact HE.out.1
 ·
  exact HE.out.2
theorem zp.fresh {W w2 w3:World} {C:Nat} {F:Nat→Prop} {s':H17} (hb:Below W.heap.size W w2) (hF:∀ i,F i→W.heap.size≤i) (hg:zp w2 C F s' w3):Below W.heap.size W w3∧∃ F',zW w3 C F' s'∧∀ i,F' i→W.heap.size≤i:=by
 obtain ⟨F',h1,h2,h3⟩:=hg
 refine ⟨hb.trans (h3.below_at hb.size hF),F',h1,fun i hi=>?_⟩
 rcases h2 i hi with e | e
 ·
  exact hF i e
 ·
  exact Nat.le_trans hb.size e
section
variable {W:World} {H:Nat} {F:Nat→Prop} {s:H17}
end
end Go.Proofs.YteegkoicalbkbaaGreatDoor
namespace Go.Proofs.YteegkoicalbkbaaGreatDoor
open Go.ChangeShapes Go.WideShapes Go.ChangeAt Go.RowKit Go.Deep

structure QX where
 cl:Nat
 n:Nat
 o:O14
def QX.cells (t:QX):List Value:=[.int .u8 (t.cl:Int),.int .u64 (t.n:Int),.int .u8 t.o.kd.toNat,.string t.o.a,.string t.o.b,.int .u8 t.o.nd.toNat,.int .u8 t.o.rl.toNat]
structure QX.Ok (t:QX):Prop where
 cl:t.cl<256
 n:t.n<18446744073709551616
def RdR17 (w:World) (A:Option Addr) (l:List QX):Prop :=
 l≠[]→∃ b off,A=some ⟨b,off,none⟩∧b<w.heap.size∧∀ i (hi:i<l.length) j u,l[i].cells[j]? = some u→w.cell? ⟨b,off+i * 7+j,none⟩=some u
theorem RdR17.later {w w':World} {A:Option Addr} {l:List QX} (h:RdR17 w A l) (hb:Below w.heap.size w w'):RdR17 w' A l:=fun hl=>by
 obtain ⟨b,off,rfl,hlt,hc⟩:=h hl
 exact ⟨b,off,rfl,Nat.lt_of_lt_of_le hlt hb.size,fun i hi j u hu=>(hb.cell (p:=⟨b,off+i * 7+j,none⟩) hlt).trans (hc i hi j u hu)⟩
theorem RdR17.at17 {w:World} {A:Option Addr} {l:List QX} (h:RdR17 w A l) (i:Nat) (hi:i<l.length):∃ b off,A=some ⟨b,off,none⟩ ∧
  w.cell? ⟨b,off+i * 7,none⟩=some (.int .u8 (l[i].cl:Int))∧w.cell? ⟨b,off+i * 7+1,none⟩=some (.int .u64 (l[i].n:Int))∧w.cell? ⟨b,off+i * 7+2,none⟩=some (.int .u8 l[i].o.kd.toNat) ∧
  w.cell? ⟨b,off+i * 7+3,none⟩=some (.string l[i].o.a)∧w.cell? ⟨b,off+i * 7+4,none⟩=some (.string l[i].o.b)∧w.cell? ⟨b,off+i * 7+5,none⟩=some (.int .u8 l[i].o.nd.toNat)∧w.cell? ⟨b,off+i * 7+6,none⟩=some (.int .u8 l[i].o.rl.toNat):=by
 obtain ⟨b,off,rfl,_,hc⟩:=h (fun e=>by rw [e] at hi; cases hi)
 exact ⟨b,off,rfl,hc i hi 0 _ rfl,hc i hi 1 _ rfl,hc i hi 2 _ rfl,hc i hi 3 _ rfl,hc i hi 4 _ rfl,hc i hi 5 _ rfl,hc i hi 6 _ rfl⟩
def IsReqs17 (w:World) (A:Option Addr) (len:Nat) (l:List QX):Prop:=len=l.length∧l.length≤9223372036854775807∧RdR17 w A l∧∀ t∈l,t.Ok

theorem cells17U64:Tryz.prog.cellsOf 32=1:=by kernel_rfl
theorem Ul:Tryz.prog.cellsOf 49=7:=by kernel_rfl
theorem bound17_u8 {x:Int} (h:(Lit.int .u8 x).wf=true):∃ n:Nat,x=n∧n<256:=by
 have hb:0≤x∧x≤255:=by
  simp [Lit.wf,IntKind.min,IntKind.max,IntKind.signed,IntKind.bits] at h
  omega
 exact ⟨x.toNat,by omega,by omega⟩
theorem bound17_u64 {x:Int} (h:(Lit.int .u64 x).wf=true):∃ n:Nat,x=n∧n<18446744073709551616:=by
 have hb:0≤x∧x≤18446744073709551615:=by
  simp [Lit.wf,IntKind.min,IntKind.max,IntKind.signed,IntKind.bits] at h
  omega
 exact ⟨x.toNat,by omega,by omega⟩
theorem pick17_req (d:QX) {φ:Nat→QX→Prop} {m:Nat} (h:∀ i,i<m→∃ t,φ i t):∃ T:Nat→QX,∀ i,i<m→φ i (T i):=by
 refine ⟨fun i=>if hi:i<m then Classical.choose (h i hi) else d,fun i hi=>?_⟩
 have:(if hi:i<m then Classical.choose (h i hi) else d)=Classical.choose (h i hi):=dif_pos hi
 show φ i (if hi:i<m then Classical.choose (h i hi) else d)
 rw [this]
 exact Classical.choose_spec (h i hi)
section
variable {H:Type} {enc:TypeId×Value→H} {W:World} {base:Nat} {sp:Nat→Bool} {hd:Bool} {fuel:Nat}
set_option maxRecDepth 100000 in
theorem req17_of {cs:List Value} {x:DataW H×List MemPlace} (h:DataW.trod enc Tryz.prog W base sp hd fuel 49 cs=some x) :
  ∃ t:QX,cs=t.cells∧t.Ok:=by
 obtain ⟨ys,n,_,_,hlen,hyl,hf⟩:=DataW.trod_struct Tryz.underlying49 h
 rw [Ul] at hlen
 match cs,hlen,ys,hyl with
 | [c0,c1,c2,c3,c4,c5,c6],_,[y0,y1,y2],_ =>
  have f0:DataW.trod enc Tryz.prog W base sp hd n 5 (([c0,c1,c2,c3,c4,c5,c6].drop 0).take (Tryz.prog.cellsOf 5))=some y0:=hf 0 _ rfl
  have f1:DataW.trod enc Tryz.prog W base sp hd n 32 (([c0,c1,c2,c3,c4,c5,c6].drop 1).take (Tryz.prog.cellsOf 32))=some y1:=hf 1 _ rfl
  have f2:DataW.trod enc Tryz.prog W base sp hd n 47 (([c0,c1,c2,c3,c4,c5,c6].drop 2).take (Tryz.prog.cellsOf 47))=some y2:=hf 2 _ rfl
  rw [XP] at f0
  rw [cells17U64] at f1
  rw [Fo] at f2
  obtain ⟨cl,e0,_,w0⟩:=DataW.trod_int Tryz.underlying5 f0
  obtain ⟨nm,e1,_,w1⟩:=DataW.trod_int Tryz.underlying32 f1
  obtain ⟨o,e2⟩:=op14_of f2
  have e2:[c2,c3,c4,c5,c6]=[.int .u8 o.kd.toNat,.string o.a,.string o.b,.int .u8 o.nd.toNat,.int .u8 o.rl.toNat]:=e2
  simp only [List.drop_zero,List.drop_succ_cons,List.take_succ_cons,List.take_zero,List.cons.injEq,and_true] at e0 e1 e2
  obtain ⟨g2,g3,g4,g5,g6⟩:=e2
  subst e0 e1 g2 g3 g4 g5 g6
  obtain ⟨cl,rfl,b0⟩:=bound17_u8 w0
  obtain ⟨nm,rfl,b1⟩:=bound17_u64 w1
  exact ⟨⟨cl,nm,o⟩,rfl,b0,b1⟩

set_option maxRecDepth 100000 in
theorem reqs17_of {a:Option Addr} {len cap:Nat} {d:DataW H} {p:List MemPlace} (h:DataW.Trod enc Tryz.prog W base sp hd 22 (.slice a len cap) d p):∃ l,IsReqs17 W a len l:=by
 obtain ⟨fuel,hf⟩:=h
 rcases open_slice Tryz.underlying22 hf with ⟨hcs,_⟩ | ⟨x,l,c,m,n,D,Pl,hcs,_,hl,hm,hmm,_,hi⟩
 ·
  simp [Value.cells] at hcs
  obtain ⟨rfl,rfl,rfl⟩:=hcs
  exact ⟨[],rfl,by simp,fun h=>absurd rfl h,by simp⟩
 ·
  simp [Value.cells] at hcs
  obtain ⟨rfl,rfl,rfl⟩:=hcs
  have hlm:len≤m:=by rw [hmm]; split <;> omega
  rw [Ul] at hi
  have hex:∀ i,i<m→∃ t:QX,(∀ j,j<7→W.cell? ((x.add (i * 7)).add j)=t.cells[j]?)∧t.Ok:=by
   intro i him
   obtain ⟨cs',hc,ht'⟩:=hi i him
   obtain ⟨t,rfl,hrest⟩:=req17_of ht'
   exact ⟨t,(World.cells?_some hc).2.2,hrest⟩
  obtain ⟨T,hT⟩:=pick17_req ⟨0,0,⟨0,⟨#[]⟩,⟨#[]⟩,0,0⟩⟩ hex
  refine ⟨(List.range len).map T,by simp,by simpa [maxLen] using Nat.le_trans hl hm,fun hne=>?_,fun t ht=>?_⟩
  ·
   have hp:0<len:=by
    rcases Nat.eq_zero_or_pos len with h | h
    ·
     subst h; simp at hne
    ·
     exact h
   have hc0:=(hT 0 (by omega)).1 0 (by omega)
   have h00:(T 0).cells[0]? = some (.int .u8 (T 0).cl):=rfl
   rw [h00,Nat.zero_mul] at hc0
   have hx:x=⟨x.block,x.off,none⟩:=by
    have hs:x.spot=none:=World.cell?_spot hc0
    rw [← hs]
   refine ⟨x.block,x.off,by rw [← hx],?_,fun i hi' j u hu=>?_⟩
   ·
    exact World.block_lt_of_cell? W _ hc0
   ·
    rw [List.length_map,List.length_range] at hi'
    have e:((List.range len).map T)[i]'(by simpa using hi')=T i:=by simp
    rw [e] at hu
    have hj:j<7:=(List.getElem?_eq_some_iff.1 hu).1
    have:=(hT i (by omega)).1 j hj
    rw [hx,Addr.add_lit,Addr.add_lit] at this
    exact this.trans hu
  ·
   obtain ⟨i,hi',rfl⟩:=List.mem_map.1 ht
   rw [List.mem_range] at hi'
   exact (hT i (by omega)).2
end
/-! ### The wrap -/
theorem returns_laid17 {H:Type} {enc:TypeId×Value→H} {a:Assume} {C:Checked} {os:Os} {f:FuncId} {fn:Func} {s:ChangeSpec} {conds:List PathCond} {apart fresh handsOn again:Bool} {X:World→Array Value→Prop}
  (hX:∀ w w' args,w.heap=w'.heap→X w args→X w' args)
  (own:ownKnob C.prog.godebug=none) (started:os.Started) (noInit:C.prog.inits.idxOf? f=none) (hfn:C.prog.funcs[f]? = some fn)
  (witness:∃ (w:World) (tape:Tape) (i:Input),w.os=os∧(w.forCall tape i).Shaped C.prog∧i.vars=[]∧Input.okWide C.prog (w.forCall tape i) .any w.heap.size f i ∧
   ((s.pre enc C.prog fn conds apart (w.forCall tape i).memory i.args∧X (w.forCall tape i).memory i.args)∧sizedMet enc C.prog fn (OpenSpec.ofChange s) apart (w.forCall tape i).memory i.args)∧a.holds C.prog (lone (Frame.enter C.prog f i.args .normal) [] (w.forCall tape i)))
  (contract:∀ (W:World) (base:Nat) (args:Array Value) (ds gs:List (DataW H)) (before:List MemPlace),
   (∀ (j:Nat) t v,fn.params[j]? = some t→args[j]? = some v→Value.okWide C.prog W .any base t v) →
   DataW.Whole enc C.prog fn.params.toList s.vars apart W args.toList ds gs before →
   W.ShapedOpen C.prog→X W args →
   Calls C.prog f args W fun e W'=>∃ v,e=.returned v∧s.post enc C.prog fn apart fresh handsOn again W args v W') :
  ReturnsInHanded a C os f .any (fun w args=>(s.pre enc C.prog fn conds apart w args∧X w args)∧sizedMet enc C.prog fn (OpenSpec.ofChange s) apart w args) (s.post enc C.prog fn apart fresh handsOn again):=by
 refine returnsInHanded_of_calls own started noInit witness ?_
 intro w tape i _ hsh _ hok hpre _
 obtain ⟨_,_,_,fn',hfn',_,_,_,_,hval⟩:=hok
 have e:fn'=fn:=Option.some.inj (hfn'.symm.trans hfn)
 subst e
 obtain ⟨⟨⟨ds,gs,before,hw,_⟩,hx⟩,_⟩:=hpre
 have hw':=DataW.Whole.of_heap (w':=w.forCall tape i) (by rfl) hw
 refine (contract (w.forCall tape i) w.heap.size i.args ds gs before hval hw' hsh (hX (w.forCall tape i).memory (w.forCall tape i) _ rfl hx)).mono fun e W' ⟨v,he,hp⟩=>?_
 subst he
 exact ChangeSpec.post_blind hp
theorem laid17_of {W:World} {p r:String×DataW Unit} (h:laidMetH Tryz.prog [p,("interrex/op.traits",Rows.laid_interrex_op_traits),r] W) (hp:p.2.handleName?.isNone=true) (hr:r.2.handleName?.isNone=true):zX W:=by
 rw [MakeChecks.laidMetH_plain _ _ _ (by simp only [List.all_cons,List.all_nil,hp,hr,Bool.true_and,Bool.and_true]; kernel_rfl)] at h
 refine laid14_of ?_
 rw [MakeChecks.laidMetH_plain _ _ _ (by kernel_rfl)]
 obtain ⟨ps,h1,h2,h3⟩:=h
 obtain ⟨g,t,cs,fuel,p1,q1,_,_,_,_,⟨g2,t2,cs2,fuel2,p2,q2,e1,e2,e3,e4,_,rfl⟩,rfl⟩:=h1
 have hs:(MemPlace.row ⟨g2,0,none⟩ cs2.size++p2++[]).Sublist (MemPlace.row ⟨g,0,none⟩ cs.size++p1++(MemPlace.row ⟨g2,0,none⟩ cs2.size++p2++q2)) :=
  ((List.Sublist.refl _).append (List.nil_sublist _)).trans (List.sublist_append_right _ _)
 exact ⟨_,⟨g2,t2,cs2,fuel2,p2,[],e1,e2,e3,e4,rfl,rfl⟩,h2.sublist hs,fun b off hb=>h3 b off (hs.subset hb)⟩
end Go.Proofs.YteegkoicalbkbaaGreatDoor
namespace Go.Proofs.YteegkoicalbkbaaGreatDoor
open Go.RowKit Go.Maps
set_option linter.unusedVariables false

/-! ### plain -/
theorem runE17_zero {s:H17} {cl:Nat} {o:O14} (h:zH s cl o≠0):yj s cl o=s:=by unfold yj; rw [if_pos h]
theorem XS {s:H17} {cl:Nat} {o:O14} (h:yD s cl o≠0):xK s cl o=s:=by
 unfold xK
 split
 ·
  rfl
 ·
  rename_i hc
  unfold yD at h
  rw [if_neg hc] at h
  exact runE17_zero h
theorem app17_err {s:H17} (hg:s.Good) {cl n:Nat} {o:O14} (h:yW s cl n o≠0):(yV s cl n o).d=s.d∧xQ s cl n o=[]:=by
 by_cases hcl:cl=255
 ·
  refine ⟨?_,by unfold xQ; rw [if_pos hcl]⟩
  unfold yV
  by_cases hb:xg s cl n o=true
  ·
   rw [if_pos hb,if_pos hcl]
   unfold yW at h
   rw [if_pos hcl,if_pos hb] at h
   rw [XS h]
  ·
   rw [if_neg hb]
 ·
  have hB:xg s cl n o=decide (J15 (s.X cl).n cl n=3):=by unfold xg; rw [if_neg hcl]
  unfold yW at h
  rw [if_neg hcl] at h
  unfold xQ yV
  simp only [hcl,if_false,hB]
  by_cases h0:J15 (s.X cl).n cl n=0
  ·
   rw [if_pos h0,h0]; exact ⟨rfl,rfl⟩
  ·
   rw [if_neg h0] at h ⊢
   by_cases h1:J15 (s.X cl).n cl n=1
   ·
    rw [if_pos h1,h1]; exact ⟨rfl,rfl⟩
   ·
    rw [if_neg h1] at h ⊢
    by_cases h2:J15 (s.X cl).n cl n=2
    ·
     rw [if_pos h2] at h ⊢
     rw [h2]
     refine ⟨rfl,(hg.x cl ?_).t (fun e=>h (by rw [e]; rfl))⟩
     by_cases hc8:cl<8
     ·
      exact hc8
     ·
      exfalso
      apply h0
      unfold J15
      rw [if_neg (fun e=>hc8 e.1)]
    ·
     rw [if_neg h2] at h ⊢
     refine ⟨?_,by unfold xC; rw [if_neg h]⟩
     split
     ·
      show (xK s cl o).d=s.d
      rw [XS h]
     ·
      rfl
theorem app17_ver {s:H17} {cl n:Nat} {o:O14} (hb:xg s cl n o=true) (hc:vY o=0):(yW s cl n o=6)↔(s.d.ver:Int)<vh o.kd.toNat:=by
 have hrun:∀ c,(zH s c o=6)↔(s.d.ver:Int)<vh o.kd.toNat:=fun c=>by
  unfold zH
  split
  ·
   rename_i h; exact ⟨fun _=>h,fun _=>rfl⟩
  ·
   rename_i h
   refine ⟨fun e=>absurd e ?_,fun e=>absurd e h⟩
   split
   ·
    split
    ·
     split <;> decide
    ·
     decide
   ·
    split
    ·
     split
     ·
      unfold Zj; split <;> decide
     ·
      decide
    ·
     exact (dE17_er _ _ _ _).ne.1
 have hans:∀ c,yD s c o=zH s c o:=fun c=>by unfold yD; rw [if_neg (by rw [hc]; decide)]
 by_cases hcl:cl=255
 ·
  have:yW s cl n o=yD s 255 o:=by unfold yW; rw [if_pos hcl,if_pos hb]
  rw [this,hans]
  exact hrun 255
 ·
  have h3:J15 (s.X cl).n cl n=3:=by
   unfold xg at hb
   rw [if_neg hcl] at hb
   exact of_decide_eq_true hb
  have:yW s cl n o=yD s cl o:=by
   unfold yW
   rw [if_neg hcl,h3]
   rfl
  rw [this,hans]
  exact hrun cl

structure QY (w W:World) (H:Nat) (F:Nat→Prop) (s:H17):Prop where
 at_:zW W H F s
 good:s.Good
 new:∀ i,F i→w.heap.size≤i
 bel:Below w.heap.size w W
theorem QY.later {w W W':World} {H:Nat} {F:Nat→Prop} {s:H17} (h:QY w W H F s) (hb:Below W.heap.size W W'):QY w W' H F s:=⟨h.at_.later hb,h.good,h.new,zo h.bel hb⟩
theorem QY.goes {w W W':World} {H:Nat} {F:Nat→Prop} {s s':H17} (h:QY w W H F s) (hg:zp W H F s' W') (hs:s'.Good):∃ F',QY w W' H F' s'∧(∀ i,F' i→F i∨W.heap.size≤i)∧zg F W W':=by
 obtain ⟨F',h1,h2,h3⟩:=hg
 refine ⟨F',⟨h1,hs,fun i hi=>?_,h.bel.trans (h3.below_at h.bel.size h.new)⟩,h2,h3⟩
 rcases h2 i hi with e | e
 ·
  exact h.new i e
 ·
  exact Nat.le_trans h.bel.size e
theorem QY.made {w W W':World} {C:Nat} {s:H17} (hb:Below w.heap.size w W) (h:fo W s (.pointer (some ⟨C,0,none⟩)) W') (hn:Below W.heap.size W W') (hs:s.Good):∃ F,QY w W' C F s∧∀ i,F i→W.heap.size≤i:=by
 obtain ⟨H,F,e,h1,h2⟩:=h
 injection e with e
 injection e with e
 injection e with e
 subst e
 exact ⟨F,⟨h1,hs,fun i hi=>Nat.le_trans hb.size (h2 i hi),zo hb hn⟩,h2⟩
theorem QY.ne {w W:World} {H:Nat} {F:Nat→Prop} {s:H17} (h:QY w W H F s) (D:Nat) (hD:W.heap.size≤D):¬ F D:=fun hF=>by
 have:=h.at_.lt hF
 omega

/-! ### Few -/
def sm17 (t:QX):Bool:=decide (t.o.a.size≤100) && decide (t.o.b.size≤100)
def JZ (l:List QX):Bool:=l.all sm17 && decide (l.length≤60)
theorem few17_len {l:List QX} (h:JZ l=true):l.length≤60:=by
 unfold JZ at h
 simp only [Bool.and_eq_true,decide_eq_true_eq] at h
 exact h.2
theorem few17_size {l:List QX} (h:JZ l=true):∀ t∈l,t.o.a.size≤1000∧t.o.b.size≤1000:=by
 unfold JZ at h
 simp only [Bool.and_eq_true] at h
 intro t ht
 have:=List.all_eq_true.1 h.1 t ht
 unfold sm17 at this
 simp only [Bool.and_eq_true,decide_eq_true_eq] at this
 omega
set_option maxRecDepth 100000 in
theorem few17_calls (A:Option Addr) (c n:Nat) (l:List QX) (w:World) (hl:n=l.length) (hn:n≤9223372036854775807) (hr:RdR17 w A l) :
  Calls Tryz.prog 9 #[.slice A n c] w (zF (.bool (JZ l)) w):=by
 have HR:=za hr
 have HL:=za hl
 clear hr hl
 obtain ⟨r,hr⟩:∃ r,r=JZ l:=⟨_,rfl⟩
 rw [← hr]
 have HRR:=za hr
 clear hr
 go_enter Tryz.func9,Tryz.ntmps9
 go_wp2
 go_loopg [4,7] n (fun gg _ s7 wr=>∃ k:Nat,k≤n∧n - k≤gg∧s7=.int .i64 k∧Hid (Below w.heap.size w wr)∧Hid (∀ j (h:j<l.length),j<k→sm17 l[j]=true))
 case atStart=>exact ⟨0,Nat.zero_le _,by omega,rfl,Below.refl _ _,fun j _ hj=>absurd hj (Nat.not_lt_zero _)⟩
 case round =>
  obtain ⟨k,hk,hg,rfl,HW,A0⟩:=hrel
  by_cases hlt:k<n
  ·
   have hltz:(k:Int)<(n:Int):=by omega
   have hkl:k<l.length:=HL.out ▸ hlt
   obtain ⟨b,off,rfl,c0,c1,c2,c3,c4,c5,c6⟩:=(HR.out.later HW.out).at17 k hkl
   have HX:Hid (sm17 l[k]=true→∀ j (h:j<l.length),j<k+1→sm17 l[j]=true):=fun hq j h hj=>by
    by_cases e:j=k
    ·
     subst e; exact hq
    ·
     exact A0.out j h (by omega)
   have HF:Hid (sm17 l[k]=false→r=false):=fun hf=>by
    rw [HRR.out]
    have:l.all sm17=false:=List.all_eq_false.2 ⟨l[k],List.getElem_mem hkl,by rw [hf]; simp⟩
    unfold JZ
    rw [this]; rfl
   have HB3:=za (z7 HW.out (zb (Below.refl wr.heap.size wr) (.cells #[.int .u8 (l[k].cl:Int),.int .u64 (l[k].n:Int),.int .u8 l[k].o.kd.toNat,.string l[k].o.a,.string l[k].o.b,.int .u8 l[k].o.nd.toNat,.int .u8 l[k].o.rl.toNat] 49)))
   unfold sm17 at HX HF
   clear A0
   generalize l[k].cl=cl at *
   generalize l[k].n=nr at *
   generalize l[k].o.kd=kd at *
   generalize l[k].o.a=nm at *
   generalize l[k].o.b=hs at *
   generalize l[k].o.nd=nd at *
   generalize l[k].o.rl=rl at *
   by_cases h1:nm.size≤100
   ·
    by_cases h2:hs.size≤100
    ·
     have HY:=za (HX.out (by simp [h1,h2]))
     have z1:¬ (nm.size:Int) > 100:=by omega
     have z2:¬ (hs.size:Int) > 100:=by omega
     have y1:¬ 100<nm.size:=by omega
     have y2:¬ 100<hs.size:=by omega
     have x1:decide ((nm.size:Int) > 100)=false:=decide_eq_false z1
     have x2:decide ((hs.size:Int) > 100)=false:=decide_eq_false z2
     clear HX HF
     go_wp2
     go_roundg (n - (k+1))
     case measure=>omega
     case rel=>exact ⟨k+1,by omega,by omega,by go_num,HB3,HY⟩
    ·
     have hr:r=false:=HF.out (by simp [h2])
     subst hr
     have z1:¬ (nm.size:Int) > 100:=by omega
     have z2:(hs.size:Int) > 100:=by omega
     have y1:¬ 100<nm.size:=by omega
     have y2:100<hs.size:=by omega
     have x1:decide ((nm.size:Int) > 100)=false:=decide_eq_false z1
     have x2:decide ((hs.size:Int) > 100)=true:=decide_eq_true z2
     clear HX HF
     go_wp2
     go_ret
     exact ⟨rfl,HB3.out⟩
   ·
    have hr:r=false:=HF.out (by simp [h1])
    subst hr
    have z1:(nm.size:Int) > 100:=by omega
    have y1:100<nm.size:=by omega
    have x1:decide ((nm.size:Int) > 100)=true:=decide_eq_true z1
    clear HX HF
    go_wp2
    go_ret
    exact ⟨rfl,HB3.out⟩
  ·
   have hltz:¬ (k:Int)<(n:Int):=by omega
   obtain rfl:k=n:=by omega
   have hr0:r=decide (k≤60):=by
    rw [HRR.out]
    have:l.all sm17=true:=by
     rw [List.all_eq_true]
     intro x hx
     obtain ⟨j,hj,rfl⟩:=List.getElem_of_mem hx
     exact A0.out j hj (by have:=HL.out; omega)
    unfold JZ
    rw [this,← HL.out]; rfl
   have HZ:=za hr0
   clear A0 hr0
   by_cases h60:k≤60
   ·
    have z:(k:Int)≤60:=by omega
    go_wp2
    go_ret
    exact ⟨by rw [HZ.out,decide_eq_true h60]; rfl,HW.out⟩
   ·
    have z:¬ (k:Int)≤60:=by omega
    go_wp2
    go_ret
    exact ⟨by rw [HZ.out,decide_eq_false h60]; rfl,HW.out⟩

/-! ### Lives -/
def FQ:O14:=⟨15,⟨#[]⟩,⟨#[]⟩,0,0⟩
theorem tabnil17 (a:Option Addr) (w:World):(binOp .eql 64 (.pointer a) (.pointer none)).run Tryz.prog w=.ok (.bool a.isNone) w:=by
 cases a <;> kernel_rfl
theorem hostnil17 (a:Option Addr) (w:World):(binOp .eql 25 (.pointer a) (.pointer none)).run Tryz.prog w=.ok (.bool a.isNone) w:=by
 cases a <;> kernel_rfl
set_option maxRecDepth 100000 in
theorem lives17_calls (w:World) (hl:zX w) (h5:vO w):Calls Tryz.prog 8 #[] w (zF (.bool true) w):=by
 have HNE:Hid (Calls Tryz.prog 10 #[.int .i64 3] w fun e w'=>∃ C,e=.returned (.pointer (some ⟨C,0,none⟩))∧fo w (Vf 3) (.pointer (some ⟨C,0,none⟩)) w'∧Below w.heap.size w w'):=JP 3 w (by decide)
 have HT:Hid (∀ W F H s,QY w W H F s→Calls Tryz.prog 19 #[.pointer (some ⟨H,0,none⟩)] W fun e w'=>∃ C,e=.returned (.pointer (some ⟨C,0,none⟩))∧QY w w' H F s):=fun W F H s h =>
  (UG h.at_).mono fun e w' ⟨C,h1,_,h3⟩=>⟨C,h1,h.later h3⟩
 have HBO:Hid (∀ W F H s,QY w W H F s→Calls Tryz.prog 20 #[.pointer (some ⟨H,0,none⟩)] W fun e w'=>∃ C,e=.returned (.pointer (some ⟨C,0,none⟩))∧QY w w' H F s):=fun W F H s h =>
  (QO h.at_).mono fun e w' ⟨C,h1,_,h3⟩=>⟨C,h1,h.later h3⟩
 have HAP:Hid (∀ W F H s,QY w W H F s→Calls Tryz.prog 15 #[.pointer (some ⟨H,0,none⟩),.agg #[.int .u8 0,.int .u64 1,.int .u8 15,.string ⟨#[]⟩,.string ⟨#[]⟩,.int .u8 0,.int .u8 0]] W fun e w'=>∃ A m c F',e=.returned (.tuple #[.agg #[.int .i64 (yW s 0 1 FQ),.slice A m c],.bool (xg s 0 1 FQ)])∧QY w w' H F' (yV s 0 1 FQ)∧zg F W w'):=fun W F H s h =>
  (QR h.at_ h.good 0 1 FQ (hl.later h.bel) (h5.later h.bel) (by decide) (by decide)).mono fun e w' ⟨A,c,h1,_,h3⟩=>by
   obtain ⟨F',k1,_,k2⟩:=h.goes h3 (h.good.app 0 1 FQ)
   exact ⟨A,_,c,F',h1,k1,k2⟩
 have HDI:Hid (∀ W F H s,QY w W H F s→Calls Tryz.prog 18 #[.pointer (some ⟨H,0,none⟩)] W (qA W (dirB17 s.d))):=fun W F H s h=>dir17_calls h.at_ h.good (h5.later h.bel)
 have e1:yW (Vf 3) 0 1 FQ=13:=by decide +kernel
 have e2:xg (Vf 3) 0 1 FQ=true:=by decide +kernel
 have e3:yW (yV (Vf 3) 0 1 FQ) 0 1 FQ=13:=by decide +kernel
 have e4:xg (yV (Vf 3) 0 1 FQ) 0 1 FQ=false:=by decide +kernel
 have e5:dirB17 (yV (yV (Vf 3) 0 1 FQ) 0 1 FQ).d=[1,0,0]:=by decide +kernel
 have hg:=new17_good (n:=3) (by decide)
 have htn:=fun a w=>tabnil17 (some a) w
 have hbn:=fun a w=>ptrnil17 (some a) w
 have hhn:=fun a w=>hostnil17 (some a) w
 clear hl h5
 go_enter Tryz.func8,Tryz.ntmps8
 go_wp2_with fail
 with_reducible refine HNE.out.mono ?_
 rintro e w1 ⟨H,rfl,h1,h2⟩
 obtain ⟨F,hs,_⟩:=QY.made (Below.refl _ w) h1 h2 hg
 have HS:=za hs
 clear h1 h2 hs HNE hg
 generalize Vf 3=s0 at *
 go_wp2_with fail
 with_reducible refine (HT.out _ _ _ _ HS.out).mono ?_
 rintro e w2 ⟨C,rfl,hs⟩
 have HS2:=za hs
 clear hs HS HT
 go_wp2_with fail
 with_reducible refine (HBO.out _ _ _ _ HS2.out).mono ?_
 rintro e w3 ⟨C2,rfl,hs⟩
 have HS3:=za (hs.later (ze (Below.refl _ w3) (.cells #[.int .u8 0,.int .u64 1,.int .u8 15,.string ⟨#[]⟩,.string ⟨#[]⟩,.int .u8 0,.int .u8 0] 49)))
 have hR:zU (w3.alloc (.cells #[.int .u8 0,.int .u64 1,.int .u8 15,.string ⟨#[]⟩,.string ⟨#[]⟩,.int .u8 0,.int .u8 0] 49)) w3.heap.size 0 1 FQ:=heap_alloc_new w3 _
 have hnF:=hs.ne w3.heap.size (Nat.le_refl _)
 have HR:=za hR
 have HN:=za hnF
 clear hs HS2 HBO hR hnF
 go_wp2_with fail
 generalize w3.alloc (.cells #[.int .u8 0,.int .u64 1,.int .u8 15,.string ⟨#[]⟩,.string ⟨#[]⟩,.int .u8 0,.int .u8 0] 49)=w4 at *
 generalize w3.heap.size=D at *
 with_reducible refine (HAP.out _ _ _ _ HS3.out).mono ?_
 rintro e w5 ⟨A5,m5,c5,F5,rfl,hs,ht⟩
 simp only [e1,e2]
 have HR5:=za (HR.out.turns ht HN.out)
 have HS5:=za (hs.later (ze (Below.refl _ w5) (.cells #[.int .i64 13,.slice A5 m5 c5] 56)))
 have HR6:=za (HR5.out.below (ze (Below.refl _ w5) (.cells #[.int .i64 13,.slice A5 m5 c5] 56)))
 have hnew:(w5.alloc (.cells #[.int .i64 13,.slice A5 m5 c5] 56)).heap[w5.heap.size]? = some (.cells #[.int .i64 13,.slice A5 m5 c5] 56 (0,0)):=heap_alloc_new w5 _
 have HX6:=za hnew
 have hnF:=hs.ne w5.heap.size (Nat.le_refl _)
 have HNX:=za hnF
 have y0:=HR6.out.c0
 have y1:=HR6.out.c1
 have y2:=HR6.out.c2
 have y3:=HR6.out.c3
 have y4:=HR6.out.c4
 have y5:=HR6.out.c5
 have y6:=HR6.out.c6
 clear hs ht HS3 HR5 HR hnF hnew HN HR6
 simp only [FQ] at y2 y3 y4 y5 y6
 generalize yV s0 0 1 FQ=s1 at *
 go_wp2_with fail
 generalize w5.alloc (.cells #[.int .i64 13,.slice A5 m5 c5] 56)=w6 at *
 generalize w5.heap.size=X1 at *
 with_reducible refine (HAP.out _ _ _ _ HS5.out).mono ?_
 rintro e w7 ⟨A7,m7,c7,F7,rfl,hs,ht⟩
 simp only [e3,e4]
 have hx1:w7.heap[X1]? = some (.cells #[.int .i64 13,.slice A5 m5 c5] 56 (0,0)):=(ht.block X1 (Array.getElem?_eq_some_iff.1 HX6.out).1 HNX.out).trans HX6.out
 have hx2:=((ze (Below.refl _ w7) (.cells #[.int .i64 13,.slice A7 m7 c7] 56)).block X1 (Array.getElem?_eq_some_iff.1 hx1).1).trans hx1
 have x0:(w7.alloc (.cells #[.int .i64 13,.slice A7 m7 c7] 56)).cell? ⟨X1,0,none⟩=some (.int .i64 13):=by rw [cell_of_row _ X1 0 _ _ (0,0) hx2]; rfl
 have HS7:=za (hs.later (ze (Below.refl _ w7) (.cells #[.int .i64 13,.slice A7 m7 c7] 56)))
 have HDI7:=za (HDI.out _ _ _ _ HS7.out)
 rw [e5] at HDI7
 unfold qA at HDI7
 have HB7:=za HS7.out.bel
 clear hs ht HS5 HX6 HNX hx1 hx2 HAP HDI HS7 y0 y1 y2 y3 y4 y5 y6 e1 e2 e3 e4 e5
 go_wp2_with fail
 with_reducible refine HDI7.out.mono ?_
 rintro e w8 ⟨v8,rfl,ho,_,hb⟩
 have hr:Rd w8 v8 [1,0,0]:=Rd.of_own ho
 obtain ⟨A8,c8,rfl⟩:=hr.shape
 have hstr:=hr.string (P:=Tryz.prog) (src:=62) (dst:=9) Tryz.underlying62 Tryz.underlying5 Tryz.underlying9
 simp only [List.length_cons,List.length_nil,Nat.zero_add,Nat.reduceAdd] at hstr
 have HB8:=za (zo HB7.out hb)
 clear hr ho hb HDI7 HB7
 go_wp2
 go_ret
 exact ⟨rfl,HB8.out⟩
end Go.Proofs.YteegkoicalbkbaaGreatDoor
