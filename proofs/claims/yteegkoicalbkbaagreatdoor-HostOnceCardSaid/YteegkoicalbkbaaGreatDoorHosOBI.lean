/-
  The texts that the laws of this seat share, part 9: what the code and the document's own answers tell, walked function by function.
  Conditions: each theorem's own.
-/
import Derived.Deep.QuietTactic
import Derived.Lib.OthersKept
import Derived.LaidLaws
import Derived.Handed
import Derived.FnData
import Derived.Stop.Joined
import Derived.Laws.StructEq
import Derived.ChangeKeysEq
import Derived.Test.YteegkoicalbkbaaGreatDoorHosOBH
set_option maxHeartbeats 16000000
namespace Go.Proofs.YteegkoicalbkbaaGreatDoor
open Go.RowKit Go.Maps Go.Sort Go.Shelf
set_option linter.unusedVariables false

def qi (G:List ByteArray):List (List UInt8):=G.map (·.data.toList)

def vp (G:List ByteArray) (pre:List Us) (u:Us):Int :=
 if u.gs.all (fun g=>ft (qi G) g.data.toList) then (if pre.any (fun v=>!(u.ml.data.toList == []) && (u.ml.data.toList == v.ml.data.toList)) then 9 else 0) else 8
def xt (G:List ByteArray):List Us→List Us→Int
 | _,[]=>0
 | pre,u::r=>if vp G pre u=0 then xt G (pre++[u]) r else vp G pre u
def jq (l:List Us) (G:List ByteArray):Int :=
 if XB l=0 then (if yx G then (if yh G then (if G.length≤6 then xt G [] l else 7) else 9) else 10) else XB l
theorem restD_step {G:List ByteArray} {l:List Us} {k:Nat} (hk:k<l.length):xt G (l.take k) (l.drop k)=if vp G (l.take k) l[k]=0 then xt G (l.take (k+1)) (l.drop (k+1)) else vp G (l.take k) l[k]:=by
 rw [List.drop_eq_getElem_cons hk,List.take_succ_eq_append_getElem hk]
 rfl

end Go.Proofs.YteegkoicalbkbaaGreatDoor
namespace Go.Proofs.YteegkoicalbkbaaGreatDoor
open Go.RowKit Go.Maps Go.Shelf
set_option linter.unusedSectionVars false

def MkA11 (A:zu) (W:World) (v:Value) (F:Nat→Prop):Prop:=∃ b,v=.map (some b)∧yO W b A∧F b
def MkM11 (L:zl) (W:World) (v:Value) (F:Nat→Prop):Prop:=∃ M p q LM,v=.pointer (some ⟨M,0,none⟩)∧ua W M p q L LM∧∀ i,js M p q i→F i
def MkG11 (S:zo) (W:World) (v:Value) (F:Nat→Prop):Prop:=∃ G pg T,v=.pointer (some ⟨G,0,none⟩)∧zO W G pg T∧z8 T=S∧∀ i,jt G pg T i→F i
def Vo (w W:World) (A:zu) (L:zl) (S:zo) (P M G:Nat):Prop :=
 ∃ p q LM pg T,yO W P A∧ua W M p q L LM∧zO W G pg T∧z8 T=S∧(∀ i,js M p q i→i≠P)∧(∀ i,jt G pg T i→i≠P)∧(∀ i,js M p q i→jt G pg T i→False)∧(∀ i,i=P∨js M p q i∨jt G pg T i→w.heap.size≤i)
def YCo11 (D P M G:Nat):Nat→Value→Prop
 | 3,v=>v=.map (some P)
 | 7,v=>v=.pointer (some ⟨D,1,none⟩)
 | 8,v=>v=.pointer (some ⟨M,0,none⟩)
 | 12,v=>v=.pointer (some ⟨D,2,none⟩)
 | 13,v=>v=.pointer (some ⟨G,0,none⟩)
 | 4,_=>True
 | 9,_=>True
 | 14,_=>True
 | 15,_=>True
 | 16,_=>True
 | 17,_=>True
 | _,v=>v=.pointer (some ⟨D,0,none⟩)
structure Co11 [Fr11] (w:World) (D P M G:Nat) (A:zu) (L:zl) (S:zo) (E:Nat→Bool) (x:Nat→Value) (W:World):Prop where
 b:Below w.heap.size w W
 y:∀ {j:Nat},E j=true→YCo11 D P M G j (x j)
 f:∃ F4 F9 F14:Nat→Prop,(E 4=true→MkA11 A W (x 4) F4)∧(E 9=true→MkM11 L W (x 9) F9)∧(E 14=true→MkG11 S W (x 14) F14) ∧
  (∀ i,F4 i∨F9 i∨F14 i→w.heap.size≤i∧i<W.heap.size)∧(∀ i,F4 i→F9 i→False)∧(∀ i,F4 i→F14 i→False)∧(∀ i,F9 i→F14 i→False)
 y15:E 15=true→∃ P' M' G',x 15=.agg #[.map (some P'),.pointer (some ⟨M',0,none⟩),.pointer (some ⟨G',0,none⟩)]∧Vo w W A L S P' M' G'
 y16:E 16=true→∃ D' P' M' G',x 16=.pointer (some ⟨D',0,none⟩)∧zt w W D' P' M' G' A L S
 y17:E 17=true→∃ D' P' M' G',x 17=.pointer (some ⟨D',0,none⟩)∧zt w W D' P' M' G' A L S

section
variable [Fr11] {w W W':World} {D P M G:Nat} {A:zu} {L:zl} {S:zo} {E:Nat→Bool} {x:Nat→Value}
theorem Vo.later {P' M' G':Nat} (h:Vo w W A L S P' M' G') (hb:Below W.heap.size W W'):Vo w W' A L S P' M' G':=by
 obtain ⟨p,q,LM,pg,T,h1,h2,h3,h4⟩:=h
 exact ⟨p,q,LM,pg,T,h1.kept (hb.block _ h1.lt),h2.later hb,h3.later hb,h4⟩
theorem MkA11.later {v:Value} {F:Nat→Prop} (h:MkA11 A W v F) (hb:Below W.heap.size W W'):MkA11 A W' v F:=by
 obtain ⟨b,e,h1,h2⟩:=h
 exact ⟨b,e,h1.kept (hb.block _ h1.lt),h2⟩
theorem MkM11.later {v:Value} {F:Nat→Prop} (h:MkM11 L W v F) (hb:Below W.heap.size W W'):MkM11 L W' v F:=by
 obtain ⟨M,p,q,LM,e,h1,h2⟩:=h
 exact ⟨M,p,q,LM,e,h1.later hb,h2⟩
theorem MkG11.later {v:Value} {F:Nat→Prop} (h:MkG11 S W v F) (hb:Below W.heap.size W W'):MkG11 S W' v F:=by
 obtain ⟨G,pg,T,e,h1,h2⟩:=h
 exact ⟨G,pg,T,e,h1.later hb,h2⟩
theorem uU {x:Nat→Value} {i:Nat} {v:Value}:upd x i v i=v:=if_pos rfl
theorem uh {x:Nat→Value} {i j:Nat} {v:Value} (h:j≠i):upd x i v j=x j:=if_neg h
theorem vk {E:Nat→Bool} {i j:Nat} (h:j≠i):ud E i j=E j:=if_neg h
theorem Co11.more (h:Co11 w D P M G A L S E x W) (i:Nat) (v:Value) (hb:Below W.heap.size W W') (hy:YCo11 D P M G i v)
  (h4:i=4→MkA11 A W' v (fun j=>W.heap.size≤j∧j<W'.heap.size)) (h9:i=9→MkM11 L W' v (fun j=>W.heap.size≤j∧j<W'.heap.size)) (h14:i=14→MkG11 S W' v (fun j=>W.heap.size≤j∧j<W'.heap.size))
  (h15:i=15→∃ P' M' G',v=.agg #[.map (some P'),.pointer (some ⟨M',0,none⟩),.pointer (some ⟨G',0,none⟩)]∧Vo w W' A L S P' M' G') (h16:i=16→∃ D' P' M' G',v=.pointer (some ⟨D',0,none⟩)∧zt w W' D' P' M' G' A L S) (h17:i=17→∃ D' P' M' G',v=.pointer (some ⟨D',0,none⟩)∧zt w W' D' P' M' G' A L S) :
  Co11 w D P M G A L S (ud E i) (upd x i v) W':=by
 refine ⟨z7 h.b hb,fun {j} hd=>?_,?_,fun hd=>?_,fun hd=>?_,fun hd=>?_⟩
 ·
  by_cases e:j=i
  ·
   subst e; rw [uU]; exact hy
  ·
   rw [uh e]; rw [vk e] at hd; exact h.y hd
 ·
  obtain ⟨F4,F9,F14,g4,g9,g14,hr,d1,d2,d3⟩:=h.f
  have hs:=hb.size
  have hw:=h.b.size
  by_cases i4:i=4
  ·
   subst i4
   refine ⟨(fun j=>W.heap.size≤j∧j<W'.heap.size),F9,F14,fun _=>by rw [uU]; exact h4 rfl,fun hd=>?_,fun hd=>?_,?_,?_,?_,d3⟩
   ·
    rw [uh (by decide)]; rw [vk (by decide)] at hd; exact (g9 hd).later hb
   ·
    rw [uh (by decide)]; rw [vk (by decide)] at hd; exact (g14 hd).later hb
   ·
    rintro j (h1 | h1 | h1)
    ·
     omega
    ·
     have:=hr j (.inr (.inl h1)); omega
    ·
     have:=hr j (.inr (.inr h1)); omega
   ·
    intro j h1 h2; have:=hr j (.inr (.inl h2)); omega
   ·
    intro j h1 h2; have:=hr j (.inr (.inr h2)); omega
  ·
   by_cases i9:i=9
   ·
    subst i9
    refine ⟨F4,(fun j=>W.heap.size≤j∧j<W'.heap.size),F14,fun hd=>?_,fun _=>by rw [uU]; exact h9 rfl,fun hd=>?_,?_,?_,d2,?_⟩
    ·
     rw [uh (by decide)]; rw [vk (by decide)] at hd; exact (g4 hd).later hb
    ·
     rw [uh (by decide)]; rw [vk (by decide)] at hd; exact (g14 hd).later hb
    ·
     rintro j (h1 | h1 | h1)
     ·
      have:=hr j (.inl h1); omega
     ·
      omega
     ·
      have:=hr j (.inr (.inr h1)); omega
    ·
     intro j h1 h2; have:=hr j (.inl h1); omega
    ·
     intro j h1 h2; have:=hr j (.inr (.inr h2)); omega
   ·
    by_cases i14:i=14
    ·
     subst i14
     refine ⟨F4,F9,(fun j=>W.heap.size≤j∧j<W'.heap.size),fun hd=>?_,fun hd=>?_,fun _=>by rw [uU]; exact h14 rfl,?_,d1,?_,?_⟩
     ·
      rw [uh (by decide)]; rw [vk (by decide)] at hd; exact (g4 hd).later hb
     ·
      rw [uh (by decide)]; rw [vk (by decide)] at hd; exact (g9 hd).later hb
     ·
      rintro j (h1 | h1 | h1)
      ·
       have:=hr j (.inl h1); omega
      ·
       have:=hr j (.inr (.inl h1)); omega
      ·
       omega
     ·
      intro j h1 h2; have:=hr j (.inl h1); omega
     ·
      intro j h1 h2; have:=hr j (.inr (.inl h1)); omega
    ·
     refine ⟨F4,F9,F14,fun hd=>?_,fun hd=>?_,fun hd=>?_,fun j hj=>⟨(hr j hj).1,Nat.lt_of_lt_of_le (hr j hj).2 hs⟩,d1,d2,d3⟩
     ·
      rw [uh (Ne.symm i4)]; rw [vk (Ne.symm i4)] at hd; exact (g4 hd).later hb
     ·
      rw [uh (Ne.symm i9)]; rw [vk (Ne.symm i9)] at hd; exact (g9 hd).later hb
     ·
      rw [uh (Ne.symm i14)]; rw [vk (Ne.symm i14)] at hd; exact (g14 hd).later hb
 ·
  by_cases e:15=i
  ·
   subst e; rw [uU]; exact h15 rfl
  ·
   rw [uh e]; rw [vk e] at hd; obtain ⟨a,b,c,e1,e2⟩:=h.y15 hd; exact ⟨a,b,c,e1,e2.later hb⟩
 ·
  by_cases e:16=i
  ·
   subst e; rw [uU]; exact h16 rfl
  ·
   rw [uh e]; rw [vk e] at hd; obtain ⟨a,b,c,d,e1,e2⟩:=h.y16 hd; exact ⟨a,b,c,d,e1,e2.later hb⟩
 ·
  by_cases e:17=i
  ·
   subst e; rw [uU]; exact h17 rfl
  ·
   rw [uh e]; rw [vk e] at hd; obtain ⟨a,b,c,d,e1,e2⟩:=h.y17 hd; exact ⟨a,b,c,d,e1,e2.later hb⟩
theorem Co11.quiet (h:Co11 w D P M G A L S E x W) (i:Nat) {v:Value} (hy:YCo11 D P M G i v) (hi:[4,9,14,15,16,17].contains i=false:=by rfl):Co11 w D P M G A L S (ud E i) (upd x i v) W :=
 h.more i v (Below.refl _ _) hy (fun e=>by subst e; cases hi) (fun e=>by subst e; cases hi) (fun e=>by subst e; cases hi) (fun e=>by subst e; cases hi) (fun e=>by subst e; cases hi) (fun e=>by subst e; cases hi)
theorem Co11.start (w:World) (x:Nat→Value):Co11 w D P M G A L S (fun _=>false) x w.drew :=
 ⟨zQ (Below.refl _ _),(fun {_} h=>nomatch h),⟨(fun _=>False),(fun _=>False),(fun _=>False),(fun h=>nomatch h),(fun h=>nomatch h),(fun h=>nomatch h),(fun _ h=>by rcases h with h | h | h <;> exact h.elim),(fun _ h _=>h),(fun _ h _=>h),(fun _ h _=>h)⟩,(fun h=>nomatch h),(fun h=>nomatch h),(fun h=>nomatch h)⟩
theorem Co11.trio (h:Co11 w D P M G A L S E x W) (h4:E 4=true) (h9:E 9=true) (h14:E 14=true):∃ P' M' G',x 4=.map (some P')∧x 9=.pointer (some ⟨M',0,none⟩)∧x 14=.pointer (some ⟨G',0,none⟩)∧Vo w W A L S P' M' G':=by
 obtain ⟨F4,F9,F14,g4,g9,g14,hr,d1,d2,d3⟩:=h.f
 obtain ⟨P',e4,a1,a2⟩:=g4 h4
 obtain ⟨M',p,q,LM,e9,b1,b2⟩:=g9 h9
 obtain ⟨G',pg,T,e14,c1,c2,c3⟩:=g14 h14
 refine ⟨P',M',G',e4,e9,e14,p,q,LM,pg,T,a1,b1,c1,c2,fun i hi e=>?_,fun i hi e=>?_,fun i hi hj=>d3 i (b2 i hi) (c3 i hj),fun i hi=>?_⟩
 ·
  subst e; exact d1 i a2 (b2 i hi)
 ·
  subst e; exact d2 i a2 (c3 i hi)
 ·
  rcases hi with rfl | hi | hi
  ·
   exact (hr i (.inl a2)).1
  ·
   exact (hr i (.inr (.inl (b2 i hi)))).1
  ·
   exact (hr i (.inr (.inr (c3 i hi)))).1
theorem trio_own {P' M' G':Nat} (h:Vo w W A L S P' M' G') (hb:Below w.heap.size w W) (hf:Fk11 w):zt w (W.alloc (.cells #[.map (some P'),.pointer (some ⟨M',0,none⟩),.pointer (some ⟨G',0,none⟩)] 240)) W.heap.size P' M' G' A L S:=by
 have ha:=zb (Below.refl W.heap.size W) (.cells #[.map (some P'),.pointer (some ⟨M',0,none⟩),.pointer (some ⟨G',0,none⟩)] 240)
 obtain ⟨p,q,LM,pg,T,h1,h2,h3,h4,h5,h6,h7,h8⟩:=h
 refine ⟨p,q,LM,pg,T,⟨heap_alloc_new W _,h1.kept (ha.block _ h1.lt),h2.later ha,h3.later ha,h5,h6,h7⟩,h4,fun i hi=>?_,Yo.later ⟨hb,hf.later hb⟩ ha⟩
 rcases hi with rfl | hi
 ·
  exact Yo.new ⟨hb,hf.later hb⟩ (Nat.le_refl _)
 ·
  exact Yo.new ⟨Below.refl _ _,hf⟩ (h8 i hi)
end

section
variable [Fr11] {w0 w:World} {D P M G:Nat} {A:zu} {L:zl} {S:zo} {k:Nat}
theorem Ui (ho:zt w0 w D P M G A L S):Calls Tryz.prog 357 #[.map (some P)] w fun e w'=>e=.returned (.map (some w.heap.size))∧yO w' w.heap.size A∧Below w.heap.size w w':=by
 obtain ⟨p,q,LM,pg,T,hd,_⟩:=ho
 exact (AnyW.maps_Clone_owns Tryz.clone11 9 _ P _ _ w hd.acc).mono fun _ _ ⟨he,h1,_,hb⟩=>⟨he,h1,hb⟩
theorem Ji (ho:zt w0 w D P M G A L S):Calls Tryz.prog 358 #[.pointer (some ⟨M,0,none⟩)] w fun e w'=>Below w.heap.size w w'∧∃ v,e=.returned v∧MkM11 L w' v (fun j=>w.heap.size≤j∧j<w'.heap.size):=by
 obtain ⟨p,q,LM,pg,T,hd,_⟩:=ho
 refine (copy9_calls M p q L LM w hd.idx).mono fun e w' ⟨b,p',q',M',he,hz,hb⟩=>⟨hb,_,he,b,p',q',M',rfl,hz.1,fun i hi=>⟨?_,fpM_lt hz.1 hi⟩⟩
 rcases hi with rfl | h | h
 ·
  exact hz.2.1
 ·
  exact hz.2.2.1 i h
 ·
  exact hz.2.2.2 i h
theorem Jj (ho:zt w0 w D P M G A L S) (hk:zD S k):Calls Tryz.prog 359 #[.pointer (some ⟨G,0,none⟩)] w fun e w'=>Below w.heap.size w w'∧∃ v,e=.returned v∧MkG11 S w' v (fun j=>w.heap.size≤j∧j<w'.heap.size):=by
 obtain ⟨p,q,LM,pg,T,hd,rfl,_⟩:=ho
 have hf:=few11 hk
 refine (copy10_calls G pg T w hd.grp (by omega) (named11 hk)).mono fun e w' ⟨b,p',T',he,hz,hS,hb⟩=>⟨hb,_,he,b,p',T',rfl,hz.1,hS,fun i hi=>⟨?_,fpG_lt hz.1 hi⟩⟩
 rcases hi with rfl | h | ⟨x,hx,rfl⟩
 ·
  exact hz.2.1
 ·
  exact hz.2.2.1 i h
 ·
  exact hz.2.2.2 x hx
set_option maxRecDepth 100000 in
theorem QD (ho:zt w0 w D P M G A L S) (hk:zD S k):Calls Tryz.prog 344 #[.pointer (some ⟨D,0,none⟩)] w fun e w'=>∃ D' P' M' G',e=.returned (.pointer (some ⟨D',0,none⟩))∧zt w w' D' P' M' G' A L S:=by
 have HO:=za ho
 have HFK:=za ho.bel.2
 have HKG:=za hk
 clear ho hk
 go_enter Tryz.func344,Tryz.ntmps344
 go_wp2_with fail
 refine vi (by kernel_rfl) (Co11 w D P M G A L S) ?F ?hF (by kernel_rfl) (by kernel_rfl) (fun x=>Co11.start w x) ?step ?fin
 case hF =>
  intro x
  simp only [List.map_cons,List.map_nil,xU,Act.put,List.setIfInBounds_toArray,List.set_cons_zero,List.set_cons_succ,Nat.zero_add,Nat.reduceAdd]
  exact rfl
 case step =>
  refine ⟨?_,?_,?_,?_,?_,?_,?_,?_,?_,?_,?_,?_,?_,?_,?_,?_,?_,?_,trivial⟩
  all_goals intro E x W hi hd hI K hK
  ·
   clear hd
   go_simp
   exact hK _ _ (hI.quiet 0 rfl)
  ·
   have h0:x 0=_:=hI.y (hd 0 rfl)
   clear hd
   simp only [h0] at hK
   go_simp
   exact hK _ _ (hI.quiet 1 rfl)
  ·
   have h1:x 1=_:=hI.y (hd 1 rfl)
   clear hd
   simp only [h1] at hK
   go_simp
   exact hK _ _ (hI.quiet 2 rfl)
  ·
   have h2:x 2=_:=hI.y (hd 2 rfl)
   have c:=(HO.out.later hI.b).c0
   clear hd
   simp only [h2] at hK
   go_simp
   exact hK _ _ (hI.quiet 3 rfl)
  ·
   have h3:x 3=_:=hI.y (hd 3 rfl)
   have hc:=Ui (HO.out.later hI.b)
   clear hd
   simp only [h3] at hK
   go_simp
   refine hc.mono ?_
   rintro e W' ⟨rfl,ha,hb⟩
   exact hK _ _ (hI.more 4 _ hb trivial (fun _=>⟨_,rfl,ha,Nat.le_refl _,ha.lt⟩) (fun e=>absurd e (by decide)) (fun e=>absurd e (by decide)) (fun e=>absurd e (by decide)) (fun e=>absurd e (by decide)) (fun e=>absurd e (by decide)))
  ·
   clear hd
   go_simp
   exact hK _ _ (hI.quiet 5 rfl)
  ·
   have h5:x 5=_:=hI.y (hd 5 rfl)
   clear hd
   simp only [h5] at hK
   go_simp
   exact hK _ _ (hI.quiet 6 rfl)
  ·
   have h6:x 6=_:=hI.y (hd 6 rfl)
   clear hd
   simp only [h6] at hK
   go_simp
   exact hK _ _ (hI.quiet 7 rfl)
  ·
   have h7:x 7=_:=hI.y (hd 7 rfl)
   have c:=(HO.out.later hI.b).c1
   clear hd
   simp only [h7] at hK
   go_simp
   exact hK _ _ (hI.quiet 8 rfl)
  ·
   have h8:x 8=_:=hI.y (hd 8 rfl)
   have hc:=Ji (HO.out.later hI.b)
   clear hd
   simp only [h8] at hK
   go_simp
   refine hc.mono ?_
   rintro e W' ⟨hb,v,rfl,hm⟩
   exact hK _ _ (hI.more 9 _ hb trivial (fun e=>absurd e (by decide)) (fun _=>hm) (fun e=>absurd e (by decide)) (fun e=>absurd e (by decide)) (fun e=>absurd e (by decide)) (fun e=>absurd e (by decide)))
  ·
   clear hd
   go_simp
   exact hK _ _ (hI.quiet 10 rfl)
  ·
   have h10:x 10=_:=hI.y (hd 10 rfl)
   clear hd
   simp only [h10] at hK
   go_simp
   exact hK _ _ (hI.quiet 11 rfl)
  ·
   have h11:x 11=_:=hI.y (hd 11 rfl)
   clear hd
   simp only [h11] at hK
   go_simp
   exact hK _ _ (hI.quiet 12 rfl)
  ·
   have h12:x 12=_:=hI.y (hd 12 rfl)
   have c:=(HO.out.later hI.b).c2
   clear hd
   simp only [h12] at hK
   go_simp
   exact hK _ _ (hI.quiet 13 rfl)
  ·
   have h13:x 13=_:=hI.y (hd 13 rfl)
   have hc:=Jj (HO.out.later hI.b) HKG.out
   clear hd
   simp only [h13] at hK
   go_simp
   refine hc.mono ?_
   rintro e W' ⟨hb,v,rfl,hm⟩
   exact hK _ _ (hI.more 14 _ hb trivial (fun e=>absurd e (by decide)) (fun e=>absurd e (by decide)) (fun _=>hm) (fun e=>absurd e (by decide)) (fun e=>absurd e (by decide)) (fun e=>absurd e (by decide)))
  ·
   obtain ⟨P',M',G',e4,e9,e14,ht⟩:=hI.trio (hd 4 rfl) (hd 9 rfl) (hd 14 rfl)
   clear hd
   simp only [e4,e9,e14] at hK
   go_simp
   exact hK _ _ (hI.more 15 _ (Below.refl _ _) trivial (fun e=>absurd e (by decide)) (fun e=>absurd e (by decide)) (fun e=>absurd e (by decide)) (fun _=>⟨P',M',G',rfl,ht⟩) (fun e=>absurd e (by decide)) (fun e=>absurd e (by decide)))
  ·
   obtain ⟨P',M',G',e15,ht⟩:=hI.y15 (hd 15 rfl)
   clear hd
   simp only [e15] at hK
   go_simp
   exact hK _ _ (hI.more 16 _ (zb (Below.refl _ _) _) trivial (fun e=>absurd e (by decide)) (fun e=>absurd e (by decide)) (fun e=>absurd e (by decide)) (fun e=>absurd e (by decide)) (fun _=>⟨_,P',M',G',rfl,trio_own ht hI.b HFK.out⟩) (fun e=>absurd e (by decide)))
  ·
   obtain ⟨D',P',M',G',e16,ht⟩:=hI.y16 (hd 16 rfl)
   clear hd
   simp only [e16] at hK
   go_simp
   exact hK _ _ (hI.more 17 _ (Below.refl _ _) trivial (fun e=>absurd e (by decide)) (fun e=>absurd e (by decide)) (fun e=>absurd e (by decide)) (fun e=>absurd e (by decide)) (fun e=>absurd e (by decide)) (fun _=>⟨D',P',M',G',rfl,ht⟩))
 case fin =>
  intro E x W hall hI
  obtain ⟨D',P',M',G',e,ho⟩:=hI.y17 (hall 17 (by decide))
  have HF:=za ho
  clear ho hI hall HO HKG HFK
  rw [e]
  go_wp2
  go_ret
  exact ⟨_,_,_,_,rfl,HF.out⟩
end
end Go.Proofs.YteegkoicalbkbaaGreatDoor
namespace Go.Proofs.YteegkoicalbkbaaGreatDoor
open Go.RowKit Go.Maps

section
variable {L:yT W11} {n h:List UInt8}
end





section
variable {T:xo} {kd:Nat} {a b:List UInt8}
end
end Go.Proofs.YteegkoicalbkbaaGreatDoor
namespace Go.Proofs.YteegkoicalbkbaaGreatDoor
open Go.RowKit Go.Maps
set_option linter.unusedSectionVars false
set_option linter.unusedVariables false

section
variable {W W':World} {b kd:Nat} {x y:ByteArray} {z:Bool}
end
section
variable [Fr11] {w0 W:World} {D P M G:Nat} {A:zu} {L:zl} {S:zo} {k:Nat}

end
end Go.Proofs.YteegkoicalbkbaaGreatDoor
namespace Go.Proofs.YteegkoicalbkbaaGreatDoor
open Go.RowKit Go.Maps Go.Shelf


def us11 (q:List UInt8×W11):Us:=⟨yf q.1,q.2.hs,q.2.ml,q.2.dis,q.2.ga,q.2.gs.map yf,q.2.gc⟩
theorem us11_cells (q:List UInt8×W11):(us11 q).cells=(FY q).toArray:=by
 unfold us11 Us.cells FY
 simp
theorem rd_us11 {w:World} {A:Option Addr} {c n:Nat} {R:yT W11} (h:YV w (.slice A n c) R):n=(R.map us11).length∧RdU7 w A (R.map us11):=by
 obtain ⟨A',c',e,hc⟩:=h
 injection e with e1 e2 e3
 subst e1 e2 e3
 refine ⟨by simp,fun hne=>?_⟩
 have h0:0<R.length:=by
  rcases R with _ | ⟨q,r⟩
  ·
   exact absurd rfl hne
  ·
   exact Nat.succ_pos _
 obtain ⟨g,e,hg⟩:=hc 0 h0
 refine ⟨g,0,e,World.block_lt_of_cell? w _ (hg 0 _ rfl),fun i hi j u hu=>?_⟩
 have hi':i<R.length:=by simpa using hi
 obtain ⟨g',e',hg'⟩:=hc i hi'
 rw [e] at e'
 injection e' with e'
 injection e' with e'
 subst e'
 have hu':(FY R[i])[j]? = some u:=by
  rw [List.getElem_map,us11_cells] at hu
  simpa using hu
 have:=hg' j u hu'
 rwa [Nat.zero_add]
structure Short11 (T:xo):Prop where
 few:T.length≤12
 nm:∀ p∈T,p.1.length≤1000
 hs:∀ p∈T,p.2.hs.length≤1000
 ml:∀ p∈T,p.2.ml.length≤1000
 gs:∀ p∈T,∀ g∈p.2.gs,g.length≤1000
theorem short11 {A:zu} {L:zl} {S:zo} {k:Nat} (hg:zn A L S k):Short11 (zm A L S):=by
 have hq:∀ p∈zm A L S,∃ q∈A,p=(q.1,xP L S q.1 q.2):=fun p hp=>by
  obtain ⟨q,hq,e⟩:=List.mem_map.1 hp
  exact ⟨q,hq,e.symm⟩
 refine ⟨by rw [jT]; exact hg.few,fun p hp=>?_,fun p hp=>?_,fun p hp=>?_,fun p hp g hgg=>?_⟩
 ·
  obtain ⟨q,hq,rfl⟩:=hq p hp
  exact Nat.le_trans (qN (hg.nm q hq).1) (by decide)
 ·
  obtain ⟨q,hq,rfl⟩:=hq p hp
  exact fb (hg.nm q hq).2
 ·
  obtain ⟨q,hq,rfl⟩:=hq p hp
  show (yM L q.1).length≤1000
  cases hh:yE L q.1 with
  | false=>rw [xm hh]; simp
  | true =>
   have:=hg.all _ (vm hh)
   exact Nat.le_trans (Zg this.2.1) (by decide)
 ·
  obtain ⟨q,hq,rfl⟩:=hq p hp
  have h1:=jW hgg
  obtain ⟨x,hx,rfl⟩:=List.mem_map.1 h1
  exact Nat.le_trans (qN (hg.grp.named x hx)) (by decide)
theorem us11_ok {w:World} {q:List UInt8×W11} (hr:w.ownsRow 0 9 1 (.slice q.2.ga q.2.gs.length q.2.gc) q.2.gs.length (q.2.gs.map encStr)) (h1:q.1.length≤1000) (h2:q.2.hs.size≤1000) (h3:q.2.ml.size≤1000) (h4:∀ g∈q.2.gs,g.length≤1000):(us11 q).Ok w:=by
 refine ⟨fun hne=>?_,?_,Nat.le_trans h2 (by decide),Nat.le_trans h3 (by decide),fun hn=>?_,?_,?_,fun s hs=>?_⟩
 ·
  have hn0:0<q.2.gs.length:=by
   rcases hq:q.2.gs with _ | ⟨a,r⟩
   ·
    exact absurd (show (us11 q).gs=[] by unfold us11; rw [hq]; rfl) hne
   ·
    exact Nat.succ_pos _
  obtain ⟨g,cx,e,c0⟩:=NmR.at_ (N:=q.2.gs) hr (k:=0) hn0
  injection e with e
  refine ⟨g,0,e,World.block_lt_of_cell? w _ c0,fun j hj=>?_⟩
  have hj':j<q.2.gs.length:=by have:(us11 q).gs.length=q.2.gs.length:=List.length_map _; omega
  obtain ⟨g',cx',e',cj⟩:=NmR.at_ (N:=q.2.gs) hr (k:=j) hj'
  injection e' with e'
  rw [e] at e'
  injection e' with e'
  injection e' with e'
  subst e'
  rw [Nat.zero_add,cj]
  have eg:(us11 q).gs[j]=yf q.2.gs[j]:=List.getElem_map ..
  rw [eg]
 ·
  show (yf q.1).size≤_
  rw [xO]; exact Nat.le_trans h1 (by decide)
 ·
  rcases hr.2 with ⟨e,_⟩ | ⟨g,cap,cur,e,_⟩
  ·
   injection e
  ·
   injection e with e; rw [show q.2.ga=none from hn] at e; cases e
 ·
  show (q.2.gs.map yf).length≤q.2.gc
  rw [List.length_map]
  rcases hr.2 with ⟨e,h0⟩ | ⟨g,cap,cur,e,_,_,r1,_⟩
  ·
   omega
  ·
   injection e with _ _ e; omega
 ·
  rcases hr.2 with ⟨e,h0⟩ | ⟨g,cap,cur,e,_,_,r1,r2,_⟩
  ·
   injection e with _ _ e; show q.2.gc≤_; omega
  ·
   injection e with _ _ e
   show q.2.gc≤_
   have:=r2
   unfold maxLen at this
   omega
 ·
  obtain ⟨g,hg,rfl⟩:=List.mem_map.1 hs
  rw [xO]; exact Nat.le_trans (h4 g hg) (by decide)
section
variable {w0 w:World} {D P M G:Nat} {A:zu} {L:zl} {S:zo} {k:Nat}
end
end Go.Proofs.YteegkoicalbkbaaGreatDoor
namespace Go.Proofs.YteegkoicalbkbaaGreatDoor
open Go.ChangeShapes Go.WideShapes Go.ChangeAt Go.RowKit Go.Deep

structure ActN where
 kd:Nat
 nm:ByteArray
 hs:ByteArray
 is_:Bool
def ActN.cells (t:ActN):List Value:=[.int .u8 (t.kd:Int),.string t.nm,.string t.hs,.bool t.is_]

section
variable {H:Type} {enc:TypeId×Value→H} {W:World} {base:Nat} {sp:Nat→Bool} {hd:Bool} {fuel:Nat}
end
end Go.Proofs.YteegkoicalbkbaaGreatDoor
namespace Go.Proofs.YteegkoicalbkbaaGreatDoor
open Go.RowKit Go.Maps

def qZ (l:List Us):xo:=l.map fun u=>(u.nm.data.toList,⟨u.hs.data.toList,u.ml.data.toList,u.dis,qi u.gs⟩)
def uC (S:zo) (n:List UInt8) (T:List ByteArray):zo:=T.foldl (fun S g=>jb S g.data.toList n) S
def ui (r:Nat→Int):Nat→Nat→Int
 | _,0=>0
 | i,m+1=>if r i=0 then ui r (i+1) m else r i

theorem UG (S:zo) (n:List UInt8) {T:List ByteArray} {i:Nat} (hi:i<T.length):uC S n (T.take (i+1))=jb (uC S n (T.take i)) T[i].data.toList n:=by
 unfold uC
 rw [List.take_succ_eq_append_getElem hi,List.foldl_append]
 rfl
theorem uX:∀ {ss:List ByteArray},yh ss=true→ss.Pairwise fun a b=>bytesBefore a.data.toList b.data.toList=true
 | [],_=>List.Pairwise.nil
 | [_],_=>by simp
 | a::b::r,h=>by
  unfold yh at h
  rw [Bool.and_eq_true] at h
  have ih:=uX (ss:=b::r) h.2
  have hab:bytesBefore a.data.toList b.data.toList=true:=by
   have:=h.1
   unfold vt at this
   rwa [qR] at this
  refine List.pairwise_cons.2 ⟨fun x hx=>?_,ih⟩
  rcases List.mem_cons.1 hx with rfl | hx
  ·
   exact hab
  ·
   exact WideShapes.bytes_trans _ _ _ hab ((List.pairwise_cons.1 ih).1 x hx)
theorem bl_rise11 {G:List ByteArray} (h:yh G=true):ux (qi G):=by
 have:=uX h
 unfold ux qi
 rw [List.pairwise_map]
 exact this
theorem UH {V:Type} {x:List UInt8×V}:∀ {A:yT V},(∀ y∈A,bytesBefore y.1 x.1=true)→QU x A=A++[x]
 | [],_=>rfl
 | y::r,h=>by
  unfold QU
  rw [vF (h y (by simp)),UH (fun z hz=>h z (by simp [hz]))]
  simp
theorem Uw {V:Type} {A:yT V} {n:List UInt8} (a:V) (h:∀ y∈A,bytesBefore y.1 n=true):yR A n a=A++[(n,a)]:=by
 unfold yR
 rw [Va,UH h]
 refine fc.2 fun hm=>?_
 obtain ⟨y,hy,e⟩:=List.mem_map.1 hm
 exact absurd e (qj (h y hy))

/-! ### groups are joined -/
structure J11 (S0 S:zo) (n:List UInt8) (T:List ByteArray) (k:Nat):Prop where
 names:zc S=zc S0
 good:zD S k
 mem:∀ x m,ue S x m=true↔ue S0 x m=true∨(m=n∧x∈qi T)
theorem joE_at11 {S0 S:zo} {n:List UInt8} {T:List ByteArray} {k i:Nat} (hi:i<T.length) (hJ:J11 S0 S n (T.take i) k) (hn:zh n=true) (h5:yx T=true) (hr:yh T=true) (hf:∀ x,ue S0 x n=false) :
  qF S T[i].data.toList n=if ft (zc S0) T[i].data.toList then 0 else 8:=by
 have e1:zz S T[i].data.toList=ft (zc S0) T[i].data.toList:=by rw [Bool.eq_iff_iff,yK,qw,hJ.names]
 have e0:zh T[i].data.toList=true:=by
  unfold yx at h5
  rw [List.all_eq_true] at h5
  exact h5 _ (List.getElem_mem hi)
 have e2:ue S T[i].data.toList n=false:=by
  rw [Bool.eq_false_iff]
  intro h
  rcases (hJ.mem _ _).1 h with h | ⟨_,h⟩
  ·
   rw [hf] at h; cases h
  ·
   obtain ⟨g,hg,e⟩:=List.mem_map.1 h
   obtain ⟨j,hj,rfl⟩:=List.getElem_of_mem hg
   have hj':j<i:=by rw [List.length_take] at hj; omega
   rw [List.getElem_take] at e
   have:=List.pairwise_iff_getElem.1 (uX hr) j i (by omega) hi hj'
   exact absurd e (qj this)
 unfold qF zZ
 rw [e1,e2,e0]
 have:([n]:List (List UInt8)).all zh=true:=by simp [hn]
 rw [this]
 cases ft (zc S0) T[i].data.toList <;> rfl
theorem QR {S0:zo} {n:List UInt8} {T:List ByteArray} {k:Nat} (hg:zD S0 k) (hn:zh n=true) (h5:yx T=true) (hr:yh T=true) (hf:∀ x,ue S0 x n=false) :
  ∀ i,i≤T.length→(∀ g∈T.take i,ft (zc S0) g.data.toList=true)→J11 S0 (uC S0 n (T.take i)) n (T.take i) (k+i)
 | 0,_,_=>⟨rfl,hg,fun x m=>⟨.inl,fun h=>h.elim id (fun h=>absurd h.2 (by simp [qi]))⟩⟩
 | i+1,hi,hall=>by
  have hlt:i<T.length:=hi
  have e3:T.take (i+1)=T.take i++[T[i]]:=List.take_succ_eq_append_getElem hlt
  have ih:=QR hg hn h5 hr hf i (Nat.le_of_succ_le hi) (fun g h=>hall g (by rw [e3]; exact List.mem_append_left _ h))
  have e:=joE_at11 hlt ih hn h5 hr hf
  rw [hall T[i] (by rw [e3]; exact List.mem_append_right _ (List.mem_singleton.2 rfl)),if_pos rfl] at e
  rw [UG S0 n hlt]
  refine ⟨by rw [XU,ih.names],jE ih.good _ n,fun x m=>?_⟩
  rw [QZ ih.good e,ih.mem]
  have:x∈qi (T.take (i+1))↔x∈qi (T.take i)∨x=T[i].data.toList:=by
   rw [e3]
   unfold qi
   rw [List.map_append,List.mem_append,List.map_cons,List.map_nil,List.mem_singleton]
  rw [this]
  constructor
  ·
   rintro ((h | ⟨h1,h2⟩) | ⟨h1,h2⟩)
   ·
    exact .inl h
   ·
    exact .inr ⟨h1,.inl h2⟩
   ·
    exact .inr ⟨h2,.inr h1⟩
  ·
   rintro (h | ⟨h1,h2 | h2⟩)
   ·
    exact .inl (.inl h)
   ·
    exact .inl (.inr ⟨h1,h2⟩)
   ·
    exact .inr ⟨h2,h1⟩

/-! ### users,one by one -/
def St11 (A:zu) (L:zl) (S:zo) (pre:List Us) (G:List ByteArray) (k:Nat):Prop:=qm A L S (qZ pre) (qi G) k∧L.length≤pre.length
theorem plU_names (l:List Us):zc (qZ l)=qi (l.map (·.nm)):=by unfold zc qZ qi; rw [List.map_map,List.map_map]; rfl
theorem St11.below {A:zu} {L:zl} {S:zo} {pre:List Us} {G:List ByteArray} {k:Nat} (h:St11 A L S pre G k) {n:List UInt8} (hup:∀ v∈pre,bytesBefore v.nm.data.toList n=true):∀ y∈A,bytesBefore y.1 n=true:=by
 intro y hy
 have h1:y.1∈zc A:=List.mem_map.2 ⟨y,hy,rfl⟩
 rw [← qM A L S,h.1.2.1,plU_names] at h1
 unfold qi at h1
 rw [List.map_map] at h1
 obtain ⟨v,hv,e⟩:=List.mem_map.1 h1
 rw [← e]
 exact hup v hv
theorem St11.len {A:zu} {L:zl} {S:zo} {pre:List Us} {G:List ByteArray} {k:Nat} (h:St11 A L S pre G k):A.length=pre.length:=by
 rw [← jT A L S,h.1.2.1]; exact List.length_map _
theorem St11.free {A:zu} {L:zl} {S:zo} {pre:List Us} {G:List ByteArray} {k:Nat} (h:St11 A L S pre G k) {n:List UInt8} (hup:∀ v∈pre,bytesBefore v.nm.data.toList n=true):zz A n=false:=by
 refine fc.2 fun hm=>?_
 obtain ⟨y,hy,e⟩:=List.mem_map.1 hm
 exact absurd e (qj (h.below hup y hy))
theorem St11.fresh {A:zu} {L:zl} {S:zo} {pre:List Us} {G:List ByteArray} {k:Nat} (h:St11 A L S pre G k) {n:List UInt8} (hup:∀ v∈pre,bytesBefore v.nm.data.toList n=true) (x:List UInt8):ue S x n=false:=by
 cases hh:ue S x n with
 | false=>rfl
 | true=>have:=h.1.1.mem x n hh; rw [h.free hup] at this; cases this
theorem mail_eq11 {m:ByteArray} (h:fj m=true):qd m.data.toList=m.data.toList∧vu m.data.toList=true:=by
 unfold fj at h
 rw [Bool.or_eq_true,Bool.and_eq_true,decide_eq_true_eq,decide_eq_true_eq] at h
 rcases h with h | ⟨h1,h2⟩
 ·
  have:m.data.toList=[]:=List.length_eq_zero_iff.1 (by rw [zx]; exact h)
  rw [this]
  exact ⟨rfl,by decide⟩
 ·
  refine ⟨?_,by unfold vu; rw [h1,Bool.or_true]⟩
  have h3:(fJ m.data.toList).data.toList=zN m.data.toList:=by unfold fJ; rw [if_pos h1]
  unfold qd
  rw [if_pos h1,← h3,h2]
theorem Xe {A:zu} {L L':zl} {S S':zo} (h:∀ p∈A,yM L' p.1=yM L p.1∧xc S' p.1=xc S p.1) (x:List UInt8×(List UInt8×Bool)):zm (A++[x]) L' S'=zm A L S++[(x.1,xP L' S' x.1 x.2)]:=by
 unfold zm
 rw [List.map_append]
 congr 1
 refine List.map_congr_left fun p hp=>?_
 obtain ⟨h1,h2⟩:=h p hp
 unfold xP
 rw [h1,h2]

theorem step11 {A:zu} {L:zl} {S:zo} {pre:List Us} {G:List ByteArray} {k:Nat} (h:St11 A L S pre G k) (u:Us) (hc:uQ 2 u=0) (hup:∀ v∈pre,bytesBefore v.nm.data.toList u.nm.data.toList=true) (h12:pre.length<12) (hall:u.gs.all (fun g=>ft (qi G) g.data.toList)=true) :
  jy L u.nm.data.toList u.ml.data.toList=(if pre.any (fun v=>!(u.ml.data.toList == []) && (u.ml.data.toList == v.ml.data.toList)) then 9 else 0) ∧
  (jy L u.nm.data.toList u.ml.data.toList=0→St11 (yR A u.nm.data.toList (u.hs.data.toList,u.dis)) (Uu L u.nm.data.toList u.ml.data.toList) (uC S u.nm.data.toList u.gs) (pre++[u]) G (k+8)):=by
 obtain ⟨_,hn,hh⟩:=Vh hc
 obtain ⟨hfo,h6,hns,hri⟩:=Jm hc
 obtain ⟨hfm,him⟩:=mail_eq11 hfo
 have hbel:=h.below hup
 have hfree:=h.free hup
 have hfr:=h.fresh hup
 have hlen:=h.len
 obtain ⟨⟨hg,ht,hN⟩,hL⟩:=h
 obtain ⟨f1,f2,f3⟩:=hg.free hfree
 have hJ:=QR hg.grp hn hns hri hfr u.gs.length (Nat.le_refl _) (fun g hg'=>by
  rw [List.take_length] at hg'
  rw [hN]
  exact List.all_eq_true.1 hall g hg')
 rw [List.take_length] at hJ
 generalize hS':uC S u.nm.data.toList u.gs=S' at *
 have hA1:=Uw (u.hs.data.toList,u.dis) hbel
 have hg1:=hg.put (a:=(u.hs.data.toList,u.dis)) hn hh (by rw [hA1]; simp; omega)
 generalize hAA:yR A u.nm.data.toList (u.hs.data.toList,u.dis)=A1 at *
 have hin:zz A1 u.nm.data.toList=true:=by rw [← hAA]; exact uO.2 (.inl rfl)
 have hg2:zn A1 L S' (k+7):=⟨hg1.rise,hg1.few,hg1.nm,hg1.mir,hg1.all,hg1.has,Nat.le_trans hg.lfew (by omega),hJ.good.mono (by omega),fun x m hm=>by
  rcases (hJ.mem x m).1 hm with hm | ⟨rfl,_⟩
  ·
   exact hg1.mem x m hm
  ·
   exact hin⟩
 have hof:xc S' u.nm.data.toList=qi u.gs:=ur (vc hJ.good.rise _) (bl_rise11 hri) fun x=>by
  rw [xl hJ.good.rise,hJ.mem,hfr]
  simp
 have hof2:∀ m,m≠u.nm.data.toList→xc S' m=xc S m:=fun m hm=>ofT hg.grp.rise hJ.good.rise fun x=>by
  rw [hJ.mem]
  exact ⟨fun h=>h.elim id (fun h=>absurd h.1 hm),.inl⟩
 have hne:∀ p∈A,p.1≠u.nm.data.toList:=fun p hp=>qj (hbel p hp)
 have hsm:=(sm11_eq (A:=A1) (L:=L) u.nm.data.toList u.ml.data.toList).1 ⟨hn,him,hin⟩
 have hone:=sm_one hg2 u.nm.data.toList u.ml.data.toList
 have htl:zm A1 L S'=qZ pre++[(u.nm.data.toList,⟨u.hs.data.toList,[],u.dis,qi u.gs⟩)]:=by
  rw [hA1,Xe (L:=L) (S:=S) (fun p hp=>⟨rfl,hof2 _ (hne p hp)⟩),ht]
  unfold xP
  rw [hof,f2]
 have hE:fi A1 L u.nm.data.toList u.ml.data.toList=(if pre.any (fun v=>!(u.ml.data.toList == []) && (u.ml.data.toList == v.ml.data.toList)) then 9 else 0):=by
  rw [← sm_same hg2]
  unfold dsmE
  rw [hn,him,uo,hin,hfm,htl]
  have:badU (qZ pre++[(u.nm.data.toList,⟨u.hs.data.toList,[],u.dis,qi u.gs⟩)]) u.nm.data.toList u.ml.data.toList=pre.any (fun v=>!(u.ml.data.toList == []) && (u.ml.data.toList == v.ml.data.toList)):=by
   unfold badU qZ
   rw [Bool.eq_iff_iff]
   simp only [List.any_append,List.any_map,List.any_cons,List.any_nil,Bool.or_false,Bool.or_eq_true,List.any_eq_true,Bool.and_eq_true,Bool.not_eq_true',beq_eq_false_iff_ne,beq_iff_eq,Function.comp]
   constructor
   ·
    rintro (⟨v,hv,⟨h1,h2⟩,h3⟩ | ⟨_,h3⟩)
    ·
     exact ⟨v,hv,h1,h2.symm⟩
    ·
     exact absurd rfl h3
   ·
    rintro ⟨v,hv,h1,h2⟩
    exact .inl ⟨v,hv,⟨h1,h2.symm⟩,qj (hup v hv)⟩
  rw [this]
  cases pre.any (fun v=>!(u.ml.data.toList == []) && (u.ml.data.toList == v.ml.data.toList)) <;> rfl
 rw [hsm.1] at hE
 refine ⟨hE,fun h0=>?_⟩
 rw [hsm.2] at hone
 obtain ⟨o1,_,o3⟩:=hone
 refine ⟨⟨o1,?_,?_⟩,?_⟩
 ·
  have hge:∀ x,yM (Uu L u.nm.data.toList u.ml.data.toList) x=if x=u.nm.data.toList then u.ml.data.toList else yM L x:=by
   intro x
   unfold Uu
   rw [if_pos h0]
   by_cases hm:u.ml.data.toList=[]
   ·
    rw [if_pos hm,Zp,hm]
   ·
    rw [if_neg hm,X7 hg.lrise]
    have:zN u.ml.data.toList=u.ml.data.toList:=by
     have hm5:ve u.ml.data.toList=true:=by
      unfold vu at him
      rw [decide_eq_false hm,Bool.false_or] at him
      exact him
     unfold qd at hfm
     rw [if_pos hm5] at hfm
     exact hfm
    rw [this]
  rw [hA1,Xe (L:=L) (S:=S) (fun p hp=>⟨by rw [hge,if_neg (hne p hp)],hof2 _ (hne p hp)⟩),ht]
  unfold xP
  rw [hof,hge,if_pos rfl]
  unfold qZ
  rw [List.map_append]
  rfl
 ·
  rw [hJ.names,hN]
 ·
  have:(Uu L u.nm.data.toList u.ml.data.toList).length≤L.length+1:=by
   unfold Uu
   rw [if_pos h0]
   split
   ·
    exact Nat.le_succ_of_le (List.length_filter_le _ _)
   ·
    rw [vI hg.lrise]; split <;> omega
  rw [List.length_append]
  simp
  omega
theorem st_nil11 {S:zo} {G:List ByteArray} {k:Nat} (hg:zn [] [] S k) (hN:zc S=qi G):St11 [] [] S [] G k:=⟨⟨hg,rfl,hN⟩,Nat.le_refl _⟩
theorem make_step11 {S:zo} {G:List ByteArray} {i:Nat} (hi:i<G.length) (h6:G.length≤6) (h5:yx G=true) (hr:yh G=true) (hg:zn [] [] S i) (hN:zc S=qi (G.take i)) :
  qE S G[i].data.toList=0∧zn [] [] (jr S G[i].data.toList) (i+1)∧zc (jr S G[i].data.toList)=qi (G.take (i+1)):=by
 have e0:zh G[i].data.toList=true:=by
  unfold yx at h5
  rw [List.all_eq_true] at h5
  exact h5 _ (List.getElem_mem hi)
 have hbel:∀ y∈S,bytesBefore y.1 G[i].data.toList=true:=fun y hy=>by
  have h1:y.1∈zc S:=List.mem_map.2 ⟨y,hy,rfl⟩
  rw [hN] at h1
  obtain ⟨g,hg,e⟩:=List.mem_map.1 h1
  obtain ⟨j,hj,rfl⟩:=List.getElem_of_mem hg
  have hj':j<i:=by rw [List.length_take] at hj; omega
  rw [List.getElem_take] at e
  rw [← e]
  exact List.pairwise_iff_getElem.1 (uX hr) j i (by omega) hi hj'
 have hfree:zz S G[i].data.toList=false:=fc.2 fun hm=>by
  obtain ⟨y,hy,e⟩:=List.mem_map.1 hm
  exact absurd e (qj (hbel y hy))
 have hlen:S.length=i:=by
  have:(zc S).length=S.length:=List.length_map _
  rw [← this,hN]
  unfold qi
  rw [List.length_map,List.length_take]
  omega
 have e:qE S G[i].data.toList=0:=by
  unfold qE
  rw [e0,hfree,if_pos rfl,if_neg (by decide),if_neg (by omega)]
 refine ⟨e,(ma_one hg G[i].data.toList).1,?_⟩
 unfold jr
 rw [if_pos e,Uw _ hbel,List.take_succ_eq_append_getElem hi]
 unfold zc qi at *
 rw [List.map_append,List.map_append,hN]
 rfl
theorem one_ev11 (G:List ByteArray) (l:List Us):∀ (m i:Nat),i+m=l.length→ui (fun j=>if hj:j<l.length then vp G (l.take j) l[j] else 0) i m=xt G (l.take i) (l.drop i)
 | 0,i,h=>by
  rw [List.drop_eq_nil_of_le (by omega)]
  rfl
 | m+1,i,h=>by
  have hi:i<l.length:=by omega
  rw [restD_step hi]
  unfold ui
  rw [dif_pos hi,one_ev11 G l m (i+1) (by omega)]
end Go.Proofs.YteegkoicalbkbaaGreatDoor
namespace Go.Proofs.YteegkoicalbkbaaGreatDoor
open Go.RowKit Go.Maps Go.Sort Go.Shelf

theorem FP (r:Nat→Int) {k n:Nat} (h:k<n):ui r k (n - k)=if r k=0 then ui r (k+1) (n - (k+1)) else r k:=by
 obtain ⟨m,rfl⟩:∃ m,n=k+1+m:=⟨n - (k+1),by omega⟩
 rw [show k+1+m - k=m+1 by omega,show k+1+m - (k+1)=m by omega]
 rfl
set_option maxRecDepth 100000 in
theorem qH (g:Nat) (bd lb:Array Value) (A:Option Addr) (n c:Nat) (ss:List ByteArray) (w:World) (r:Nat→Int) (I:Nat→World→Prop) (J:World→Prop) (hl:n=ss.length) (hn:n≤9223372036854775807)
  (eg:∀ args w,(callFunc g args).run Tryz.prog w=.ok (.enter g args) w) (h0:I 0 w) (hr:∀ i W,I i W→RdS W A ss)
  (hs:∀ i (h:i<ss.length) W,I i W→Calls Tryz.prog g (bd++#[.string ss[i]]++lb) W fun e w'=>e=.returned (.int .i64 (r i))∧(r i=0→I (i+1) w')∧(r i≠0→J w')) :
  Calls Tryz.prog 158 #[.slice A n c,.func (.func g) bd lb] w fun e w'=>e=.returned (.int .i64 (ui r 0 n))∧(ui r 0 n=0→I n w')∧(ui r 0 n≠0→J w'):=by
 have HR:=za hr
 have HL:=za hl
 have HS:=za hs
 have H0:=za h0
 clear hr hl hs h0
 obtain ⟨x,hx⟩:∃ x,x=ui r 0 n:=⟨_,rfl⟩
 rw [← hx]
 have HX:Hid (x=ui r 0 (n - 0)):=hx
 clear hx
 go_enter Tryz.func158,Tryz.ntmps158
 go_wp2
 go_loopg [6,7,10] n (fun gg _ _ s10 wr=>∃ k:Nat,k≤n∧n - k≤gg∧s10=.int .i64 k∧Hid (I k wr)∧Hid (x=ui r k (n - k)))
 case atStart=>exact ⟨0,Nat.zero_le _,by omega,rfl,H0,HX⟩
 case round =>
  clear H0 HX
  obtain ⟨k,hk,hg,rfl,HW,HX⟩:=hrel
  by_cases hlt:k<n
  ·
   have hltz:(k:Int)<(n:Int):=by omega
   have hkl:k<ss.length:=HL.out ▸ hlt
   obtain ⟨b,off,rfl,hb,hc⟩:=(HR.out k wr HW.out) (by intro e; rw [e] at hkl; exact absurd hkl (Nat.not_lt_zero _))
   have hcell:=hc k hkl
   have HC:=za (HS.out k hkl wr HW.out)
   have hA:=HX.out
   rw [FP r hlt] at hA
   clear hc hb HX
   generalize ss[k]=s at *
   generalize r k=y at *
   by_cases hy:y=0
   ·
    rw [if_pos hy] at hA
    have HA:=za hA
    subst hy
    clear hA
    go_wp2_with (go_at_fn g; refine HC.out.mono ?_; rintro e w' ⟨rfl,h1,_⟩; have HW2:=za (h1 rfl); clear h1)
    go_roundg (n - (k+1))
    case measure=>omega
    case rel=>exact ⟨k+1,by omega,by omega,by go_num,HW2,HA⟩
   ·
    rw [if_neg hy] at hA
    subst hA
    have hx1:(x != 0)=true:=by simpa using hy
    have HY:=za hy
    clear hy
    go_wp2_with (go_at_fn g; refine HC.out.mono ?_; rintro e w' ⟨rfl,_,h2⟩; have HW2:=za (h2 HY.out); clear h2)
    go_ret
    exact ⟨rfl,fun h=>absurd h HY.out,fun _=>HW2.out⟩
  ·
   have hltz:¬ (k:Int)<(n:Int):=by omega
   obtain rfl:k=n:=by omega
   have hA:=HX.out
   rw [Nat.sub_self] at hA
   have hA0:x=0:=hA
   subst hA0
   clear hA HX
   go_wp2
   go_ret
   exact ⟨rfl,HW.out⟩
set_option maxRecDepth 100000 in
theorem fu (g:Nat) (bd lb:Array Value) (A:Option Addr) (n c:Nat) (l:List Us) (w:World) (r:Nat→Int) (I:Nat→World→Prop) (J:World→Prop) (hl:n=l.length) (hn:n≤9223372036854775807)
  (eg:∀ args w,(callFunc g args).run Tryz.prog w=.ok (.enter g args) w) (h0:I 0 w) (hr:∀ i W,I i W→RdU7 W A l)
  (ha:∀ i W,I i W→∀ b,I i (W.alloc b)) (hs:∀ i (h:i<l.length) W,I i W→Calls Tryz.prog g (bd++#[l[i].v]++lb) W fun e w'=>e=.returned (.int .i64 (r i))∧(r i=0→I (i+1) w')∧(r i≠0→J w')) :
  Calls Tryz.prog 153 #[.slice A n c,.func (.func g) bd lb] w fun e w'=>e=.returned (.int .i64 (ui r 0 n))∧(ui r 0 n=0→I n w')∧(ui r 0 n≠0→J w'):=by
 have HR:=za hr
 have HL:=za hl
 have HS:=za hs
 have H0:=za h0
 have HAL:=za ha
 clear hr hl hs h0 ha
 obtain ⟨x,hx⟩:∃ x,x=ui r 0 n:=⟨_,rfl⟩
 rw [← hx]
 have HX:Hid (x=ui r 0 (n - 0)):=hx
 clear hx
 go_enter Tryz.func153,Tryz.ntmps153
 go_wp2
 go_loopg [6,7,10] n (fun gg _ _ s10 wr=>∃ k:Nat,k≤n∧n - k≤gg∧s10=.int .i64 k∧Hid (I k wr)∧Hid (x=ui r k (n - k)))
 case atStart=>exact ⟨0,Nat.zero_le _,by omega,rfl,H0,HX⟩
 case round =>
  clear H0 HX
  obtain ⟨k,hk,hg,rfl,HW,HX⟩:=hrel
  by_cases hlt:k<n
  ·
   have hltz:(k:Int)<(n:Int):=by omega
   have hkl:k<l.length:=HL.out ▸ hlt
   obtain ⟨b,off,rfl,hb,hc⟩:=(HR.out k wr HW.out) (by intro e; rw [e] at hkl; exact absurd hkl (Nat.not_lt_zero _))
   have c0:wr.cell? ⟨b,off+k * 5,none⟩=some (.string l[k].nm):=hc k hkl 0 _ rfl
   have c1:wr.cell? ⟨b,off+k * 5+1,none⟩=some (.string l[k].hs):=hc k hkl 1 _ rfl
   have c2:wr.cell? ⟨b,off+k * 5+2,none⟩=some (.string l[k].ml):=hc k hkl 2 _ rfl
   have c3:wr.cell? ⟨b,off+k * 5+3,none⟩=some (.bool l[k].dis):=hc k hkl 3 _ rfl
   have c4:wr.cell? ⟨b,off+k * 5+4,none⟩=some (.slice l[k].ga l[k].gs.length l[k].gc):=hc k hkl 4 _ rfl
   have HC:Hid (Calls Tryz.prog g (bd++#[.agg #[.string l[k].nm,.string l[k].hs,.string l[k].ml,.bool l[k].dis,.slice l[k].ga l[k].gs.length l[k].gc]]++lb) (wr.alloc (.cells #[.string l[k].nm,.string l[k].hs,.string l[k].ml,.bool l[k].dis,.slice l[k].ga l[k].gs.length l[k].gc] 192)) fun e w'=>e=.returned (.int .i64 (r k))∧(r k=0→I (k+1) w')∧(r k≠0→J w')):=HS.out k hkl _ (HAL.out k wr HW.out _)
   have hA:=HX.out
   rw [FP r hlt] at hA
   clear hc hb HX
   generalize l[k].nm=nm at *
   generalize l[k].hs=hs at *
   generalize l[k].ml=ml at *
   generalize l[k].dis=dis at *
   generalize l[k].ga=ga at *
   generalize l[k].gs.length=gl at *
   generalize l[k].gc=gc at *
   generalize r k=y at *
   by_cases hy:y=0
   ·
    rw [if_pos hy] at hA
    have HA:=za hA
    subst hy
    clear hA
    go_wp2_with (go_at_fn g; refine HC.out.mono ?_; rintro e w' ⟨rfl,h1,_⟩; have HW2:=za (h1 rfl); clear h1)
    go_roundg (n - (k+1))
    case measure=>omega
    case rel=>exact ⟨k+1,by omega,by omega,by go_num,HW2,HA⟩
   ·
    rw [if_neg hy] at hA
    subst hA
    have hx1:(x != 0)=true:=by simpa using hy
    have HY:=za hy
    clear hy
    go_wp2_with (go_at_fn g; refine HC.out.mono ?_; rintro e w' ⟨rfl,_,h2⟩; have HW2:=za (h2 HY.out); clear h2)
    go_ret
    exact ⟨rfl,fun h=>absurd h HY.out,fun _=>HW2.out⟩
  ·
   have hltz:¬ (k:Int)<(n:Int):=by omega
   obtain rfl:k=n:=by omega
   have hA:=HX.out
   rw [Nat.sub_self] at hA
   have hA0:x=0:=hA
   subst hA0
   clear hA HX
   go_wp2
   go_ret
   exact ⟨rfl,HW.out⟩
set_option maxRecDepth 100000 in
theorem QK (u:Us) (w:World) (h:u.Ok w) (hm:vY w):Calls Tryz.prog 154 #[.agg #[.string u.nm,.string u.hs,.string u.ml,.bool u.dis,.slice u.ga u.gs.length u.gc]] w (yG (uQ 2 u) w):=by
 have hb1:=zb (Below.refl w.heap.size w) (.cells #[.string u.nm,.string u.hs,.string u.ml,.bool u.dis,.slice u.ga u.gs.length u.gc] 192)
 have HC:Hid (Calls Tryz.prog 185 #[.int .i64 2,.agg #[.string u.nm,.string u.hs,.string u.ml,.bool u.dis,.slice u.ga u.gs.length u.gc]] (w.alloc (.cells #[.string u.nm,.string u.hs,.string u.ml,.bool u.dis,.slice u.ga u.gs.length u.gc] 192)) (yG (uQ 2 u) (w.alloc (.cells #[.string u.nm,.string u.hs,.string u.ml,.bool u.dis,.slice u.ga u.gs.length u.gc] 192)))):=YE 2 u _ (h.below hb1) (hm.later hb1)
 have HB:=za hb1
 clear h hm hb1
 generalize uQ 2 u=x at *
 obtain ⟨nm,hs,ml,dis,ga,gs,gc⟩:=u
 dsimp only at *
 generalize gs.length=gl at *
 go_enter Tryz.func154,Tryz.ntmps154
 go_wp2_with (go_at_call 185; (with_reducible refine HC.out.mono ?_); rintro e w2 ⟨rfl,hb⟩; have HB2:=za (z7 HB.out hb); clear hb)
 go_ret
 exact ⟨rfl,HB2.out⟩

theorem J6 {α:Type} (P:α→Bool) (x:Int) (hx:x≠0) (r:Nat→Int):∀ (T:List α) (i:Nat),(∀ j (hj:j<T.length),r (i+j)=if P T[j] then 0 else x)→ui r i T.length=if T.all P then 0 else x
 | [],_,_=>rfl
 | t::T,i,h=>by
  have h0:r i=if P t then 0 else x:=h 0 (by simp)
  have ih:=J6 P x hx r T (i+1) (fun j hj=>by
   have:=h (j+1) (by simp; omega)
   rw [show i+1+j=i+(j+1) by omega]
   exact this)
  show (if r i=0 then ui r (i+1) T.length else r i)=_
  rw [ih,h0,List.all_cons]
  cases P t with
  | true=>simp
  | false=>simp [hx]
theorem ev_may11 (r:Nat→Int):∀ (l:List Us) (i:Nat),(∀ j (hj:j<l.length),r (i+j)=uQ 2 l[j])→ui r i l.length=vq l
 | [],_,_=>rfl
 | u::l,i,h=>by
  have h0:r i=uQ 2 u:=h 0 (by simp)
  have ih:=ev_may11 r l (i+1) (fun j hj=>by
   have:=h (j+1) (by simp; omega)
   rw [show i+1+j=i+(j+1) by omega]
   exact this)
  show (if r i=0 then ui r (i+1) l.length else r i)=_
  rw [ih,h0]
  rfl
theorem FO (r:Nat→Int):∀ (m i:Nat),(∀ j,i≤j→j<i+m→r j=0)→ui r i m=0
 | 0,_,_=>rfl
 | m+1,i,h=>by
  unfold ui
  rw [if_pos (h i (Nat.le_refl _) (by omega))]
  exact FO r m (i+1) fun j h1 h2=>h j (by omega) (by omega)
theorem XL:∀ {l:List Us},vq l=0→∀ u∈l,uQ 2 u=0
 | [],_,u,h=>by cases h
 | x::r,h,u,hu=>by
  unfold vq at h
  by_cases e:uQ 2 x=0
  ·
   rw [if_pos e] at h
   rcases List.mem_cons.1 hu with rfl | hu
   ·
    exact e
   ·
    exact XL h u hu
  ·
   rw [if_neg e] at h
   exact absurd h e
def cE11 (l:List Us) (G:List ByteArray):Int:=zI [vq l,zi (yh (l.map (·.nm))) 9,zi (decide ((l.length:Int)≤12)) 7,zi (yx G) 10,zi (yh G) 9,zi (decide ((G.length:Int)≤6)) 7]
theorem first67:∀ l:List Int,xX l=zI l
 | []=>rfl
 | e::l=>by unfold xX zI; rw [first67 l]
theorem cE_of {l:List Us} {G:List ByteArray}:(cE11 l G≠0→jq l G=cE11 l G)∧(cE11 l G=0→jq l G=xt G [] l):=by
 have h1:cE11 l G=if XB l=0 then (if yx G then (if yh G then (if G.length≤6 then 0 else 7) else 9) else 10) else XB l:=by
  unfold cE11 XB
  rw [first67]
  have h6:decide ((G.length:Int)≤6)=decide (G.length≤6):=by
   by_cases h:G.length≤6
   ·
    rw [decide_eq_true h,decide_eq_true (by omega)]
   ·
    rw [decide_eq_false h,decide_eq_false (by omega)]
  rw [h6]
  generalize vq l=e0
  generalize zi (yh (l.map (·.nm))) 9=e1
  generalize zi (decide ((l.length:Int)≤12)) 7=e2
  unfold zI zI zI zI
  by_cases h0:e0=0
  ·
   subst h0
   by_cases h1:e1=0
   ·
    subst h1
    by_cases h2:e2=0
    ·
     subst h2
     cases yx G <;> cases yh G <;> by_cases hG:G.length≤6 <;> simp [zi,zI,hG]
    ·
     simp [h2]
   ·
    simp [h1]
  ·
   simp [h0]
 rw [h1]
 unfold jq
 by_cases h:XB l=0
 ·
  rw [if_pos h,if_pos h]
  cases yx G <;> cases yh G <;> by_cases hG:G.length≤6 <;> simp [hG]
 ·
  rw [if_neg h,if_neg h]
  exact ⟨fun _=>rfl,fun h'=>absurd h' h⟩
theorem Jo {l:List Us} {G:List ByteArray} (h:cE11 l G=0):(∀ u∈l,uQ 2 u=0)∧yh (l.map (·.nm))=true∧l.length≤12∧yx G=true∧yh G=true∧G.length≤6:=by
 unfold cE11 at h
 have hz:=yN h
 refine ⟨XL (hz _ (by simp)),xH (n:=9) (by decide) (hz _ (by simp)),?_,xH (n:=10) (by decide) (hz _ (by simp)),xH (n:=9) (by decide) (hz (zi (yh G) 9) (by simp)),?_⟩
 ·
  have:=xH (n:=7) (by decide) (hz (zi (decide ((l.length:Int)≤12)) 7) (by simp))
  rw [decide_eq_true_eq] at this
  omega
 ·
  have:=xH (n:=7) (by decide) (hz (zi (decide ((G.length:Int)≤6)) 7) (by simp))
  rw [decide_eq_true_eq] at this
  omega
theorem names_map11 (l:List Us):(l.map fun u=>Value.string u.nm)=xZ (l.map (·.nm)):=by unfold xZ; rw [List.map_map]; rfl

set_option maxRecDepth 100000 in
theorem XD (A:Option Addr) (c n:Nat) (l:List Us) (w:World) (hl:n=l.length) (hn:n≤1000) (hr:RdU7 w A l) :
  Calls Tryz.prog 156 #[.slice A n c] w fun e w'=>∃ A2 c2,e=.returned (.slice A2 n c2)∧RdS w' A2 (l.map (·.nm))∧Below w.heap.size w w':=by
 obtain ⟨i0,hi,hz0,hz1,hz2⟩:=info_parts Zm
 have HR:=za hr
 have HL:=za hl
 have HN:Hid (w.ownsRow w.heap.size 9 1 (.slice none 0 0) 0 ((l.take 0).map fun u=>Value.string u.nm)):=World.ownsRow_nil _ _ _ _
 clear hr hl
 go_enter Tryz.func156,Tryz.ntmps156
 go_wp2
 go_loopg [3,5,8] n (fun gg s3 _ s8 wr=>∃ k:Nat,k≤n∧n - k≤gg∧s8=.int .i64 k∧Hid (Below w.heap.size w wr)∧Hid (wr.ownsRow w.heap.size 9 1 s3 k ((l.take k).map fun u=>Value.string u.nm)))
 case atStart=>exact ⟨0,Nat.zero_le _,by omega,rfl,Below.refl _ _,HN.out⟩
 case round =>
  clear HN
  obtain ⟨k,hk,hg,rfl,HW,HO⟩:=hrel
  by_cases hlt:k<n
  ·
   have hltz:(k:Int)<(n:Int):=by omega
   have hkl:k<l.length:=HL.out ▸ hlt
   obtain ⟨b,off,rfl,hb,hc⟩:=(HR.out.later HW.out) (by intro e; rw [e] at hkl; exact absurd hkl (Nat.not_lt_zero _))
   have c0:wr.cell? ⟨b,off+k * 5,none⟩=some (.string l[k].nm):=hc k hkl 0 _ rfl
   have c1:wr.cell? ⟨b,off+k * 5+1,none⟩=some (.string l[k].hs):=hc k hkl 1 _ rfl
   have c2:wr.cell? ⟨b,off+k * 5+2,none⟩=some (.string l[k].ml):=hc k hkl 2 _ rfl
   have c3:wr.cell? ⟨b,off+k * 5+3,none⟩=some (.bool l[k].dis):=hc k hkl 3 _ rfl
   have c4:wr.cell? ⟨b,off+k * 5+4,none⟩=some (.slice l[k].ga l[k].gs.length l[k].gc):=hc k hkl 4 _ rfl
   have HU2:=za (HO.out.alloc (.cells #[.string l[k].nm,.string l[k].hs,.string l[k].ml,.bool l[k].dis,.slice l[k].ga l[k].gs.length l[k].gc] 192))
   have HW2:=za (z7 HW.out (zb (Below.refl wr.heap.size wr) (.cells #[.string l[k].nm,.string l[k].hs,.string l[k].ml,.bool l[k].dis,.slice l[k].ga l[k].gs.length l[k].gc] 192)))
   have HT:Hid (((l.take (k+1)).map fun u=>Value.string u.nm)=((l.take k).map fun u=>Value.string u.nm)++[.string l[k].nm]):=by
    show _=_
    rw [List.take_succ_eq_append_getElem hkl,List.map_append]
    rfl
   have hsz:=HW.out.size
   clear hc hb HO HW
   generalize l[k].nm=nm at *
   generalize l[k].hs=hs at *
   generalize l[k].ml=ml at *
   generalize l[k].dis=dis at *
   generalize l[k].ga=ga at *
   generalize l[k].gs.length=gl at *
   generalize l[k].gc=gc at *
   go_wp2_with (first
    | (at_builtin; refine wpList_append_own _ rfl _ _ 29 rfl w.heap.size 9 i0 (.string ⟨#[]⟩) 1 16 Tryz.underlying29 hi hz0 hz1 hz2 rfl (by decide) _ _ _ rfl (HU2.out.alloc _) ⟨wr.heap.size+1,0,none⟩ 1 1 [.string nm] rfl rfl (fun j u hu=>by rw [Addr.add_lit,Nat.zero_add,World.cell?_alloc_at _ _ _ _ (by simp)]; simpa using hu) (by simp [Value.oneCell']) (by unfold maxLen; omega) (by omega) (by simp; omega) ?_; intro v2 w2 hown' hgrow _; have HOw2:=za hown'; have HGw2:=za hgrow; clear hown' hgrow)
    | fail)
   have R1:=za (app10 HW2.out HU2.out HGw2.out)
   have R2:Hid (w2.ownsRow w.heap.size 9 1 v2 (k+1) ((l.take (k+1)).map fun u=>Value.string u.nm)):=by
    show World.ownsRow _ _ _ _ _ _ _
    rw [HT.out]
    exact HOw2.out
   clear HT HOw2 HGw2 HU2 HW2
   go_roundg (n - (k+1))
   case measure=>omega
   case rel=>exact ⟨k+1,by omega,by omega,by go_num,R1,R2⟩
  ·
   have hltz:¬ (k:Int)<(n:Int):=by omega
   obtain rfl:k=n:=by omega
   have hown:=HO.out
   rw [List.take_of_length_le (by have:=HL.out; omega)] at hown
   have hsh:∃ A2 c2,u3=.slice A2 k c2∧RdS wr A2 (l.map (·.nm)):=by
    have hk':k=(l.map (·.nm)).length:=by rw [List.length_map]; exact HL.out
    have hs:∃ A2 c2,u3=.slice A2 k c2:=by
     have e:(l.map fun u=>Value.string u.nm)=(l.map fun u=>u.nm.data.toList).map encStr:=by
      rw [List.map_map]
      refine List.map_congr_left fun u _=>?_
      exact (J7 u.nm).symm
     rw [e] at hown
     have hk2:k=(l.map fun u=>u.nm.data.toList).length:=by rw [List.length_map]; exact HL.out
     rw [hk2] at hown ⊢
     exact xL hown
    obtain ⟨A2,c2,rfl⟩:=hs
    refine ⟨A2,c2,rfl,?_⟩
    have h2:=zy hown (Nat.zero_le _)
    rw [names_map11] at h2
    rw [hk'] at h2
    exact jU h2
   obtain ⟨A2,c2,rfl,hrd⟩:=hsh
   have HF:=za hrd
   have HB:=za HW.out
   clear hrd hown HO HW
   go_wp2
   go_ret
   exact ⟨A2,⟨c2,rfl⟩,HF.out,HB.out⟩
set_option maxRecDepth 100000 in
theorem Yu (Aa:Option Addr) (n c:Nat) (ss:List ByteArray) (w:World) (hl:n=ss.length) (hr:RdS w Aa ss) (hm:n≤9223372036854775807) :
  Calls Tryz.prog 155 #[.slice Aa n c] w fun e w'=>e=.returned (.int .i64 (zi (yh ss) 9))∧∃ q,w'=w.drewN q:=by
 have HR:=za hr
 have HL:=za hl
 clear hr hl
 obtain ⟨r,hr⟩:∃ r,r=zi (yh ss) 9:=⟨_,rfl⟩
 rw [← hr]
 have HE:=za hr
 clear hr
 go_enter Tryz.func155,Tryz.ntmps155
 go_wp2
 go_loopg [3] n (fun gg s3 wr=>∃ k:Nat,(k≤n∨k=1)∧1≤k∧n - k≤gg∧s3=.int .i64 k∧(∃ q,wr=w.drewN q)∧Hid (∀ j (h:j+1<ss.length),j+1<k→vt ss[j] ss[j+1]=true))
 case atStart=>exact ⟨1,.inr rfl,Nat.le_refl _,by omega,rfl,⟨0,rfl⟩,fun j _ hj=>absurd hj (by omega)⟩
 case round =>
  obtain ⟨k,hk,hk1,hg,rfl,⟨q,hq⟩,A⟩:=hrel
  have HQ:=za hq
  have HW:Hid (RdS wr Aa ss):=by rw [hq]; exact HR.out.below (zJ (Below.refl w.heap.size w) q)
  clear hq
  by_cases hlt:k<n
  ·
   have hltz:(k:Int)<(n:Int):=by omega
   have hkl:k<ss.length:=HL.out ▸ hlt
   have hkl':k - 1<ss.length:=by omega
   obtain ⟨b,off,hA,hcell⟩:=HW.out.at6 k hkl
   obtain ⟨b',off',hA',hcell'⟩:=HW.out.at6 (k - 1) hkl'
   obtain ⟨rfl,rfl⟩:b'=b∧off'=off:=by
    rw [hA] at hA'
    simp at hA'
    exact ⟨hA'.1.symm,hA'.2.symm⟩
   subst hA
   have zk:(k:Int) - 1=((k - 1:Nat):Int):=by omega
   have z1:((k - 1:Nat):Int)<(n:Int):=by omega
   have hcw:∀ i,(wr.drewN i).cell? ⟨b',off'+k,none⟩=some (.string ss[k]):=fun i=>hcell
   have hcw':∀ i,(wr.drewN i).cell? ⟨b',off'+(k - 1),none⟩=some (.string ss[k - 1]):=fun i=>hcell'
   have HX:Hid (vt ss[k - 1] ss[k]=true→∀ j (h:j+1<ss.length),j+1<k+1→vt ss[j] ss[j+1]=true):=fun hq j h hj=>by
    by_cases e:j=k - 1
    ·
     subst e
     have e2:k - 1+1=k:=by omega
     have:ss[k - 1+1]=ss[k]:=by congr 1
     rw [this]; exact hq
    ·
     exact A.out j h (by omega)
   have HF:Hid (vt ss[k - 1] ss[k]=false→r=9):=fun hf=>by
    rw [HE.out]
    have:yh ss=false:=Xv ss (k - 1) (by omega) (by
     have:ss[k - 1+1]=ss[k]:=by congr 1; omega
     rw [this]; exact hf)
    rw [this]; rfl
   have HC:Hid (∀ W,Calls Tryz.prog 188 #[.string ss[k - 1],.string ss[k]] W fun e w'=>e=.returned (.int .i64 (Lib.compareBytes ss[k - 1].data.toList ss[k].data.toList))∧w'=W):=fun W=>jg _ _ W
   have HD:Hid (vt ss[k - 1] ss[k]=decide (Lib.compareBytes ss[k - 1].data.toList ss[k].data.toList<0)):=rfl
   generalize Lib.compareBytes ss[k - 1].data.toList ss[k].data.toList=cm at *
   generalize vt ss[k - 1] ss[k]=q6 at *
   generalize ss[k]=x at *
   generalize ss[k - 1]=y at *
   clear A hcell hcell'
   have hwr:IntKind.i64.wrap ((k - 1:Nat):Int)=((k - 1:Nat):Int):=IntWalk.i64_in _ (by omega)
   by_cases hc:cm<0
   ·
    have hq:q6=true:=by rw [HD.out,decide_eq_true hc]
    have HY:=za (HX.out hq)
    have hcd:decide (cm ≥ 0)=false:=decide_eq_false (by omega)
    have hc2:¬ cm ≥ 0:=by omega
    have hc3:¬ 0≤cm:=by omega
    clear HX HF HD hq
    go_wp2
    go_quiet (first | (go_at_call 188; exact Calls.quiet_of_same (HC.out _)))
    go_wp2
    go_roundg (n - (k+1))
    case measure=>omega
    case rel=>exact ⟨k+1,.inl (by omega),by omega,by omega,by go_num,⟨q+nq,by rw [HQ.out,World.drewN_drewN]⟩,HY⟩
   ·
    have hq:q6=false:=by rw [HD.out,decide_eq_false hc]
    have hr9:r=9:=HF.out hq
    subst hr9
    have hc2:cm ≥ 0:=by omega
    have hc3:0≤cm:=by omega
    clear HX HF HD hq
    go_wp2
    go_quiet (first | (go_at_call 188; exact Calls.quiet_of_same (HC.out _)))
    go_wp2
    go_ret
    exact ⟨rfl,q+nq,by rw [HQ.out,World.drewN_drewN]⟩
  ·
   have hltz:¬ (k:Int)<(n:Int):=by omega
   have hr0:r=0:=by
    rw [HE.out]
    have:yh ss=true:=Xw ss (fun j h=>A.out j h (by have:=HL.out; omega))
    rw [this]; rfl
   subst hr0
   clear A
   go_wp2
   go_ret
   exact ⟨rfl,q,HQ.out⟩


/-! ### a user is added -/
def YJn11 (D G C1:Nat) (g n:ByteArray):Nat→Value→Prop
 | 2,v=>v=.pointer (some ⟨D,2,none⟩)
 | 3,v=>v=.pointer (some ⟨G,0,none⟩)
 | 4,v=>v=.string g
 | 5,v=>v=.pointer (some ⟨C1,0,none⟩)
 | 6,v=>v=.string n
 | _,v=>v=.pointer (some ⟨D,0,none⟩)
def YJnW11 (D G C1:Nat) (g n:ByteArray) (j:Nat) (v:Value) (_:World):Prop:=YJn11 D G C1 g n j v
section
variable {w0 w:World} {D P M G:Nat} {A:zu} {L:zl} {S:zo} {k:Nat}
set_option maxRecDepth 100000 in
theorem Uk (C0 C1:Nat) (g n:ByteArray) (ho:zt w0 w D P M G A L S) (hk:zD S k) (h9:k≤900) (hc0:w.cell? ⟨C0,0,none⟩=some (.pointer (some ⟨D,0,none⟩))) (hc1:w.cell? ⟨C1,0,none⟩=some (.string n)) (hg:g.size≤9223372036854775807) (hn:n.size≤9223372036854775807) :
  Calls Tryz.prog 199 #[.string g,.pointer (some ⟨C0,0,none⟩),.pointer (some ⟨C1,0,none⟩)] w fun e w'=>e=.returned (.int .i64 (qF S g.data.toList n.data.toList))∧zE w0 w D P M G A L (jb S g.data.toList n.data.toList) w':=by
 have HO:=za ho
 have HST:Hid (∀ W,Below w.heap.size w W→Calls Tryz.prog 200 #[.pointer (some ⟨G,0,none⟩),.string g,.string n] W fun e w'=>e=.returned (.int .i64 (qF S g.data.toList n.data.toList))∧zE w0 w D P M G A L (jb S g.data.toList n.data.toList) w'):=fun W hb =>
  ((ho.later hb).gjoin hk h9 g n hg hn).mono fun e w' ⟨he,hgo⟩=>⟨he,hgo.ahead hb⟩
 have HC0:Hid (∀ W,Below w.heap.size w W→W.cell? ⟨C0,0,none⟩=some (.pointer (some ⟨D,0,none⟩))):=fun W hb=>(hb.cell (p:=⟨C0,0,none⟩) (World.block_lt_of_cell? w _ hc0)).trans hc0
 have HC1:Hid (∀ W,Below w.heap.size w W→W.cell? ⟨C1,0,none⟩=some (.string n)):=fun W hb=>(hb.cell (p:=⟨C1,0,none⟩) (World.block_lt_of_cell? w _ hc1)).trans hc1
 clear ho hk h9 hc0 hc1 hg hn
 generalize qF S g.data.toList n.data.toList=r at *
 generalize jb S g.data.toList n.data.toList=S' at *
 go_enter Tryz.func199,Tryz.ntmps199
 go_wp2_with fail
 refine zB (by kernel_rfl) 7 (fun W=>Below w.heap.size w W) (fun W=>zE w0 w D P M G A L S' W) (YJnW11 D G C1 g n) (fun v=>v=.int .i64 r) ?F ?hF (by kernel_rfl) (by kernel_rfl) (by kernel_rfl) (by kernel_rfl) (by decide) (zQ (Below.refl _ _)) ?step ?fin
 case hF =>
  intro x
  simp only [List.map_cons,List.map_nil,xU,Act.put,List.setIfInBounds_toArray,List.set_cons_zero,List.set_cons_succ,Nat.zero_add,Nat.reduceAdd]
  exact rfl
 case step =>
  refine ⟨?_,?_,?_,?_,?_,?_,?_,?_,?_,trivial⟩
  ·
   intro x W
   refine ⟨fun _ hW hdep K hK=>?_,(fun h=>absurd h (by decide)),(fun h=>absurd h (by decide))⟩
   have c:=HC0.out W hW
   clear hdep
   go_simp
   exact hK _ _ rfl hW (fun _ _ h=>h)
  ·
   intro x W
   refine ⟨fun _ hW hdep K hK=>?_,(fun h=>absurd h (by decide)),(fun h=>absurd h (by decide))⟩
   have h0:x 0=_:=hdep 0 rfl
   clear hdep
   simp only [h0] at hK
   go_simp
   exact hK _ _ rfl hW (fun _ _ h=>h)
  ·
   intro x W
   refine ⟨fun _ hW hdep K hK=>?_,(fun h=>absurd h (by decide)),(fun h=>absurd h (by decide))⟩
   have h1:x 1=_:=hdep 1 rfl
   clear hdep
   simp only [h1] at hK
   go_simp
   exact hK _ _ rfl hW (fun _ _ h=>h)
  ·
   intro x W
   refine ⟨fun _ hW hdep K hK=>?_,(fun h=>absurd h (by decide)),(fun h=>absurd h (by decide))⟩
   have h2:x 2=_:=hdep 2 rfl
   have c:=(HO.out.later hW).c2
   clear hdep
   simp only [h2] at hK
   go_simp
   exact hK _ _ rfl hW (fun _ _ h=>h)
  ·
   intro x W
   refine ⟨fun _ hW hdep K hK=>?_,(fun h=>absurd h (by decide)),(fun h=>absurd h (by decide))⟩
   clear hdep
   go_simp
   exact hK _ _ rfl hW (fun _ _ h=>h)
  ·
   intro x W
   refine ⟨fun _ hW hdep K hK=>?_,(fun h=>absurd h (by decide)),(fun h=>absurd h (by decide))⟩
   clear hdep
   go_simp
   exact hK _ _ rfl hW (fun _ _ h=>h)
  ·
   intro x W
   refine ⟨fun _ hW hdep K hK=>?_,(fun h=>absurd h (by decide)),(fun h=>absurd h (by decide))⟩
   have h5:x 5=_:=hdep 5 rfl
   have c:=HC1.out W hW
   clear hdep
   simp only [h5] at hK
   go_simp
   exact hK _ _ rfl hW (fun _ _ h=>h)
  ·
   intro x W
   refine ⟨(fun h=>absurd h (by decide)),fun _ hW hdep K hK=>?_,(fun h=>absurd h (by decide))⟩
   have h3:x 3=_:=hdep 3 rfl
   have h4:x 4=_:=hdep 4 rfl
   have h6:x 6=_:=hdep 6 rfl
   have hc:=HST.out W hW
   clear hdep
   simp only [h3,h4,h6] at hK
   go_simp
   refine hc.mono ?_
   rintro e W' ⟨rfl,hg⟩
   exact hK _ _ rfl hg
  ·
   intro x W
   refine ⟨(fun h=>absurd h (by decide)),(fun h=>absurd h (by decide)),fun _ hW hdep K hK=>?_⟩
   have h7:x 7=_:=hdep 7 rfl (by decide)
   clear hdep
   simp only [h7] at hK
   go_simp
   exact hK _ rfl
 case fin =>
  intro x W hW hZ
  have h8:x 8=.int .i64 r:=hZ 8 (by decide) (by decide)
  have HF:=za hW
  clear hW hZ HST HO HC0 HC1
  rw [h8]
  go_wp2
  go_ret
  exact ⟨rfl,HF.out⟩
def Jn11 (w0 w1:World) (D P M G:Nat) (A:zu) (L:zl) (S:zo) (u:Us) (N:List (List UInt8)) (i:Nat) (W:World):Prop :=
 zt w0 W D P M G A L (uC S u.nm.data.toList (u.gs.take i))∧yF w1 W∧∀ g∈u.gs.take i,ft N g.data.toList=true
theorem XT {w1 W:World} {b:Nat} {c:Array Value} {T:TypeId} {fr:Nat×Nat} (h:yF w1 W) (hb:w1.heap[b]? = some (.cells c T fr)) (h1:T≠240) (h2:T≠290) (h3:T≠278) (j:Nat):W.cell? ⟨b,j,none⟩=w1.cell? ⟨b,j,none⟩:=by
 have:=h b c T fr hb h1 h2 h3
 unfold World.cell?
 rw [this,hb]
set_option maxRecDepth 100000 in
theorem add11_calls {pre:List Us} {Gs:List ByteArray} (u:Us) (ho:zt w0 w D P M G A L S) (hg:St11 A L S pre Gs k) (h9:k≤800) (hc:uQ 2 u=0) (hup:∀ v∈pre,bytesBefore v.nm.data.toList u.nm.data.toList=true) (h12:pre.length<12) (hu:u.Ok w0) (h5:vY w0) :
  Calls Tryz.prog 161 #[.pointer (some ⟨D,0,none⟩),.agg #[.string u.nm,.string u.hs,.string u.ml,.bool u.dis,.slice u.ga u.gs.length u.gc]] w fun e w'=>e=.returned (.int .i64 (vp Gs pre u)) ∧
   (vp Gs pre u=0→zt w0 w' D P M G (yR A u.nm.data.toList (u.hs.data.toList,u.dis)) (Uu L u.nm.data.toList u.ml.data.toList) (uC S u.nm.data.toList u.gs))∧(vp Gs pre u≠0→Below w0.heap.size w0 w'):=by
 obtain ⟨_,hn5,hh5⟩:=Vh hc
 obtain ⟨hfo,h6,hns,hri⟩:=Jm hc
 have hN:zc S=qi Gs:=hg.1.2.2
 have hst:=step11 hg u hc hup h12
 have hL:=hg.2
 have hAl:=hg.len
 have hfr:=hg.fresh hup
 have hG10:=hg.1.1.grp
 obtain ⟨w1,hw1⟩:∃ w1,w1=(w.alloc (.cells #[.pointer (some ⟨D,0,none⟩)] 146)).alloc (.cells #[.string u.nm,.string u.hs,.string u.ml,.bool u.dis,.slice u.ga u.gs.length u.gc] 192):=⟨_,rfl⟩
 have hb1:Below w.heap.size w w1:=by rw [hw1]; exact zb (zb (Below.refl _ _) _) _
 have ka:(w.alloc (.cells #[.pointer (some ⟨D,0,none⟩)] 146)).heap[w.heap.size]? = some (.cells #[.pointer (some ⟨D,0,none⟩)] 146 (0,0)):=(MapKept.heap_alloc w _).1
 have ks:(w.alloc (.cells #[.pointer (some ⟨D,0,none⟩)] 146)).heap.size=w.heap.size+1:=by simp
 have k0:w1.heap[w.heap.size]? = some (.cells #[.pointer (some ⟨D,0,none⟩)] 146 (0,0)):=by rw [hw1]; exact ((zb (Below.refl _ _) _).block w.heap.size (by omega)).trans ka
 have k1:w1.heap[w.heap.size+1]? = some (.cells #[.string u.nm,.string u.hs,.string u.ml,.bool u.dis,.slice u.ga u.gs.length u.gc] 192 (0,0)):=by rw [hw1,← ks]; exact (MapKept.heap_alloc _ _).1
 have hcell0:∀ W,yF w1 W→W.cell? ⟨w.heap.size,0,none⟩=some (.pointer (some ⟨D,0,none⟩)):=fun W hk=>(XT hk k0 (by decide) (by decide) (by decide) 0).trans (by simp [World.cell?,k0])
 have hcell1:∀ W j,yF w1 W→W.cell? ⟨w.heap.size+1,j,none⟩=(#[.string u.nm,.string u.hs,.string u.ml,.bool u.dis,.slice u.ga u.gs.length u.gc]:Array Value)[j]? := fun W j hk=>(XT hk k1 (by decide) (by decide) (by decide) j).trans (by simp [World.cell?,k1])
 have hI0:Jn11 w0 w1 D P M G A L S u (qi Gs) 0 w1:=⟨ho.later hb1,yF.refl _,fun g hg=>by simp at hg⟩
 have hE:=qH 199 #[] #[.pointer (some ⟨w.heap.size,0,none⟩),.pointer (some ⟨w.heap.size+1,0,none⟩)] u.ga u.gs.length u.gc u.gs w1 (fun i=>if h:i<u.gs.length then (if ft (qi Gs) u.gs[i].data.toList then 0 else 8) else 0) (Jn11 w0 w1 D P M G A L S u (qi Gs)) (fun W=>Below w0.heap.size w0 W) rfl (Nat.le_trans hu.len hu.cap)
  (enters_of Tryz.func199 (by kernel_rfl) rfl) hI0 (fun i W hI=>hu.rd.below hI.1.below) (fun i hi W hI=>by
   obtain ⟨h1,h2,h3⟩:=hI
   have hJ:=QR hG10 hn5 hns hri hfr i (Nat.le_of_lt hi) (fun g hg=>by rw [hN]; exact h3 g hg)
   have hj:=joE_at11 hi hJ hn5 hns hri hfr
   rw [hN] at hj
   refine (Uk w.heap.size (w.heap.size+1) u.gs[i] u.nm h1 hJ.good (by omega) (hcell0 W h2) (by rw [hcell1 W 0 h2]; rfl) (hu.all _ (List.getElem_mem hi)) (Nat.le_trans hu.nm (by decide))).mono ?_
   rintro e w' ⟨he,hgo⟩
   rw [dif_pos hi]
   rw [hj] at he
   refine ⟨he,fun h0=>?_,fun _=>hgo.1.below⟩
   refine ⟨by rw [UG S _ hi]; exact hgo.1,h2.trans hgo.2,fun g hg=>?_⟩
   rw [List.take_succ_eq_append_getElem hi,List.mem_append] at hg
   rcases hg with hg | hg
   ·
    exact h3 g hg
   ·
    rw [List.mem_singleton] at hg
    subst hg
    by_cases hh:ft (qi Gs) u.gs[i].data.toList=true
    ·
     exact hh
    ·
     rw [if_neg hh] at h0; exact absurd h0 (by decide))
 have hev:ui (fun i=>if h:i<u.gs.length then (if ft (qi Gs) u.gs[i].data.toList then 0 else 8) else 0) 0 u.gs.length=if u.gs.all (fun g=>ft (qi Gs) g.data.toList) then 0 else 8 :=
  J6 (fun g:ByteArray=>ft (qi Gs) g.data.toList) 8 (by decide) _ u.gs 0 (fun j hj=>by
   simp only [Nat.zero_add]
   rw [dif_pos hj])
 rw [hev] at hE
 have hone:vp Gs pre u=if u.gs.all (fun g=>ft (qi Gs) g.data.toList) then (if pre.any (fun v=>!(u.ml.data.toList == []) && (u.ml.data.toList == v.ml.data.toList)) then 9 else 0) else 8:=rfl
 obtain ⟨r,hr⟩:∃ r,r=vp Gs pre u:=⟨_,rfl⟩
 rw [← hr]
 rw [hone] at hr
 have HRR:=za hr
 clear hr
 have HE:=za hE
 have HNS:u.nm.size≤1000:=vE hn5
 have HHS:u.hs.size≤1000:=fM hh5
 have HML:u.ml.size≤9223372036854775807:=Nat.le_trans hu.ml (by decide)
 have HPUT:Hid (∀ W,zt w0 W D P M G A L (uC S u.nm.data.toList u.gs)→Calls Tryz.prog 201 #[.pointer (some ⟨D,0,none⟩),.string u.nm,.agg #[.string u.hs,.bool u.dis]] W fun e w'=>e=.returned (.tuple #[])∧zE w0 W D P M G (yR A u.nm.data.toList (u.hs.data.toList,u.dis)) L (uC S u.nm.data.toList u.gs) w'):=fun W h=>uY u.nm u.hs u.dis h (by omega) HNS HHS
 have HPM:Hid (∀ W,zt w0 W D P M G (yR A u.nm.data.toList (u.hs.data.toList,u.dis)) L (uC S u.nm.data.toList u.gs)→Calls Tryz.prog 202 #[.pointer (some ⟨D,0,none⟩),.string u.nm,.string u.ml] W fun e w'=>e=.returned (.int .i64 (jy L u.nm.data.toList u.ml.data.toList))∧zE w0 W D P M G (yR A u.nm.data.toList (u.hs.data.toList,u.dis)) (Uu L u.nm.data.toList u.ml.data.toList) (uC S u.nm.data.toList u.gs) w'):=fun W h =>
  jB u.nm u.ml h (by omega) (h5.later h.below) HNS HML
 have HCL0:=za hcell0
 have HCL1:=za hcell1
 have HST:=za hst
 have hmf:=mkf
 clear hst hE hI0 hcell0 hcell1 hone hev hN hL hAl hfr hG10 hg hc hup h12 hu h5 hn5 hh5 hfo h6 hns hri HNS HHS HML h9 ho
 generalize (pre.any fun v=>!(u.ml.data.toList == []) && (u.ml.data.toList == v.ml.data.toList))=pm at *
 have hen1:(Tryz.prog.funcs[161]?).isSome=true:=by kernel_rfl
 clear hen1
 rw [hw1] at HE
 go_enter Tryz.func161,Tryz.ntmps161
 go_wp2_with fail
 with_reducible refine HE.out.mono ?_
 rw [← hw1]
 rintro e w2 ⟨rfl,hok,hbad⟩
 clear HE
 cases hall:u.gs.all (fun g=>ft (qi Gs) g.data.toList) with
 | false =>
  rw [hall] at hbad
  have HF:=za (hbad (by decide))
  obtain rfl:r=8:=by have:=HRR.out; rw [hall] at this; exact this
  clear hok hbad
  go_wp2
  go_ret
  exact ⟨rfl,fun h=>absurd h (by decide),fun _=>HF.out⟩
 | true =>
  rw [hall] at hok
  obtain ⟨j1,j2,_⟩:=hok rfl
  rw [List.take_length] at j1
  have hst2:=HST.out hall
  obtain rfl:r=jy L u.nm.data.toList u.ml.data.toList:=by
   have:=HRR.out
   rw [hall,if_pos rfl] at this
   rw [this]
   exact hst2.1.symm
  have HO:=za j1
  have HK:=za j2
  have HP2:=za (HPUT.out w2 j1)
  have d0:=HCL0.out w2 j2
  have d1:w2.cell? ⟨w.heap.size+1,0,none⟩=some (.string u.nm):=HCL1.out w2 0 j2
  have d2:w2.cell? ⟨w.heap.size+1,1,none⟩=some (.string u.hs):=HCL1.out w2 1 j2
  have d3:w2.cell? ⟨w.heap.size+1,3,none⟩=some (.bool u.dis):=HCL1.out w2 3 j2
  clear hok hbad j1 j2 hst2 HPUT HST HO HRR
  go_wp2_with fail
  with_reducible refine HP2.out.mono ?_
  rintro e w3 ⟨rfl,hgo⟩
  have hk3:=HK.out.trans hgo.2
  have HP3:=za (HPM.out w3 hgo.1)
  have e0:=HCL0.out w3 hk3
  have e1:w3.cell? ⟨w.heap.size+1,0,none⟩=some (.string u.nm):=HCL1.out w3 0 hk3
  have e2:w3.cell? ⟨w.heap.size+1,2,none⟩=some (.string u.ml):=HCL1.out w3 2 hk3
  clear hgo hk3 HP2 HK HPM d0 d1 d2 d3
  go_wp2_with fail
  with_reducible refine HP3.out.mono ?_
  rintro e w4 ⟨rfl,hgo⟩
  have HF:=za hgo.1
  clear hgo HP3 e0 e1 e2
  go_wp2
  go_ret
  exact ⟨rfl,fun _=>HF.out,fun _=>HF.out.below⟩
end

/-! ### Of -/
def Of11 (l:List Us) (G:List ByteArray) (w:World) (e:Ending) (w':World):Prop :=
 (jq l G≠0∧e=.returned (.tuple #[.pointer none,.int .i64 (jq l G)])∧Below w.heap.size w w') ∨
 (jq l G=0∧∃ D P M Gr A L S k,e=.returned (.tuple #[.pointer (some ⟨D,0,none⟩),.int .i64 0])∧zt w w' D P M Gr A L S∧St11 A L S l G k∧k≤200)
section
variable {w:World} {A A2:Option Addr} {c c2 n m:Nat} {l:List Us} {G:List ByteArray}
theorem Qw (W:World) (hb:Below w.heap.size w W) (hl:n=l.length) (hn:n≤1000) (hr:RdU7 w A l) (ho:∀ u∈l,u.Ok w) (h5:vY w) :
  Calls Tryz.prog 153 #[.slice A n c,.func (.func 154) #[] #[]] W (yG (vq l) W):=by
 have h:=fu 154 #[] #[] A n c l W (fun i=>if h:i<l.length then uQ 2 l[i] else 0) (fun _ W'=>Below W.heap.size W W') (fun W'=>Below W.heap.size W W') hl (by omega)
  (enters_of Tryz.func154 (by kernel_rfl) rfl) (Below.refl _ _) (fun i W' hb'=>hr.later (z7 hb hb')) (fun i W' hb' o=>z7 hb' (zb (Below.refl _ _) _))
  (fun i hi W' hb'=>(QK l[i] W' ((ho _ (List.getElem_mem hi)).below (z7 hb hb')) (h5.later (z7 hb hb'))).mono fun e w' ⟨he,hb2⟩=>⟨by rw [he,dif_pos hi],fun _=>z7 hb' hb2,fun _=>z7 hb' hb2⟩)
 rw [show ui (fun i=>if h:i<l.length then uQ 2 l[i] else 0) 0 n=vq l by
  rw [hl]; exact ev_may11 _ l 0 (fun j hj=>by simp only [Nat.zero_add]; rw [dif_pos hj])] at h
 refine h.mono ?_
 rintro e w' ⟨he,h1,h2⟩
 refine ⟨he,?_⟩
 by_cases h0:vq l=0
 ·
  exact h1 h0
 ·
  exact h2 h0
theorem VJ (W:World) (hb:Below w.heap.size w W) (hm:m=G.length) (hm1:m≤1000) (hg:RdS w A2 G) (hgs:∀ g∈G,g.size≤9223372036854775807) :
  Calls Tryz.prog 158 #[.slice A2 m c2,.func (.func 159) #[] #[]] W (yG (zi (yx G) 10) W):=by
 have h:=qH 159 #[] #[] A2 m c2 G W (fun i=>if h:i<G.length then zi (zh G[i].data.toList) 10 else 0) (fun _ W'=>Below W.heap.size W W') (fun W'=>Below W.heap.size W W') hm (by omega)
  (enters_of Tryz.func159 (by kernel_rfl) rfl) (Below.refl _ _) (fun i W' hb'=>hg.below (z7 hb hb'))
  (fun i hi W' hb'=>(zW G[i] W' (hgs _ (List.getElem_mem hi))).mono fun e w' ⟨he,hb2⟩=>⟨by rw [he,dif_pos hi],fun _=>z7 hb' hb2,fun _=>z7 hb' hb2⟩)
 rw [show ui (fun i=>if h:i<G.length then zi (zh G[i].data.toList) 10 else 0) 0 m=zi (yx G) 10 by
  rw [hm]; exact J6 (fun g:ByteArray=>zh g.data.toList) 10 (by decide) _ G 0 (fun j hj=>by simp only [Nat.zero_add]; rw [dif_pos hj]; rfl)] at h
 refine h.mono ?_
 rintro e w' ⟨he,h1,h2⟩
 refine ⟨he,?_⟩
 by_cases h0:zi (yx G) 10=0
 ·
  exact h1 h0
 ·
  exact h2 h0
theorem VK (D P M Gr:Nat) (W:World) (hown:zt w W D P M Gr [] [] []) (hm:m=G.length) (h6:G.length≤6) (hn6:yx G=true) (hr6:yh G=true) (hg:RdS w A2 G) (hgs:∀ g∈G,g.size≤9223372036854775807) :
  Calls Tryz.prog 158 #[.slice A2 m c2,.func (.func 160) #[.pointer (some ⟨Gr,0,none⟩)] #[]] W fun e w'=>e=.returned (.int .i64 0)∧∃ S,zt w w' D P M Gr [] [] S∧zn [] [] S m∧zc S=qi G:=by
 have h:=qH 160 #[.pointer (some ⟨Gr,0,none⟩)] #[] A2 m c2 G W (fun _=>0) (fun i W'=>∃ S,zt w W' D P M Gr [] [] S∧zn [] [] S i∧zc S=qi (G.take i)) (fun _=>True) hm (by omega)
  (enters_of Tryz.func160 (by kernel_rfl) rfl) ⟨[],hown,zn.nil,rfl⟩ (fun i W' ⟨_,h1,_⟩=>hg.below h1.below)
  (fun i hi W' ⟨S,h1,h2,h3⟩=>by
   obtain ⟨m1,m2,m3⟩:=make_step11 hi h6 hn6 hr6 h2 h3
   refine (h1.gmake h2.grp G[i] (hgs _ (List.getElem_mem hi))).mono ?_
   rintro e w' ⟨he,hgo⟩
   rw [m1] at he
   exact ⟨he,fun _=>⟨_,hgo.1,m2,m3⟩,fun h=>absurd rfl h⟩)
 rw [FO (fun _=>0) m 0 (fun _ _ _=>rfl)] at h
 refine h.mono ?_
 rintro e w' ⟨he,h1,_⟩
 refine ⟨he,?_⟩
 obtain ⟨S,s1,s2,s3⟩:=h1 rfl
 rw [hm,List.take_length] at s3
 exact ⟨S,s1,s2,s3⟩
theorem Qx (D P M Gr:Nat) (S:zo) (W:World) (hown:zt w W D P M Gr [] [] S) (hG:zn [] [] S m) (hN:zc S=qi G) (hm6:m≤6) (hl:n=l.length) (h12:l.length≤12) (hc:∀ u∈l,uQ 2 u=0) (hri:yh (l.map (·.nm))=true) (hr:RdU7 w A l) (ho:∀ u∈l,u.Ok w) (h5:vY w) :
  Calls Tryz.prog 153 #[.slice A n c,.func (.func 161) #[.pointer (some ⟨D,0,none⟩)] #[]] W fun e w'=>e=.returned (.int .i64 (xt G [] l)) ∧
   (xt G [] l=0→∃ A L S k,zt w w' D P M Gr A L S∧St11 A L S l G k∧k≤200)∧(xt G [] l≠0→Below w.heap.size w w'):=by
 have h:=fu 161 #[.pointer (some ⟨D,0,none⟩)] #[] A n c l W (fun j=>if hj:j<l.length then vp G (l.take j) l[j] else 0) (fun i W'=>∃ A L S k,zt w W' D P M Gr A L S∧St11 A L S (l.take i) G k∧k≤6+8 * i) (fun W'=>Below w.heap.size w W') hl (by omega)
  (enters_of Tryz.func161 (by kernel_rfl) rfl) ⟨[],[],S,m,hown,st_nil11 hG hN,by omega⟩ (fun i W' ⟨_,_,_,_,h1,_⟩=>hr.later h1.below) (fun i W' ⟨A,L,S,k,h1,h2⟩ o=>⟨A,L,S,k,h1.later (zb (Below.refl _ _) _),h2⟩)
  (fun i hi W' ⟨A,L,S,k,h1,h2,h3⟩=>by
   have hup:∀ v∈l.take i,bytesBefore v.nm.data.toList l[i].nm.data.toList=true:=fun v hv=>by
    obtain ⟨j,hj,rfl⟩:=List.getElem_of_mem hv
    have hj':j<i:=by rw [List.length_take] at hj; omega
    rw [List.getElem_take]
    have:=List.pairwise_iff_getElem.1 (uX hri) j i (by simp; omega) (by simpa using hi) hj'
    simpa using this
   have hcu:=hc _ (List.getElem_mem hi)
   have hlt:(l.take i).length<12:=by rw [List.length_take]; omega
   refine (add11_calls l[i] h1 h2 (by omega) hcu hup hlt (ho _ (List.getElem_mem hi)) h5).mono ?_
   rintro e w' ⟨he,q1,q2⟩
   rw [dif_pos hi]
   refine ⟨he,fun h0=>?_,q2⟩
   have hone:vp G (l.take i) l[i]=if l[i].gs.all (fun g=>ft (qi G) g.data.toList) then (if (l.take i).any (fun v=>!(l[i].ml.data.toList == []) && (l[i].ml.data.toList == v.ml.data.toList)) then 9 else 0) else 8:=rfl
   have hall:l[i].gs.all (fun g=>ft (qi G) g.data.toList)=true:=by
    cases hh:l[i].gs.all (fun g=>ft (qi G) g.data.toList) with
    | true=>rfl
    | false=>rw [hone,hh] at h0; simp at h0
   obtain ⟨s1,s2⟩:=step11 h2 l[i] hcu hup hlt hall
   rw [hone,hall,if_pos rfl,← s1] at h0
   refine ⟨_,_,_,k+8,q1 (by rw [hone,hall,if_pos rfl,← s1]; exact h0),?_,?_⟩
   ·
    rw [List.take_succ_eq_append_getElem hi]
    exact s2 h0
   ·
    omega)
 rw [show ui (fun j=>if hj:j<l.length then vp G (l.take j) l[j] else 0) 0 n=xt G [] l by
  rw [hl]; exact one_ev11 G l l.length 0 (by omega)] at h
 refine h.mono ?_
 rintro e w' ⟨he,h1,h2⟩
 refine ⟨he,fun h0=>?_,h2⟩
 obtain ⟨A,L,S,k,s1,s2,s3⟩:=h1 h0
 rw [hl,List.take_length] at s2
 exact ⟨A,L,S,k,s1,s2,by omega⟩
end
set_option maxRecDepth 100000 in
theorem nof11_calls (A A2:Option Addr) (c c2 n m:Nat) (l:List Us) (G:List ByteArray) (w:World) (hl:n=l.length) (hn:n≤1000) (hr:RdU7 w A l) (ho:∀ u∈l,u.Ok w) (hm:m=G.length) (hm1:m≤1000) (hg:RdS w A2 G) (hgs:∀ g∈G,g.size≤9223372036854775807) (h5:vY w) :
  Calls Tryz.prog 111 #[.slice A n c,.slice A2 m c2] w (Of11 l G w):=by
 have HNW:Hid (∀ W,Calls Tryz.prog 151 #[] W fun e w'=>∃ D P M G,e=.returned (.pointer (some ⟨D,0,none⟩))∧zt W w' D P M G [] [] []):=fun W=>Fd W
 have HMB:Hid (∀ W,Below w.heap.size w W→Calls Tryz.prog 153 #[.slice A n c,.func (.func 154) #[] #[]] W (yG (vq l) W)):=fun W hb=>Qw W hb hl hn hr ho h5
 have HNO:Hid (∀ W,Below w.heap.size w W→Calls Tryz.prog 156 #[.slice A n c] W fun e w'=>∃ A2 c2,e=.returned (.slice A2 n c2)∧RdS w' A2 (l.map (·.nm))∧Below W.heap.size W w'):=fun W hb=>XD A c n l W hl hn (hr.later hb)
 have HRI:Hid (∀ A3 c3 W,RdS W A3 (l.map (·.nm))→Calls Tryz.prog 155 #[.slice A3 n c3] W fun e w'=>e=.returned (.int .i64 (zi (yh (l.map (·.nm))) 9))∧∃ q,w'=W.drewN q):=fun A3 c3 W h=>Yu A3 n c3 _ W (by rw [List.length_map]; exact hl) h (by omega)
 have HFI:Hid (∀ W,Calls Tryz.prog 157 #[.int .i64 (n:Int),.int .i64 12] W fun e w'=>e=.returned (.int .i64 (zi (decide ((l.length:Int)≤12)) 7))∧w'=W):=fun W=>by rw [← hl]; exact fN _ _ W
 have HNM:Hid (∀ W,Below w.heap.size w W→Calls Tryz.prog 158 #[.slice A2 m c2,.func (.func 159) #[] #[]] W (yG (zi (yx G) 10) W)):=fun W hb=>VJ W hb hm hm1 hg hgs
 have HRG:Hid (∀ W,Below w.heap.size w W→Calls Tryz.prog 155 #[.slice A2 m c2] W fun e w'=>e=.returned (.int .i64 (zi (yh G) 9))∧∃ q,w'=W.drewN q):=fun W hb=>Yu A2 m c2 G W hm (hg.below hb) (by omega)
 have HFG:Hid (∀ W,Calls Tryz.prog 157 #[.int .i64 (m:Int),.int .i64 6] W fun e w'=>e=.returned (.int .i64 (zi (decide ((G.length:Int)≤6)) 7))∧w'=W):=fun W=>by rw [← hm]; exact fN _ _ W
 have HFS:Hid (∀ W:World,Calls Tryz.prog 152 #[.slice (some ⟨W.heap.size,0,none⟩) 6 6] (W.alloc (.cells #[.int .i64 (vq l),.int .i64 (zi (yh (l.map (·.nm))) 9),.int .i64 (zi (decide ((l.length:Int)≤12)) 7),.int .i64 (zi (yx G) 10),.int .i64 (zi (yh G) 9),.int .i64 (zi (decide ((G.length:Int)≤6)) 7)] 54)) fun e w'=>e=.returned (.int .i64 (cE11 l G))∧w'=W.alloc (.cells #[.int .i64 (vq l),.int .i64 (zi (yh (l.map (·.nm))) 9),.int .i64 (zi (decide ((l.length:Int)≤12)) 7),.int .i64 (zi (yx G) 10),.int .i64 (zi (yh G) 9),.int .i64 (zi (decide ((G.length:Int)≤6)) 7)] 54)):=fun W =>
  vU W [vq l,zi (yh (l.map fun u:Us=>u.nm)) 9,zi (decide ((l.length:Int)≤12)) 7,zi (yx G) 10,zi (yh G) 9,zi (decide ((G.length:Int)≤6)) 7] 54 (by simp)
 have HF2:Hid (∀ (W:World) (x:Int),Calls Tryz.prog 152 #[.slice (some ⟨W.heap.size,0,none⟩) 2 2] (W.alloc (.cells #[.int .i64 0,.int .i64 x] 54)) fun e w'=>e=.returned (.int .i64 x)∧w'=W.alloc (.cells #[.int .i64 0,.int .i64 x] 54)):=fun W x=>by
  have:=vU W [0,x] 54 (by simp)
  rw [show zI [0,x]=x by unfold zI zI zI; by_cases h:x=0 <;> simp [h]] at this
  exact this
 have HMK:Hid (cE11 l G=0→∀ D P M Gr W,zt w W D P M Gr [] [] []→Calls Tryz.prog 158 #[.slice A2 m c2,.func (.func 160) #[.pointer (some ⟨Gr,0,none⟩)] #[]] W fun e w'=>e=.returned (.int .i64 0)∧∃ S,zt w w' D P M Gr [] [] S∧zn [] [] S m∧zc S=qi G):=fun h0 D P M Gr W hown=>by
  obtain ⟨_,_,_,f4,f5,f6⟩:=Jo h0
  exact VK D P M Gr W hown hm f6 f4 f5 hg hgs
 have HAD:Hid (cE11 l G=0→∀ D P M Gr S W,zt w W D P M Gr [] [] S→zn [] [] S m→zc S=qi G→Calls Tryz.prog 153 #[.slice A n c,.func (.func 161) #[.pointer (some ⟨D,0,none⟩)] #[]] W fun e w'=>e=.returned (.int .i64 (xt G [] l)) ∧
   (xt G [] l=0→∃ A L S k,zt w w' D P M Gr A L S∧St11 A L S l G k∧k≤200)∧(xt G [] l≠0→Below w.heap.size w w')):=fun h0 D P M Gr S W hown hG hN=>by
  obtain ⟨f1,f2,f3,_,_,f6⟩:=Jo h0
  exact Qx D P M Gr S W hown hG hN (by omega) hl f3 f1 f2 hr ho h5
 have HCE:=za (cE_of (l:=l) (G:=G))
 unfold Of11
 clear hl hn hr ho hm hm1 hg hgs h5
 generalize vq l=e0 at *
 generalize zi (yh (l.map (·.nm))) 9=e1 at *
 generalize zi (decide ((l.length:Int)≤12)) 7=e2 at *
 generalize zi (yx G) 10=e3 at *
 generalize zi (yh G) 9=e4 at *
 generalize zi (decide ((G.length:Int)≤6)) 7=e5 at *
 generalize cE11 l G=r at *
 generalize xt G [] l=rr at *
 generalize jq l G=ro at *
 go_enter Tryz.func111,Tryz.ntmps111
 go_wp2_with fail
 with_reducible refine (HNW.out w).mono ?_
 rintro e w1 ⟨D,P,M,Gr,rfl,hown⟩
 have HO1:=za hown
 have HB1:=za hown.below
 clear hown HNW
 go_wp2_with fail
 with_reducible refine (HMB.out w1 HB1.out).mono ?_
 rintro e w2 ⟨rfl,hb⟩
 have HO2:=za (HO1.out.later hb)
 have HB2:=za (z7 HB1.out hb)
 clear hb HMB HO1 HB1
 go_wp2_with fail
 with_reducible refine (HNO.out w2 HB2.out).mono ?_
 rintro e w3 ⟨A3,c3,rfl,hrd,hb⟩
 have HRD:=za hrd
 have HO3:=za (HO2.out.later hb)
 have HB3:=za (z7 HB2.out hb)
 clear hb hrd HNO HO2 HB2
 go_wp2_with fail
 with_reducible refine (HRI.out A3 c3 w3 HRD.out).mono ?_
 rintro e w4 ⟨rfl,q,hq⟩
 have hb:Below w3.heap.size w3 w4:=by rw [hq]; exact zJ (Below.refl _ _) q
 have HO4:=za (HO3.out.later hb)
 have HB4:=za (z7 HB3.out hb)
 clear hb hq HRD HRI HO3 HB3
 go_wp2_with fail
 with_reducible refine (HFI.out w4).mono ?_
 rintro e w5 ⟨rfl,rfl⟩
 go_wp2_with fail
 with_reducible refine (HNM.out w5 HB4.out).mono ?_
 rintro e w6 ⟨rfl,hb⟩
 have HO6:=za (HO4.out.later hb)
 have HB6:=za (z7 HB4.out hb)
 clear hb HNM HO4 HB4 HFI
 go_wp2_with fail
 with_reducible refine (HRG.out w6 HB6.out).mono ?_
 rintro e w7 ⟨rfl,q2,hq⟩
 have hb:Below w6.heap.size w6 w7:=by rw [hq]; exact zJ (Below.refl _ _) q2
 have HO7:=za (HO6.out.later hb)
 have HB7:=za (z7 HB6.out hb)
 clear hb hq HRG HO6 HB6
 go_wp2_with fail
 with_reducible refine (HFG.out w7).mono ?_
 rintro e w8 ⟨rfl,rfl⟩
 clear HFG
 go_wp2_with fail
 with_reducible refine (HFS.out _).mono ?_
 rintro e w9 ⟨rfl,hw9⟩
 have hb:Below w8.heap.size w8 w9:=by rw [hw9]; exact zb (Below.refl _ _) _
 have HO9:=za (HO7.out.later hb)
 have HB9:=za (z7 HB7.out hb)
 clear hb hw9 HFS HO7 HB7
 by_cases h0:r=0
 case neg =>
  have h1:(r != 0)=true:=by simpa using h0
  have h2:(r == 0)=false:=by simpa using h0
  obtain rfl:ro=r:=HCE.out.1 h0
  have H0:=za h0
  clear h0 HMK HAD HF2 HCE HO9
  go_wp2
  go_ret2
  exact .inl ⟨H0.out,rfl,HB9.out⟩
 subst h0
 obtain rfl:ro=rr:=HCE.out.2 rfl
 have HMK2:=za (HMK.out rfl D P M Gr w9 HO9.out)
 have HAD2:=za (HAD.out rfl D P M Gr)
 have hc2:=HO9.out.c2
 have hmf:=mkf
 clear HMK HAD HCE
 go_wp2_with fail
 with_reducible refine HMK2.out.mono ?_
 rintro e w10 ⟨rfl,S,s1,s2,s3⟩
 have HA2:=za (HAD2.out S w10 s1 s2 s3)
 clear s1 s2 s3 HMK2 HAD2 hc2 HO9 HB9
 go_wp2_with fail
 with_reducible refine HA2.out.mono ?_
 rintro e w11 ⟨rfl,t1,t2⟩
 have HT1:=za t1
 have HT2:=za t2
 clear t1 t2 HA2
 go_wp2_with fail
 with_reducible refine (HF2.out _ _).mono ?_
 rintro e w12 ⟨rfl,hw⟩
 have hb:Below w11.heap.size w11 w12:=by rw [hw]; exact zb (Below.refl _ _) _
 have HB:=za hb
 clear hb hw HF2
 by_cases h0:ro=0
 case neg =>
  have h1:(ro != 0)=true:=by simpa using h0
  have HF:=za (z7 (HT2.out h0) HB.out)
  have H0:=za h0
  clear h0 HT1 HT2 HB
  go_wp2
  go_ret2
  exact .inl ⟨H0.out,rfl,HF.out⟩
 subst h0
 obtain ⟨A4,L4,S4,k4,u1,u2,u3⟩:=HT1.out rfl
 have HF:Hid (zt w w12 D P M Gr A4 L4 S4∧St11 A4 L4 S4 l G k4∧k4≤200):=⟨u1.later HB.out,u2,u3⟩
 clear u1 u2 u3 HT1 HT2 HB
 go_wp2
 go_ret2
 exact ⟨D,rfl,P,M,Gr,A4,L4,S4,HF.out.1,k4,HF.out.2⟩
end Go.Proofs.YteegkoicalbkbaaGreatDoor
namespace Go.Proofs.YteegkoicalbkbaaGreatDoor
open Go.RowKit Go.Maps


section
variable {w0 w:World} {D P M G:Nat} {A:zu} {L:zl} {S:zo} {k:Nat}
end

/-! ### stores beside a directory -/
def Wt11 (W:World) (b:Nat) (A:Option Addr) (n:Nat):Prop :=
 0<n→∃ g cur,A=some ⟨g,0,none⟩∧b≤g∧W.heap[g]? = some (.cells cur 9 (0,0))∧n≤cur.size∧n≤9223372036854775807
theorem Wt11.of {W:World} {b n c:Nat} {A:Option Addr} {xs:List Value} (h:W.ownsRow b 9 1 (.slice A n c) n xs):Wt11 W b A n:=fun hn=>by
 rcases h.2 with ⟨_,e⟩ | ⟨g,cap,cur,e,hb,hg,hc,hmx,hs,_⟩
 ·
  omega
 ·
  injection e with e1
  unfold maxLen at hmx
  exact ⟨g,cur,e1,hb,hg,by omega,by omega⟩
theorem Wt11.few {W:World} {b n:Nat} {A:Option Addr} (h:Wt11 W b A n):n≤9223372036854775807:=by
 by_cases hn:0<n
 ·
  obtain ⟨_,_,_,_,_,_,h⟩:=h hn
  exact h
 ·
  omega
theorem Wt11.low {W:World} {b a n:Nat} {A:Option Addr} (h:Wt11 W b A n) (ha:a≤b):Wt11 W a A n:=fun hn=>by
 obtain ⟨g,cur,e,hb,hg,hc⟩:=h hn
 exact ⟨g,cur,e,Nat.le_trans ha hb,hg,hc⟩
theorem Wt11.below {W W':World} {b n:Nat} {A:Option Addr} (h:Wt11 W b A n) (hb:Below W.heap.size W W'):Wt11 W' b A n:=fun hn=>by
 obtain ⟨g,cur,e,h1,hg,hc⟩:=h hn
 exact ⟨g,cur,e,h1,(hb.block g (Array.getElem?_eq_some_iff.1 hg).1).trans hg,hc⟩
theorem Wt11.keeps {W W':World} {b n:Nat} {A:Option Addr} (h:Wt11 W b A n) (hk:yF W W'):Wt11 W' b A n:=fun hn=>by
 obtain ⟨g,cur,e,h1,hg,hc⟩:=h hn
 exact ⟨g,cur,e,h1,hk g cur _ _ hg (by decide) (by decide) (by decide),hc⟩
theorem Wt11.store {W:World} {b n g k:Nat} {A:Option Addr} {cur:Array Value} (h:Wt11 W b A n) (hg:W.heap[g]? = some (.cells cur 9 (0,0))) (s:Value):Wt11 (W.setCell ⟨g,k,none⟩ s) b A n:=fun hn=>by
 obtain ⟨g',cur',e,h1,hg',hc⟩:=h hn
 by_cases eg:g'=g
 ·
  subst eg
  rw [hg] at hg'
  injection hg' with hg'
  injection hg' with hg'
  subst hg'
  exact ⟨g',_,e,h1,heap_setCell_same W g' k cur _ s hg,by simpa using hc.1,hc.2⟩
 ·
  exact ⟨g',cur',e,h1,(heap_setCell_other W ⟨g,k,none⟩ g' s eg).trans hg',hc⟩
theorem zt.setStr {w0 W:World} {D P M G g k:Nat} {A:zu} {L:zl} {S:zo} {cur:Array Value} (h:zt w0 W D P M G A L S) (hg:W.heap[g]? = some (.cells cur 9 (0,0))) (hw:w0.heap.size≤g) (s:Value):zt w0 (W.setCell ⟨g,k,none⟩ s) D P M G A L S:=by
 obtain ⟨p,q,LM,pg,T,hd,hS,h2,h3⟩:=h
 have ht:zg (fun i=>i=g) W (W.setCell ⟨g,k,none⟩ s):=(zg.refl (fun i=>i=g) W).setCell (p:=⟨g,k,none⟩) (fun _=>rfl) _
 have hD:D≠g:=ul hd.blk hg (by decide)
 have hP:P≠g:=ZC hd.acc hg
 refine ⟨p,q,LM,pg,T,⟨?_,?_,?_,?_,hd.sep1,hd.sep2,hd.sep3⟩,hS,h2,h3.turn ht (fun i e=>by subst e; exact ⟨hw,id⟩)⟩
 ·
  exact (heap_setCell_other W ⟨g,k,none⟩ D s hD).trans hd.blk
 ·
  exact hd.acc.kept (heap_setCell_other W ⟨g,k,none⟩ P s hP)
 ·
  exact hd.idx.turnsF ht (fun i hi e=>by subst e; exact Zq hd.idx hg (by decide) hi)
 ·
  exact hd.grp.turnsF ht (fun i hi e=>by subst e; exact Zr hd.grp hg (by decide) hi)
theorem zt.base {w00 w0 W:World} {D P M G:Nat} {A:zu} {L:zl} {S:zo} (h:zt w0 W D P M G A L S) (hb:Below w00.heap.size w00 w0):zt w00 W D P M G A L S:=by
 obtain ⟨p,q,LM,pg,T,hd,hS,h2,h3⟩:=h
 exact ⟨p,q,LM,pg,T,hd,hS,fun i hi=>⟨Nat.le_trans hb.size (h2 i hi).1,id⟩,z7 hb h3.1,h3.2⟩

/-! ### users in a row of one's own -/
def uH (l:List Us):List Value:=l.flatMap fun u=>u.cells.toList
theorem ucells11_at (l:List Us) (i j:Nat) (hi:i<l.length) (hj:j<5):(uH l)[i * 5+j]? = l[i].cells[j]? := by
 induction l generalizing i with
 | nil=>exact absurd hi (Nat.not_lt_zero _)
 | cons u l ih =>
  have e:uH (u::l)=u.cells.toList++uH l:=rfl
  have h5:u.cells.toList.length=5:=rfl
  rw [e]
  cases i with
  | zero =>
   rw [List.getElem?_append_left (by omega),Nat.zero_mul,Nat.zero_add]
   simp
  | succ i =>
   rw [List.getElem?_append_right (by omega),h5,show (i+1) * 5+j - 5=i * 5+j by omega]
   exact ih i (by simpa using hi)
theorem Qb (l:List Us) (u:Us):uH (l++[u])=uH l++u.cells.toList:=by
 unfold uH
 rw [List.flatMap_append]
 simp
structure Zz11 (w W:World) (D P M G:Nat) (A:zu) (L:zl) (S:zo) (v:Value) (n:Nat) (l:List Us):Prop where
 own:zt w W D P M G A L S
 len:l.length=n
 row:W.ownsRow 0 192 5 v n (uH l)
 txt:∀ u∈l,Wt11 W w.heap.size u.ga u.gs.length
section
variable {w W:World} {D P M G:Nat} {A:zu} {L:zl} {S:zo} {l:List Us}
theorem Zz11.later {W':World} {v:Value} {n:Nat} (h:Zz11 w W D P M G A L S v n l) (hb:Below W.heap.size W W'):Zz11 w W' D P M G A L S v n l :=
 ⟨h.own.later hb,h.len,zU h.row hb,fun u hu=>(h.txt u hu).below hb⟩
theorem Zz11.at_ {B:Option Addr} {n c i:Nat} (h:Zz11 w W D P M G A L S (.slice B n c) n l) (hi:i<l.length):∃ g,B=some ⟨g,0,none⟩∧W.cell? ⟨g,i * 5+4,none⟩=some (.slice l[i].ga l[i].gs.length l[i].gc):=by
 have hn:=h.len
 obtain ⟨g,cap,e,_,_⟩:=h.row.form (by omega)
 injection e with e1 e2 e3
 subst e1 e3
 refine ⟨g,rfl,?_⟩
 rw [h.row.cellAt (i * 5+4) (by omega),ucells11_at l i 4 hi (by decide)]
 rfl
theorem Zz11.store {v:Value} {n i k:Nat} (h:Zz11 w W D P M G A L S v n l) (hi:i<l.length) (hk:k<l[i].gs.length) (s:ByteArray) :
  ∃ g,l[i].ga=some ⟨g,0,none⟩∧(∃ x,W.cell? ⟨g,k,none⟩=some x)∧W.frozen? ⟨g,k,none⟩=false∧Zz11 w (W.setCell ⟨g,k,none⟩ (.string s)) D P M G A L S v n l:=by
 obtain ⟨g,cur,e,h1,hg,hc,_⟩:=h.txt _ (List.getElem_mem hi) (by omega)
 refine ⟨g,e,?_,?_,h.own.setStr hg h1 _,h.len,?_,fun u hu=>(h.txt u hu).store hg _⟩
 ·
  rw [cell_of_row W g k cur _ (0,0) hg]
  exact ⟨_,Array.getElem?_eq_getElem (by omega)⟩
 ·
  exact frozen_of_row W g k cur _ hg
 ·
  have ht:zg (fun i=>i=g) W (W.setCell ⟨g,k,none⟩ (.string s)):=(zg.refl (fun i=>i=g) W).setCell (p:=⟨g,k,none⟩) (fun _=>rfl) _
  rcases h.row.2 with hz | ⟨g2,cap,cur2,e2,hb2,hg2,rest⟩
  ·
   exact ⟨h.row.1,.inl hz⟩
  ·
   exact ⟨h.row.1,.inr ⟨g2,cap,cur2,e2,hb2,(heap_setCell_other W ⟨g,k,none⟩ g2 _ (fun e=>by
    subst e
    rw [hg] at hg2
    injection hg2 with hg2
    injection hg2 with _ hg2
    exact absurd hg2 (by decide))).trans hg2,rest⟩⟩
end

def xw (u:Us):Us:={ u with ga:=none,gc:=0 }
theorem Fl:∀ l:List Us,vq (l.map xw)=vq l
 | []=>rfl
 | u::l=>by
  show (if uQ 2 (xw u)=0 then vq (l.map xw) else uQ 2 (xw u))=_
  rw [Fl l]
  rfl
theorem Uv (G:List ByteArray):∀ (l pre:List Us),xt G (pre.map xw) (l.map xw)=xt G pre l
 | [],_=>rfl
 | u::l,pre=>by
  have h1:vp G (pre.map xw) (xw u)=vp G pre u:=by
   unfold vp
   rw [List.any_map]
   rfl
  show (if vp G (pre.map xw) (xw u)=0 then xt G (pre.map xw++[xw u]) (l.map xw) else vp G (pre.map xw) (xw u))=_
  rw [h1,show pre.map xw++[xw u]=(pre++[u]).map xw by rw [List.map_append]; rfl,Uv G l]
  rfl
theorem Qy (l:List Us) (G:List ByteArray):jq (l.map xw) G=jq l G:=by
 have h1:XB (l.map xw)=XB l:=by
  unfold XB
  rw [Fl,List.map_map,List.length_map]
  rfl
 unfold jq
 rw [h1]
 have h2:=Uv G l []
 rw [List.map_nil] at h2
 rw [h2]
theorem pl_nrm11 (l:List Us):qZ (l.map xw)=qZ l:=by unfold qZ; rw [List.map_map]; rfl

structure Cp11 (w W:World) (l:List Us) (k:Nat) (v:Value) (l2:List Us):Prop where
 bel:Below w.heap.size w W
 same:l2.map xw=(l.take k).map xw
 row:W.ownsRow w.heap.size 192 5 v k (uH l2)
 txt:∀ u∈l2,W.ownsRow w.heap.size 9 1 (.slice u.ga u.gs.length u.gc) u.gs.length (xZ u.gs)
section
variable {w W W' wr w3 w5:World} {l l2:List Us} {k:Nat} {v v':Value}
theorem Cp11.later (h:Cp11 w W l k v l2) (hb:Below W.heap.size W W'):Cp11 w W' l k v l2 :=
 ⟨z7 h.bel hb,h.same,zU h.row hb,fun u hu=>zU (h.txt u hu) hb⟩
theorem keepS11 {b0 n:Nat} {e:TypeId} {xs ys:List Value} {u:Value} {a b c d x:Value} {B:Nat} {o:Obj} (hB:un w3 B a b c d x) (hv:w3.ownsRow b0 192 5 v n xs) (y:Value) (hg:((w3.setCell ⟨B,4,none⟩ y).alloc o).grownBy w5 v.ownBlock) {m:Nat} (h:w3.ownsRow m 9 1 u e ys):w5.ownsRow m 9 1 u e ys:=by
 refine ⟨h.1,?_⟩
 rcases h.2 with hz | ⟨g,cap,cur,e1,h1,hgg,rest⟩
 ·
  exact .inl hz
 ·
  have hlt:g<w3.heap.size:=(Array.getElem?_eq_some_iff.1 hgg).1
  have n1:g≠B:=fun e=>by
   subst e
   have hB':w3.heap[g]? = _:=hB
   rw [hgg] at hB'
   injection hB' with hB'
   injection hB' with _ hB'
   exact absurd hB' (by decide)
  have n2:some g≠v.ownBlock:=fun e=>by
   rcases hv.2 with ⟨rfl,_⟩ | ⟨g2,cap2,cur2,rfl,_,hg2,_⟩
   ·
    simp [Value.ownBlock] at e
   ·
    simp [Value.ownBlock] at e
    subst e
    rw [hgg] at hg2
    injection hg2 with hg2
    injection hg2 with _ hg2
    exact absurd hg2 (by decide)
  refine .inr ⟨g,cap,cur,e1,h1,?_,rest⟩
  rw [hg.block g (by simp; omega) n2]
  have hs:((w3.setCell ⟨B,4,none⟩ y).alloc o).heap[g]? = (w3.setCell ⟨B,4,none⟩ y).heap[g]? := (zb (Below.refl (w3.setCell ⟨B,4,none⟩ y).heap.size _) o).block g (by simpa using hlt)
  rw [hs,heap_setCell_other w3 ⟨B,4,none⟩ g y n1]
  exact hgg
theorem Cp11.next {a b c d e x:Value} {o:Obj} (h:Cp11 w wr l k v l2) (hb:Below wr.heap.size wr w3) (hB:un w3 wr.heap.size a b c d e) (hg:((w3.setCell ⟨wr.heap.size,4,none⟩ x).alloc o).grownBy w5 v.ownBlock) (u:Us)
  (ho:w5.ownsRow w.heap.size 192 5 v' (k+1) (uH l2++u.cells.toList)) (ht:w3.ownsRow wr.heap.size 9 1 (.slice u.ga u.gs.length u.gc) u.gs.length (xZ u.gs)) (hk:k<l.length) (hu:xw u=xw l[k]):Cp11 w w5 l (k+1) v' (l2++[u]):=by
 have hrow3:=zU h.row hb
 have hb3:=z7 h.bel hb
 have hsz:=h.bel.size
 refine ⟨?_,?_,by rw [Qb]; exact ho,fun z hz=>?_⟩
 ·
  have h4:Below w.heap.size w (w3.setCell ⟨wr.heap.size,4,none⟩ x):=hb3.setCell (p:=⟨wr.heap.size,4,none⟩) hsz _
  exact (z7 h4 (zb (Below.refl _ _) o)).grown hg (by have:=h4.size; simp at this ⊢; omega) (fun j hj=>(hrow3.lt j hj).1)
 ·
  rw [List.map_append,List.take_succ_eq_append_getElem hk,List.map_append,h.same]
  show _++[xw u]=_++[xw l[k]]
  rw [hu]
 ·
  rcases List.mem_append.1 hz with hz | hz
  ·
   exact keepS11 hB hrow3 x hg (zU (h.txt z hz) hb)
  ·
   rw [List.mem_singleton] at hz
   subst hz
   exact keepS11 hB hrow3 x hg (zy ht hsz)
theorem Cp11.all (h:Cp11 w W l l.length v l2) (ho:∀ u∈l,u.Ok w):l2.length=l.length∧(∀ u∈l2,u.Ok W)∧(∀ G,jq l2 G=jq l G)∧qZ l2=qZ l:=by
 have hs:=h.same
 rw [List.take_length] at hs
 have hlen:l2.length=l.length:=by have:=congrArg List.length hs; simpa using this
 refine ⟨hlen,fun u hu=>?_,fun G=>by rw [← Qy l2,hs,Qy],by rw [← pl_nrm11 l2,hs,pl_nrm11]⟩
 have hm:xw u∈l.map xw:=by rw [← hs]; exact List.mem_map.2 ⟨u,hu,rfl⟩
 obtain ⟨z,hz,e⟩:=List.mem_map.1 hm
 have hz':=ho z hz
 have e1:z.nm=u.nm:=(congrArg Us.nm e:(xw z).nm=(xw u).nm)
 have e2:z.hs=u.hs:=(congrArg Us.hs e:(xw z).hs=(xw u).hs)
 have e3:z.ml=u.ml:=(congrArg Us.ml e:(xw z).ml=(xw u).ml)
 have e4:z.gs=u.gs:=(congrArg Us.gs e:(xw z).gs=(xw u).gs)
 have ht:=h.txt u hu
 have hform:(u.ga=none→u.gc=0)∧u.gs.length≤u.gc∧u.gc≤9223372036854775807:=by
  rcases ht.2 with ⟨q,q2⟩ | ⟨g,cap,cur,q,_,_,q3,q4,_⟩
  ·
   injection q with q0 _ q1
   exact ⟨fun _=>q1,by omega,by omega⟩
  ·
   injection q with q0 _ q1
   unfold maxLen at q4
   exact ⟨fun hn=>absurd (hn.symm.trans q0) (by simp),by omega,by omega⟩
 exact { rd:=jU (zy ht (Nat.zero_le _)),nm:=e1 ▸ hz'.nm,hs:=e2 ▸ hz'.hs,ml:=e3 ▸ hz'.ml,nil:=hform.1,len:=hform.2.1,cap:=hform.2.2,all:=e4 ▸ hz'.all }
end



def folB (l:List Us) (G:List ByteArray):List UInt8:=le 2 1++(rowB G++(le l.length 2++l.flatMap (ZK 2)))


/-! ### What was read is what is written -/

/-! ### What is written is read -/
structure May12 (l:List Us) (G:List ByteArray):Prop where
 of:jq l G=0
 all:∀ u∈l,uQ 2 u=0
 few:l.length≤12
 names:yx G=true
 rise:yh G=true
 gfew:G.length≤6
theorem may12 {l:List Us} {G:List ByteArray} (h:jq l G=0):May12 l G:=by
 have hc:cE11 l G=0:=by
  by_cases hc:cE11 l G=0
  ·
   exact hc
  ·
   have:=(cE_of (l:=l) (G:=G)).1 hc
   rw [h] at this
   exact absurd this.symm hc
 obtain ⟨h1,_,h3,h4,h5,h6⟩:=Jo hc
 exact ⟨h,h1,h3,h4,h5,h6⟩
theorem May12.sizes {l:List Us} {G:List ByteArray} (h:May12 l G):∀ g∈G,g.size≤12:=fun g hg=>jZ (by
 have:=List.all_eq_true.1 h.names g hg
 exact this)
theorem folB_nrm12 (l:List Us) (G:List ByteArray):folB (l.map xw) G=folB l G:=by
 unfold folB
 rw [List.length_map,List.flatMap_map]
 rfl

/-! ### How long -/
theorem uW {n:Nat}:∀ {ss:List ByteArray},(∀ s∈ss,s.size≤n)→(xj ss).length≤(n+2) * ss.length
 | [],_=>by simp [xj]
 | s::ss,h=>by
  have h1:=h s (List.mem_cons_self ..)
  have h2:=uW (n:=n) (ss:=ss) (fun x hx=>h x (List.mem_cons_of_mem _ hx))
  show (xp s++xj ss).length≤_
  rw [List.length_append,xJ,List.length_cons,Nat.mul_succ]
  omega
theorem Vz {u:Us} (h:uQ 2 u=0):(ZK 2 u).length≤137:=by
 obtain ⟨hl,_⟩:=fT h
 have h1:=hl.nm
 have h2:=hl.hs
 have h3:=hl.ml
 have h4:=uW hl.all
 have h5:=hl.len
 show (xp u.nm++xp u.hs++(xp u.ml++le u.dis.toNat 1++(le u.gs.length 2++xj u.gs))).length≤137
 simp only [List.length_append,xJ,yi]
 omega
theorem jv:∀ {l:List Us},(∀ u∈l,uQ 2 u=0)→(l.flatMap (ZK 2)).length≤137 * l.length
 | [],_=>Nat.le_refl _
 | q::l,h=>by
  have h1:=Vz (h q (List.mem_cons_self ..))
  have h2:=jv (l:=l) (fun x hx=>h x (List.mem_cons_of_mem _ hx))
  rw [List.flatMap_cons,List.length_append,List.length_cons]
  omega

/-! ### The document's way -/

/-! ### A directory's rows -/
def uG (p:List UInt8×U11):Us:=⟨yf p.1,yf p.2.hs,yf p.2.ml,p.2.dis,none,p.2.gs.map yf,0⟩
theorem bl_tx12 (N:List (List UInt8)):qi (N.map yf)=N:=by
 unfold qi
 rw [List.map_map]
 conv=>rhs; rw [← List.map_id N]
 exact List.map_congr_left fun x _=>zT x
theorem tx_bl12 (G:List ByteArray):(qi G).map yf=G:=by
 unfold qi
 rw [List.map_map]
 conv=>rhs; rw [← List.map_id G]
 exact List.map_congr_left fun x _=>uV x
theorem usOf_plU12 (l:List Us):(qZ l).map uG=l.map xw:=by
 unfold qZ
 rw [List.map_map]
 refine List.map_congr_left fun u _=>?_
 show (⟨yf u.nm.data.toList,yf u.hs.data.toList,yf u.ml.data.toList,u.dis,none,(qi u.gs).map yf,0⟩:Us)=xw u
 rw [uV,uV,uV,tx_bl12]
 rfl
def V5 (T:xo) (N:List (List UInt8)):List UInt8:=folB (T.map uG) (N.map yf)
theorem ZP:∀ {ss:List ByteArray},(ss.Pairwise fun a b=>bytesBefore a.data.toList b.data.toList=true)→yh ss=true
 | [],_=>rfl
 | [_],_=>rfl
 | a::b::r,h=>by
  obtain ⟨h1,h2⟩:=List.pairwise_cons.1 h
  unfold yh
  rw [ZP h2,Bool.and_true]
  unfold vt
  rw [qR]
  exact h1 b (List.mem_cons_self ..)
theorem ZO {N:List (List UInt8)} (h:ux N):yh (N.map yf)=true:=by
 refine ZP (List.pairwise_map.2 (List.Pairwise.imp (fun {a b} hab=>?_) h))
 rw [zT,zT]
 exact hab
theorem XE {N:List (List UInt8)} (h:∀ n∈N,zh n=true):yx (N.map yf)=true:=by
 unfold yx
 rw [List.all_eq_true]
 intro g hg
 obtain ⟨n,hn,rfl⟩:=List.mem_map.1 hg
 rw [zT]
 exact h n hn
section
variable {A:zu} {L:zl} {S:zo} {k:Nat}
theorem good_mail12 (h:zn A L S k) (n:List UInt8):fj (yf (yM L n))=true:=by
 unfold fj
 rw [Bool.or_eq_true,Bool.and_eq_true,decide_eq_true_eq,decide_eq_true_eq,zT,xO]
 cases hh:yE L n with
 | false=>exact .inl (by rw [xm hh]; rfl)
 | true =>
  obtain ⟨_,h2,h3⟩:=h.all _ (vm hh)
  refine .inr ⟨h2,?_⟩
  unfold fJ
  rw [if_pos h2]
  show yf (zN (yM L n))=_
  rw [h3]
theorem good_chk12 (h:zn A L S k) (p:List UInt8×(List UInt8×Bool)) (hp:p∈A):uQ 2 (uG (p.1,xP L S p.1 p.2))=0:=by
 obtain ⟨h1,h2⟩:=h.nm p hp
 have h3:=good_mail12 h p.1
 have h4:((xc S p.1).map yf).length≤6:=by rw [List.length_map]; exact Nat.le_trans (ZV S p.1) h.grp.few
 have h5:yx ((xc S p.1).map yf)=true:=XE fun g hg=>by
  obtain ⟨q,hq,rfl⟩:=List.mem_map.1 (jW hg)
  exact h.grp.named q hq
 have h6:yh ((xc S p.1).map yf)=true:=ZO (vc h.grp.rise p.1)
 unfold uQ
 dsimp only
 rw [if_neg (by decide)]
 show zI [zI [zi (Y9 2) 6,zi (zh (yf p.1).data.toList) 10,zi (yj (yf p.2.1).data.toList) 4],zi (fj (yf (yM L p.1))) 11,zi (decide (((xc S p.1).map yf).length≤6)) 7,zi (yx ((xc S p.1).map yf)) 10,zi (yh ((xc S p.1).map yf)) 9]=0
 rw [zT,zT,h1,h2,h3,h5,h6,decide_eq_true h4]
 rfl
theorem Z5 (A:zu) (L:zl) (S:zo):(zm A L S).map uG=A.map fun p=>uG (p.1,xP L S p.1 p.2):=by
 unfold zm
 rw [List.map_map]
 rfl
theorem Y3:∀ {l:List Us},(∀ u∈l,uQ 2 u=0)→vq l=0
 | [],_=>rfl
 | u::l,h=>by
  unfold vq
  rw [if_pos (h u (List.mem_cons_self ..))]
  exact Y3 fun x hx=>h x (List.mem_cons_of_mem _ hx)
theorem fD (G:List ByteArray):∀ (l pre:List Us),(∀ u∈l,u.gs.all (fun g=>ft (qi G) g.data.toList)=true)→(pre++l).Pairwise (fun u v=>u.ml.data.toList≠[]→v.ml.data.toList≠u.ml.data.toList)→xt G pre l=0
 | [],_,_,_=>rfl
 | u::l,pre,h1,h2=>by
  obtain ⟨_,_,p3⟩:=List.pairwise_append.1 h2
  have h0:vp G pre u=0:=by
   unfold vp
   rw [if_pos (h1 u (List.mem_cons_self ..)),if_neg]
   rw [Bool.not_eq_true,List.any_eq_false]
   intro v hv hc
   rw [Bool.and_eq_true,Bool.not_eq_true',beq_eq_false_iff_ne,beq_iff_eq] at hc
   exact p3 v hv u (List.mem_cons_self ..) (by rw [← hc.2]; exact hc.1) hc.2
  show (if vp G pre u=0 then xt G (pre++[u]) l else vp G pre u)=0
  rw [if_pos h0]
  exact fD G l (pre++[u]) (fun x hx=>h1 x (List.mem_cons_of_mem _ hx)) (by rw [List.append_assoc]; exact h2)
theorem good_of12 (h:zn A L S k):jq ((zm A L S).map uG) ((zc S).map yf)=0:=by
 have h1:vq ((zm A L S).map uG)=0:=Y3 fun u hu=>by
  rw [Z5] at hu
  obtain ⟨p,hp,rfl⟩:=List.mem_map.1 hu
  exact good_chk12 h p hp
 have h2:yh (((zm A L S).map uG).map (·.nm))=true:=by
  have e:((zm A L S).map uG).map (·.nm)=(zc A).map yf:=by
   rw [Z5,List.map_map]
   unfold zc
   rw [List.map_map]
   rfl
  rw [e]
  exact ZO (zG.names h.rise)
 have h3:((zm A L S).map uG).length≤12:=by rw [List.length_map,jT]; exact h.few
 have h4:yx ((zc S).map yf)=true:=XE fun n hn=>by
  obtain ⟨q,hq,rfl⟩:=List.mem_map.1 hn
  exact h.grp.named q hq
 have h5:yh ((zc S).map yf)=true:=ZO (zG.names h.grp.rise)
 have h6:((zc S).map yf).length≤6:=by
  rw [List.length_map]
  unfold zc
  rw [List.length_map]
  exact h.grp.few
 have h7:xt ((zc S).map yf) [] ((zm A L S).map uG)=0:=by
  refine fD _ _ _ (fun u hu=>?_) ?_
  ·
   rw [Z5] at hu
   obtain ⟨p,hp,rfl⟩:=List.mem_map.1 hu
   rw [List.all_eq_true]
   intro g hg
   obtain ⟨x,hx,rfl⟩:=List.mem_map.1 (show g∈(xc S p.1).map yf from hg)
   rw [bl_tx12,zT,qw]
   exact jW hx
  ·
   rw [List.nil_append,Z5]
   refine List.pairwise_map.2 (List.Pairwise.imp (fun {p q} hpq=>?_) h.rise)
   show (yf (yM L p.1)).data.toList≠[]→(yf (yM L q.1)).data.toList≠(yf (yM L p.1)).data.toList
   rw [zT,zT]
   intro hne he
   obtain ⟨M,hM⟩:=h.mir
   have hp:yE L p.1=true:=by
    cases hh:yE L p.1 with
    | true=>rfl
    | false=>exact absurd (xm hh) hne
   have hq:yE L q.1=true:=by
    cases hh:yE L q.1 with
    | true=>rfl
    | false=>exact absurd (he ▸ xm hh) hne
   have m1:=(hM.iff _ _).1 (vm hp)
   have m2:=(hM.iff _ _).1 (vm hq)
   rw [he] at m2
   have e:=Qp hM.rm m1 m2
   rw [e] at hpq
   rw [zA] at hpq
   cases hpq
 unfold jq XB
 rw [h1,h2,decide_eq_true (show ((((zm A L S).map uG).length:Nat):Int)≤12 by omega),h4,h5,if_pos h6,h7]
 rfl
end
end Go.Proofs.YteegkoicalbkbaaGreatDoor
namespace Go.Proofs.YteegkoicalbkbaaGreatDoor
open Go.RowKit Go.Maps Go.Sort Go.Shelf

def Ju (w:World) (B:Nat) (bs:List UInt8) (e:Ending) (w':World):Prop:=e=.returned (.pointer (some ⟨B,0,none⟩))∧NW6 w B bs w'
theorem NW6.byte12 {w W:World} {B:Nat} {bs:List UInt8} (xi:Int) (x:Nat) (h:NW6 w B bs W) (ex:xi=x) (hx:x<256) (hr:bs.length≤500000) :
  Calls Tryz.prog 79 #[.pointer (some ⟨B,0,none⟩),.int .u8 xi] W (Ju w B (bs++le x 1)):=by
 subst ex
 obtain ⟨hB,⟨v,hw,hv⟩,ht⟩:=h
 exact (ff B v bs x W hw hx (by omega)).mono fun e w' ⟨he,hg⟩=>⟨he,hg.nw6 hB hv ht⟩
theorem NW6.two12 {w W:World} {B:Nat} {bs:List UInt8} (xi:Int) (x:Nat) (h:NW6 w B bs W) (ex:xi=x) (hx:x<65536) (hr:bs.length≤500000) :
  Calls Tryz.prog 113 #[.pointer (some ⟨B,0,none⟩),.int .u16 xi] W (Ju w B (bs++le x 2)):=by
 subst ex
 obtain ⟨hB,⟨v,hw,hv⟩,ht⟩:=h
 exact (jw B v bs x W hw hx (by omega)).mono fun e w' ⟨he,hg⟩=>⟨he,hg.nw6 hB hv ht⟩
theorem NW6.row12 {w W:World} {B:Nat} {bs:List UInt8} {b c:Nat} {A:Option Addr} (ss:List ByteArray) (h:NW6 w B bs W) (ho:W.ownsRow b 9 1 (.slice A ss.length c) ss.length (xZ ss)) (hl:ss.length≤65535) (hs:∀ s∈ss,s.size≤65535) (hr:bs.length≤500000) :
  Calls Tryz.prog 179 #[.pointer (some ⟨B,0,none⟩),.slice A ss.length c] W (Ju w B (bs++rowB ss)):=by
 obtain ⟨hB,⟨v,hw,hv⟩,ht⟩:=h
 obtain ⟨f1,_,f3,f4⟩:=owns_facts6 ho rfl
 refine (Xr B v bs A ss.length c ss W hw f3 f4 (by omega) f1 (fun hne a ha=>?_) hs (by omega)).mono fun e w' ⟨he,hg⟩=>⟨he,hg.nw6 hB hv ht⟩
 rcases ho.2 with ⟨h0,h1⟩ | ⟨g,cap,cur,hv',_,hg,_⟩
 ·
  exact absurd (List.eq_nil_of_length_eq_zero h1) hne
 ·
  injection hv' with hA _ _
  rw [hA] at ha
  injection ha with ha
  subst ha
  rintro (he | he)
  ·
   have he':g=B:=he
   subst he'
   have:=hw.1.symm.trans hg
   simp at this
  ·
   rcases hw.2.2 with ⟨hv2,_⟩ | ⟨g',cap',cur',hv2,_,hg',_⟩
   ·
    rw [hv2] at he; simp [Value.ownBlock] at he
   ·
    rw [hv2] at he
    have:g'=g:=by simpa [Value.ownBlock] using he
    subst this
    have:=hg'.symm.trans hg
    simp at this

theorem plU_us12 (R:yT W11):qZ (R.map us11)=Uy R:=by
 unfold qZ Uy
 rw [List.map_map]
 refine List.map_congr_left fun q _=>?_
 show ((yf q.1).data.toList,(⟨q.2.hs.data.toList,q.2.ml.data.toList,q.2.dis,qi (q.2.gs.map yf)⟩:U11))=(q.1,q.2.u)
 rw [zT,bl_tx12]
 rfl
theorem enc_cells12 (N:List (List UInt8)):N.map encStr=xZ (N.map yf):=by
 unfold xZ
 rw [List.map_map]
 rfl
section
variable {w0 w:World} {D P M G:Nat} {A:zu} {L:zl} {S:zo} {k:Nat}
theorem FM (ho:zt w0 w D P M G A L S) (hg:zn A L S k):Calls Tryz.prog 368 #[.pointer (some ⟨D,0,none⟩)] w fun e w' =>
  ∃ Aa c l,e=.returned (.slice Aa l.length c)∧RdU7 w' Aa l∧(∀ u∈l,u.Ok w')∧qZ l=zm A L S∧Below w.heap.size w w':=by
 refine (Fi ho hg).mono fun e w' ⟨v,R,he,hr,hp,hb⟩=>?_
 have hs:=short11 hg
 have hr0:=hr.low (Nat.zero_le _)
 obtain ⟨Aa,c,rfl⟩:=hr0.rw.us.shape
 obtain ⟨h1,h2⟩:=rd_us11 hr0.rw.us
 refine ⟨Aa,c,R.map us11,by rw [← h1]; exact he,h2,fun u hu=>?_,by rw [plU_us12]; exact hp,hb⟩
 obtain ⟨q,hq,rfl⟩:=List.mem_map.1 hu
 have hm:(q.1,q.2.u)∈zm A L S:=by rw [← hp]; exact List.mem_map.2 ⟨q,hq,rfl⟩
 have a2:=hs.hs _ hm
 have a3:=hs.ml _ hm
 exact us11_ok (hr0.2 q hq) (hs.nm _ hm) (by rw [← zx]; exact a2) (by rw [← zx]; exact a3) (hs.gs _ hm)
theorem V7 (ho:zt w0 w D P M G A L S) (hg:zn A L S k):Calls Tryz.prog 369 #[.pointer (some ⟨D,0,none⟩)] w fun e w' =>
  ∃ Aa c,e=.returned (.slice Aa ((zc S).map yf).length c)∧w'.ownsRow 0 9 1 (.slice Aa ((zc S).map yf).length c) ((zc S).map yf).length (xZ ((zc S).map yf))∧Below w.heap.size w w':=by
 refine (XC ho hg.grp).mono fun e w' ⟨v,he,hr,hb⟩=>?_
 have hr0:=zy hr (Nat.zero_le _)
 obtain ⟨Aa,c,rfl⟩:=yI hr0
 rw [enc_cells12] at hr0
 refine ⟨Aa,c,by rw [List.length_map]; exact he,?_,hb⟩
 rw [List.length_map]
 exact hr0

set_option maxRecDepth 100000 in
theorem VY (ho:zt w0 w D P M G A L S) (hg:zn A L S k) (h5:vY w) :
  Calls Tryz.prog 354 #[.pointer (some ⟨D,0,none⟩)] w (qJ w (V5 (zm A L S) (zc S))):=by
 have hz:=good_of12 hg
 have hmay:=may12 hz
 have HAL:Hid (Calls Tryz.prog 368 #[.pointer (some ⟨D,0,none⟩)] w fun e w'=>∃ Aa c l,e=.returned (.slice Aa l.length c)∧RdU7 w' Aa l∧(∀ u∈l,u.Ok w')∧l.map xw=(zm A L S).map uG∧Below w.heap.size w w') :=
  (FM ho hg).mono fun e w' ⟨Aa,c,l,h1,h2,h3,h4,h5⟩=>⟨Aa,c,l,h1,h2,h3,by rw [← usOf_plU12,h4],h5⟩
 have HGR:Hid (∀ W,Below w.heap.size w W→Calls Tryz.prog 369 #[.pointer (some ⟨D,0,none⟩)] W fun e w'=>∃ Aa c,e=.returned (.slice Aa ((zc S).map yf).length c)∧w'.ownsRow 0 9 1 (.slice Aa ((zc S).map yf).length c) ((zc S).map yf).length (xZ ((zc S).map yf))∧Below W.heap.size W w'):=fun W hb=>V7 (ho.later hb) hg
 have H5:=za h5
 have hgz:=hmay.sizes
 have hg6:=hmay.gfew
 unfold V5
 generalize (zc S).map yf=Gs at *
 have HCH:Hid (∀ l:List Us,l.map xw=(zm A L S).map uG→l.length≤12∧(∀ u∈l,uQ 2 u=0)∧folB ((zm A L S).map uG) Gs=folB l Gs):=fun l he=>by
  have m2:May12 l Gs:=may12 (by rw [← Qy,he]; exact hz)
  exact ⟨m2.few,m2.all,by rw [← he,folB_nrm12]⟩
 clear hz hmay h5 ho hg
 generalize (zm A L S).map uG=T at *
 generalize folB T Gs=out at *
 have HGZ:Hid (∀ g∈Gs,g.size≤65535):=fun g h=>Nat.le_trans (hgz g h) (by decide)
 have HRL:Hid ((rowB Gs).length≤1000):=by
  have:=uW hgz
  show (le Gs.length 2++xj Gs).length≤1000
  rw [List.length_append,yi]
  omega
 obtain ⟨m,hm⟩:∃ m,m=Gs.length:=⟨_,rfl⟩
 have HMG:=za hm
 rw [← hm] at HGR hg6
 clear hm hgz
 go_enter Tryz.func354,Tryz.ntmps354
 go_wp2_with fail
 with_reducible refine HAL.out.mono ?_
 rintro e w1 ⟨Aa,c,l,rfl,hu,hok,hse,hb⟩
 obtain ⟨hfew,hck,hfo⟩:=HCH.out l hse
 obtain ⟨n,hn⟩:∃ n,n=l.length:=⟨_,rfl⟩
 have HLN:Hid (n=l.length):=hn
 have HU:=za hu
 have HOK:=za hok
 have HCK:=za hck
 have HB1:=za hb
 have HSH:Hid (out=le 2 1++rowB Gs++le l.length 2++l.flatMap (ZK 2)):=by show out=_; rw [hfo]; unfold folB; simp only [List.append_assoc]
 have hbl:∀ k,((l.take k).flatMap (ZK 2)).length≤137 * 12:=fun k=>by
  have:=jv (l:=l.take k) (fun q hq=>hck q (List.mem_of_mem_take hq))
  have h2:(l.take k).length≤l.length:=by rw [List.length_take]; omega
  omega
 have HBL:=za hbl
 rw [← hn] at hfew HSH ⊢
 have HM1:=za (H5.out.later hb)
 clear hu hok hck hse hfo hb HAL HCH hn hbl H5
 have HZ:=za (NW6.zero w1)
 go_wp2_with fail
 with_reducible refine (NW6.byte12 _ 2 HZ.out (by simp) (by omega) (by simp)).mono ?_
 rintro e w2 ⟨rfl,h1⟩
 rw [List.nil_append] at h1
 have H1:=za h1
 have HG2:=za (HGR.out w2 (z7 HB1.out h1.2.2))
 clear h1 HZ HGR
 go_wp2_with fail
 with_reducible refine HG2.out.mono ?_
 rintro e w3 ⟨Ag,cg,rfl,hog,hb⟩
 have H2:=za (H1.out.below hb)
 have HOG:=za hog
 clear hb hog HG2 H1
 have HRC:Hid (Calls Tryz.prog 179 #[.pointer (some ⟨w1.heap.size,0,none⟩),.slice Ag m cg] w3 (Ju w1 w1.heap.size (le 2 1++rowB Gs))):=by
  have ho:=HOG.out
  rw [HMG.out] at ho ⊢
  exact NW6.row12 Gs H2.out ho (by rw [← HMG.out]; omega) HGZ.out (by rw [yi]; omega)
 go_wp2_with fail
 with_reducible refine HRC.out.mono ?_
 rintro e w4 ⟨rfl,h1⟩
 have H3:=za h1
 clear h1 HRC H2 HOG
 go_wp2_with fail
 with_reducible refine (NW6.two12 _ n H3.out (by go_num) (by omega) (by have:=HRL.out; rw [List.length_append,yi]; omega)).mono ?_
 rintro e w5 ⟨rfl,h1⟩
 have H4:=za h1
 have hpre:(le 2 1++rowB Gs++le n 2).length≤2000:=by have:=HRL.out; rw [List.length_append,List.length_append,yi,yi]; omega
 clear h1 H3
 generalize le 2 1++rowB Gs++le n 2=pre at *
 generalize hB:w1.heap.size=BW at *
 have HBW:=za hB
 clear hB
 go_wp2
 go_loopg [6,21] n (fun gg _ s21 wr=>∃ k:Nat,k≤n∧n - k≤gg∧s21=.int .i64 k∧Hid (NW6 w1 BW (pre++(l.take k).flatMap (ZK 2)) wr))
 case atStart=>exact ⟨0,Nat.zero_le _,by omega,rfl,by show NW6 w1 BW (pre++[]) w5; rw [List.append_nil]; exact H4.out⟩
 case round =>
  clear H4
  obtain ⟨k,hk,hg,rfl,HW⟩:=hrel
  have hbw:=HW.out.2.2
  by_cases hlt:k<n
  ·
   have hltz:(k:Int)<(n:Int):=by omega
   have hkl:k<l.length:=HLN.out ▸ hlt
   obtain ⟨b,off,rfl,hb,hc⟩:=(HU.out.later hbw) (by intro e; rw [e] at hkl; exact absurd hkl (Nat.not_lt_zero _))
   have c0:wr.cell? ⟨b,off+k * 5,none⟩=some (.string l[k].nm):=hc k hkl 0 _ rfl
   have c1:wr.cell? ⟨b,off+k * 5+1,none⟩=some (.string l[k].hs):=hc k hkl 1 _ rfl
   have c2:wr.cell? ⟨b,off+k * 5+2,none⟩=some (.string l[k].ml):=hc k hkl 2 _ rfl
   have c3:wr.cell? ⟨b,off+k * 5+3,none⟩=some (.bool l[k].dis):=hc k hkl 3 _ rfl
   have c4:wr.cell? ⟨b,off+k * 5+4,none⟩=some (.slice l[k].ga l[k].gs.length l[k].gc):=hc k hkl 4 _ rfl
   have hb1:=zb (Below.refl wr.heap.size wr) (.cells #[.string l[k].nm,.string l[k].hs,.string l[k].ml,.bool l[k].dis,.slice l[k].ga l[k].gs.length l[k].gc] 192)
   have hch:=HCK.out l[k] (List.getElem_mem hkl)
   have hlen:(pre++(l.take k).flatMap (ZK 2)).length≤100000:=by have:=HBL.out k; rw [List.length_append]; omega
   have HP:Hid (Calls Tryz.prog 310 #[.pointer (some ⟨BW,0,none⟩),.int .i64 2,.agg #[.string l[k].nm,.string l[k].hs,.string l[k].ml,.bool l[k].dis,.slice l[k].ga l[k].gs.length l[k].gc]] (wr.alloc (.cells #[.string l[k].nm,.string l[k].hs,.string l[k].ml,.bool l[k].dis,.slice l[k].ga l[k].gs.length l[k].gc] 192)) fun e w'=>e=.returned (.bool true)∧NW6 w1 BW (pre++(l.take (k+1)).flatMap (ZK 2)) w'):=by
    refine (JU w1 BW _ 2 l[k] _ (HW.out.below hb1) (HOK.out _ (List.getElem_mem hkl)) HM1.out hlen).mono fun e w' h=>?_
    rcases h with ⟨_,he,hn⟩ | ⟨h0,_⟩
    ·
     refine ⟨he,?_⟩
     rw [List.take_succ_eq_append_getElem hkl,List.flatMap_append,List.flatMap_singleton,← List.append_assoc]
     exact hn
    ·
     exact absurd hch h0
   clear hc hb hb1 hch hlen hbw HW
   generalize l[k].nm=nm at *
   generalize l[k].hs=hs at *
   generalize l[k].ml=ml at *
   generalize l[k].dis=dis at *
   generalize l[k].ga=ga at *
   generalize l[k].gs.length=gl at *
   generalize l[k].gc=gc at *
   go_wp2_with (go_at_call 310; (with_reducible refine HP.out.mono ?_); rintro e w6 ⟨rfl,h4⟩; have H5:=za h4; clear h4)
   go_roundg (n - (k+1))
   case measure=>omega
   case rel=>exact ⟨k+1,by omega,by omega,by go_num,H5⟩
  ·
   have hltz:¬ (k:Int)<(n:Int):=by omega
   obtain rfl:k=n:=by omega
   have hw:=HW.out
   rw [List.take_of_length_le (by have:=HLN.out; omega),← HSH.out] at hw
   have hol:out.length≤1000000:=by
    have:=HBL.out k
    rw [List.take_of_length_le (by have:=HLN.out; omega)] at this
    rw [HSH.out,List.length_append]
    omega
   have HBY:=za (hw.bytes hol)
   have HBB:=za (z7 HB1.out hw.2.2)
   have hszb:=HBB.out.size
   clear hw hol hbw HW
   go_wp2_with fail
   with_reducible refine HBY.out.mono ?_
   rintro e w7 ⟨v7,rfl,ho,hn,hb⟩
   have HF:Hid (qJ w out (.returned v7) w7):=⟨v7,rfl,ho,fun j hj=>Nat.le_trans hszb (hn j hj),z7 HBB.out hb⟩
   clear ho hn hb HBY
   go_wp2
   go_ret
   exact HF.out
end

end Go.Proofs.YteegkoicalbkbaaGreatDoor
namespace Go.Proofs.YteegkoicalbkbaaGreatDoor
open Go.RowKit Go.Maps
set_option linter.unusedVariables false

/-! ### no more than its users -/
theorem few12 {α:Type} [DecidableEq α]:∀ (l N:List α),l.Nodup→(∀ x∈l,x∈N)→l.length≤N.length
 | [],_,_,_=>Nat.zero_le _
 | x::l,N,hd,hs=>by
  have hx:x∈N:=hs x (List.mem_cons_self ..)
  have hd':=List.nodup_cons.1 hd
  have h:=few12 l (N.erase x) hd'.2 (fun y hy=>(List.mem_erase_of_ne (fun e=>hd'.1 (by subst e; exact hy))).2 (hs y (List.mem_cons_of_mem _ hy)))
  rw [List.length_erase_of_mem hx] at h
  have:=List.length_pos_of_mem hx
  rw [List.length_cons]
  omega
theorem JP {V:Type} {L:yT V} (h:zG L):(zc L).Nodup:=by
 unfold zc
 refine List.Pairwise.map _ (fun a b hab e=>?_) h
 rw [e,zA] at hab
 cases hab
theorem in_few12 {V V':Type} {X:yT V} {A:yT V'} (h:zG X) (hs:∀ x∈X,zz A x.1=true):X.length≤A.length:=by
 have:=few12 (zc X) (zc A) (JP h) (fun n hn=>by
  obtain ⟨x,hx,rfl⟩:=List.mem_map.1 hn
  exact yK.1 (hs x hx))
 simpa [zc] using this
theorem zn.trim {A:zu} {L:zl} {S:zo} {k:Nat} (h:zn A L S k):zn A L S 12:=by
 obtain ⟨M,hM⟩:=h.mir
 refine ⟨h.rise,h.few,h.nm,h.mir,h.all,h.has,?_,⟨h.grp.rise,h.grp.sets,h.grp.few,fun p hp=>?_,h.grp.named,h.grp.whos⟩,h.mem⟩
 ·
  exact Nat.le_trans (in_few12 (V:=List UInt8) (X:=L) hM.rl h.has) h.few
 ·
  refine Nat.le_trans (in_few12 (h.grp.sets p hp) (A:=A) fun x hx=>h.mem p.1 x.1 ?_) h.few
  unfold ue
  rw [qv h.grp.rise hp]
  exact xV.2 ⟨x,hx,rfl⟩

/-! ### a directory's blocks -/
def xg (D P M:Nat) (p q:Option Nat) (G:Nat) (pg:Option Nat) (T:zp) (i:Nat):Prop:=i=D∨i=P∨js M p q i∨jt G pg T i
section
variable {w0 W W':World} {D P M G:Nat} {A:zu} {p q pg:Option Nat} {L LM:zl} {T:zp}
theorem ye.foot_lt (h:ye W D P A M p q L LM G pg T) {i:Nat} (hi:xg D P M p q G pg T i):i<W.heap.size:=by
 rcases hi with rfl | rfl | hi | hi
 ·
  exact h.lt
 ·
  exact h.acc.lt
 ·
  exact fpM_lt h.idx hi
 ·
  exact fpG_lt h.grp hi
theorem ye.foot_ty (h:ye W D P A M p q L LM G pg T) {i:Nat} {c:Array Value} {X:TypeId} {fr:Nat×Nat} (hi:xg D P M p q G pg T i) (hb:W.heap[i]? = some (.cells c X fr)):X=240∨X=290∨X=278:=by
 rcases hi with rfl | rfl | hi | hi
 ·
  by_cases e:X=240
  ·
   exact .inl e
  ·
   exact absurd rfl (ul hb h.blk e)
 ·
  exact absurd rfl (ZC h.acc hb)
 ·
  by_cases e:X=290
  ·
   exact .inr (.inl e)
  ·
   exact absurd hi (Zq h.idx hb e)
 ·
  by_cases e:X=278
  ·
   exact .inr (.inr e)
  ·
   exact absurd hi (Zr h.grp hb e)
theorem ye.kept (h:ye W D P A M p q L LM G pg T) (ht:zg (fun i=>¬ xg D P M p q G pg T i) W W'):ye W' D P A M p q L LM G pg T :=
 ⟨(ht.block D h.lt (fun n=>n (.inl rfl))).trans h.blk,h.acc.kept (ht.block P h.acc.lt (fun n=>n (.inr (.inl rfl)))),h.idx.turnsF ht (fun i hi n=>n (.inr (.inr (.inl hi)))),h.grp.turnsF ht (fun i hi n=>n (.inr (.inr (.inr hi)))),h.sep1,h.sep2,h.sep3⟩
end

section
variable {w0 W W' w2:World} {D1 P1 M1 G1 D2 P2 M2 G2:Nat} {A1 A2:zu} {L1 L2:zl} {S1 S2:zo} {k:Nat}
end
end Go.Proofs.YteegkoicalbkbaaGreatDoor
namespace Go.Proofs.YteegkoicalbkbaaGreatDoor
open Go.RowKit Go.Maps

def upV13 (h:List UInt8):U11:=⟨h,[],false,[]⟩
def Xc (L:zl):xo:=L.map fun q=>(q.1,upV13 q.2)
structure xe (L:zl):Prop where
 rise:uy L
 few:L.length≤12
 all:∀ q∈L,zh q.1=true∧yj q.2=true
theorem xe.nil:xe []:=⟨List.Pairwise.nil,Nat.zero_le _,fun _ h=>nomatch h⟩

variable {L:zl}
/-! ### rows of both kinds -/
theorem ins13 (x:List UInt8×List UInt8):∀ L:zl,insE x L=QU x L
 | []=>rfl
 | y::r=>by
  unfold insE QU
  rw [ins13 x r]
theorem put13 (L:zl) (n h:List UInt8):vl L n h=yR L n h:=by
 unfold vl yR
 rw [ins13]
 rfl
theorem up_put13 (L:zl) (n h:List UInt8):Xc (vl L n h)=yR (Xc L) n (upV13 h):=by
 rw [put13]
 exact map_putV upV13 L n h
theorem up_has13 (L:zl) (n:List UInt8):zz (Xc L) n=yE L n:=by
 unfold zz Xc yE
 rw [List.any_map]
 rfl
theorem up_len13 (L:zl):(Xc L).length=L.length:=List.length_map _
theorem up_names13 (L:zl):zc (Xc L)=L.map (·.1):=by
 unfold zc Xc
 rw [List.map_map]
 rfl
theorem xe.up (h:xe L):zG (Xc L):=by
 unfold zG Xc
 rw [List.pairwise_map]
 exact h.rise

/-! ### deeds -/
theorem cr_up13 (L:zl) (n h:List UInt8):dcrE (Xc L) n h=crE L n h∧dcrL (Xc L) n h=Xc (crL L n h):=by
 have e:dcrE (Xc L) n h=crE L n h:=by
  unfold dcrE crE crF11
  rw [up_has13,up_len13]
  by_cases hl:12≤L.length
  ·
   rw [decide_eq_true hl,decide_eq_false (show ¬ ((L.length:Int)+1≤12) by omega)]
   cases zh n <;> cases yj h <;> cases yE L n <;> rfl
  ·
   rw [decide_eq_false hl,decide_eq_true (show ((L.length:Int)+1≤12) by omega)]
   cases zh n <;> cases yj h <;> cases yE L n <;> rfl
 refine ⟨e,?_⟩
 unfold dcrL crL
 rw [e]
 split
 ·
  exact (up_put13 L n h).symm
 ·
  rfl
theorem seE13 {L:zl} {n h:List UInt8} (e:seE L n h=0):zh n=true∧yj h=true∧yE L n=true:=by
 obtain ⟨e1,e⟩:=ym e
 obtain ⟨e2,e⟩:=ym e
 obtain ⟨e3,_⟩:=ym e
 exact ⟨(xG (by decide)).1 e1,(xG (by decide)).1 e2,(xG (by decide)).1 e3⟩
theorem xe.create (h:xe L) (n s:List UInt8):xe (crL L n s):=by
 unfold crL
 split
 ·
  next e =>
  obtain ⟨e1,e⟩:=ym e
  obtain ⟨e2,e⟩:=ym e
  obtain ⟨e3,e⟩:=ym e
  obtain ⟨e4,_⟩:=ym e
  have h1:=(xG (by decide)).1 e1
  have h2:=(xG (by decide)).1 e2
  have h4:=(xG (by decide)).1 e4
  rw [decide_eq_true_eq] at h4
  refine ⟨uK h.rise n s,?_,fun q hq=>?_⟩
  ·
   rw [vI h.rise]
   split <;> omega
  ·
   unfold vl at hq
   rcases ZY.1 hq with rfl | hq
   ·
    exact ⟨h1,h2⟩
   ·
    exact h.all q (yC.1 hq).1
 ·
  exact h
theorem xe.set (h:xe L) (n s:List UInt8):xe (seL L n s):=by
 unfold seL
 split
 ·
  next e =>
  obtain ⟨h1,h2,h3⟩:=seE13 e
  refine ⟨uK h.rise n s,?_,fun q hq=>?_⟩
  ·
   rw [vI h.rise,if_pos h3]
   exact h.few
  ·
   unfold vl at hq
   rcases ZY.1 hq with rfl | hq
   ·
    exact ⟨h1,h2⟩
   ·
    exact h.all q (yC.1 hq).1
 ·
  exact h
theorem xe.delete (h:xe L) (n:List UInt8):xe (deL L n):=by
 unfold deL
 split
 ·
  refine ⟨uL h.rise n,?_,fun q hq=>h.all q (yC.1 hq).1⟩
  exact Nat.le_trans (List.length_filter_le _ _) h.few
 ·
  exact h

/-! ### what may be -/
theorem chk1_13 {q:List UInt8×List UInt8} (h1:zh q.1=true) (h2:yj q.2=true):uQ 1 (xy q)=0:=by
 have b:fk (xy q)=true:=by
  unfold fk sameU upU xy
  simp
 unfold uQ
 rw [if_pos rfl,b]
 show zI [zI [zi (Y9 1) 6,zi (zh (tx7 q.1).data.toList) 10,zi (yj (tx7 q.2).data.toList) 4],zi true 12]=0
 rw [xz,xz,h1,h2]
 decide
theorem chk2_13 {q:List UInt8×List UInt8} (h1:zh q.1=true) (h2:yj q.2=true):uQ 2 (xy q)=0:=by
 unfold uQ
 rw [if_neg (by decide)]
 show zI [zI [zi (Y9 2) 6,zi (zh (tx7 q.1).data.toList) 10,zi (yj (tx7 q.2).data.toList) 4],zi (fj ⟨#[]⟩) 11,zi (decide (([]:List ByteArray).length≤6)) 7,zi (yx []) 10,zi (yh []) 9]=0
 rw [xz,xz,h1,h2]
 decide
theorem xe.chk (h:xe L):∀ q∈L,uQ 1 (xy q)=0:=fun q hq=>chk1_13 (h.all q hq).1 (h.all q hq).2
theorem plU13 (L:zl):qZ (L.map xy)=Xc L:=by
 unfold qZ Xc
 rw [List.map_map]
 refine List.map_congr_left fun q _=>?_
 show ((tx7 q.1).data.toList,(⟨(tx7 q.2).data.toList,[],false,[]⟩:U11))=(q.1,upV13 q.2)
 rw [xz,xz]
 rfl
theorem xe.of (h:xe L):jq (L.map xy) []=0:=by
 have h1:vq (L.map xy)=0:=Y3 fun u hu=>by
  obtain ⟨q,hq,rfl⟩:=List.mem_map.1 hu
  exact chk2_13 (h.all q hq).1 (h.all q hq).2
 have h2:yh ((L.map xy).map (·.nm))=true:=by
  refine ZP ?_
  rw [List.map_map,List.pairwise_map]
  refine List.Pairwise.imp (fun {a b} hab=>?_) h.rise
  show bytesBefore (tx7 a.1).data.toList (tx7 b.1).data.toList=true
  rw [xz,xz]
  exact hab
 have h3:((((L.map xy).length:Nat):Int)≤12):=by have:=h.few; rw [List.length_map]; omega
 have h7:xt [] [] (L.map xy)=0:=by
  refine fD _ _ _ (fun u hu=>?_) ?_
  ·
   obtain ⟨q,_,rfl⟩:=List.mem_map.1 hu
   rfl
  ·
   rw [List.nil_append,List.pairwise_map]
   exact List.Pairwise.imp (fun {a b} _ hne=>absurd rfl hne) h.rise
 unfold jq XB
 rw [h1,h2,decide_eq_true h3,h7]
 rfl

/-! ### bytes -/

/-! ### taken down -/
end Go.Proofs.YteegkoicalbkbaaGreatDoor
namespace Go.Proofs.YteegkoicalbkbaaGreatDoor
open Go.RowKit Go.Maps Go.Sort Go.Shelf

def Made13 (w:World) (T:xo) (e:Ending) (w':World):Prop :=
 ∃ D P M G A L S k,e=.returned (.pointer (some ⟨D,0,none⟩))∧zt w w' D P M G A L S∧zn A L S k∧zm A L S=T∧zc S=[]∧k≤200

theorem jA {w:World} {base g n cap size:Nat} {e:TypeId} {xs:List Value} (h:w.ownsRow base e size (.slice (some ⟨g,0,none⟩) n cap) n xs) (j:Nat) (u:Value) (hu:xs[j]? = some u):(w.setCell ⟨g,j,none⟩ u).ownsRow base e size (.slice (some ⟨g,0,none⟩) n cap) n xs:=by
 have h2:=(h.stored j u).1
 obtain ⟨hj,rfl⟩:=List.getElem?_eq_some_iff.1 hu
 rwa [List.set_getElem_self] at h2
section
variable {w:World} {base g n cap:Nat} {L:zl}
theorem um (k:Nat) (hk:k<L.length) (j:Nat) (hj:j<5):(vR (L.map xy))[k * 5+j]? = (xy L[k]).cells[j]? := by
 rw [Xd _ k j (by rw [List.length_map]; exact hk) hj,List.getElem_map]
theorem bare_at13 (h:w.ownsRow base 192 5 (.slice (some ⟨g,0,none⟩) n cap) n (vR (L.map xy))) (hn:n=L.length) (k:Nat) (hk:k<L.length) :
  w.cell? ⟨g,k * 5,none⟩=some (.string (tx7 L[k].1))∧w.cell? ⟨g,k * 5+1,none⟩=some (.string (tx7 L[k].2))∧w.cell? ⟨g,k * 5+2,none⟩=some (.string ⟨#[]⟩)∧w.cell? ⟨g,k * 5+3,none⟩=some (.bool false)∧w.cell? ⟨g,k * 5+4,none⟩=some (.slice none 0 0):=by
 have hc:∀ j,j<5→w.cell? ⟨g,k * 5+j,none⟩=(xy L[k]).cells[j]? := fun j hj=>(h.cellAt (k * 5+j) (by omega)).trans (um k hk j hj)
 exact ⟨hc 0 (by decide),hc 1 (by decide),hc 2 (by decide),hc 3 (by decide),hc 4 (by decide)⟩
theorem bare_put13 (h:w.ownsRow base 192 5 (.slice (some ⟨g,0,none⟩) n cap) n (vR (L.map xy))) (k:Nat) (hk:k<L.length) :
  (((((w.setCell ⟨g,k * 5,none⟩ (.string (tx7 L[k].1))).setCell ⟨g,k * 5+1,none⟩ (.string (tx7 L[k].2))).setCell ⟨g,k * 5+2,none⟩ (.string ⟨#[]⟩)).setCell ⟨g,k * 5+3,none⟩ (.bool false)).setCell ⟨g,k * 5+4,none⟩ (.slice none 0 0)).ownsRow base 192 5 (.slice (some ⟨g,0,none⟩) n cap) n (vR (L.map xy)) :=
 jA (jA (jA (jA (jA h (k * 5) _ (um k hk 0 (by decide))) (k * 5+1) _ (um k hk 1 (by decide))) (k * 5+2) _ (um k hk 2 (by decide))) (k * 5+3) _ (um k hk 3 (by decide))) (k * 5+4) _ (um k hk 4 (by decide))
end


set_option maxRecDepth 100000 in
theorem up13_calls {w0 w:World} {B:Nat} {L:zl} (h:fz w0 w B L) (hg:xe L) (h5:vY w) :
  Calls Tryz.prog 138 #[.pointer (some ⟨B,0,none⟩)] w (Made13 w (Xc L)):=by
 have HAL:Hid (Calls Tryz.prog 180 #[.pointer (some ⟨B,0,none⟩)] w fun e w'=>∃ v,e=.returned v∧w'.ownsRow w.heap.size 192 5 v L.length (vR (L.map xy))∧Below w.heap.size w w') :=
  h.allu.mono fun e w' ⟨v,he,hu,hb⟩=>⟨v,he,by rw [← JA]; exact hu,hb⟩
 have hnl:(L.map xy).length=L.length:=List.length_map _
 have HBO:Hid (∀ W,∀ u∈L.map xy,u.Ok W):=fun W u hu=>by
  obtain ⟨q,hq,rfl⟩:=List.mem_map.1 hu
  exact bare7_ok (h.all q hq)
 obtain ⟨n,hn⟩:∃ n,n=L.length:=⟨_,rfl⟩
 have HLN:Hid (n=L.length):=hn
 have hn12:n≤12:=by rw [hn]; exact h.few
 have HOF:Hid (∀ A c W,RdU7 W A (L.map xy)→vY W→Calls Tryz.prog 111 #[.slice A n c,.slice none 0 0] W fun e w'=>∃ D P M G A' L' S k,e=.returned (.tuple #[.pointer (some ⟨D,0,none⟩),.int .i64 0])∧zt W w' D P M G A' L' S∧zn A' L' S k∧zm A' L' S=Xc L∧zc S=[]∧k≤200):=fun A c W hr hm=>by
  refine (nof11_calls A none c 0 n 0 (L.map xy) [] W (by rw [hn]; exact hnl.symm) (by omega) hr (HBO.out W) rfl (by omega) (fun h=>absurd rfl h) (fun _ h=>nomatch h) hm).mono fun e w' hh=>?_
  unfold Of11 at hh
  rcases hh with ⟨h0,_⟩ | ⟨_,D,P,M,Gr,A',L',S,k,he,ho,hs,hk⟩
  ·
   exact absurd hg.of h0
  ·
   exact ⟨D,P,M,Gr,A',L',S,k,he,ho,hs.1.1,by rw [hs.1.2.1,plU13],hs.1.2.2,hk⟩
 have HM:=za h5
 rw [← hn] at HAL
 clear h hg h5 hn hnl HBO
 generalize hT:Xc L=T at *
 clear hT
 go_enter Tryz.func138,Tryz.ntmps138
 go_wp2_with fail
 with_reducible refine HAL.out.mono ?_
 rintro e w1 ⟨v,rfl,hu,hb⟩
 obtain ⟨A,c,rfl⟩:=yI (zy hu (Nat.zero_le _))
 have HU1:=za hu
 have HB1:=za hb
 clear hu hb HAL
 go_wp2
 go_loopg [4,5,14] n (fun gg _ _ s14 wr=>∃ k:Nat,k≤n∧n - k≤gg∧s14=.int .i64 k∧Hid (Below w.heap.size w wr)∧Hid (wr.ownsRow w.heap.size 192 5 (.slice A n c) n (vR (L.map xy))))
 case atStart=>exact ⟨0,Nat.zero_le _,by omega,rfl,HB1.out,HU1.out⟩
 case round =>
  clear HU1 HB1
  obtain ⟨k,hk,hg,rfl,HW,HO⟩:=hrel
  by_cases hlt:k<n
  ·
   have hltz:(k:Int)<(n:Int):=by omega
   have hkl:k<L.length:=HLN.out ▸ hlt
   obtain ⟨g,cap,hv,hgb,_⟩:=HO.out.form (by omega)
   injection hv with hA _ hc
   subst hA hc
   obtain ⟨c0,c1,c2,c3,c4⟩:=bare_at13 HO.out HLN.out k hkl
   have hba:=zb (Below.refl wr.heap.size wr) (.cells #[.string (tx7 L[k].1),.string (tx7 L[k].2),.string ⟨#[]⟩,.bool false,.slice none 0 0] 192)
   have HUP:Hid (∀ W,Calls Tryz.prog 181 #[.agg #[.string (tx7 L[k].1),.string (tx7 L[k].2),.string ⟨#[]⟩,.bool false,.slice none 0 0]] W fun e w'=>e=.returned (.agg #[.string (tx7 L[k].1),.string (tx7 L[k].2),.string ⟨#[]⟩,.bool false,.slice none 0 0])∧Below W.heap.size W w'):=fun W=>JB (xy L[k]) W
   have HNX:Hid (∀ W,Below (wr.alloc (.cells #[.string (tx7 L[k].1),.string (tx7 L[k].2),.string ⟨#[]⟩,.bool false,.slice none 0 0] 192)).heap.size (wr.alloc (.cells #[.string (tx7 L[k].1),.string (tx7 L[k].2),.string ⟨#[]⟩,.bool false,.slice none 0 0] 192)) W →
     (∀ j,W.frozen? ⟨g,j,none⟩=false)∧(W.cell? ⟨g,k * 5,none⟩=some (.string (tx7 L[k].1))∧W.cell? ⟨g,k * 5+1,none⟩=some (.string (tx7 L[k].2))∧W.cell? ⟨g,k * 5+2,none⟩=some (.string ⟨#[]⟩)∧W.cell? ⟨g,k * 5+3,none⟩=some (.bool false)∧W.cell? ⟨g,k * 5+4,none⟩=some (.slice none 0 0)) ∧
     Hid (Below w.heap.size w (((((W.setCell ⟨g,k * 5,none⟩ (.string (tx7 L[k].1))).setCell ⟨g,k * 5+1,none⟩ (.string (tx7 L[k].2))).setCell ⟨g,k * 5+2,none⟩ (.string ⟨#[]⟩)).setCell ⟨g,k * 5+3,none⟩ (.bool false)).setCell ⟨g,k * 5+4,none⟩ (.slice none 0 0))) ∧
     Hid ((((((W.setCell ⟨g,k * 5,none⟩ (.string (tx7 L[k].1))).setCell ⟨g,k * 5+1,none⟩ (.string (tx7 L[k].2))).setCell ⟨g,k * 5+2,none⟩ (.string ⟨#[]⟩)).setCell ⟨g,k * 5+3,none⟩ (.bool false)).setCell ⟨g,k * 5+4,none⟩ (.slice none 0 0)).ownsRow w.heap.size 192 5 (.slice (some ⟨g,0,none⟩) n c) n (vR (L.map xy)))):=fun W hb=>by
    have hb2:=z7 hba hb
    have ho2:=owns_turns HO.out (Nat.le_refl _) (zg.of_below hb2 (fun _=>False)) (fun _ _ f=>f)
    have hbw:=z7 HW.out hb2
    exact ⟨fun j=>ho2.frozenAt j,bare_at13 ho2 HLN.out k hkl,((((hbw.setCell (p:=⟨g,k * 5,none⟩) hgb _).setCell (p:=⟨g,k * 5+1,none⟩) hgb _).setCell (p:=⟨g,k * 5+2,none⟩) hgb _).setCell (p:=⟨g,k * 5+3,none⟩) hgb _).setCell (p:=⟨g,k * 5+4,none⟩) hgb _,bare_put13 ho2 k hkl⟩
   clear hba HO HW
   generalize tx7 L[k].1=nm at *
   generalize tx7 L[k].2=hs at *
   go_wp2_with (go_at_call 181; (with_reducible refine (HUP.out _).mono ?_); rintro e w6 ⟨rfl,h4⟩; obtain ⟨f0,⟨d0,d1,d2,d3,d4⟩,R1,R2⟩:=HNX.out w6 h4; have e0:=f0 (k * 5); have e1:=f0 (k * 5+1); have e2:=f0 (k * 5+2); have e3:=f0 (k * 5+3); have e4:=f0 (k * 5+4); clear f0 h4 HNX HUP)
   go_roundg (n - (k+1))
   case measure=>omega
   case rel=>exact ⟨k+1,by omega,by omega,by go_num,R1,R2⟩
  ·
   have hltz:¬ (k:Int)<(n:Int):=by omega
   obtain rfl:k=n:=by omega
   have HOF1:=za (HOF.out A c wr (owns_users HO.out (by rw [List.length_map]; exact HLN.out)) (HM.out.later HW.out))
   clear HO HOF
   go_wp2_with fail
   with_reducible refine HOF1.out.mono ?_
   rintro e w2 ⟨D,P,M,G,A',L',S,q,rfl,ho,hgd,ht,hnm,hq⟩
   have HF:Hid (Made13 w T (.returned (.pointer (some ⟨D,0,none⟩))) w2):=⟨D,P,M,G,A',L',S,q,rfl,ho.base HW.out,hgd,ht,hnm,hq⟩
   clear ho hgd ht hnm hq HOF1 HW HM
   go_wp2
   go_ret
   exact HF.out
end Go.Proofs.YteegkoicalbkbaaGreatDoor
namespace Go.Proofs.YteegkoicalbkbaaGreatDoor
open Go.RowKit Go.Maps Go.Sort Go.Shelf
set_option linter.unusedVariables false


section
variable {w0 w2 W W':World} {B:Nat} {E:zl} {D P M G:Nat} {A:zu} {L:zl} {S:zo} {p q pg:Option Nat} {LM:zl} {T:zp}
theorem XO {i:Nat} {c:Array Value} {X:TypeId} {fr:Nat×Nat} (hd:vh W B p E) (hi:p=some i) (hb:W.heap[i]? = some (.cells c X fr)):False:=by
 obtain ⟨es,clock,h1,_⟩:=hd.map i hi
 rw [h1] at hb
 cases hb
end

/-! ### deeds of both -/
def dL13 (kd:Nat) (E:zl) (a b:List UInt8):zl:=if kd % 3=0 then crL E a b else if kd % 3=1 then deL E a else seL E a b
theorem xe.deed {E:zl} (h:xe E) (kd:Nat) (a b:List UInt8):xe (dL13 kd E a b):=by
 unfold dL13
 split
 ·
  exact h.create a b
 ·
  split
  ·
   exact h.delete a
  ·
   exact h.set a b
section
variable {w0 W W':World} {B D:Nat} {E F:zl}
end
end Go.Proofs.YteegkoicalbkbaaGreatDoor
namespace Go.Proofs.YteegkoicalbkbaaGreatDoor
open Go.RowKit

theorem zj {a b c:World} (h:Below a.heap.size a b) (k:Below b.heap.size b c):Below a.heap.size a c:=h.trans (k.mono h.size)
theorem qf {a w:World} (h:Below a.heap.size a w):Below a.heap.size a w.drew:=h.drew
theorem Ja {a w:World} (h:Below a.heap.size a w) (q:Nat):Below a.heap.size a (w.drewN q):=⟨h.os,h.tape,h.output,h.size,h.block⟩
theorem ze {a w:World} (h:Below a.heap.size a w) (o:Obj):Below a.heap.size a (w.alloc o):=h.alloc h.size o
theorem still14 {a w:World} (h:zg (fun _=>False) a w):Below a.heap.size a w:=h.below (fun _ f=>f.elim)
theorem vC {a w:World} (h:Below a.heap.size a w):zg (fun _=>False) a w:=zg.of_below h _

def nams14:List (List UInt8):=[[99,114,101,97,116,101],[100,101,108,101,116,101],[115,101,116,104,97,115,104],[108,111,111,107,117,112],[108,105,115,116],[115,101,116,109,97,105,108],[100,105,115,97,98,108,101],[101,110,97,98,108,101],[114,101,110,97,109,101],[109,97,107,101],[100,114,111,112],[106,111,105,110],[108,101,97,118,101],[102,105,110,100],[109,101,109,98,101,114,115],[117,112,103,114,97,100,101],[97,100,118,101,114,116,105,115,101]]
def JL:List (List UInt8):=[[97,98],[97],[97,98],[97],[97],[97,98],[97],[97],[97,98],[97],[97],[97,98],[97,98],[97],[97],[],[110,114]]
def frms14:List Int:=[1,1,1,1,1,2,2,2,2,2,2,2,2,2,2,1,1]
def YM (k:Int):List UInt8:=if k<0 then [] else nams14.getD k.toNat []
def qX (k:Int):List UInt8:=if k<0 then [] else JL.getD k.toNat []
def vn (k:Int):Int:=if k<0 then 0 else frms14.getD k.toNat 0
theorem JN (k:Int):(qX k).length≤2:=by
 unfold qX
 split
 ·
  exact Nat.zero_le _
 ·
  have hall:∀ s∈JL,s.length≤2:=by decide
  rw [List.getD_eq_getElem?_getD]
  rcases h:JL[k.toNat]? with _ | s
  ·
   exact Nat.zero_le _
  ·
   exact hall s (List.mem_of_getElem? h)
theorem fC (k:Int):∀ c∈qX k,c=97∨c=98∨c=110∨c=114:=by
 unfold qX
 split
 ·
  intro c hc; cases hc
 ·
  have hall:∀ s∈JL,∀ c∈s,c=97∨c=98∨c=110∨c=114:=by decide
  rw [List.getD_eq_getElem?_getD]
  rcases h:JL[k.toNat]? with _ | s
  ·
   intro c hc; cases hc
  ·
   exact hall s (List.mem_of_getElem? h)
theorem none14 {k:Int} (h:¬ (0≤k∧k<17)):YM k=[]∧qX k=[]∧vn k=0:=by
 unfold YM qX vn
 by_cases h0:k<0
 ·
  rw [if_pos h0,if_pos h0,if_pos h0]; exact ⟨rfl,rfl,rfl⟩
 ·
  rw [if_neg h0,if_neg h0,if_neg h0]
  have h1:17≤k.toNat:=by omega
  refine ⟨?_,?_,?_⟩
  ·
   rw [List.getD_eq_getElem?_getD,List.getElem?_eq_none (by exact h1)]; rfl
  ·
   rw [List.getD_eq_getElem?_getD,List.getElem?_eq_none (by exact h1)]; rfl
  ·
   rw [List.getD_eq_getElem?_getD,List.getElem?_eq_none (by exact h1)]; rfl

def xT (l:List UInt8):ByteArray:=⟨l.toArray⟩
theorem Z4 (l:List UInt8):(xT l).size=l.length:=by show l.toArray.size=_; simp
theorem JC (s:ByteArray):xT s.data.toList=s:=by
 obtain ⟨⟨l⟩⟩:=s
 rfl
theorem tx14_at (l:List UInt8) (k:Nat) (h:k<(xT l).size):(xT l)[k]'h=l[k]'(by rw [← Z4]; exact h):=by
 show (xT l).data[k]'h=_
 simp [xT]

structure yc (w:World):Prop where
 lt:0<w.heap.size
 nam:∀ k:Nat,k<17→w.cell? ⟨0,k * 3,none⟩=some (.string (xT (YM k)))
 sig:∀ k:Nat,k<17→w.cell? ⟨0,k * 3+1,none⟩=some (.string (xT (qX k)))
 frm:∀ k:Nat,k<17→w.cell? ⟨0,k * 3+2,none⟩=some (.int .i64 (vn k))
theorem yc.turns {S:Nat→Prop} {w w':World} (h:yc w) (ht:zg S w w') (hn:¬ S 0):yc w' :=
 ⟨Nat.lt_of_lt_of_le h.lt ht.size,fun k hk=>(ht.cell (p:=⟨0,_,none⟩) h.lt hn).trans (h.nam k hk),
  fun k hk=>(ht.cell (p:=⟨0,_,none⟩) h.lt hn).trans (h.sig k hk),fun k hk=>(ht.cell (p:=⟨0,_,none⟩) h.lt hn).trans (h.frm k hk)⟩
theorem yc.later {w w':World} (h:yc w) (hb:Below w.heap.size w w'):yc w':=h.turns (vC hb) (fun f=>f)

def zC (v:Value) (w:World) (e:Ending) (w':World):Prop:=e=.returned v∧Below w.heap.size w w'

def uf (k:Int):Bool:=decide (0≤k) && decide (k<17)
set_option maxRecDepth 100000 in
theorem Zk (k:Int) (w:World):Calls Tryz.prog 77 #[.int .i64 k] w fun e w'=>e=.returned (.bool (uf k))∧w'=w:=by
 by_cases h0:0≤k
 ·
  by_cases h1:k<17
  ·
   have hk:uf k=true:=by simp [uf,h0,h1]
   have d0:decide (k ≥ 0)=true:=by simpa using h0
   have d1:decide (k<17)=true:=by simpa using h1
   rw [hk]
   clear hk
   go_enter Tryz.func77,Tryz.ntmps77
   go_wp2
   go_ret
   exact ⟨rfl,rfl⟩
  ·
   have hk:uf k=false:=by simp [uf,h1]
   have d0:decide (k ≥ 0)=true:=by simpa using h0
   have d1:decide (k<17)=false:=by simpa using h1
   rw [hk]
   clear hk
   go_enter Tryz.func77,Tryz.ntmps77
   go_wp2
   go_ret
   exact ⟨rfl,rfl⟩
 ·
  have hk:uf k=false:=by simp [uf,h0]
  have d0:decide (k ≥ 0)=false:=by simpa using h0
  rw [hk]
  clear hk
  go_enter Tryz.func77,Tryz.ntmps77
  go_wp2
  go_ret
  exact ⟨rfl,rfl⟩

theorem JK:(Tryz.prog.info? 113).map (·.size)=some 3:=by kernel_rfl
def trt14 (k:Int):Value:=.agg #[.string (xT (YM k)),.string (xT (qX k)),.int .i64 (vn k)]
set_option maxRecDepth 100000 in
theorem jV (k:Int) (w:World) (h:yc w):Calls Tryz.prog 53 #[.int .i64 k] w (zC (trt14 k) w):=by
 have HK:=za (fun w'=>Zk k w')
 by_cases hk:0≤k∧k<17
 ·
  have hb:uf k=true:=by simp [uf,hk]
  obtain ⟨n,rfl⟩:∃ n:Nat,k=n:=⟨k.toNat,by omega⟩
  have hn:n<17:=by omega
  have c0:=h.nam n hn
  have c1:=h.sig n hn
  have c2:=h.frm n hn
  have hlt:=h.lt
  unfold trt14
  generalize xT (YM n)=s0 at *
  generalize xT (qX n)=s1 at *
  generalize vn n=f at *
  rw [hb] at HK
  clear hb h hk
  go_enter Tryz.func53,Tryz.ntmps53
  go_wp2_with (go_at_call 77; (with_reducible refine (HK.out _).mono ?_); rintro e w2 ⟨rfl,rfl⟩)
  go_wp2
  exact bodyPost_ret (results_cell_row Tryz.results53 _ _ w.heap.size _ #[.string s0,.string s1,.int .i64 f] (0,0) _ rfl (heap_alloc_new w _) Tryz.underlying113 rfl JK) rfl ⟨rfl,(Below.refl _ w).alloc (Nat.le_refl _) _⟩
 ·
  have hb:uf k=false:=by
   by_cases h0:0≤k
   ·
    have h1:¬ k<17:=fun e=>hk ⟨h0,e⟩
    simp [uf,h1]
   ·
    simp [uf,h0]
  obtain ⟨e0,e1,e2⟩:=none14 hk
  unfold trt14
  rw [e0,e1,e2]
  rw [hb] at HK
  clear hb e0 e1 e2 hk h
  go_enter Tryz.func53,Tryz.ntmps53
  go_wp2_with (go_at_call 77; (with_reducible refine (HK.out _).mono ?_); rintro e w2 ⟨rfl,rfl⟩)
  go_wp2
  exact bodyPost_ret (results_cell_row Tryz.results53 _ _ w.heap.size _ #[.string ⟨#[]⟩,.string ⟨#[]⟩,.int .i64 0] (0,0) _ rfl (heap_alloc_new w _) Tryz.underlying113 rfl JK) rfl ⟨rfl,(Below.refl _ w).alloc (Nat.le_refl _) _⟩
theorem J4 (s0 s1:ByteArray) (f:Int) (w:World):(Instr.field 113 (.agg #[.string s0,.string s1,.int .i64 f]) 1).run Tryz.prog w=.ok (.string s1) w:=by kernel_rfl
theorem fieldF14 (s0 s1:ByteArray) (f:Int) (w:World):(Instr.field 113 (.agg #[.string s0,.string s1,.int .i64 f]) 2).run Tryz.prog w=.ok (.int .i64 f) w:=by kernel_rfl
set_option maxRecDepth 100000 in
theorem uz (k:Int) (w:World) (h:yc w):Calls Tryz.prog 27 #[.int .i64 k] w (zC (.int .i64 (vn k)) w):=by
 have HO:=za (jV k w h)
 clear h
 unfold trt14 at HO
 generalize xT (YM k)=s0 at *
 generalize xT (qX k)=s1 at *
 generalize vn k=f at *
 have hf:=fun W=>fieldF14 s0 s1 f W
 go_enter Tryz.func27,Tryz.ntmps27
 go_wp2_with (go_at_call 53; (with_reducible refine HO.out.mono ?_); rintro e w2 ⟨rfl,hb⟩; have HB:=za hb; clear hb)
 go_wp2
 go_ret
 exact ⟨rfl,HB.out⟩

structure O14 where
 kd:UInt8
 a:ByteArray
 b:ByteArray
 nd:UInt8
 rl:UInt8
def O14.cells (o:O14):Array Value:=#[.int .u8 o.kd.toNat,.string o.a,.string o.b,.int .u8 o.nd.toNat,.int .u8 o.rl.toNat]
def O14.v (o:O14):Value:=.agg o.cells
def jm (k:UInt8):O14:=⟨k,⟨#[]⟩,⟨#[]⟩,0,0⟩
def xB (w:World) (B:Nat) (o:O14):Prop:=w.heap[B]? = some (.cells #[.int .u8 o.kd.toNat,.string o.a,.string o.b,.int .u8 o.nd.toNat,.int .u8 o.rl.toNat] 47 (0,0))
section
variable {w w':World} {B:Nat} {o:O14}
theorem xB.lt (h:xB w B o):B<w.heap.size:=(Array.getElem?_eq_some_iff.1 h).1
theorem xB.c0 (h:xB w B o):w.cell? ⟨B,0,none⟩=some (.int .u8 o.kd.toNat):=by rw [cell_of_row w B 0 _ _ (0,0) h]; rfl
theorem xB.c1 (h:xB w B o):w.cell? ⟨B,1,none⟩=some (.string o.a):=by rw [cell_of_row w B 1 _ _ (0,0) h]; rfl
theorem xB.c2 (h:xB w B o):w.cell? ⟨B,2,none⟩=some (.string o.b):=by rw [cell_of_row w B 2 _ _ (0,0) h]; rfl
theorem xB.c3 (h:xB w B o):w.cell? ⟨B,3,none⟩=some (.int .u8 o.nd.toNat):=by rw [cell_of_row w B 3 _ _ (0,0) h]; rfl
theorem xB.c4 (h:xB w B o):w.cell? ⟨B,4,none⟩=some (.int .u8 o.rl.toNat):=by rw [cell_of_row w B 4 _ _ (0,0) h]; rfl
theorem xB.fr (h:xB w B o) (i:Nat):w.frozen? ⟨B,i,none⟩=false:=by unfold xB at h; simp [World.frozen?,h]
theorem xB.turns {S:Nat→Prop} (h:xB w B o) (ht:zg S w w') (hn:¬ S B):xB w' B o:=(ht.block B h.lt hn).trans h
theorem xB.later (h:xB w B o) {n:Nat} (hn:B<n) (hb:Below n w w'):xB w' B o:=(hb.block B hn).trans h
theorem xB.below (h:xB w B o) (hb:Below w.heap.size w w'):xB w' B o:=h.later h.lt hb
theorem xB.iter (h:xB w B o) {k:Nat} (hk:B≠k) (s:ByteArray) (p:Nat):xB (w.iterAt k s p) B o:=(Lib.iterAt_other w k B s p hk).trans h
theorem xB.far (h:xB w B o) {p:Addr} (hp:B≠p.block) (u:Value):xB (w.setCell p u) B o:=(Below.heap_setCell w p u B hp).trans h
theorem xB.setAll (h:xB w B o) (r:O14):xB (((((w.setCell ⟨B,0,none⟩ (.int .u8 r.kd.toNat)).setCell ⟨B,1,none⟩ (.string r.a)).setCell ⟨B,2,none⟩ (.string r.b)).setCell ⟨B,3,none⟩ (.int .u8 r.nd.toNat)).setCell ⟨B,4,none⟩ (.int .u8 r.rl.toNat)) B r:=by
 unfold xB at h ⊢; simp [World.setCell,Array.getElem?_modify,h]
theorem xB.set1 (h:xB w B o) (s:ByteArray):xB (w.setCell ⟨B,1,none⟩ (.string s)) B { o with a:=s }:=by
 unfold xB at h ⊢; simp [World.setCell,Array.getElem?_modify,h]
theorem xB.set2 (h:xB w B o) (s:ByteArray):xB (w.setCell ⟨B,2,none⟩ (.string s)) B { o with b:=s }:=by
 unfold xB at h ⊢; simp [World.setCell,Array.getElem?_modify,h]
theorem xB.set3 (h:xB w B o) (x:UInt8):xB (w.setCell ⟨B,3,none⟩ (.int .u8 x.toNat)) B { o with nd:=x }:=by
 unfold xB at h ⊢; simp [World.setCell,Array.getElem?_modify,h]
theorem xB.set4 (h:xB w B o) (x:UInt8):xB (w.setCell ⟨B,4,none⟩ (.int .u8 x.toNat)) B { o with rl:=x }:=by
 unfold xB at h ⊢; simp [World.setCell,Array.getElem?_modify,h]
end

def Xl (nd rl:Nat) (c:UInt8):Bool:=if c=110 then decide (nd<7) else if c=114 then decide (1≤rl) && decide (rl≤3) else true
set_option maxRecDepth 100000 in
theorem Qh (o:O14) (c:UInt8) (w:World):Calls Tryz.prog 76 #[o.v,.int .i32 c.toNat] w (zC (.bool (Xl o.nd.toNat o.rl.toNat c)) w):=by
 unfold O14.v O14.cells
 obtain ⟨r,hr⟩:∃ r,r=Xl o.nd.toNat o.rl.toNat c:=⟨_,rfl⟩
 rw [← hr]
 unfold Xl at hr
 generalize o.kd.toNat=kd
 generalize o.nd.toNat=nd at *
 generalize o.rl.toNat=rl at *
 generalize o.a=a
 generalize o.b=b
 by_cases h1:c=110
 ·
  subst h1
  rw [if_pos rfl] at hr
  have e:((110:UInt8).toNat:Int)=110:=rfl
  rw [e]
  have hd:decide ((nd:Int)<7)=r:=by rw [hr]; by_cases h:nd<7 <;> simp [h] <;> omega
  clear hr e
  go_enter Tryz.func76,Tryz.ntmps76
  go_wp2
  go_ret
  exact ⟨rfl,(Below.refl _ w).alloc (Nat.le_refl _) _⟩
 ·
  rw [if_neg h1] at hr
  have n1:((c.toNat:Int) == 110)=false:=by
   rw [beq_eq_false_iff_ne]
   intro e
   exact h1 (UInt8.toNat_inj.1 (by have:(110:UInt8).toNat=110:=rfl; omega))
  by_cases h2:c=114
  ·
   subst h2
   rw [if_pos rfl] at hr
   have e:((114:UInt8).toNat:Int)=114:=rfl
   rw [e] at n1 ⊢
   clear e n1 h1
   by_cases h3:1≤rl
   ·
    have d3:decide ((rl:Int) ≥ 1)=true:=by simp; omega
    have hd:decide ((rl:Int)≤3)=r:=by rw [hr]; by_cases h:rl≤3 <;> simp [h,h3] <;> omega
    clear hr
    go_enter Tryz.func76,Tryz.ntmps76
    go_wp2
    go_ret
    exact ⟨rfl,(Below.refl _ w).alloc (Nat.le_refl _) _⟩
   ·
    have d3:decide ((rl:Int) ≥ 1)=false:=by simp; omega
    have hd:r=false:=by rw [hr]; simp [h3]
    subst hd
    clear hr
    go_enter Tryz.func76,Tryz.ntmps76
    go_wp2
    go_ret
    exact ⟨rfl,(Below.refl _ w).alloc (Nat.le_refl _) _⟩
  ·
   rw [if_neg h2] at hr
   subst hr
   have n2:((c.toNat:Int) == 114)=false:=by
    rw [beq_eq_false_iff_ne]
    intro e
    exact h2 (UInt8.toNat_inj.1 (by have:(114:UInt8).toNat=114:=rfl; omega))
   clear h1 h2
   generalize (c.toNat:Int)=x at *
   go_enter Tryz.func76,Tryz.ntmps76
   go_wp2
   go_ret
   exact ⟨rfl,(Below.refl _ w).alloc (Nat.le_refl _) _⟩

def fE (o acc:O14) (c:UInt8):O14:=if c=97 then { acc with a:=o.a } else if c=98 then { acc with b:=o.b } else if c=110 then { acc with nd:=o.nd } else { acc with rl:=o.rl }
def own14 (o:O14):O14:=(qX o.kd.toNat).foldl (fE o) (jm o.kd)
theorem sizeOp14:(Tryz.prog.info? 47).map (·.size)=some 5:=by kernel_rfl

theorem fG {w:World} {it k:Nat} {l:List UInt8} (h:w.heap[it]? = some (.stringIter (xT l) k)) (hk:k<l.length) (ha:l[k].toNat<128) (ty:TypeId) :
  (Instr.next (.pointer (some ⟨it,0,none⟩)) true ty).run Tryz.prog w=.ok (.tuple #[.bool true,.int .i64 k,.int .i32 l[k].toNat]) (w.iterAt it (xT l) (k+1)):=by
 have hs:k<(xT l).size:=by rw [Z4]; exact hk
 have e:=tx14_at l k hs
 have:=Lib.run_next_ascii_at (P:=Tryz.prog) w it (xT l) k ty h hs (by rw [e]; exact ha)
 rw [e] at this
 exact this
theorem ZX {w:World} {it:Nat} {l:List UInt8} (h:w.heap[it]? = some (.stringIter (xT l) l.length)) (ty:TypeId) :
  (Instr.next (.pointer (some ⟨it,0,none⟩)) true ty).run Tryz.prog w=.ok (.tuple #[.bool false]) w :=
 Lib.run_next_end_at w it (xT l) l.length ty h (by rw [Z4]; exact Nat.lt_irrefl _)

theorem box14 (o:O14) (w w2:World) (_:yc w)
  (hb:Below (((w.alloc (.cells #[.int .u8 o.kd.toNat,.string o.a,.string o.b,.int .u8 o.nd.toNat,.int .u8 o.rl.toNat] 47)).alloc (.cells #[.int .u8 0,.string ⟨#[]⟩,.string ⟨#[]⟩,.int .u8 0,.int .u8 0] 47)).alloc (.cells #[.int .u8 o.kd.toNat,.string ⟨#[]⟩,.string ⟨#[]⟩,.int .u8 0,.int .u8 0] 47)).heap.size
   (((w.alloc (.cells #[.int .u8 o.kd.toNat,.string o.a,.string o.b,.int .u8 o.nd.toNat,.int .u8 o.rl.toNat] 47)).alloc (.cells #[.int .u8 0,.string ⟨#[]⟩,.string ⟨#[]⟩,.int .u8 0,.int .u8 0] 47)).alloc (.cells #[.int .u8 o.kd.toNat,.string ⟨#[]⟩,.string ⟨#[]⟩,.int .u8 0,.int .u8 0] 47)) w2) :
  xB w2 w.heap.size o∧xB w2 (w.heap.size+1) (jm 0)∧xB w2 (w.heap.size+1+1) (jm o.kd)∧Below w.heap.size w w2∧w.heap.size+1+1<w2.heap.size:=by
 have a0:xB (w.alloc (.cells #[.int .u8 o.kd.toNat,.string o.a,.string o.b,.int .u8 o.nd.toNat,.int .u8 o.rl.toNat] 47)) w.heap.size o:=heap_alloc_new w _
 generalize hw1:w.alloc (.cells #[.int .u8 o.kd.toNat,.string o.a,.string o.b,.int .u8 o.nd.toNat,.int .u8 o.rl.toNat] 47)=w1 at *
 have s1:w1.heap.size=w.heap.size+1:=by rw [← hw1]; simp
 have b1:Below w.heap.size w w1:=by rw [← hw1]; exact (Below.refl _ w).alloc (Nat.le_refl _) _
 clear hw1
 have a1:xB (w1.alloc (.cells #[.int .u8 0,.string ⟨#[]⟩,.string ⟨#[]⟩,.int .u8 0,.int .u8 0] 47)) w1.heap.size (jm 0):=heap_alloc_new w1 _
 have a0:=a0.below (ze (Below.refl _ w1) (.cells #[.int .u8 0,.string ⟨#[]⟩,.string ⟨#[]⟩,.int .u8 0,.int .u8 0] 47))
 have b2:=b1.trans ((ze (Below.refl _ w1) (.cells #[.int .u8 0,.string ⟨#[]⟩,.string ⟨#[]⟩,.int .u8 0,.int .u8 0] 47)).mono b1.size)
 generalize hw3:w1.alloc (.cells #[.int .u8 0,.string ⟨#[]⟩,.string ⟨#[]⟩,.int .u8 0,.int .u8 0] 47)=w3 at *
 have s3:w3.heap.size=w.heap.size+1+1:=by rw [← hw3]; simp [s1]
 clear hw3
 have a2:xB (w3.alloc (.cells #[.int .u8 o.kd.toNat,.string ⟨#[]⟩,.string ⟨#[]⟩,.int .u8 0,.int .u8 0] 47)) w3.heap.size (jm o.kd):=heap_alloc_new w3 _
 have hz:=ze (Below.refl _ w3) (.cells #[.int .u8 o.kd.toNat,.string ⟨#[]⟩,.string ⟨#[]⟩,.int .u8 0,.int .u8 0] 47)
 have a0:=a0.below hz
 have a1:=a1.below hz
 have b3:=b2.trans (hz.mono b2.size)
 clear hz
 generalize w3.alloc (.cells #[.int .u8 o.kd.toNat,.string ⟨#[]⟩,.string ⟨#[]⟩,.int .u8 0,.int .u8 0] 47)=w4 at *
 rw [s1] at a1
 rw [s3] at a2
 exact ⟨a0.below hb,a1.below hb,a2.below hb,zj b3 hb,by have:=a2.lt; have:=hb.size; omega⟩

set_option maxRecDepth 100000 in
theorem own14_calls (o:O14) (w:World) (h:yc w):Calls Tryz.prog 78 #[o.v] w (zC (own14 o).v w):=by
 obtain ⟨l,hl⟩:∃ l,l=qX o.kd.toNat:=⟨_,rfl⟩
 have hsg:=fC o.kd.toNat
 rw [← hl] at hsg
 have HS:=za hsg
 obtain ⟨r,hr⟩:∃ r,r=own14 o:=⟨_,rfl⟩
 rw [← hr]
 have HR:Hid (r=l.foldl (fE o) (jm o.kd)):=by rw [hr,hl]; rfl
 have HF:=fun W (hw:yc W)=>jV o.kd.toNat W hw
 unfold trt14 at HF
 rw [← hl] at HF
 clear hr hsg hl
 generalize xT (YM o.kd.toNat)=s0 at *
 generalize vn o.kd.toNat=f at *
 have hf:=fun W=>J4 s0 (xT l) f W
 have hw64:wrap64 (o.kd.toNat:Int)=o.kd.toNat:=IntWalk.wrap64_in _ (by have:=o.kd.toNat_lt; omega)
 have HFF:=za HF
 have HL:=za h
 have HBX:=za (fun w2 hb=>box14 o w w2 h hb)
 have HL3:Hid (yc (((w.alloc (.cells #[.int .u8 o.kd.toNat,.string o.a,.string o.b,.int .u8 o.nd.toNat,.int .u8 o.rl.toNat] 47)).alloc (.cells #[.int .u8 0,.string ⟨#[]⟩,.string ⟨#[]⟩,.int .u8 0,.int .u8 0] 47)).alloc (.cells #[.int .u8 o.kd.toNat,.string ⟨#[]⟩,.string ⟨#[]⟩,.int .u8 0,.int .u8 0] 47))) :=
  h.later (ze (ze (ze (Below.refl _ w) _) _) _)
 clear HF h
 unfold O14.v O14.cells
 obtain ⟨n,hn⟩:∃ n,n=l.length:=⟨_,rfl⟩
 have HN:=za hn
 clear hn
 go_enter Tryz.func78,Tryz.ntmps78
 go_wp2_with (go_at_call 53; (with_reducible refine (HFF.out _ HL3.out).mono ?_); rintro e w2 ⟨rfl,hb⟩; obtain ⟨x0,x1,x2,hb2,hsz⟩:=HBX.out w2 hb; have X0:=za x0; have X1:=za x1; have X2:=za x2; have HB2:=za hb2; clear hb x0 x1 x2 hb2 HL3 HBX)
 go_wp2
 go_loopg [5] n (fun gg _ wr=>∃ k:Nat,k≤n∧n - k≤gg∧Hid (wr.heap[w2.heap.size]? = some (.stringIter (xT l) k))∧Hid (xB wr w.heap.size o)∧Hid (xB wr (w.heap.size+1) (jm 0))∧Hid (xB wr (w.heap.size+1+1) ((l.take k).foldl (fE o) (jm o.kd)))∧Hid (Below w.heap.size w wr))
 case atStart =>
  have hi:=World.iter_heap w2 (xT l) 0
  have hz:=ze (Below.refl _ w2) (.stringIter (xT l) 0)
  exact ⟨0,Nat.zero_le _,by omega,hi,X0.out.below hz,X1.out.below hz,X2.out.below hz,zj HB2.out hz⟩
 case round =>
  obtain ⟨k,hk,hg,HI,Y0,Y1,Y2,HW⟩:=hrel
  by_cases hlt:k<n
  ·
   have hkl:k<l.length:=HN.out ▸ hlt
   have hc:=HS.out l[k] (List.getElem_mem hkl)
   have hst:(l.take (k+1)).foldl (fE o) (jm o.kd)=fE o ((l.take k).foldl (fE o) (jm o.kd)) l[k]:=by
    rw [List.take_succ_eq_append_getElem hkl,List.foldl_append]; rfl
   have hit:=Lib.iterAt_heap wr w2.heap.size (xT l) k (k+1) HI.out
   have hnx:=fG HI.out hkl
   have HIT:=za hit
   have Z0:=za (Y0.out.iter (k:=w2.heap.size) (by omega) (xT l) (k+1))
   have Z1:=za (Y1.out.iter (k:=w2.heap.size) (by omega) (xT l) (k+1))
   have Z2:=za (Y2.out.iter (k:=w2.heap.size) (by omega) (xT l) (k+1))
   have ZW:=za (Lib.below_iterAt HW.out (k:=w2.heap.size) (by omega) (xT l) (k+1))
   have hnx:=hnx (by rcases hc with h | h | h | h <;> rw [h] <;> decide)
   have HST:=za hst
   clear hst hit HI Y0 Y1 Y2 HW
   generalize (l.take k).foldl (fE o) (jm o.kd)=acc at *
   generalize l[k]=c at *
   have z1:=Z0.out.c1
   have z2:=Z0.out.c2
   have z3:=Z0.out.c3
   have z4:=Z0.out.c4
   have y1:=Z2.out.c1
   have y2:=Z2.out.c2
   have y3:=Z2.out.c3
   have y4:=Z2.out.c4
   have zf:=Z2.out.fr
   rcases hc with rfl | rfl | rfl | rfl
   ·
    have e:((97:UInt8).toNat:Int)=97:=rfl
    rw [e] at hnx
    clear e
    have hput:fE o acc 97={ acc with a:=o.a }:=by unfold fE; simp
    go_wp2
    go_roundg (n - (k+1))
    case measure=>omega
    case rel=>exact ⟨k+1,by omega,by omega,(Below.heap_setCell _ _ _ _ (by simp only []; omega)).trans HIT.out,Z0.out.far (by simp only []; omega) _,Z1.out.far (by simp only []; omega) _,by rw [HST.out,hput]; exact Z2.out.set1 o.a,ZW.out.setCell (by simp only []; omega) _⟩
   ·
    have e:((98:UInt8).toNat:Int)=98:=rfl
    rw [e] at hnx
    clear e
    have hput:fE o acc 98={ acc with b:=o.b }:=by unfold fE; simp
    go_wp2
    go_roundg (n - (k+1))
    case measure=>omega
    case rel=>exact ⟨k+1,by omega,by omega,(Below.heap_setCell _ _ _ _ (by simp only []; omega)).trans HIT.out,Z0.out.far (by simp only []; omega) _,Z1.out.far (by simp only []; omega) _,by rw [HST.out,hput]; exact Z2.out.set2 o.b,ZW.out.setCell (by simp only []; omega) _⟩
   ·
    have e:((110:UInt8).toNat:Int)=110:=rfl
    rw [e] at hnx
    clear e
    have hput:fE o acc 110={ acc with nd:=o.nd }:=by unfold fE; simp
    go_wp2
    go_roundg (n - (k+1))
    case measure=>omega
    case rel=>exact ⟨k+1,by omega,by omega,(Below.heap_setCell _ _ _ _ (by simp only []; omega)).trans HIT.out,Z0.out.far (by simp only []; omega) _,Z1.out.far (by simp only []; omega) _,by rw [HST.out,hput]; exact Z2.out.set3 o.nd,ZW.out.setCell (by simp only []; omega) _⟩
   ·
    have e:((114:UInt8).toNat:Int)=114:=rfl
    rw [e] at hnx
    clear e
    have hput:fE o acc 114={ acc with rl:=o.rl }:=by unfold fE; simp
    go_wp2
    go_roundg (n - (k+1))
    case measure=>omega
    case rel=>exact ⟨k+1,by omega,by omega,(Below.heap_setCell _ _ _ _ (by simp only []; omega)).trans HIT.out,Z0.out.far (by simp only []; omega) _,Z1.out.far (by simp only []; omega) _,by rw [HST.out,hput]; exact Z2.out.set4 o.rl,ZW.out.setCell (by simp only []; omega) _⟩
  ·
   obtain rfl:k=n:=by omega
   have HK:=HN.out
   subst HK
   have hnx:=ZX HI.out
   rw [List.take_length,← HR.out] at Y2
   have y0:=Y2.out.c0
   have y1:=Y2.out.c1
   have y2:=Y2.out.c2
   have y3:=Y2.out.c3
   have y4:=Y2.out.c4
   have x0:=Y1.out.c0
   have x1:=Y1.out.c1
   have x2:=Y1.out.c2
   have x3:=Y1.out.c3
   have x4:=Y1.out.c4
   have xf:=Y1.out.fr
   go_wp2
   exact bodyPost_ret (results_cell_row Tryz.results78 _ _ (w.heap.size+1) _ _ (0,0) _ rfl (Y1.out.setAll r) Tryz.underlying47 rfl sizeOp14) rfl
    ⟨rfl,((((HW.out.setCell (by simp only []; omega) _).setCell (by simp only []; omega) _).setCell (by simp only []; omega) _).setCell (by simp only []; omega) _).setCell (by simp only []; omega) _⟩
end Go.Proofs.YteegkoicalbkbaaGreatDoor
namespace Go.Proofs.YteegkoicalbkbaaGreatDoor
open Go.ChangeShapes Go.WideShapes Go.ChangeAt Go.RowKit Go.Deep


/-! ### The table -/
theorem pick14 {l:List Value} {a n j:Nat} {v:Value} (h:(((l.drop a).take n).drop j).take 1=[v]):l[a+j]? = some v:=by
 have h1:=congrArg (fun x:List Value=>x[0]?) h
 simp only [List.getElem?_cons_zero,List.getElem?_take,List.getElem?_drop,Nat.add_zero] at h1
 split at h1
 ·
  split at h1
  ·
   exact h1
  ·
   cases h1
 ·
  cases h1
theorem cells14Trait:Tryz.prog.cellsOf 113=3:=by kernel_rfl
theorem Zy:Tryz.prog.cellsOf 9=1:=by kernel_rfl
theorem cells14Int:Tryz.prog.cellsOf 3=1:=by kernel_rfl
theorem Vj:Tryz.prog.cellsOf 5=1:=by kernel_rfl
theorem Uj:Tryz.prog.cellsOf 45=1:=by kernel_rfl
theorem cells14Op:Tryz.prog.cellsOf 47=5:=by kernel_rfl
def row14 (k:Nat):DataW Unit:=.agg [.lit (.string (YM k)),.lit (.string (qX k)),.lit (.int .i64 (vn k))]
theorem laid_rows14:(Rows.laid_interrex_op_traits:DataW Unit)=.agg ((List.range 17).map row14):=by kernel_rfl
set_option maxRecDepth 100000 in
theorem laid14_of {W:World} (h:laidMetH Tryz.prog [("interrex/op.traits",Rows.laid_interrex_op_traits)] W):yc W:=by
 rw [MakeChecks.laidMetH_plain _ _ _ (by kernel_rfl)] at h
 obtain ⟨ps,⟨g,t,cs,fuel,p,q,hg,ht,hvar,hd,_,_⟩,_⟩:=h
 have hgn:Tryz.prog.globalNamed "interrex/op.traits" = some 0:=by kernel_rfl
 have hgt:(Tryz.prog.globals[0]?).map (·.type)=some 160:=by kernel_rfl
 obtain rfl:=Option.some.inj (hgn.symm.trans hg)
 obtain rfl:=Option.some.inj (hgt.symm.trans ht)
 obtain ⟨xs,m,rfl,hx,hlen,hxl,hel⟩:=DataW.trod_array Tryz.underlying160 hd
 rw [laid_rows14] at hx
 have hmap:(List.range 17).map row14=xs.map (·.1):=by
  have:=(Prod.mk.inj hx).1
  injection this
 rw [cells14Trait] at hel
 have hrow:∀ k,k<17→cs[k * 3]? = some (.string (xT (YM k)))∧cs[k * 3+1]? = some (.string (xT (qX k)))∧cs[k * 3+2]? = some (.int .i64 (vn k)):=by
  intro k hk
  have hel:=hel k hk
  have hk2:k<xs.length:=by omega
  rw [List.getElem?_eq_getElem hk2] at hel
  have hy:row14 k=(xs[k]).1:=by
   have:=congrArg (fun l:List (DataW Unit)=>l[k]?) hmap
   simp only [List.getElem?_map,List.getElem?_range hk,List.getElem?_eq_getElem hk2,Option.map_some,Option.some.injEq] at this
   exact this
  obtain ⟨ys,n,_,hys,hl3,hyl,hf⟩:=DataW.trod_struct Tryz.underlying113 hel
  rw [hys] at hy
  match ys,hyl with
  | [y0,y1,y2],_ =>
   have f0:DataW.trod (fun _=>()) Tryz.prog W 0 (fun _=>true) false n 9 ((((cs.toList.drop (k * 3)).take 3).drop 0).take (Tryz.prog.cellsOf 9))=some y0:=hf 0 _ rfl
   have f1:DataW.trod (fun _=>()) Tryz.prog W 0 (fun _=>true) false n 9 ((((cs.toList.drop (k * 3)).take 3).drop 1).take (Tryz.prog.cellsOf 9))=some y1:=hf 1 _ rfl
   have f2:DataW.trod (fun _=>()) Tryz.prog W 0 (fun _=>true) false n 3 ((((cs.toList.drop (k * 3)).take 3).drop 2).take (Tryz.prog.cellsOf 3))=some y2:=hf 2 _ rfl
   rw [Zy] at f0 f1
   rw [cells14Int] at f2
   obtain ⟨s0,e0,g0,_⟩:=DataW.trod_string Tryz.underlying9 f0
   obtain ⟨s1,e1,g1,_⟩:=DataW.trod_string Tryz.underlying9 f1
   obtain ⟨n2,e2,g2,_⟩:=DataW.trod_int Tryz.underlying3 f2
   rw [g0,g1,g2] at hy
   unfold row14 at hy
   simp only [List.map_cons,List.map_nil,DataW.agg.injEq,List.cons.injEq,DataW.lit.injEq,Lit.string.injEq,Lit.int.injEq,and_true,true_and] at hy
   obtain ⟨q0,q1,q2⟩:=hy
   have h0:=pick14 e0
   have h1:=pick14 e1
   have h2:=pick14 e2
   rw [q0,q1,q2,JC,JC]
   simp only [Array.getElem?_toList,Nat.add_zero] at h0 h1 h2
   exact ⟨h0,h1,h2⟩
 have hc:=fun i=>World.var?_cell hgn hvar i
 have c0:W.cell? ⟨0,0 * 3,none⟩=some (.string (xT (YM 0))):=(hc _).trans (hrow 0 (by decide)).1
 exact ⟨World.block_lt_of_cell? W _ c0,fun k hk=>(hc _).trans (hrow k hk).1,fun k hk=>(hc _).trans (hrow k hk).2.1,fun k hk=>(hc _).trans (hrow k hk).2.2⟩

/-! ### Arguments -/
section
variable {H:Type} {enc:TypeId×Value→H} {W:World} {base b0:Nat} {sp:Nat→Bool} {hd:Bool} {fuel:Nat}

set_option maxRecDepth 100000 in
theorem op14_of {cs:List Value} {x:DataW H×List MemPlace} (h:DataW.trod enc Tryz.prog W base sp hd fuel 47 cs=some x):∃ o:O14,cs=o.cells.toList:=by
 obtain ⟨ys,n,_,rfl,hlen,hyl,hf⟩:=DataW.trod_struct Tryz.underlying47 h
 rw [cells14Op] at hlen
 match cs,hlen,ys,hyl with
 | [c0,c1,c2,c3,c4],_,[y0,y1,y2,y3,y4],_ =>
  have f0:DataW.trod enc Tryz.prog W base sp hd n 5 (([c0,c1,c2,c3,c4].drop 0).take (Tryz.prog.cellsOf 5))=some y0:=hf 0 _ rfl
  have f1:DataW.trod enc Tryz.prog W base sp hd n 9 (([c0,c1,c2,c3,c4].drop 1).take (Tryz.prog.cellsOf 9))=some y1:=hf 1 _ rfl
  have f2:DataW.trod enc Tryz.prog W base sp hd n 9 (([c0,c1,c2,c3,c4].drop 2).take (Tryz.prog.cellsOf 9))=some y2:=hf 2 _ rfl
  have f3:DataW.trod enc Tryz.prog W base sp hd n 5 (([c0,c1,c2,c3,c4].drop 3).take (Tryz.prog.cellsOf 5))=some y3:=hf 3 _ rfl
  have f4:DataW.trod enc Tryz.prog W base sp hd n 45 (([c0,c1,c2,c3,c4].drop 4).take (Tryz.prog.cellsOf 45))=some y4:=hf 4 _ rfl
  rw [Vj] at f0 f3
  rw [Zy] at f1 f2
  rw [Uj] at f4
  obtain ⟨k,e0,_,w0⟩:=DataW.trod_int Tryz.underlying5 f0
  obtain ⟨a,e1,_⟩:=DataW.trod_string Tryz.underlying9 f1
  obtain ⟨b,e2,_⟩:=DataW.trod_string Tryz.underlying9 f2
  obtain ⟨nd,e3,_,w3⟩:=DataW.trod_int Tryz.underlying5 f3
  obtain ⟨rl,e4,_,w4⟩:=DataW.trod_int Tryz.underlying45 f4
  simp only [List.drop_zero,List.drop_succ_cons,List.take_succ_cons,List.take_zero,List.cons.injEq,and_true] at e0 e1 e2 e3 e4
  subst e0 e1 e2 e3 e4
  have bd:∀ x:Int,(Lit.int .u8 x).wf=true→∃ y:UInt8,x=y.toNat:=fun x hx=>by
   have hb:0≤x∧x≤255:=by
    simp [Lit.wf,IntKind.min,IntKind.max,IntKind.signed,IntKind.bits] at hx
    omega
   refine ⟨UInt8.ofNat x.toNat,?_⟩
   simp only [UInt8.toNat_ofNat']
   omega
  obtain ⟨k,rfl⟩:=bd k w0
  obtain ⟨nd,rfl⟩:=bd nd w3
  obtain ⟨rl,rfl⟩:=bd rl w4
  exact ⟨⟨k,a,b,nd,rl⟩,rfl⟩
end
end Go.Proofs.YteegkoicalbkbaaGreatDoor
namespace Go.Proofs.YteegkoicalbkbaaGreatDoor
open Go.RowKit

theorem RdS.at14 {w:World} {A:Option Addr} {ss:List ByteArray} (h:RdS w A ss) (k:Nat) (hk:k<ss.length):∃ b off,A=some ⟨b,off,none⟩∧w.cell? ⟨b,off+k,none⟩=some (.string ss[k]):=by
 obtain ⟨b,off,rfl,_,hc⟩:=h (by intro e; subst e; simp at hk)
 exact ⟨b,off,rfl,hc k hk⟩
theorem RdS.later14 {w w':World} {A:Option Addr} {ss:List ByteArray} (h:RdS w A ss) (hb:Below w.heap.size w w'):RdS w' A ss:=h.turns (vC hb) (fun _ _ _ f=>f)
theorem toList_ne14 {s t:ByteArray} (h:s≠t):s.toList≠t.toList:=by
 intro e
 apply h
 rw [ByteArray.toList_eq,ByteArray.toList_eq] at e
 exact ByteArray.ext (Array.toList_inj.1 e)


set_option maxRecDepth 100000 in
theorem VZ (A A':Option Addr) (c c':Nat) (ss ts:List ByteArray) (w:World) (h1:RdS w A ss) (h2:RdS w A' ts) (hm1:ss.length≤9223372036854775807) :
  Calls Tryz.prog 47 #[.slice A ss.length c,.slice A' ts.length c'] w (zC (.bool (decide (ss=ts))) w):=by
 by_cases hl:ss.length=ts.length
 ·
  have HL:=za hl
  obtain ⟨r,hr⟩:∃ r,r=decide (ss=ts):=⟨_,rfl⟩
  rw [← hr]
  have HRS:=za hr
  have H1:=za h1
  have H2:=za h2
  clear hr h1 h2
  rw [← hl]
  clear hl
  obtain ⟨n,hn⟩:∃ n,n=ss.length:=⟨_,rfl⟩
  rw [← hn] at hm1 ⊢
  have HN:=za hn
  clear hn
  go_enter Tryz.func47,Tryz.ntmps47
  go_wp2
  go_loopg [5,13] n (fun gg _ i wr=>∃ k:Nat,k≤n∧n - k≤gg∧i=.int .i64 k∧Hid (ss.take k=ts.take k)∧Hid (Below w.heap.size w wr))
  case atStart=>exact ⟨0,Nat.zero_le _,by omega,rfl,by simp [Hid],Below.refl _ _⟩
  case round =>
   obtain ⟨k,hk,hg,rfl,HTK,HT⟩:=hrel
   by_cases hlt:k<n
   ·
    have k1:k<ss.length:=by have:=HN.out; omega
    have k2:k<ts.length:=by have:=HN.out; have:=HL.out; omega
    obtain ⟨b,off,rfl,hc1⟩:=(H1.out.later14 HT.out).at14 k k1
    obtain ⟨b',off',rfl,hc2⟩:=(H2.out.later14 HT.out).at14 k k2
    have hst:ss[k]=ts[k]→ss.take (k+1)=ts.take (k+1):=fun e=>by rw [List.take_succ_eq_append_getElem k1,List.take_succ_eq_append_getElem k2,HTK.out,e]
    have hsf:ss[k]≠ts[k]→r=false:=fun e=>by
     rw [HRS.out]
     refine decide_eq_false fun h=>e ?_
     subst h
     rfl
    generalize ss[k]=s at hc1 hst hsf
    generalize ts[k]=t at hc2 hst hsf
    have HST:=za hst
    have HSF:=za hsf
    clear hst hsf k1 k2
    by_cases e:s=t
    ·
     subst e
     have HTK2:=za (HST.out rfl)
     have n1:(s.toList != s.toList)=false:=by simp
     have n2:(s.toList == s.toList)=true:=by simp
     clear HST HSF HTK
     go_wp2
     go_quiet (fail)
     go_wp2
     go_roundg (n - (k+1))
     case measure=>omega
     case rel=>exact ⟨k+1,by omega,by omega,by go_num,HTK2.out,Ja HT.out _⟩
    ·
     obtain rfl:=HSF.out e
     have hne:=toList_ne14 e
     have hne2:(s.toList == t.toList)=false:=by simpa using hne
     have hne3:(s.toList != t.toList)=true:=by rw [bne,hne2]; rfl
     clear HST HSF HRS e hne
     go_wp2
     go_quiet (fail)
     go_wp2
     go_ret
     exact ⟨rfl,Ja HT.out _⟩
   ·
    obtain rfl:k=n:=by omega
    have hr1:r=true:=by
     rw [HRS.out]
     have a:=HN.out
     have b:=HL.out
     have c:=HTK.out
     rw [List.take_of_length_le (by omega),List.take_of_length_le (by omega)] at c
     exact decide_eq_true c
    subst hr1
    clear HRS HTK
    go_wp2
    go_ret
    exact ⟨rfl,HT.out⟩
 ·
  have hr:decide (ss=ts)=false:=decide_eq_false fun e=>hl (by rw [e])
  rw [hr]
  have hne:((ss.length:Int) == (ts.length:Int))=false:=by simp; omega
  have hne2:((ss.length:Int) != (ts.length:Int))=true:=by simp; omega
  have HW:=za (Below.refl w.heap.size w)
  clear h1 h2 hl hr
  generalize ss.length=n at *
  generalize ts.length=m at *
  go_enter Tryz.func47,Tryz.ntmps47
  go_wp2
  go_ret
  exact ⟨rfl,HW.out⟩

set_option maxRecDepth 100000 in
theorem Yq (e:Int) (A:Option Addr) (n c:Nat) (w:World):Calls Tryz.prog 48 #[.agg #[.int .i64 e,.slice A n c]] w (zC (if e=0 then .slice A n c else .slice none 0 0) w):=by
 by_cases he:e=0
 ·
  rw [if_pos he]
  subst he
  go_enter Tryz.func48,Tryz.ntmps48
  go_wp2
  go_ret
  exact ⟨rfl,(Below.refl _ w).alloc (Nat.le_refl _) _⟩
 ·
  rw [if_neg he]
  have hd:(e != 0)=true:=by simpa using he
  clear he
  go_enter Tryz.func48,Tryz.ntmps48
  go_wp2
  go_ret
  exact ⟨rfl,(Below.refl _ w).alloc (Nat.le_refl _) _⟩
def yP (e:Int) (ss:List ByteArray):List ByteArray:=if e=0 then ss else []
theorem JF (e:Int) (A:Option Addr) (c:Nat) (ss:List ByteArray) (w:World) (hr:RdS w A ss):∃ A' c',(∀ W,Calls Tryz.prog 48 #[.agg #[.int .i64 e,.slice A ss.length c]] W (zC (.slice A' (yP e ss).length c') W))∧RdS w A' (yP e ss)∧((A'=A∧c'=c)∨(A'=none∧c'=0)):=by
 unfold yP
 by_cases he:e=0
 ·
  refine ⟨A,c,fun W=>?_,by rw [if_pos he]; exact hr,.inl ⟨rfl,rfl⟩⟩
  have:=Yq e A ss.length c W
  rw [if_pos he] at this ⊢
  exact this
 ·
  refine ⟨none,0,fun W=>?_,by rw [if_neg he]; exact fun h=>absurd rfl h,.inr ⟨rfl,rfl⟩⟩
  have:=Yq e A ss.length c W
  rw [if_neg he] at this ⊢
  exact this
def sam14 (e1:Int) (ss:List ByteArray) (e2:Int) (ts:List ByteArray):Bool:=decide (e1=e2) && decide (yP e1 ss=yP e2 ts)

def YSm14 (n:Nat) (e:Int) (va vb ta tb:Value) (r:Bool):Nat→Value→Prop
 | 0,v=>v=.pointer (some ⟨n,0,none⟩)
 | 1,v=>v=.int .i64 e
 | 2,v=>v=.pointer (some ⟨n+1,0,none⟩)
 | 3,v=>v=.int .i64 e
 | 4,v=>v=.bool true
 | 5,v=>v=.bool true
 | 6,v=>v=va
 | 7,v=>v=ta
 | 8,v=>v=vb
 | 9,v=>v=tb
 | 10,v=>v=.bool r
 | 11,v=>v=.bool r
 | 12,v=>v=.bool r
 | _,_=>True

set_option maxRecDepth 100000 in
theorem Same14_calls (e1 e2:Int) (A1 A2:Option Addr) (c1 c2:Nat) (ss ts:List ByteArray) (w:World) (h1:RdS w A1 ss) (h2:RdS w A2 ts) (hm1:ss.length≤9223372036854775807) :
  Calls Tryz.prog 22 #[.agg #[.int .i64 e1,.slice A1 ss.length c1],.agg #[.int .i64 e2,.slice A2 ts.length c2]] w (zC (.bool (sam14 e1 ss e2 ts)) w):=by
 have HB:Hid (Below w.heap.size w ((w.alloc (.cells #[.int .i64 e1,.slice A1 ss.length c1] 56)).alloc (.cells #[.int .i64 e2,.slice A2 ts.length c2] 56))):=ze (ze (Below.refl _ w) _) _
 by_cases he:e1=e2
 ·
  subst he
  obtain ⟨B1,d1,t1,r1,_⟩:=JF e1 A1 c1 ss w h1
  obtain ⟨B2,d2,t2,r2,_⟩:=JF e1 A2 c2 ts w h2
  have hq:(yP e1 ss).length≤9223372036854775807:=by unfold yP; split; exact hm1; exact Nat.zero_le _
  have HEQ:Hid (∀ W,Below w.heap.size w W→Calls Tryz.prog 47 #[.slice B1 (yP e1 ss).length d1,.slice B2 (yP e1 ts).length d2] W (zC (.bool (sam14 e1 ss e1 ts)) W)):=fun W hb=>by
   have:=VZ B1 B2 d1 d2 (yP e1 ss) (yP e1 ts) W (r1.later14 hb) (r2.later14 hb) hq
   unfold sam14
   rw [decide_eq_true rfl,Bool.true_and]
   exact this
  have HT1:=za t1
  have HT2:=za t2
  clear t1 t2 r1 r2 hq h1 h2 hm1
  generalize sam14 e1 ss e1 ts=r at *
  generalize (yP e1 ss).length=m1 at *
  generalize (yP e1 ts).length=m2 at *
  generalize ss.length=n1 at *
  generalize ts.length=n2 at *
  go_enter Tryz.func22,Tryz.ntmps22
  go_wp2
  have g0:((w.alloc (.cells #[.int .i64 e1,.slice A1 n1 c1] 56)).alloc (.cells #[.int .i64 e1,.slice A2 n2 c2] 56)).heap[w.heap.size]? = some (.cells #[.int .i64 e1,.slice A1 n1 c1] 56 (0,0)):=heap_alloc2_old w _ _
  have g1:((w.alloc (.cells #[.int .i64 e1,.slice A1 n1 c1] 56)).alloc (.cells #[.int .i64 e1,.slice A2 n2 c2] 56)).heap[w.heap.size+1]? = some (.cells #[.int .i64 e1,.slice A2 n2 c2] 56 (0,0)):=heap_alloc2_new w _ _
  generalize (w.alloc (.cells #[.int .i64 e1,.slice A1 n1 c1] 56)).alloc (.cells #[.int .i64 e1,.slice A2 n2 c2] 56)=w1 at *
  have K00:w1.cell? ⟨w.heap.size,0,none⟩=some (.int .i64 e1):=by rw [cell_of_row w1 _ 0 _ _ (0,0) g0]; rfl
  have K01:w1.cell? ⟨w.heap.size,1,none⟩=some (.slice A1 n1 c1):=by rw [cell_of_row w1 _ 1 _ _ (0,0) g0]; rfl
  have K10:w1.cell? ⟨w.heap.size+1,0,none⟩=some (.int .i64 e1):=by rw [cell_of_row w1 _ 0 _ _ (0,0) g1]; rfl
  have K11:w1.cell? ⟨w.heap.size+1,1,none⟩=some (.slice A2 n2 c2):=by rw [cell_of_row w1 _ 1 _ _ (0,0) g1]; rfl
  have LT0:w.heap.size<w1.heap.size:=(Array.getElem?_eq_some_iff.1 g0).1
  have LT1:w.heap.size+1<w1.heap.size:=(Array.getElem?_eq_some_iff.1 g1).1
  have HK:=za (And.intro K00 (And.intro K01 (And.intro K10 K11)))
  clear g0 g1 K00 K01 K10 K11
  refine yg (by kernel_rfl) (fun W=>Below w1.heap.size w1 W) (fun j v _=>YSm14 w.heap.size e1 (.agg #[.int .i64 e1,.slice A1 n1 c1]) (.agg #[.int .i64 e1,.slice A2 n2 c2]) (.slice B1 m1 d1) (.slice B2 m2 d2) r j v) ?F ?hF (by kernel_rfl) (by kernel_rfl) (qf (Below.refl _ _)) ?step ?fin
  case hF =>
   intro x
   simp only [List.map_cons,List.map_nil,xU,Act.put,List.setIfInBounds_toArray,List.set_cons_zero,List.set_cons_succ,Nat.zero_add,Nat.reduceAdd]
   exact rfl
  case step =>
   refine ⟨?_,?_,?_,?_,?_,?_,?_,?_,?_,?_,?_,?_,?_,trivial⟩
   all_goals intro x W hW hdep K hK
   ·
    clear hdep
    go_simp
    exact hK _ _ rfl hW (fun _ _ h=>h)
   ·
    have h0:x 0=_:=hdep 0 rfl
    have k0:=(hW.cell (p:=⟨w.heap.size,0,none⟩) LT0).trans HK.out.1
    clear hdep
    simp only [h0] at hK
    go_simp
    exact hK _ _ rfl hW (fun _ _ h=>h)
   ·
    clear hdep
    go_simp
    exact hK _ _ rfl hW (fun _ _ h=>h)
   ·
    have h2:x 2=_:=hdep 2 rfl
    have k2:=(hW.cell (p:=⟨w.heap.size+1,0,none⟩) LT1).trans HK.out.2.2.1
    clear hdep
    simp only [h2] at hK
    go_simp
    exact hK _ _ rfl hW (fun _ _ h=>h)
   ·
    have h1:x 1=_:=hdep 1 rfl
    have h3:x 3=_:=hdep 3 rfl
    clear hdep
    simp only [h1,h3] at hK
    go_simp
    exact hK _ _ rfl hW (fun _ _ h=>h)
   ·
    have h4:x 4=_:=hdep 4 rfl
    clear hdep
    simp only [h4] at hK
    go_simp
    exact hK _ _ rfl hW (fun _ _ h=>h)
   ·
    have h5:x 5=_:=hdep 5 rfl
    have k0:=(hW.cell (p:=⟨w.heap.size,0,none⟩) LT0).trans HK.out.1
    have k1:=(hW.cell (p:=⟨w.heap.size,1,none⟩) LT0).trans HK.out.2.1
    clear hdep
    simp only [h5] at hK
    go_simp
    exact hK _ _ rfl hW (fun _ _ h=>h)
   ·
    have h5:x 5=_:=hdep 5 rfl
    have h6:x 6=_:=hdep 6 rfl
    clear hdep
    simp only [h5,h6] at hK
    go_simp
    refine (HT1.out W).mono ?_
    rintro e W' ⟨rfl,hb⟩
    exact hK _ _ rfl (zj hW hb) (fun _ _ h=>h)
   ·
    have h5:x 5=_:=hdep 5 rfl
    have k2:=(hW.cell (p:=⟨w.heap.size+1,0,none⟩) LT1).trans HK.out.2.2.1
    have k3:=(hW.cell (p:=⟨w.heap.size+1,1,none⟩) LT1).trans HK.out.2.2.2
    clear hdep
    simp only [h5] at hK
    go_simp
    exact hK _ _ rfl hW (fun _ _ h=>h)
   ·
    have h5:x 5=_:=hdep 5 rfl
    have h8:x 8=_:=hdep 8 rfl
    clear hdep
    simp only [h5,h8] at hK
    go_simp
    refine (HT2.out W).mono ?_
    rintro e W' ⟨rfl,hb⟩
    exact hK _ _ rfl (zj hW hb) (fun _ _ h=>h)
   ·
    have h5:x 5=_:=hdep 5 rfl
    have h7:x 7=_:=hdep 7 rfl
    have h9:x 9=_:=hdep 9 rfl
    clear hdep
    simp only [h5,h7,h9] at hK
    go_simp
    refine (HEQ.out W (zj HB.out hW)).mono ?_
    rintro e W' ⟨rfl,hb⟩
    exact hK _ _ rfl (zj hW hb) (fun _ _ h=>h)
   ·
    have h5:x 5=_:=hdep 5 rfl
    have h10:x 10=_:=hdep 10 rfl
    clear hdep
    simp only [h5,h10] at hK
    go_simp
    exact hK _ _ rfl hW (fun _ _ h=>h)
   ·
    have h11:x 11=_:=hdep 11 rfl
    clear hdep
    simp only [h11] at hK
    go_simp
    exact hK _ _ rfl hW (fun _ _ h=>h)
  case fin =>
   intro x W hW hY
   have h12:x 12=.bool r:=hY 12 (by decide)
   have HB7:=za (zj HB.out hW)
   clear hY hW
   rw [h12]
   go_wp2
   go_ret
   exact ⟨rfl,HB7.out⟩
 ·
  have hf:sam14 e1 ss e2 ts=false:=by unfold sam14; rw [decide_eq_false he]; rfl
  rw [hf]
  have hd:(e1 == e2)=false:=by rw [beq_eq_false_iff_ne]; exact he
  clear hf he h1 h2
  generalize ss.length=n1 at *
  generalize ts.length=n2 at *
  go_enter Tryz.func22,Tryz.ntmps22
  go_wp2
  go_quiet (fail)
  go_wp2
  go_ret
  exact ⟨rfl,Ja HB.out _⟩

def Xq (x y:O14):Bool:=decide (x.kd=y.kd∧x.a=y.a∧x.b=y.b∧x.nd=y.nd∧x.rl=y.rl)
theorem u8_ne14 {x y:UInt8} (h:x≠y):((x.toNat:Int) == (y.toNat:Int))=false:=by
 rw [beq_eq_false_iff_ne]
 intro e
 exact h (UInt8.toNat_inj.1 (by omega))
theorem u8_eq14 (x y:UInt8):((x.toNat:Int) == (y.toNat:Int))=decide (x=y):=by
 by_cases h:x=y
 ·
  subst h; simp
 ·
  rw [u8_ne14 h,decide_eq_false h]
theorem str_eq14 (x y:ByteArray):(x.toList == y.toList)=decide (x=y):=by
 by_cases h:x=y
 ·
  subst h; simp
 ·
  rw [decide_eq_false h,beq_eq_false_iff_ne]
  intro e
  rw [ByteArray.toList_eq,ByteArray.toList_eq] at e
  exact h (ByteArray.ext (Array.toList_inj.1 e))

theorem equal14 (x y:O14) (w:World):(Op.equalIn 10000 47 x.v y.v).run Tryz.prog w=.ok (Xq x y) w:=by
 have ht:Tryz.prog.underlying 47=some (.struct (Tryz.prog.fieldsOf 47)):=by kernel_rfl
 have hp:Tryz.prog.stoodInHeld 47=false:=by kernel_rfl
 have hf:(Tryz.prog.fieldsOf 47).toList.map (fun f=>(f.name,f.type,f.offset))=[("Kind",5,0),("A",9,1),("B",9,2),("Node",5,3),("Release",45,4)]:=by kernel_rfl
 have hu:=Tryz.underlying9
 have hb:=Tryz.underlying5
 have hr:=Tryz.underlying45
 unfold O14.v O14.cells
 rw [run_equalIn_agg w 9999 47 _ _ ht hp]
 generalize (Tryz.prog.fieldsOf 47).toList=fs at hf
 obtain ⟨f1,fs1,rfl,e1,h2⟩:=List.map_eq_cons_iff.1 hf
 obtain ⟨f2,fs2,rfl,e2,h3⟩:=List.map_eq_cons_iff.1 h2
 obtain ⟨f3,fs3,rfl,e3,h4⟩:=List.map_eq_cons_iff.1 h3
 obtain ⟨f4,fs4,rfl,e4,h5⟩:=List.map_eq_cons_iff.1 h4
 obtain ⟨f5,fs5,rfl,e5,h6⟩:=List.map_eq_cons_iff.1 h5
 obtain rfl:=List.map_eq_nil_iff.1 h6
 simp only [Prod.mk.injEq] at e1 e2 e3 e4 e5
 obtain ⟨a1,a2,a3⟩:=e1
 obtain ⟨b1,b2,b3⟩:=e2
 obtain ⟨c1,c2,c3⟩:=e3
 obtain ⟨d1,d2,d3⟩:=e4
 obtain ⟨g1,g2,g3⟩:=e5
 have he:∀ s t:ByteArray,(Op.equalIn 9999 9 (.string s) (.string t)).run Tryz.prog w=.ok (decide (s=t)) w:=fun s t=>by rw [run_equalIn_string (P:=Tryz.prog) w 9998 9 s t hu,str_eq14]
 have hi:∀ p q:UInt8,(Op.equalIn 9999 5 (.int .u8 p.toNat) (.int .u8 q.toNat)).run Tryz.prog w=.ok (decide (p=q)) w:=fun p q=>by rw [run_equalIn_int (P:=Tryz.prog) w 9998 5 .u8 .u8 _ _ hb,u8_eq14]
 have hj:∀ p q:UInt8,(Op.equalIn 9999 45 (.int .u8 p.toNat) (.int .u8 q.toNat)).run Tryz.prog w=.ok (decide (p=q)) w:=fun p q=>by rw [run_equalIn_int (P:=Tryz.prog) w 9998 45 .u8 .u8 _ _ hr,u8_eq14]
 have n1:¬ ("Kind" = "_"):=by decide
 have n2:¬ ("A" = "_"):=by decide
 have n3:¬ ("B" = "_"):=by decide
 have n4:¬ ("Node" = "_"):=by decide
 have n5:¬ ("Release" = "_"):=by decide
 obtain ⟨xk,xa,xb,xn,xr⟩:=x
 obtain ⟨yk,ya,yb,yn,yr⟩:=y
 simp [Op.eqFields,a1,a2,a3,b1,b2,b3,c1,c2,c3,d1,d2,d3,g1,g2,g3,part,isAgg,run_underlying hu,run_underlying hb,run_underlying hr,he,hi,hj,Result.andThen,n1,n2,n3,n4,n5,Xq]
 by_cases k1:xk=yk <;> simp [k1]
 by_cases k2:xa=ya <;> simp [k2]
 by_cases k3:xb=yb <;> simp [k3]
 by_cases k4:xn=yn <;> simp [k4]
 by_cases k5:xr=yr <;> simp [k5]
theorem eql14 (x y:O14) (w:World):(binOp .eql 47 x.v y.v).run Tryz.prog w=.ok (.bool (Xq x y)) w:=by
 have h:=equal14 x y w
 unfold O14.v at h ⊢
 rw [run_eql_struct,h]
 rfl

def FH (o:O14):Bool:=(qX o.kd.toNat).all (Xl o.nd.toNat o.rl.toNat) && (uf o.kd.toNat && Xq o (own14 o))

theorem box1_14 (o:O14) (w w2:World) (hb:Below (w.alloc (.cells #[.int .u8 o.kd.toNat,.string o.a,.string o.b,.int .u8 o.nd.toNat,.int .u8 o.rl.toNat] 47)).heap.size (w.alloc (.cells #[.int .u8 o.kd.toNat,.string o.a,.string o.b,.int .u8 o.nd.toNat,.int .u8 o.rl.toNat] 47)) w2) :
  xB w2 w.heap.size o∧Below w.heap.size w w2∧w.heap.size<w2.heap.size:=by
 have a0:xB (w.alloc (.cells #[.int .u8 o.kd.toNat,.string o.a,.string o.b,.int .u8 o.nd.toNat,.int .u8 o.rl.toNat] 47)) w.heap.size o:=heap_alloc_new w _
 have a1:=a0.below hb
 exact ⟨a1,zj (ze (Below.refl _ w) _) hb,a1.lt⟩

set_option maxRecDepth 100000 in
theorem VX (o:O14) (w:World) (h:yc w):Calls Tryz.prog 51 #[o.v] w (zC (.bool (FH o)) w):=by
 obtain ⟨l,hl⟩:∃ l,l=qX o.kd.toNat:=⟨_,rfl⟩
 have hsg:=fC o.kd.toNat
 rw [← hl] at hsg
 have HS:=za hsg
 obtain ⟨r,hr⟩:∃ r,r=FH o:=⟨_,rfl⟩
 rw [← hr]
 have HR:Hid (r=(l.all (Xl o.nd.toNat o.rl.toNat) && (uf o.kd.toNat && Xq o (own14 o)))):=by rw [hr,hl]; rfl
 have HF:=fun W (hw:yc W)=>jV o.kd.toNat W hw
 unfold trt14 at HF
 rw [← hl] at HF
 clear hr hsg hl
 generalize xT (YM o.kd.toNat)=s0 at *
 generalize vn o.kd.toNat=f at *
 have hf:=fun W=>J4 s0 (xT l) f W
 have hw64:wrap64 (o.kd.toNat:Int)=o.kd.toNat:=IntWalk.wrap64_in _ (by have:=o.kd.toNat_lt; omega)
 have HFF:=za HF
 have HL:=za h
 have HBX:=za (fun w2 hb=>box1_14 o w w2 hb)
 have HL3:Hid (yc (w.alloc (.cells #[.int .u8 o.kd.toNat,.string o.a,.string o.b,.int .u8 o.nd.toNat,.int .u8 o.rl.toNat] 47))):=h.later (ze (Below.refl _ w) _)
 have HSO:=za (fun c W=>Qh o c W)
 have HOW:=za (fun W (hw:yc W)=>own14_calls o W hw)
 have HKN:=za (fun W=>Zk o.kd.toNat W)
 have HEQ:=za (fun W=>eql14 o (own14 o) W)
 clear HF h
 unfold O14.v O14.cells at HSO HOW HEQ ⊢
 obtain ⟨n,hn⟩:∃ n,n=l.length:=⟨_,rfl⟩
 have HN:=za hn
 clear hn
 go_enter Tryz.func51,Tryz.ntmps51
 go_wp2_with (go_at_call 53; (with_reducible refine (HFF.out _ HL3.out).mono ?_); rintro e w2 ⟨rfl,hb⟩; obtain ⟨x0,hb2,hsz⟩:=HBX.out w2 hb; have X0:=za x0; have HB2:=za hb2; clear hb x0 hb2 HL3 HBX)
 go_wp2
 go_loopg [4] n (fun gg _ wr=>∃ k:Nat,k≤n∧n - k≤gg∧Hid (wr.heap[w2.heap.size]? = some (.stringIter (xT l) k))∧Hid (xB wr w.heap.size o)∧Hid ((l.take k).all (Xl o.nd.toNat o.rl.toNat)=true)∧Hid (Below w.heap.size w wr))
 case atStart =>
  have hi:=World.iter_heap w2 (xT l) 0
  have hz:=ze (Below.refl _ w2) (.stringIter (xT l) 0)
  exact ⟨0,Nat.zero_le _,by omega,hi,X0.out.below hz,rfl,zj HB2.out hz⟩
 case round =>
  obtain ⟨k,hk,hg,HI,Y0,YA,HW⟩:=hrel
  by_cases hlt:k<n
  ·
   have hkl:k<l.length:=HN.out ▸ hlt
   have hc:=HS.out l[k] (List.getElem_mem hkl)
   have hst:(l.take (k+1)).all (Xl o.nd.toNat o.rl.toNat)=Xl o.nd.toNat o.rl.toNat l[k]:=by
    rw [List.take_succ_eq_append_getElem hkl,List.all_append,YA.out]; simp
   have hno:Xl o.nd.toNat o.rl.toNat l[k]=false→r=false:=fun e=>by
    have:l.all (Xl o.nd.toNat o.rl.toNat)=false:=List.all_eq_false.2 ⟨l[k],List.getElem_mem hkl,by rw [e]; decide⟩
    rw [HR.out,this]; rfl
   have hit:=Lib.iterAt_heap wr w2.heap.size (xT l) k (k+1) HI.out
   have hnx:=fG HI.out hkl (by rcases hc with h | h | h | h <;> rw [h] <;> decide)
   have HIT:=za hit
   have Z0:=za (Y0.out.iter (k:=w2.heap.size) (by omega) (xT l) (k+1))
   have ZW:=za (Lib.below_iterAt HW.out (k:=w2.heap.size) (by omega) (xT l) (k+1))
   have HST:=za hst
   have HNO:=za hno
   have hsz2:w2.heap.size<(wr.iterAt w2.heap.size (xT l) (k+1)).heap.size:=(Array.getElem?_eq_some_iff.1 hit).1
   clear hst hit HI Y0 YA HW hno
   have HSC:=za (HSO.out l[k])
   generalize Xl o.nd.toNat o.rl.toNat l[k]=b at *
   generalize l[k]=c at *
   generalize wr.iterAt w2.heap.size (xT l) (k+1)=wi at *
   have z0:=Z0.out.c0
   have z1:=Z0.out.c1
   have z2:=Z0.out.c2
   have z3:=Z0.out.c3
   have z4:=Z0.out.c4
   clear hc
   cases b
   ·
    have hr0:=HNO.out rfl
    subst hr0
    go_wp2_with (go_at_call 76; (with_reducible refine (HSC.out _).mono ?_); rintro e w3 ⟨rfl,hb⟩; have HB3:=za (ZW.out.trans (hb.mono (by omega))); clear hb)
    go_wp2
    go_ret
    exact ⟨rfl,HB3.out⟩
   ·
    go_wp2_with (go_at_call 76; (with_reducible refine (HSC.out _).mono ?_); rintro e w3 ⟨rfl,hb⟩; have HB3:=za (ZW.out.trans (hb.mono (by omega))); have HI3:=za ((hb.block w2.heap.size hsz2).trans HIT.out); have Z3:=za (Z0.out.below hb); clear hb)
    go_wp2
    go_roundg (n - (k+1))
    case measure=>omega
    case rel=>exact ⟨k+1,by omega,by omega,HI3.out,Z3.out,HST.out,HB3.out⟩
  ·
   obtain rfl:k=n:=by omega
   have HK:=HN.out
   subst HK
   have hnx:=ZX HI.out
   rw [List.take_length] at YA
   have hrr:r=(uf o.kd.toNat && Xq o (own14 o)):=by rw [HR.out,YA.out]; rfl
   have HRR:=za hrr
   have HLW:=za (HL.out.later (HW.out.drew))
   have hwi:IntKind.i64.wrap (o.kd.toNat:Int)=o.kd.toNat:=IntWalk.i64_in _ (by have:=o.kd.toNat_lt; omega)
   have y0:=Y0.out.c0
   have y1:=Y0.out.c1
   have y2:=Y0.out.c2
   have y3:=Y0.out.c3
   have y4:=Y0.out.c4
   clear hrr HR
   generalize uf o.kd.toNat=kn at *
   generalize Xq o (own14 o)=sm at *
   cases kn
   ·
    obtain rfl:r=false:=HRR.out
    go_wp2
    go_region_with (go_at_call 77; (with_reducible refine (HKN.out _).mono ?_); rintro e w5 ⟨rfl,rfl⟩)
    all_goals
     go_wp2
     go_ret
     exact ⟨rfl,Ja HW.out _⟩
   ·
    obtain rfl:r=sm:=HRR.out
    have heq:=HEQ.out
    go_wp2
    go_region_with (first | (go_at_call 77; (with_reducible refine (HKN.out _).mono ?_); rintro e w5 ⟨rfl,rfl⟩) | (go_at_call 78; (with_reducible refine (HOW.out _ HLW.out).mono ?_); rintro e w5 ⟨rfl,hb⟩; have Q5:xB w5 w.heap.size o:=(show xB wr.drew w.heap.size o from Y0.out).below hb; have q0:=Q5.c0; have q1:=Q5.c1; have q2:=Q5.c2; have q3:=Q5.c3; have q4:=Q5.c4; have HB5:=za hb; clear hb Q5))
    all_goals
     go_wp2
     go_ret
     exact ⟨rfl,HW.out.drew.trans (HB5.out.mono HW.out.size)⟩
end Go.Proofs.YteegkoicalbkbaaGreatDoor
