/-
  The texts that the laws of this seat share, part 8: what the code and the document's own answers tell, walked function by function.
  Conditions: each theorem's own.
-/
import Derived.Test.YthmomkjingcbiaaGreatDoorMigGBG
set_option maxHeartbeats 16000000
namespace Go.Proofs.YthmomkjingcbiaaGreatDoor
open Go.RowKit Go.Maps

def vH (l:List Us):xI:=l.map fun u=>(u.nm.data.toList,⟨u.hs.data.toList,u.ml.data.toList,u.dis,xX u.gs⟩)
def xG (S:zj) (n:List UInt8) (T:List ByteArray):zj:=T.foldl (fun S g=>ql S g.data.toList n) S
def xp (r:Nat→Int):Nat→Nat→Int
 | _,0=>0
 | i,m+1=>if r i=0 then xp r (i+1) m else r i

theorem ZW (S:zj) (n:List UInt8) {T:List ByteArray} {i:Nat} (hi:i<T.length):xG S n (T.take (i+1))=ql (xG S n (T.take i)) T[i].data.toList n:=by
 unfold xG
 rw [List.take_succ_eq_append_getElem hi,List.foldl_append]
 rfl
theorem vf:∀ {ss:List ByteArray},zA ss=true→ss.Pairwise fun a b=>bytesBefore a.data.toList b.data.toList=true
 | [],_=>List.Pairwise.nil
 | [_],_=>by simp
 | a::b::r,h=>by
  unfold zA at h
  rw [Bool.and_eq_true] at h
  have ih:=vf (ss:=b::r) h.2
  have hab:bytesBefore a.data.toList b.data.toList=true:=by
   have:=h.1
   unfold yg at this
   rwa [xY] at this
  refine List.pairwise_cons.2 ⟨fun x hx=>?_,ih⟩
  rcases List.mem_cons.1 hx with rfl | hx
  ·
   exact hab
  ·
   exact WideShapes.bytes_trans _ _ _ hab ((List.pairwise_cons.1 ih).1 x hx)
theorem Fl {G:List ByteArray} (h:zA G=true):vl (xX G):=by
 have:=vf h
 unfold vl xX
 rw [List.pairwise_map]
 exact this
theorem ZX {V:Type} {x:List UInt8×V}:∀ {A:zX V},(∀ y∈A,bytesBefore y.1 x.1=true)→YH x A=A++[x]
 | [],_=>rfl
 | y::r,h=>by
  unfold YH
  rw [yT (h y (by simp)),ZX (fun z hz=>h z (by simp [hz]))]
  simp
theorem ZL {V:Type} {A:zX V} {n:List UInt8} (a:V) (h:∀ y∈A,bytesBefore y.1 n=true):yB A n a=A++[(n,a)]:=by
 unfold yB
 rw [fX,ZX h]
 refine uD.2 fun hm=>?_
 obtain ⟨y,hy,e⟩:=List.mem_map.1 hm
 exact absurd e (xD (h y hy))

/-! ### groups are joined -/
structure J11 (S0 S:zj) (n:List UInt8) (T:List ByteArray) (k:Nat):Prop where
 names:zb S=zb S0
 good:zH S k
 mem:∀ x m,uC S x m=true↔uC S0 x m=true∨(m=n∧x∈xX T)
theorem UJ {S0 S:zj} {n:List UInt8} {T:List ByteArray} {k i:Nat} (hi:i<T.length) (hJ:J11 S0 S n (T.take i) k) (hn:zf n=true) (h5:zM T=true) (hr:zA T=true) (hf:∀ x,uC S0 x n=false) :
  qK S T[i].data.toList n=if fO (zb S0) T[i].data.toList then 0 else 8:=by
 have e1:zE S T[i].data.toList=fO (zb S0) T[i].data.toList:=by rw [Bool.eq_iff_iff,yo,jZ,hJ.names]
 have e0:zf T[i].data.toList=true:=by
  unfold zM at h5
  rw [List.all_eq_true] at h5
  exact h5 _ (List.getElem_mem hi)
 have e2:uC S T[i].data.toList n=false:=by
  rw [Bool.eq_false_iff]
  intro h
  rcases (hJ.mem _ _).1 h with h | ⟨_,h⟩
  ·
   rw [hf] at h; cases h
  ·
   obtain ⟨g,hg,e⟩:=List.mem_map.1 h
   obtain ⟨j,hj,rfl⟩:=List.getElem_of_mem hg
   have hj':j<i:=by rw [List.length_take] at hj; omega
   rw [List.getElem_take] at e
   have:=List.pairwise_iff_getElem.1 (vf hr) j i (by omega) hi hj'
   exact absurd e (xD this)
 unfold qK xn
 rw [e1,e2,e0]
 have:([n]:List (List UInt8)).all zf=true:=by simp [hn]
 rw [this]
 cases fO (zb S0) T[i].data.toList <;> rfl
theorem YE {S0:zj} {n:List UInt8} {T:List ByteArray} {k:Nat} (hg:zH S0 k) (hn:zf n=true) (h5:zM T=true) (hr:zA T=true) (hf:∀ x,uC S0 x n=false) :
  ∀ i,i≤T.length→(∀ g∈T.take i,fO (zb S0) g.data.toList=true)→J11 S0 (xG S0 n (T.take i)) n (T.take i) (k+i)
 | 0,_,_=>⟨rfl,hg,fun x m=>⟨.inl,fun h=>h.elim id (fun h=>absurd h.2 (by simp [xX]))⟩⟩
 | i+1,hi,hall=>by
  have hlt:i<T.length:=hi
  have e3:T.take (i+1)=T.take i++[T[i]]:=List.take_succ_eq_append_getElem hlt
  have ih:=YE hg hn h5 hr hf i (Nat.le_of_succ_le hi) (fun g h=>hall g (by rw [e3]; exact List.mem_append_left _ h))
  have e:=UJ hlt ih hn h5 hr hf
  rw [hall T[i] (by rw [e3]; exact List.mem_append_right _ (List.mem_singleton.2 rfl)),if_pos rfl] at e
  rw [ZW S0 n hlt]
  refine ⟨by rw [VX,ih.names],JT ih.good _ n,fun x m=>?_⟩
  rw [in_join ih.good e,ih.mem]
  have:x∈xX (T.take (i+1))↔x∈xX (T.take i)∨x=T[i].data.toList:=by
   rw [e3]
   unfold xX
   rw [List.map_append,List.mem_append,List.map_cons,List.map_nil,List.mem_singleton]
  rw [this]
  constructor
  ·
   rintro ((h | ⟨h1,h2⟩) | ⟨h1,h2⟩)
   ·
    exact .inl h
   ·
    exact .inr ⟨h1,.inl h2⟩
   ·
    exact .inr ⟨h2,.inr h1⟩
  ·
   rintro (h | ⟨h1,h2 | h2⟩)
   ·
    exact .inl (.inl h)
   ·
    exact .inl (.inr ⟨h1,h2⟩)
   ·
    exact .inr ⟨h2,h1⟩

/-! ### users,one by one -/
def Vl (A:zt) (L:zg) (S:zj) (pre:List Us) (G:List ByteArray) (k:Nat):Prop:=Uo A L S (vH pre) (xX G) k∧L.length≤pre.length
theorem Jy (l:List Us):zb (vH l)=xX (l.map (·.nm)):=by unfold zb vH xX; rw [List.map_map,List.map_map]; rfl
theorem Vl.below {A:zt} {L:zg} {S:zj} {pre:List Us} {G:List ByteArray} {k:Nat} (h:Vl A L S pre G k) {n:List UInt8} (hup:∀ v∈pre,bytesBefore v.nm.data.toList n=true):∀ y∈A,bytesBefore y.1 n=true:=by
 intro y hy
 have h1:y.1∈zb A:=List.mem_map.2 ⟨y,hy,rfl⟩
 rw [← ux A L S,h.1.2.1,Jy] at h1
 unfold xX at h1
 rw [List.map_map] at h1
 obtain ⟨v,hv,e⟩:=List.mem_map.1 h1
 rw [← e]
 exact hup v hv
theorem Vl.len {A:zt} {L:zg} {S:zj} {pre:List Us} {G:List ByteArray} {k:Nat} (h:Vl A L S pre G k):A.length=pre.length:=by
 rw [← uy A L S,h.1.2.1]; exact List.length_map _
theorem Vl.free {A:zt} {L:zg} {S:zj} {pre:List Us} {G:List ByteArray} {k:Nat} (h:Vl A L S pre G k) {n:List UInt8} (hup:∀ v∈pre,bytesBefore v.nm.data.toList n=true):zE A n=false:=by
 refine uD.2 fun hm=>?_
 obtain ⟨y,hy,e⟩:=List.mem_map.1 hm
 exact absurd e (xD (h.below hup y hy))
theorem Vl.fresh {A:zt} {L:zg} {S:zj} {pre:List Us} {G:List ByteArray} {k:Nat} (h:Vl A L S pre G k) {n:List UInt8} (hup:∀ v∈pre,bytesBefore v.nm.data.toList n=true) (x:List UInt8):uC S x n=false:=by
 cases hh:uC S x n with
 | false=>rfl
 | true=>have:=h.1.1.mem x n hh; rw [h.free hup] at this; cases this
theorem JK {m:ByteArray} (h:uO m=true):vj m.data.toList=m.data.toList∧uN m.data.toList=true:=by
 unfold uO at h
 rw [Bool.or_eq_true,Bool.and_eq_true,decide_eq_true_eq,decide_eq_true_eq] at h
 rcases h with h | ⟨h1,h2⟩
 ·
  have:m.data.toList=[]:=List.length_eq_zero_iff.1 (by rw [zi]; exact h)
  rw [this]
  exact ⟨rfl,by decide⟩
 ·
  refine ⟨?_,by unfold uN; rw [h1,Bool.or_true]⟩
  have h3:(jj m.data.toList).data.toList=zD m.data.toList:=by unfold jj; rw [if_pos h1]
  unfold vj
  rw [if_pos h1,← h3,h2]
theorem fl {A:zt} {L L':zg} {S S':zj} (h:∀ p∈A,yF L' p.1=yF L p.1∧yX S' p.1=yX S p.1) (x:List UInt8×(List UInt8×Bool)):zm (A++[x]) L' S'=zm A L S++[(x.1,xl L' S' x.1 x.2)]:=by
 unfold zm
 rw [List.map_append]
 congr 1
 refine List.map_congr_left fun p hp=>?_
 obtain ⟨h1,h2⟩:=h p hp
 unfold xl
 rw [h1,h2]

theorem step11 {A:zt} {L:zg} {S:zj} {pre:List Us} {G:List ByteArray} {k:Nat} (h:Vl A L S pre G k) (u:Us) (hc:yM 2 u=0) (hup:∀ v∈pre,bytesBefore v.nm.data.toList u.nm.data.toList=true) (h12:pre.length<12) (hall:u.gs.all (fun g=>fO (xX G) g.data.toList)=true) :
  uW L u.nm.data.toList u.ml.data.toList=(if pre.any (fun v=>!(u.ml.data.toList == []) && (u.ml.data.toList == v.ml.data.toList)) then 9 else 0) ∧
  (uW L u.nm.data.toList u.ml.data.toList=0→Vl (yB A u.nm.data.toList (u.hs.data.toList,u.dis)) (Xl L u.nm.data.toList u.ml.data.toList) (xG S u.nm.data.toList u.gs) (pre++[u]) G (k+8)):=by
 obtain ⟨_,hn,hh⟩:=uo hc
 obtain ⟨hfo,h6,hns,hri⟩:=X1 hc
 obtain ⟨hfm,him⟩:=JK hfo
 have hbel:=h.below hup
 have hfree:=h.free hup
 have hfr:=h.fresh hup
 have hlen:=h.len
 obtain ⟨⟨hg,ht,hN⟩,hL⟩:=h
 obtain ⟨f1,f2,f3⟩:=hg.free hfree
 have hJ:=YE hg.grp hn hns hri hfr u.gs.length (Nat.le_refl _) (fun g hg'=>by
  rw [List.take_length] at hg'
  rw [hN]
  exact List.all_eq_true.1 hall g hg')
 rw [List.take_length] at hJ
 generalize hS':xG S u.nm.data.toList u.gs=S' at *
 have hA1:=ZL (u.hs.data.toList,u.dis) hbel
 have hg1:=hg.put (a:=(u.hs.data.toList,u.dis)) hn hh (by rw [hA1]; simp; omega)
 generalize hAA:yB A u.nm.data.toList (u.hs.data.toList,u.dis)=A1 at *
 have hin:zE A1 u.nm.data.toList=true:=by rw [← hAA]; exact qL.2 (.inl rfl)
 have hg2:zs A1 L S' (k+7):=⟨hg1.rise,hg1.few,hg1.nm,hg1.mir,hg1.all,hg1.has,Nat.le_trans hg.lfew (by omega),hJ.good.mono (by omega),fun x m hm=>by
  rcases (hJ.mem x m).1 hm with hm | ⟨rfl,_⟩
  ·
   exact hg1.mem x m hm
  ·
   exact hin⟩
 have hof:yX S' u.nm.data.toList=xX u.gs:=uh (uj hJ.good.rise _) (Fl hri) fun x=>by
  rw [uA hJ.good.rise,hJ.mem,hfr]
  simp
 have hof2:∀ m,m≠u.nm.data.toList→yX S' m=yX S m:=fun m hm=>ofT hg.grp.rise hJ.good.rise fun x=>by
  rw [hJ.mem]
  exact ⟨fun h=>h.elim id (fun h=>absurd h.1 hm),.inl⟩
 have hne:∀ p∈A,p.1≠u.nm.data.toList:=fun p hp=>xD (hbel p hp)
 have hsm:=(sm11_eq (A:=A1) (L:=L) u.nm.data.toList u.ml.data.toList).1 ⟨hn,him,hin⟩
 have hone:=sm_one hg2 u.nm.data.toList u.ml.data.toList
 have htl:zm A1 L S'=vH pre++[(u.nm.data.toList,⟨u.hs.data.toList,[],u.dis,xX u.gs⟩)]:=by
  rw [hA1,fl (L:=L) (S:=S) (fun p hp=>⟨rfl,hof2 _ (hne p hp)⟩),ht]
  unfold xl
  rw [hof,f2]
 have hE:jN A1 L u.nm.data.toList u.ml.data.toList=(if pre.any (fun v=>!(u.ml.data.toList == []) && (u.ml.data.toList == v.ml.data.toList)) then 9 else 0):=by
  rw [← Jn hg2]
  unfold dsmE
  rw [hn,him,qD,hin,hfm,htl]
  have:badU (vH pre++[(u.nm.data.toList,⟨u.hs.data.toList,[],u.dis,xX u.gs⟩)]) u.nm.data.toList u.ml.data.toList=pre.any (fun v=>!(u.ml.data.toList == []) && (u.ml.data.toList == v.ml.data.toList)):=by
   unfold badU vH
   rw [Bool.eq_iff_iff]
   simp only [List.any_append,List.any_map,List.any_cons,List.any_nil,Bool.or_false,Bool.or_eq_true,List.any_eq_true,Bool.and_eq_true,Bool.not_eq_true',beq_eq_false_iff_ne,beq_iff_eq,Function.comp]
   constructor
   ·
    rintro (⟨v,hv,⟨h1,h2⟩,h3⟩ | ⟨_,h3⟩)
    ·
     exact ⟨v,hv,h1,h2.symm⟩
    ·
     exact absurd rfl h3
   ·
    rintro ⟨v,hv,h1,h2⟩
    exact .inl ⟨v,hv,⟨h1,h2.symm⟩,xD (hup v hv)⟩
  rw [this]
  cases pre.any (fun v=>!(u.ml.data.toList == []) && (u.ml.data.toList == v.ml.data.toList)) <;> rfl
 rw [hsm.1] at hE
 refine ⟨hE,fun h0=>?_⟩
 rw [hsm.2] at hone
 obtain ⟨o1,_,o3⟩:=hone
 refine ⟨⟨o1,?_,?_⟩,?_⟩
 ·
  have hge:∀ x,yF (Xl L u.nm.data.toList u.ml.data.toList) x=if x=u.nm.data.toList then u.ml.data.toList else yF L x:=by
   intro x
   unfold Xl
   rw [if_pos h0]
   by_cases hm:u.ml.data.toList=[]
   ·
    rw [if_pos hm,fb,hm]
   ·
    rw [if_neg hm,YN hg.lrise]
    have:zD u.ml.data.toList=u.ml.data.toList:=by
     have hm5:yS u.ml.data.toList=true:=by
      unfold uN at him
      rw [decide_eq_false hm,Bool.false_or] at him
      exact him
     unfold vj at hfm
     rw [if_pos hm5] at hfm
     exact hfm
    rw [this]
  rw [hA1,fl (L:=L) (S:=S) (fun p hp=>⟨by rw [hge,if_neg (hne p hp)],hof2 _ (hne p hp)⟩),ht]
  unfold xl
  rw [hof,hge,if_pos rfl]
  unfold vH
  rw [List.map_append]
  rfl
 ·
  rw [hJ.names,hN]
 ·
  have:(Xl L u.nm.data.toList u.ml.data.toList).length≤L.length+1:=by
   unfold Xl
   rw [if_pos h0]
   split
   ·
    exact Nat.le_succ_of_le (List.length_filter_le _ _)
   ·
    rw [xm hg.lrise]; split <;> omega
  rw [List.length_append]
  simp
  omega
theorem FI {S:zj} {G:List ByteArray} {k:Nat} (hg:zs [] [] S k) (hN:zb S=xX G):Vl [] [] S [] G k:=⟨⟨hg,rfl,hN⟩,Nat.le_refl _⟩
theorem VV {S:zj} {G:List ByteArray} {i:Nat} (hi:i<G.length) (h6:G.length≤6) (h5:zM G=true) (hr:zA G=true) (hg:zs [] [] S i) (hN:zb S=xX (G.take i)) :
  uM S G[i].data.toList=0∧zs [] [] (qj S G[i].data.toList) (i+1)∧zb (qj S G[i].data.toList)=xX (G.take (i+1)):=by
 have e0:zf G[i].data.toList=true:=by
  unfold zM at h5
  rw [List.all_eq_true] at h5
  exact h5 _ (List.getElem_mem hi)
 have hbel:∀ y∈S,bytesBefore y.1 G[i].data.toList=true:=fun y hy=>by
  have h1:y.1∈zb S:=List.mem_map.2 ⟨y,hy,rfl⟩
  rw [hN] at h1
  obtain ⟨g,hg,e⟩:=List.mem_map.1 h1
  obtain ⟨j,hj,rfl⟩:=List.getElem_of_mem hg
  have hj':j<i:=by rw [List.length_take] at hj; omega
  rw [List.getElem_take] at e
  rw [← e]
  exact List.pairwise_iff_getElem.1 (vf hr) j i (by omega) hi hj'
 have hfree:zE S G[i].data.toList=false:=uD.2 fun hm=>by
  obtain ⟨y,hy,e⟩:=List.mem_map.1 hm
  exact absurd e (xD (hbel y hy))
 have hlen:S.length=i:=by
  have:(zb S).length=S.length:=List.length_map _
  rw [← this,hN]
  unfold xX
  rw [List.length_map,List.length_take]
  omega
 have e:uM S G[i].data.toList=0:=by
  unfold uM
  rw [e0,hfree,if_pos rfl,if_neg (by decide),if_neg (by omega)]
 refine ⟨e,(ma_one hg G[i].data.toList).1,?_⟩
 unfold qj
 rw [if_pos e,ZL _ hbel,List.take_succ_eq_append_getElem hi]
 unfold zb xX at *
 rw [List.map_append,List.map_append,hN]
 rfl
theorem UB (G:List ByteArray) (l:List Us):∀ (m i:Nat),i+m=l.length→xp (fun j=>if hj:j<l.length then yN G (l.take j) l[j] else 0) i m=yk G (l.take i) (l.drop i)
 | 0,i,h=>by
  rw [List.drop_eq_nil_of_le (by omega)]
  rfl
 | m+1,i,h=>by
  have hi:i<l.length:=by omega
  rw [Qn hi]
  unfold xp
  rw [dif_pos hi,UB G l m (i+1) (by omega)]
end Go.Proofs.YthmomkjingcbiaaGreatDoor
namespace Go.Proofs.YthmomkjingcbiaaGreatDoor
open Go.RowKit Go.Maps Go.Sort Go.Shelf

theorem V5 (r:Nat→Int) {k n:Nat} (h:k<n):xp r k (n - k)=if r k=0 then xp r (k+1) (n - (k+1)) else r k:=by
 obtain ⟨m,rfl⟩:∃ m,n=k+1+m:=⟨n - (k+1),by omega⟩
 rw [show k+1+m - k=m+1 by omega,show k+1+m - (k+1)=m by omega]
 rfl
set_option maxRecDepth 100000 in
theorem vB (g:Nat) (bd lb:Array Value) (A:Option Addr) (n c:Nat) (ss:List ByteArray) (w:World) (r:Nat→Int) (I:Nat→World→Prop) (J:World→Prop) (hl:n=ss.length) (hn:n≤9223372036854775807)
  (eg:∀ args w,(callFunc g args).run Tryz.prog w=.ok (.enter g args) w) (h0:I 0 w) (hr:∀ i W,I i W→RdS W A ss)
  (hs:∀ i (h:i<ss.length) W,I i W→Calls Tryz.prog g (bd++#[.string ss[i]]++lb) W fun e w'=>e=.returned (.int .i64 (r i))∧(r i=0→I (i+1) w')∧(r i≠0→J w')) :
  Calls Tryz.prog 113 #[.slice A n c,.func (.func g) bd lb] w fun e w'=>e=.returned (.int .i64 (xp r 0 n))∧(xp r 0 n=0→I n w')∧(xp r 0 n≠0→J w'):=by
 have HR:=za hr
 have HL:=za hl
 have HS:=za hs
 have H0:=za h0
 clear hr hl hs h0
 obtain ⟨x,hx⟩:∃ x,x=xp r 0 n:=⟨_,rfl⟩
 rw [← hx]
 have HX:Hid (x=xp r 0 (n - 0)):=hx
 clear hx
 go_enter Tryz.func113,Tryz.ntmps113
 go_wp2
 go_loopg [6,7,10] n (fun gg _ _ s10 wr=>∃ k:Nat,k≤n∧n - k≤gg∧s10=.int .i64 k∧Hid (I k wr)∧Hid (x=xp r k (n - k)))
 case atStart=>exact ⟨0,Nat.zero_le _,by omega,rfl,H0,HX⟩
 case round =>
  clear H0 HX
  obtain ⟨k,hk,hg,rfl,HW,HX⟩:=hrel
  by_cases hlt:k<n
  ·
   have hltz:(k:Int)<(n:Int):=by omega
   have hkl:k<ss.length:=HL.out ▸ hlt
   obtain ⟨b,off,rfl,hb,hc⟩:=(HR.out k wr HW.out) (by intro e; rw [e] at hkl; exact absurd hkl (Nat.not_lt_zero _))
   have hcell:=hc k hkl
   have HC:=za (HS.out k hkl wr HW.out)
   have hA:=HX.out
   rw [V5 r hlt] at hA
   clear hc hb HX
   generalize ss[k]=s at *
   generalize r k=y at *
   by_cases hy:y=0
   ·
    rw [if_pos hy] at hA
    have HA:=za hA
    subst hy
    clear hA
    go_wp2_with (go_at_fn g; refine HC.out.mono ?_; rintro e w' ⟨rfl,h1,_⟩; have HW2:=za (h1 rfl); clear h1)
    go_roundg (n - (k+1))
    case measure=>omega
    case rel=>exact ⟨k+1,by omega,by omega,by go_num,HW2,HA⟩
   ·
    rw [if_neg hy] at hA
    subst hA
    have hx1:(x != 0)=true:=by simpa using hy
    have HY:=za hy
    clear hy
    go_wp2_with (go_at_fn g; refine HC.out.mono ?_; rintro e w' ⟨rfl,_,h2⟩; have HW2:=za (h2 HY.out); clear h2)
    go_ret
    exact ⟨rfl,fun h=>absurd h HY.out,fun _=>HW2.out⟩
  ·
   have hltz:¬ (k:Int)<(n:Int):=by omega
   obtain rfl:k=n:=by omega
   have hA:=HX.out
   rw [Nat.sub_self] at hA
   have hA0:x=0:=hA
   subst hA0
   clear hA HX
   go_wp2
   go_ret
   exact ⟨rfl,HW.out⟩
set_option maxRecDepth 100000 in
theorem qa (g:Nat) (bd lb:Array Value) (A:Option Addr) (n c:Nat) (l:List Us) (w:World) (r:Nat→Int) (I:Nat→World→Prop) (J:World→Prop) (hl:n=l.length) (hn:n≤9223372036854775807)
  (eg:∀ args w,(callFunc g args).run Tryz.prog w=.ok (.enter g args) w) (h0:I 0 w) (hr:∀ i W,I i W→Z9 W A l)
  (ha:∀ i W,I i W→∀ b,I i (W.alloc b)) (hs:∀ i (h:i<l.length) W,I i W→Calls Tryz.prog g (bd++#[l[i].v]++lb) W fun e w'=>e=.returned (.int .i64 (r i))∧(r i=0→I (i+1) w')∧(r i≠0→J w')) :
  Calls Tryz.prog 108 #[.slice A n c,.func (.func g) bd lb] w fun e w'=>e=.returned (.int .i64 (xp r 0 n))∧(xp r 0 n=0→I n w')∧(xp r 0 n≠0→J w'):=by
 have HR:=za hr
 have HL:=za hl
 have HS:=za hs
 have H0:=za h0
 have HAL:=za ha
 clear hr hl hs h0 ha
 obtain ⟨x,hx⟩:∃ x,x=xp r 0 n:=⟨_,rfl⟩
 rw [← hx]
 have HX:Hid (x=xp r 0 (n - 0)):=hx
 clear hx
 go_enter Tryz.func108,Tryz.ntmps108
 go_wp2
 go_loopg [6,7,10] n (fun gg _ _ s10 wr=>∃ k:Nat,k≤n∧n - k≤gg∧s10=.int .i64 k∧Hid (I k wr)∧Hid (x=xp r k (n - k)))
 case atStart=>exact ⟨0,Nat.zero_le _,by omega,rfl,H0,HX⟩
 case round =>
  clear H0 HX
  obtain ⟨k,hk,hg,rfl,HW,HX⟩:=hrel
  by_cases hlt:k<n
  ·
   have hltz:(k:Int)<(n:Int):=by omega
   have hkl:k<l.length:=HL.out ▸ hlt
   obtain ⟨b,off,rfl,hb,hc⟩:=(HR.out k wr HW.out) (by intro e; rw [e] at hkl; exact absurd hkl (Nat.not_lt_zero _))
   have c0:wr.cell? ⟨b,off+k * 5,none⟩=some (.string l[k].nm):=hc k hkl 0 _ rfl
   have c1:wr.cell? ⟨b,off+k * 5+1,none⟩=some (.string l[k].hs):=hc k hkl 1 _ rfl
   have c2:wr.cell? ⟨b,off+k * 5+2,none⟩=some (.string l[k].ml):=hc k hkl 2 _ rfl
   have c3:wr.cell? ⟨b,off+k * 5+3,none⟩=some (.bool l[k].dis):=hc k hkl 3 _ rfl
   have c4:wr.cell? ⟨b,off+k * 5+4,none⟩=some (.slice l[k].ga l[k].gs.length l[k].gc):=hc k hkl 4 _ rfl
   have HC:Hid (Calls Tryz.prog g (bd++#[.agg #[.string l[k].nm,.string l[k].hs,.string l[k].ml,.bool l[k].dis,.slice l[k].ga l[k].gs.length l[k].gc]]++lb) (wr.alloc (.cells #[.string l[k].nm,.string l[k].hs,.string l[k].ml,.bool l[k].dis,.slice l[k].ga l[k].gs.length l[k].gc] 47)) fun e w'=>e=.returned (.int .i64 (r k))∧(r k=0→I (k+1) w')∧(r k≠0→J w')):=HS.out k hkl _ (HAL.out k wr HW.out _)
   have hA:=HX.out
   rw [V5 r hlt] at hA
   clear hc hb HX
   generalize l[k].nm=nm at *
   generalize l[k].hs=hs at *
   generalize l[k].ml=ml at *
   generalize l[k].dis=dis at *
   generalize l[k].ga=ga at *
   generalize l[k].gs.length=gl at *
   generalize l[k].gc=gc at *
   generalize r k=y at *
   by_cases hy:y=0
   ·
    rw [if_pos hy] at hA
    have HA:=za hA
    subst hy
    clear hA
    go_wp2_with (go_at_fn g; refine HC.out.mono ?_; rintro e w' ⟨rfl,h1,_⟩; have HW2:=za (h1 rfl); clear h1)
    go_roundg (n - (k+1))
    case measure=>omega
    case rel=>exact ⟨k+1,by omega,by omega,by go_num,HW2,HA⟩
   ·
    rw [if_neg hy] at hA
    subst hA
    have hx1:(x != 0)=true:=by simpa using hy
    have HY:=za hy
    clear hy
    go_wp2_with (go_at_fn g; refine HC.out.mono ?_; rintro e w' ⟨rfl,_,h2⟩; have HW2:=za (h2 HY.out); clear h2)
    go_ret
    exact ⟨rfl,fun h=>absurd h HY.out,fun _=>HW2.out⟩
  ·
   have hltz:¬ (k:Int)<(n:Int):=by omega
   obtain rfl:k=n:=by omega
   have hA:=HX.out
   rw [Nat.sub_self] at hA
   have hA0:x=0:=hA
   subst hA0
   clear hA HX
   go_wp2
   go_ret
   exact ⟨rfl,HW.out⟩
set_option maxRecDepth 100000 in
theorem YC (u:Us) (w:World) (h:u.Ok w) (hm:vQ w):Calls Tryz.prog 109 #[.agg #[.string u.nm,.string u.hs,.string u.ml,.bool u.dis,.slice u.ga u.gs.length u.gc]] w (zP (yM 2 u) w):=by
 have hb1:=z8 (Below.refl w.heap.size w) (.cells #[.string u.nm,.string u.hs,.string u.ml,.bool u.dis,.slice u.ga u.gs.length u.gc] 47)
 have HC:Hid (Calls Tryz.prog 104 #[.int .i64 2,.agg #[.string u.nm,.string u.hs,.string u.ml,.bool u.dis,.slice u.ga u.gs.length u.gc]] (w.alloc (.cells #[.string u.nm,.string u.hs,.string u.ml,.bool u.dis,.slice u.ga u.gs.length u.gc] 47)) (zP (yM 2 u) (w.alloc (.cells #[.string u.nm,.string u.hs,.string u.ml,.bool u.dis,.slice u.ga u.gs.length u.gc] 47)))):=vy 2 u _ (h.below hb1) (hm.later hb1)
 have HB:=za hb1
 clear h hm hb1
 generalize yM 2 u=x at *
 obtain ⟨nm,hs,ml,dis,ga,gs,gc⟩:=u
 dsimp only at *
 generalize gs.length=gl at *
 go_enter Tryz.func109,Tryz.ntmps109
 go_wp2_with (go_at_call 104; (with_reducible refine HC.out.mono ?_); rintro e w2 ⟨rfl,hb⟩; have HB2:=za (z7 HB.out hb); clear hb)
 go_ret
 exact ⟨rfl,HB2.out⟩

theorem YR {α:Type} (P:α→Bool) (x:Int) (hx:x≠0) (r:Nat→Int):∀ (T:List α) (i:Nat),(∀ j (hj:j<T.length),r (i+j)=if P T[j] then 0 else x)→xp r i T.length=if T.all P then 0 else x
 | [],_,_=>rfl
 | t::T,i,h=>by
  have h0:r i=if P t then 0 else x:=h 0 (by simp)
  have ih:=YR P x hx r T (i+1) (fun j hj=>by
   have:=h (j+1) (by simp; omega)
   rw [show i+1+j=i+(j+1) by omega]
   exact this)
  show (if r i=0 then xp r (i+1) T.length else r i)=_
  rw [ih,h0,List.all_cons]
  cases P t with
  | true=>simp
  | false=>simp [hx]
theorem UQ (r:Nat→Int):∀ (l:List Us) (i:Nat),(∀ j (hj:j<l.length),r (i+j)=yM 2 l[j])→xp r i l.length=yO l
 | [],_,_=>rfl
 | u::l,i,h=>by
  have h0:r i=yM 2 u:=h 0 (by simp)
  have ih:=UQ r l (i+1) (fun j hj=>by
   have:=h (j+1) (by simp; omega)
   rw [show i+1+j=i+(j+1) by omega]
   exact this)
  show (if r i=0 then xp r (i+1) l.length else r i)=_
  rw [ih,h0]
  rfl
theorem V4 (r:Nat→Int):∀ (m i:Nat),(∀ j,i≤j→j<i+m→r j=0)→xp r i m=0
 | 0,_,_=>rfl
 | m+1,i,h=>by
  unfold xp
  rw [if_pos (h i (Nat.le_refl _) (by omega))]
  exact V4 r m (i+1) fun j h1 h2=>h j (by omega) (by omega)
theorem fH:∀ {l:List Us},yO l=0→∀ u∈l,yM 2 u=0
 | [],_,u,h=>by cases h
 | x::r,h,u,hu=>by
  unfold yO at h
  by_cases e:yM 2 x=0
  ·
   rw [if_pos e] at h
   rcases List.mem_cons.1 hu with rfl | hu
   ·
    exact e
   ·
    exact fH h u hu
  ·
   rw [if_neg e] at h
   exact absurd h e
def J2 (l:List Us) (G:List ByteArray):Int:=zu [yO l,ze (zA (l.map (·.nm))) 9,ze (decide ((l.length:Int)≤12)) 7,ze (zM G) 10,ze (zA G) 9,ze (decide ((G.length:Int)≤6)) 7]
theorem JX:∀ l:List Int,yK l=zu l
 | []=>rfl
 | e::l=>by unfold yK zu; rw [JX l]
theorem cE_of {l:List Us} {G:List ByteArray}:(J2 l G≠0→vJ l G=J2 l G)∧(J2 l G=0→vJ l G=yk G [] l):=by
 have h1:J2 l G=if fC l=0 then (if zM G then (if zA G then (if G.length≤6 then 0 else 7) else 9) else 10) else fC l:=by
  unfold J2 fC
  rw [JX]
  have h6:decide ((G.length:Int)≤6)=decide (G.length≤6):=by
   by_cases h:G.length≤6
   ·
    rw [decide_eq_true h,decide_eq_true (by omega)]
   ·
    rw [decide_eq_false h,decide_eq_false (by omega)]
  rw [h6]
  generalize yO l=e0
  generalize ze (zA (l.map (·.nm))) 9=e1
  generalize ze (decide ((l.length:Int)≤12)) 7=e2
  unfold zu zu zu zu
  by_cases h0:e0=0
  ·
   subst h0
   by_cases h1:e1=0
   ·
    subst h1
    by_cases h2:e2=0
    ·
     subst h2
     cases zM G <;> cases zA G <;> by_cases hG:G.length≤6 <;> simp [ze,zu,hG]
    ·
     simp [h2]
   ·
    simp [h1]
  ·
   simp [h0]
 rw [h1]
 unfold vJ
 by_cases h:fC l=0
 ·
  rw [if_pos h,if_pos h]
  cases zM G <;> cases zA G <;> by_cases hG:G.length≤6 <;> simp [hG]
 ·
  rw [if_neg h,if_neg h]
  exact ⟨fun _=>rfl,fun h'=>absurd h' h⟩
theorem X2 {l:List Us} {G:List ByteArray} (h:J2 l G=0):(∀ u∈l,yM 2 u=0)∧zA (l.map (·.nm))=true∧l.length≤12∧zM G=true∧zA G=true∧G.length≤6:=by
 unfold J2 at h
 have hz:=zT h
 refine ⟨fH (hz _ (by simp)),yq (n:=9) (by decide) (hz _ (by simp)),?_,yq (n:=10) (by decide) (hz _ (by simp)),yq (n:=9) (by decide) (hz (ze (zA G) 9) (by simp)),?_⟩
 ·
  have:=yq (n:=7) (by decide) (hz (ze (decide ((l.length:Int)≤12)) 7) (by simp))
  rw [decide_eq_true_eq] at this
  omega
 ·
  have:=yq (n:=7) (by decide) (hz (ze (decide ((G.length:Int)≤6)) 7) (by simp))
  rw [decide_eq_true_eq] at this
  omega
theorem VS (l:List Us):(l.map fun u=>Value.string u.nm)=yz (l.map (·.nm)):=by unfold yz; rw [List.map_map]; rfl

set_option maxRecDepth 100000 in
theorem fF (A:Option Addr) (c n:Nat) (l:List Us) (w:World) (hl:n=l.length) (hn:n≤1000) (hr:Z9 w A l) :
  Calls Tryz.prog 111 #[.slice A n c] w fun e w'=>∃ A2 c2,e=.returned (.slice A2 n c2)∧RdS w' A2 (l.map (·.nm))∧Below w.heap.size w w':=by
 obtain ⟨i0,hi,hz0,hz1,hz2⟩:=info_parts XR
 have HR:=za hr
 have HL:=za hl
 have HN:Hid (w.ownsRow w.heap.size 9 1 (.slice none 0 0) 0 ((l.take 0).map fun u=>Value.string u.nm)):=World.ownsRow_nil _ _ _ _
 clear hr hl
 go_enter Tryz.func111,Tryz.ntmps111
 go_wp2
 go_loopg [3,5,8] n (fun gg s3 _ s8 wr=>∃ k:Nat,k≤n∧n - k≤gg∧s8=.int .i64 k∧Hid (Below w.heap.size w wr)∧Hid (wr.ownsRow w.heap.size 9 1 s3 k ((l.take k).map fun u=>Value.string u.nm)))
 case atStart=>exact ⟨0,Nat.zero_le _,by omega,rfl,Below.refl _ _,HN.out⟩
 case round =>
  clear HN
  obtain ⟨k,hk,hg,rfl,HW,HO⟩:=hrel
  by_cases hlt:k<n
  ·
   have hltz:(k:Int)<(n:Int):=by omega
   have hkl:k<l.length:=HL.out ▸ hlt
   obtain ⟨b,off,rfl,hb,hc⟩:=(HR.out.later HW.out) (by intro e; rw [e] at hkl; exact absurd hkl (Nat.not_lt_zero _))
   have c0:wr.cell? ⟨b,off+k * 5,none⟩=some (.string l[k].nm):=hc k hkl 0 _ rfl
   have c1:wr.cell? ⟨b,off+k * 5+1,none⟩=some (.string l[k].hs):=hc k hkl 1 _ rfl
   have c2:wr.cell? ⟨b,off+k * 5+2,none⟩=some (.string l[k].ml):=hc k hkl 2 _ rfl
   have c3:wr.cell? ⟨b,off+k * 5+3,none⟩=some (.bool l[k].dis):=hc k hkl 3 _ rfl
   have c4:wr.cell? ⟨b,off+k * 5+4,none⟩=some (.slice l[k].ga l[k].gs.length l[k].gc):=hc k hkl 4 _ rfl
   have HU2:=za (HO.out.alloc (.cells #[.string l[k].nm,.string l[k].hs,.string l[k].ml,.bool l[k].dis,.slice l[k].ga l[k].gs.length l[k].gc] 47))
   have HW2:=za (z7 HW.out (z8 (Below.refl wr.heap.size wr) (.cells #[.string l[k].nm,.string l[k].hs,.string l[k].ml,.bool l[k].dis,.slice l[k].ga l[k].gs.length l[k].gc] 47)))
   have HT:Hid (((l.take (k+1)).map fun u=>Value.string u.nm)=((l.take k).map fun u=>Value.string u.nm)++[.string l[k].nm]):=by
    show _=_
    rw [List.take_succ_eq_append_getElem hkl,List.map_append]
    rfl
   have hsz:=HW.out.size
   clear hc hb HO HW
   generalize l[k].nm=nm at *
   generalize l[k].hs=hs at *
   generalize l[k].ml=ml at *
   generalize l[k].dis=dis at *
   generalize l[k].ga=ga at *
   generalize l[k].gs.length=gl at *
   generalize l[k].gc=gc at *
   go_wp2_with (first
    | (at_builtin; refine wpList_append_own _ rfl _ _ 45 rfl w.heap.size 9 i0 (.string ⟨#[]⟩) 1 16 Tryz.underlying45 hi hz0 hz1 hz2 rfl (by decide) _ _ _ rfl (HU2.out.alloc _) ⟨wr.heap.size+1,0,none⟩ 1 1 [.string nm] rfl rfl (fun j u hu=>by rw [Addr.add_lit,Nat.zero_add,World.cell?_alloc_at _ _ _ _ (by simp)]; simpa using hu) (by simp [Value.oneCell']) (by unfold maxLen; omega) (by omega) (by simp; omega) ?_; intro v2 w2 hown' hgrow _; have HOw2:=za hown'; have HGw2:=za hgrow; clear hown' hgrow)
    | fail)
   have R1:=za (app10 HW2.out HU2.out HGw2.out)
   have R2:Hid (w2.ownsRow w.heap.size 9 1 v2 (k+1) ((l.take (k+1)).map fun u=>Value.string u.nm)):=by
    show World.ownsRow _ _ _ _ _ _ _
    rw [HT.out]
    exact HOw2.out
   clear HT HOw2 HGw2 HU2 HW2
   go_roundg (n - (k+1))
   case measure=>omega
   case rel=>exact ⟨k+1,by omega,by omega,by go_num,R1,R2⟩
  ·
   have hltz:¬ (k:Int)<(n:Int):=by omega
   obtain rfl:k=n:=by omega
   have hown:=HO.out
   rw [List.take_of_length_le (by have:=HL.out; omega)] at hown
   have hsh:∃ A2 c2,u3=.slice A2 k c2∧RdS wr A2 (l.map (·.nm)):=by
    have hk':k=(l.map (·.nm)).length:=by rw [List.length_map]; exact HL.out
    have hs:∃ A2 c2,u3=.slice A2 k c2:=by
     have e:(l.map fun u=>Value.string u.nm)=(l.map fun u=>u.nm.data.toList).map encStr:=by
      rw [List.map_map]
      refine List.map_congr_left fun u _=>?_
      exact (YS u.nm).symm
     rw [e] at hown
     have hk2:k=(l.map fun u=>u.nm.data.toList).length:=by rw [List.length_map]; exact HL.out
     rw [hk2] at hown ⊢
     exact ve hown
    obtain ⟨A2,c2,rfl⟩:=hs
    refine ⟨A2,c2,rfl,?_⟩
    have h2:=zv hown (Nat.zero_le _)
    rw [VS] at h2
    rw [hk'] at h2
    exact ZK h2
   obtain ⟨A2,c2,rfl,hrd⟩:=hsh
   have HF:=za hrd
   have HB:=za HW.out
   clear hrd hown HO HW
   go_wp2
   go_ret
   exact ⟨A2,⟨c2,rfl⟩,HF.out,HB.out⟩
set_option maxRecDepth 100000 in
theorem jx (Aa:Option Addr) (n c:Nat) (ss:List ByteArray) (w:World) (hl:n=ss.length) (hr:RdS w Aa ss) (hm:n≤9223372036854775807) :
  Calls Tryz.prog 110 #[.slice Aa n c] w fun e w'=>e=.returned (.int .i64 (ze (zA ss) 9))∧∃ q,w'=w.drewN q:=by
 have HR:=za hr
 have HL:=za hl
 clear hr hl
 obtain ⟨r,hr⟩:∃ r,r=ze (zA ss) 9:=⟨_,rfl⟩
 rw [← hr]
 have HE:=za hr
 clear hr
 go_enter Tryz.func110,Tryz.ntmps110
 go_wp2
 go_loopg [3] n (fun gg s3 wr=>∃ k:Nat,(k≤n∨k=1)∧1≤k∧n - k≤gg∧s3=.int .i64 k∧(∃ q,wr=w.drewN q)∧Hid (∀ j (h:j+1<ss.length),j+1<k→yg ss[j] ss[j+1]=true))
 case atStart=>exact ⟨1,.inr rfl,Nat.le_refl _,by omega,rfl,⟨0,rfl⟩,fun j _ hj=>absurd hj (by omega)⟩
 case round =>
  obtain ⟨k,hk,hk1,hg,rfl,⟨q,hq⟩,A⟩:=hrel
  have HQ:=za hq
  have HW:Hid (RdS wr Aa ss):=by rw [hq]; exact HR.out.below (zo (Below.refl w.heap.size w) q)
  clear hq
  by_cases hlt:k<n
  ·
   have hltz:(k:Int)<(n:Int):=by omega
   have hkl:k<ss.length:=HL.out ▸ hlt
   have hkl':k - 1<ss.length:=by omega
   obtain ⟨b,off,hA,hcell⟩:=HW.out.at6 k hkl
   obtain ⟨b',off',hA',hcell'⟩:=HW.out.at6 (k - 1) hkl'
   obtain ⟨rfl,rfl⟩:b'=b∧off'=off:=by
    rw [hA] at hA'
    simp at hA'
    exact ⟨hA'.1.symm,hA'.2.symm⟩
   subst hA
   have zk:(k:Int) - 1=((k - 1:Nat):Int):=by omega
   have z1:((k - 1:Nat):Int)<(n:Int):=by omega
   have hcw:∀ i,(wr.drewN i).cell? ⟨b',off'+k,none⟩=some (.string ss[k]):=fun i=>hcell
   have hcw':∀ i,(wr.drewN i).cell? ⟨b',off'+(k - 1),none⟩=some (.string ss[k - 1]):=fun i=>hcell'
   have HX:Hid (yg ss[k - 1] ss[k]=true→∀ j (h:j+1<ss.length),j+1<k+1→yg ss[j] ss[j+1]=true):=fun hq j h hj=>by
    by_cases e:j=k - 1
    ·
     subst e
     have e2:k - 1+1=k:=by omega
     have:ss[k - 1+1]=ss[k]:=by congr 1
     rw [this]; exact hq
    ·
     exact A.out j h (by omega)
   have HF:Hid (yg ss[k - 1] ss[k]=false→r=9):=fun hf=>by
    rw [HE.out]
    have:zA ss=false:=qF ss (k - 1) (by omega) (by
     have:ss[k - 1+1]=ss[k]:=by congr 1; omega
     rw [this]; exact hf)
    rw [this]; rfl
   have HC:Hid (∀ W,Calls Tryz.prog 138 #[.string ss[k - 1],.string ss[k]] W fun e w'=>e=.returned (.int .i64 (Lib.compareBytes ss[k - 1].data.toList ss[k].data.toList))∧w'=W):=fun W=>xT _ _ W
   have HD:Hid (yg ss[k - 1] ss[k]=decide (Lib.compareBytes ss[k - 1].data.toList ss[k].data.toList<0)):=rfl
   generalize Lib.compareBytes ss[k - 1].data.toList ss[k].data.toList=cm at *
   generalize yg ss[k - 1] ss[k]=q6 at *
   generalize ss[k]=x at *
   generalize ss[k - 1]=y at *
   clear A hcell hcell'
   have hwr:IntKind.i64.wrap ((k - 1:Nat):Int)=((k - 1:Nat):Int):=IntWalk.i64_in _ (by omega)
   by_cases hc:cm<0
   ·
    have hq:q6=true:=by rw [HD.out,decide_eq_true hc]
    have HY:=za (HX.out hq)
    have hcd:decide (cm ≥ 0)=false:=decide_eq_false (by omega)
    have hc2:¬ cm ≥ 0:=by omega
    have hc3:¬ 0≤cm:=by omega
    clear HX HF HD hq
    go_wp2
    go_quiet (first | (go_at_call 138; exact Calls.quiet_of_same (HC.out _)))
    go_wp2
    go_roundg (n - (k+1))
    case measure=>omega
    case rel=>exact ⟨k+1,.inl (by omega),by omega,by omega,by go_num,⟨q+nq,by rw [HQ.out,World.drewN_drewN]⟩,HY⟩
   ·
    have hq:q6=false:=by rw [HD.out,decide_eq_false hc]
    have hr9:r=9:=HF.out hq
    subst hr9
    have hc2:cm ≥ 0:=by omega
    have hc3:0≤cm:=by omega
    clear HX HF HD hq
    go_wp2
    go_quiet (first | (go_at_call 138; exact Calls.quiet_of_same (HC.out _)))
    go_wp2
    go_ret
    exact ⟨rfl,q+nq,by rw [HQ.out,World.drewN_drewN]⟩
  ·
   have hltz:¬ (k:Int)<(n:Int):=by omega
   have hr0:r=0:=by
    rw [HE.out]
    have:zA ss=true:=qG ss (fun j h=>A.out j h (by have:=HL.out; omega))
    rw [this]; rfl
   subst hr0
   clear A
   go_wp2
   go_ret
   exact ⟨rfl,q,HQ.out⟩


/-! ### a user is added -/
def YJn11 (D G C1:Nat) (g n:ByteArray):Nat→Value→Prop
 | 2,v=>v=.pointer (some ⟨D,2,none⟩)
 | 3,v=>v=.pointer (some ⟨G,0,none⟩)
 | 4,v=>v=.string g
 | 5,v=>v=.pointer (some ⟨C1,0,none⟩)
 | 6,v=>v=.string n
 | _,v=>v=.pointer (some ⟨D,0,none⟩)
def YJnW11 (D G C1:Nat) (g n:ByteArray) (j:Nat) (v:Value) (_:World):Prop:=YJn11 D G C1 g n j v
section
variable {w0 w:World} {D P M G:Nat} {A:zt} {L:zg} {S:zj} {k:Nat}
set_option maxRecDepth 100000 in
theorem Zv (C0 C1:Nat) (g n:ByteArray) (ho:zl w0 w D P M G A L S) (hk:zH S k) (h9:k≤900) (hc0:w.cell? ⟨C0,0,none⟩=some (.pointer (some ⟨D,0,none⟩))) (hc1:w.cell? ⟨C1,0,none⟩=some (.string n)) (hg:g.size≤9223372036854775807) (hn:n.size≤9223372036854775807) :
  Calls Tryz.prog 202 #[.string g,.pointer (some ⟨C0,0,none⟩),.pointer (some ⟨C1,0,none⟩)] w fun e w'=>e=.returned (.int .i64 (qK S g.data.toList n.data.toList))∧zK w0 w D P M G A L (ql S g.data.toList n.data.toList) w':=by
 have HO:=za ho
 have HST:Hid (∀ W,Below w.heap.size w W→Calls Tryz.prog 162 #[.pointer (some ⟨G,0,none⟩),.string g,.string n] W fun e w'=>e=.returned (.int .i64 (qK S g.data.toList n.data.toList))∧zK w0 w D P M G A L (ql S g.data.toList n.data.toList) w'):=fun W hb =>
  ((ho.later hb).gjoin hk h9 g n hg hn).mono fun e w' ⟨he,hgo⟩=>⟨he,hgo.ahead hb⟩
 have HC0:Hid (∀ W,Below w.heap.size w W→W.cell? ⟨C0,0,none⟩=some (.pointer (some ⟨D,0,none⟩))):=fun W hb=>(hb.cell (p:=⟨C0,0,none⟩) (World.block_lt_of_cell? w _ hc0)).trans hc0
 have HC1:Hid (∀ W,Below w.heap.size w W→W.cell? ⟨C1,0,none⟩=some (.string n)):=fun W hb=>(hb.cell (p:=⟨C1,0,none⟩) (World.block_lt_of_cell? w _ hc1)).trans hc1
 clear ho hk h9 hc0 hc1 hg hn
 generalize qK S g.data.toList n.data.toList=r at *
 generalize ql S g.data.toList n.data.toList=S' at *
 go_enter Tryz.func202,Tryz.ntmps202
 go_wp2_with fail
 refine zI (by kernel_rfl) 7 (fun W=>Below w.heap.size w W) (fun W=>zK w0 w D P M G A L S' W) (YJnW11 D G C1 g n) (fun v=>v=.int .i64 r) ?F ?hF (by kernel_rfl) (by kernel_rfl) (by kernel_rfl) (by kernel_rfl) (by decide) (zz (Below.refl _ _)) ?step ?fin
 case hF =>
  intro x
  simp only [List.map_cons,List.map_nil,xw,Act.put,List.setIfInBounds_toArray,List.set_cons_zero,List.set_cons_succ,Nat.zero_add,Nat.reduceAdd]
  exact rfl
 case step =>
  refine ⟨?_,?_,?_,?_,?_,?_,?_,?_,?_,trivial⟩
  ·
   intro x W
   refine ⟨fun _ hW hdep K hK=>?_,(fun h=>absurd h (by decide)),(fun h=>absurd h (by decide))⟩
   have c:=HC0.out W hW
   clear hdep
   go_simp
   exact hK _ _ rfl hW (fun _ _ h=>h)
  ·
   intro x W
   refine ⟨fun _ hW hdep K hK=>?_,(fun h=>absurd h (by decide)),(fun h=>absurd h (by decide))⟩
   have h0:x 0=_:=hdep 0 rfl
   clear hdep
   simp only [h0] at hK
   go_simp
   exact hK _ _ rfl hW (fun _ _ h=>h)
  ·
   intro x W
   refine ⟨fun _ hW hdep K hK=>?_,(fun h=>absurd h (by decide)),(fun h=>absurd h (by decide))⟩
   have h1:x 1=_:=hdep 1 rfl
   clear hdep
   simp only [h1] at hK
   go_simp
   exact hK _ _ rfl hW (fun _ _ h=>h)
  ·
   intro x W
   refine ⟨fun _ hW hdep K hK=>?_,(fun h=>absurd h (by decide)),(fun h=>absurd h (by decide))⟩
   have h2:x 2=_:=hdep 2 rfl
   have c:=(HO.out.later hW).c2
   clear hdep
   simp only [h2] at hK
   go_simp
   exact hK _ _ rfl hW (fun _ _ h=>h)
  ·
   intro x W
   refine ⟨fun _ hW hdep K hK=>?_,(fun h=>absurd h (by decide)),(fun h=>absurd h (by decide))⟩
   clear hdep
   go_simp
   exact hK _ _ rfl hW (fun _ _ h=>h)
  ·
   intro x W
   refine ⟨fun _ hW hdep K hK=>?_,(fun h=>absurd h (by decide)),(fun h=>absurd h (by decide))⟩
   clear hdep
   go_simp
   exact hK _ _ rfl hW (fun _ _ h=>h)
  ·
   intro x W
   refine ⟨fun _ hW hdep K hK=>?_,(fun h=>absurd h (by decide)),(fun h=>absurd h (by decide))⟩
   have h5:x 5=_:=hdep 5 rfl
   have c:=HC1.out W hW
   clear hdep
   simp only [h5] at hK
   go_simp
   exact hK _ _ rfl hW (fun _ _ h=>h)
  ·
   intro x W
   refine ⟨(fun h=>absurd h (by decide)),fun _ hW hdep K hK=>?_,(fun h=>absurd h (by decide))⟩
   have h3:x 3=_:=hdep 3 rfl
   have h4:x 4=_:=hdep 4 rfl
   have h6:x 6=_:=hdep 6 rfl
   have hc:=HST.out W hW
   clear hdep
   simp only [h3,h4,h6] at hK
   go_simp
   refine hc.mono ?_
   rintro e W' ⟨rfl,hg⟩
   exact hK _ _ rfl hg
  ·
   intro x W
   refine ⟨(fun h=>absurd h (by decide)),(fun h=>absurd h (by decide)),fun _ hW hdep K hK=>?_⟩
   have h7:x 7=_:=hdep 7 rfl (by decide)
   clear hdep
   simp only [h7] at hK
   go_simp
   exact hK _ rfl
 case fin =>
  intro x W hW hZ
  have h8:x 8=.int .i64 r:=hZ 8 (by decide) (by decide)
  have HF:=za hW
  clear hW hZ HST HO HC0 HC1
  rw [h8]
  go_wp2
  go_ret
  exact ⟨rfl,HF.out⟩
def Jn11 (w0 w1:World) (D P M G:Nat) (A:zt) (L:zg) (S:zj) (u:Us) (N:List (List UInt8)) (i:Nat) (W:World):Prop :=
 zl w0 W D P M G A L (xG S u.nm.data.toList (u.gs.take i))∧zN w1 W∧∀ g∈u.gs.take i,fO N g.data.toList=true
theorem fK {w1 W:World} {b:Nat} {c:Array Value} {T:TypeId} {fr:Nat×Nat} (h:zN w1 W) (hb:w1.heap[b]? = some (.cells c T fr)) (h1:T≠108) (h2:T≠164) (h3:T≠167) (j:Nat):W.cell? ⟨b,j,none⟩=w1.cell? ⟨b,j,none⟩:=by
 have:=h b c T fr hb h1 h2 h3
 unfold World.cell?
 rw [this,hb]
set_option maxRecDepth 100000 in
theorem Uj {pre:List Us} {Gs:List ByteArray} (u:Us) (ho:zl w0 w D P M G A L S) (hg:Vl A L S pre Gs k) (h9:k≤800) (hc:yM 2 u=0) (hup:∀ v∈pre,bytesBefore v.nm.data.toList u.nm.data.toList=true) (h12:pre.length<12) (hu:u.Ok w0) (h5:vQ w0) :
  Calls Tryz.prog 115 #[.pointer (some ⟨D,0,none⟩),.agg #[.string u.nm,.string u.hs,.string u.ml,.bool u.dis,.slice u.ga u.gs.length u.gc]] w fun e w'=>e=.returned (.int .i64 (yN Gs pre u)) ∧
   (yN Gs pre u=0→zl w0 w' D P M G (yB A u.nm.data.toList (u.hs.data.toList,u.dis)) (Xl L u.nm.data.toList u.ml.data.toList) (xG S u.nm.data.toList u.gs))∧(yN Gs pre u≠0→Below w0.heap.size w0 w'):=by
 obtain ⟨_,hn5,hh5⟩:=uo hc
 obtain ⟨hfo,h6,hns,hri⟩:=X1 hc
 have hN:zb S=xX Gs:=hg.1.2.2
 have hst:=step11 hg u hc hup h12
 have hL:=hg.2
 have hAl:=hg.len
 have hfr:=hg.fresh hup
 have hG10:=hg.1.1.grp
 obtain ⟨w1,hw1⟩:∃ w1,w1=(w.alloc (.cells #[.pointer (some ⟨D,0,none⟩)] 39)).alloc (.cells #[.string u.nm,.string u.hs,.string u.ml,.bool u.dis,.slice u.ga u.gs.length u.gc] 47):=⟨_,rfl⟩
 have hb1:Below w.heap.size w w1:=by rw [hw1]; exact z8 (z8 (Below.refl _ _) _) _
 have ka:(w.alloc (.cells #[.pointer (some ⟨D,0,none⟩)] 39)).heap[w.heap.size]? = some (.cells #[.pointer (some ⟨D,0,none⟩)] 39 (0,0)):=(MapKept.heap_alloc w _).1
 have ks:(w.alloc (.cells #[.pointer (some ⟨D,0,none⟩)] 39)).heap.size=w.heap.size+1:=by simp
 have k0:w1.heap[w.heap.size]? = some (.cells #[.pointer (some ⟨D,0,none⟩)] 39 (0,0)):=by rw [hw1]; exact ((z8 (Below.refl _ _) _).block w.heap.size (by omega)).trans ka
 have k1:w1.heap[w.heap.size+1]? = some (.cells #[.string u.nm,.string u.hs,.string u.ml,.bool u.dis,.slice u.ga u.gs.length u.gc] 47 (0,0)):=by rw [hw1,← ks]; exact (MapKept.heap_alloc _ _).1
 have hcell0:∀ W,zN w1 W→W.cell? ⟨w.heap.size,0,none⟩=some (.pointer (some ⟨D,0,none⟩)):=fun W hk=>(fK hk k0 (by decide) (by decide) (by decide) 0).trans (by simp [World.cell?,k0])
 have hcell1:∀ W j,zN w1 W→W.cell? ⟨w.heap.size+1,j,none⟩=(#[.string u.nm,.string u.hs,.string u.ml,.bool u.dis,.slice u.ga u.gs.length u.gc]:Array Value)[j]? := fun W j hk=>(fK hk k1 (by decide) (by decide) (by decide) j).trans (by simp [World.cell?,k1])
 have hI0:Jn11 w0 w1 D P M G A L S u (xX Gs) 0 w1:=⟨ho.later hb1,zN.refl _,fun g hg=>by simp at hg⟩
 have hE:=vB 202 #[] #[.pointer (some ⟨w.heap.size,0,none⟩),.pointer (some ⟨w.heap.size+1,0,none⟩)] u.ga u.gs.length u.gc u.gs w1 (fun i=>if h:i<u.gs.length then (if fO (xX Gs) u.gs[i].data.toList then 0 else 8) else 0) (Jn11 w0 w1 D P M G A L S u (xX Gs)) (fun W=>Below w0.heap.size w0 W) rfl (Nat.le_trans hu.len hu.cap)
  (enters_of Tryz.func202 (by kernel_rfl) rfl) hI0 (fun i W hI=>hu.rd.below hI.1.below) (fun i hi W hI=>by
   obtain ⟨h1,h2,h3⟩:=hI
   have hJ:=YE hG10 hn5 hns hri hfr i (Nat.le_of_lt hi) (fun g hg=>by rw [hN]; exact h3 g hg)
   have hj:=UJ hi hJ hn5 hns hri hfr
   rw [hN] at hj
   refine (Zv w.heap.size (w.heap.size+1) u.gs[i] u.nm h1 hJ.good (by omega) (hcell0 W h2) (by rw [hcell1 W 0 h2]; rfl) (hu.all _ (List.getElem_mem hi)) (Nat.le_trans hu.nm (by decide))).mono ?_
   rintro e w' ⟨he,hgo⟩
   rw [dif_pos hi]
   rw [hj] at he
   refine ⟨he,fun h0=>?_,fun _=>hgo.1.below⟩
   refine ⟨by rw [ZW S _ hi]; exact hgo.1,h2.trans hgo.2,fun g hg=>?_⟩
   rw [List.take_succ_eq_append_getElem hi,List.mem_append] at hg
   rcases hg with hg | hg
   ·
    exact h3 g hg
   ·
    rw [List.mem_singleton] at hg
    subst hg
    by_cases hh:fO (xX Gs) u.gs[i].data.toList=true
    ·
     exact hh
    ·
     rw [if_neg hh] at h0; exact absurd h0 (by decide))
 have hev:xp (fun i=>if h:i<u.gs.length then (if fO (xX Gs) u.gs[i].data.toList then 0 else 8) else 0) 0 u.gs.length=if u.gs.all (fun g=>fO (xX Gs) g.data.toList) then 0 else 8 :=
  YR (fun g:ByteArray=>fO (xX Gs) g.data.toList) 8 (by decide) _ u.gs 0 (fun j hj=>by
   simp only [Nat.zero_add]
   rw [dif_pos hj])
 rw [hev] at hE
 have hone:yN Gs pre u=if u.gs.all (fun g=>fO (xX Gs) g.data.toList) then (if pre.any (fun v=>!(u.ml.data.toList == []) && (u.ml.data.toList == v.ml.data.toList)) then 9 else 0) else 8:=rfl
 obtain ⟨r,hr⟩:∃ r,r=yN Gs pre u:=⟨_,rfl⟩
 rw [← hr]
 rw [hone] at hr
 have HRR:=za hr
 clear hr
 have HE:=za hE
 have HNS:u.nm.size≤1000:=qh hn5
 have HHS:u.hs.size≤1000:=qn hh5
 have HML:u.ml.size≤9223372036854775807:=Nat.le_trans hu.ml (by decide)
 have HPUT:Hid (∀ W,zl w0 W D P M G A L (xG S u.nm.data.toList u.gs)→Calls Tryz.prog 119 #[.pointer (some ⟨D,0,none⟩),.string u.nm,.agg #[.string u.hs,.bool u.dis]] W fun e w'=>e=.returned (.tuple #[])∧zK w0 W D P M G (yB A u.nm.data.toList (u.hs.data.toList,u.dis)) L (xG S u.nm.data.toList u.gs) w'):=fun W h=>qe u.nm u.hs u.dis h (by omega) HNS HHS
 have HPM:Hid (∀ W,zl w0 W D P M G (yB A u.nm.data.toList (u.hs.data.toList,u.dis)) L (xG S u.nm.data.toList u.gs)→Calls Tryz.prog 148 #[.pointer (some ⟨D,0,none⟩),.string u.nm,.string u.ml] W fun e w'=>e=.returned (.int .i64 (uW L u.nm.data.toList u.ml.data.toList))∧zK w0 W D P M G (yB A u.nm.data.toList (u.hs.data.toList,u.dis)) (Xl L u.nm.data.toList u.ml.data.toList) (xG S u.nm.data.toList u.gs) w'):=fun W h =>
  fz u.nm u.ml h (by omega) (h5.later h.below) HNS HML
 have HCL0:=za hcell0
 have HCL1:=za hcell1
 have HST:=za hst
 have hmf:=mkf
 clear hst hE hI0 hcell0 hcell1 hone hev hN hL hAl hfr hG10 hg hc hup h12 hu h5 hn5 hh5 hfo h6 hns hri HNS HHS HML h9 ho
 generalize (pre.any fun v=>!(u.ml.data.toList == []) && (u.ml.data.toList == v.ml.data.toList))=pm at *
 have hen1:(Tryz.prog.funcs[115]?).isSome=true:=by kernel_rfl
 clear hen1
 rw [hw1] at HE
 go_enter Tryz.func115,Tryz.ntmps115
 go_wp2_with fail
 with_reducible refine HE.out.mono ?_
 rw [← hw1]
 rintro e w2 ⟨rfl,hok,hbad⟩
 clear HE
 cases hall:u.gs.all (fun g=>fO (xX Gs) g.data.toList) with
 | false =>
  rw [hall] at hbad
  have HF:=za (hbad (by decide))
  obtain rfl:r=8:=by have:=HRR.out; rw [hall] at this; exact this
  clear hok hbad
  go_wp2
  go_ret
  exact ⟨rfl,fun h=>absurd h (by decide),fun _=>HF.out⟩
 | true =>
  rw [hall] at hok
  obtain ⟨j1,j2,_⟩:=hok rfl
  rw [List.take_length] at j1
  have hst2:=HST.out hall
  obtain rfl:r=uW L u.nm.data.toList u.ml.data.toList:=by
   have:=HRR.out
   rw [hall,if_pos rfl] at this
   rw [this]
   exact hst2.1.symm
  have HO:=za j1
  have HK:=za j2
  have HP2:=za (HPUT.out w2 j1)
  have d0:=HCL0.out w2 j2
  have d1:w2.cell? ⟨w.heap.size+1,0,none⟩=some (.string u.nm):=HCL1.out w2 0 j2
  have d2:w2.cell? ⟨w.heap.size+1,1,none⟩=some (.string u.hs):=HCL1.out w2 1 j2
  have d3:w2.cell? ⟨w.heap.size+1,3,none⟩=some (.bool u.dis):=HCL1.out w2 3 j2
  clear hok hbad j1 j2 hst2 HPUT HST HO HRR
  go_wp2_with fail
  with_reducible refine HP2.out.mono ?_
  rintro e w3 ⟨rfl,hgo⟩
  have hk3:=HK.out.trans hgo.2
  have HP3:=za (HPM.out w3 hgo.1)
  have e0:=HCL0.out w3 hk3
  have e1:w3.cell? ⟨w.heap.size+1,0,none⟩=some (.string u.nm):=HCL1.out w3 0 hk3
  have e2:w3.cell? ⟨w.heap.size+1,2,none⟩=some (.string u.ml):=HCL1.out w3 2 hk3
  clear hgo hk3 HP2 HK HPM d0 d1 d2 d3
  go_wp2_with fail
  with_reducible refine HP3.out.mono ?_
  rintro e w4 ⟨rfl,hgo⟩
  have HF:=za hgo.1
  clear hgo HP3 e0 e1 e2
  go_wp2
  go_ret
  exact ⟨rfl,fun _=>HF.out,fun _=>HF.out.below⟩
end

/-! ### Of -/
def Of11 (l:List Us) (G:List ByteArray) (w:World) (e:Ending) (w':World):Prop :=
 (vJ l G≠0∧e=.returned (.tuple #[.pointer none,.int .i64 (vJ l G)])∧Below w.heap.size w w') ∨
 (vJ l G=0∧∃ D P M Gr A L S k,e=.returned (.tuple #[.pointer (some ⟨D,0,none⟩),.int .i64 0])∧zl w w' D P M Gr A L S∧Vl A L S l G k∧k≤200)
section
variable {w:World} {A A2:Option Addr} {c c2 n m:Nat} {l:List Us} {G:List ByteArray}
theorem Yu (W:World) (hb:Below w.heap.size w W) (hl:n=l.length) (hn:n≤1000) (hr:Z9 w A l) (ho:∀ u∈l,u.Ok w) (h5:vQ w) :
  Calls Tryz.prog 108 #[.slice A n c,.func (.func 109) #[] #[]] W (zP (yO l) W):=by
 have h:=qa 109 #[] #[] A n c l W (fun i=>if h:i<l.length then yM 2 l[i] else 0) (fun _ W'=>Below W.heap.size W W') (fun W'=>Below W.heap.size W W') hl (by omega)
  (enters_of Tryz.func109 (by kernel_rfl) rfl) (Below.refl _ _) (fun i W' hb'=>hr.later (z7 hb hb')) (fun i W' hb' o=>z7 hb' (z8 (Below.refl _ _) _))
  (fun i hi W' hb'=>(YC l[i] W' ((ho _ (List.getElem_mem hi)).below (z7 hb hb')) (h5.later (z7 hb hb'))).mono fun e w' ⟨he,hb2⟩=>⟨by rw [he,dif_pos hi],fun _=>z7 hb' hb2,fun _=>z7 hb' hb2⟩)
 rw [show xp (fun i=>if h:i<l.length then yM 2 l[i] else 0) 0 n=yO l by
  rw [hl]; exact UQ _ l 0 (fun j hj=>by simp only [Nat.zero_add]; rw [dif_pos hj])] at h
 refine h.mono ?_
 rintro e w' ⟨he,h1,h2⟩
 refine ⟨he,?_⟩
 by_cases h0:yO l=0
 ·
  exact h1 h0
 ·
  exact h2 h0
theorem Zg (W:World) (hb:Below w.heap.size w W) (hm:m=G.length) (hm1:m≤1000) (hg:RdS w A2 G) (hgs:∀ g∈G,g.size≤9223372036854775807) :
  Calls Tryz.prog 113 #[.slice A2 m c2,.func (.func 52) #[] #[]] W (zP (ze (zM G) 10) W):=by
 have h:=vB 52 #[] #[] A2 m c2 G W (fun i=>if h:i<G.length then ze (zf G[i].data.toList) 10 else 0) (fun _ W'=>Below W.heap.size W W') (fun W'=>Below W.heap.size W W') hm (by omega)
  (enters_of Tryz.func52 (by kernel_rfl) rfl) (Below.refl _ _) (fun i W' hb'=>hg.below (z7 hb hb'))
  (fun i hi W' hb'=>(yE G[i] W' (hgs _ (List.getElem_mem hi))).mono fun e w' ⟨he,hb2⟩=>⟨by rw [he,dif_pos hi],fun _=>z7 hb' hb2,fun _=>z7 hb' hb2⟩)
 rw [show xp (fun i=>if h:i<G.length then ze (zf G[i].data.toList) 10 else 0) 0 m=ze (zM G) 10 by
  rw [hm]; exact YR (fun g:ByteArray=>zf g.data.toList) 10 (by decide) _ G 0 (fun j hj=>by simp only [Nat.zero_add]; rw [dif_pos hj]; rfl)] at h
 refine h.mono ?_
 rintro e w' ⟨he,h1,h2⟩
 refine ⟨he,?_⟩
 by_cases h0:ze (zM G) 10=0
 ·
  exact h1 h0
 ·
  exact h2 h0
theorem Zh (D P M Gr:Nat) (W:World) (hown:zl w W D P M Gr [] [] []) (hm:m=G.length) (h6:G.length≤6) (hn6:zM G=true) (hr6:zA G=true) (hg:RdS w A2 G) (hgs:∀ g∈G,g.size≤9223372036854775807) :
  Calls Tryz.prog 113 #[.slice A2 m c2,.func (.func 114) #[.pointer (some ⟨Gr,0,none⟩)] #[]] W fun e w'=>e=.returned (.int .i64 0)∧∃ S,zl w w' D P M Gr [] [] S∧zs [] [] S m∧zb S=xX G:=by
 have h:=vB 114 #[.pointer (some ⟨Gr,0,none⟩)] #[] A2 m c2 G W (fun _=>0) (fun i W'=>∃ S,zl w W' D P M Gr [] [] S∧zs [] [] S i∧zb S=xX (G.take i)) (fun _=>True) hm (by omega)
  (enters_of Tryz.func114 (by kernel_rfl) rfl) ⟨[],hown,zs.nil,rfl⟩ (fun i W' ⟨_,h1,_⟩=>hg.below h1.below)
  (fun i hi W' ⟨S,h1,h2,h3⟩=>by
   obtain ⟨m1,m2,m3⟩:=VV hi h6 hn6 hr6 h2 h3
   refine (h1.gmake h2.grp G[i] (hgs _ (List.getElem_mem hi))).mono ?_
   rintro e w' ⟨he,hgo⟩
   rw [m1] at he
   exact ⟨he,fun _=>⟨_,hgo.1,m2,m3⟩,fun h=>absurd rfl h⟩)
 rw [V4 (fun _=>0) m 0 (fun _ _ _=>rfl)] at h
 refine h.mono ?_
 rintro e w' ⟨he,h1,_⟩
 refine ⟨he,?_⟩
 obtain ⟨S,s1,s2,s3⟩:=h1 rfl
 rw [hm,List.take_length] at s3
 exact ⟨S,s1,s2,s3⟩
theorem Yv (D P M Gr:Nat) (S:zj) (W:World) (hown:zl w W D P M Gr [] [] S) (hG:zs [] [] S m) (hN:zb S=xX G) (hm6:m≤6) (hl:n=l.length) (h12:l.length≤12) (hc:∀ u∈l,yM 2 u=0) (hri:zA (l.map (·.nm))=true) (hr:Z9 w A l) (ho:∀ u∈l,u.Ok w) (h5:vQ w) :
  Calls Tryz.prog 108 #[.slice A n c,.func (.func 115) #[.pointer (some ⟨D,0,none⟩)] #[]] W fun e w'=>e=.returned (.int .i64 (yk G [] l)) ∧
   (yk G [] l=0→∃ A L S k,zl w w' D P M Gr A L S∧Vl A L S l G k∧k≤200)∧(yk G [] l≠0→Below w.heap.size w w'):=by
 have h:=qa 115 #[.pointer (some ⟨D,0,none⟩)] #[] A n c l W (fun j=>if hj:j<l.length then yN G (l.take j) l[j] else 0) (fun i W'=>∃ A L S k,zl w W' D P M Gr A L S∧Vl A L S (l.take i) G k∧k≤6+8 * i) (fun W'=>Below w.heap.size w W') hl (by omega)
  (enters_of Tryz.func115 (by kernel_rfl) rfl) ⟨[],[],S,m,hown,FI hG hN,by omega⟩ (fun i W' ⟨_,_,_,_,h1,_⟩=>hr.later h1.below) (fun i W' ⟨A,L,S,k,h1,h2⟩ o=>⟨A,L,S,k,h1.later (z8 (Below.refl _ _) _),h2⟩)
  (fun i hi W' ⟨A,L,S,k,h1,h2,h3⟩=>by
   have hup:∀ v∈l.take i,bytesBefore v.nm.data.toList l[i].nm.data.toList=true:=fun v hv=>by
    obtain ⟨j,hj,rfl⟩:=List.getElem_of_mem hv
    have hj':j<i:=by rw [List.length_take] at hj; omega
    rw [List.getElem_take]
    have:=List.pairwise_iff_getElem.1 (vf hri) j i (by simp; omega) (by simpa using hi) hj'
    simpa using this
   have hcu:=hc _ (List.getElem_mem hi)
   have hlt:(l.take i).length<12:=by rw [List.length_take]; omega
   refine (Uj l[i] h1 h2 (by omega) hcu hup hlt (ho _ (List.getElem_mem hi)) h5).mono ?_
   rintro e w' ⟨he,q1,q2⟩
   rw [dif_pos hi]
   refine ⟨he,fun h0=>?_,q2⟩
   have hone:yN G (l.take i) l[i]=if l[i].gs.all (fun g=>fO (xX G) g.data.toList) then (if (l.take i).any (fun v=>!(l[i].ml.data.toList == []) && (l[i].ml.data.toList == v.ml.data.toList)) then 9 else 0) else 8:=rfl
   have hall:l[i].gs.all (fun g=>fO (xX G) g.data.toList)=true:=by
    cases hh:l[i].gs.all (fun g=>fO (xX G) g.data.toList) with
    | true=>rfl
    | false=>rw [hone,hh] at h0; simp at h0
   obtain ⟨s1,s2⟩:=step11 h2 l[i] hcu hup hlt hall
   rw [hone,hall,if_pos rfl,← s1] at h0
   refine ⟨_,_,_,k+8,q1 (by rw [hone,hall,if_pos rfl,← s1]; exact h0),?_,?_⟩
   ·
    rw [List.take_succ_eq_append_getElem hi]
    exact s2 h0
   ·
    omega)
 rw [show xp (fun j=>if hj:j<l.length then yN G (l.take j) l[j] else 0) 0 n=yk G [] l by
  rw [hl]; exact UB G l l.length 0 (by omega)] at h
 refine h.mono ?_
 rintro e w' ⟨he,h1,h2⟩
 refine ⟨he,fun h0=>?_,h2⟩
 obtain ⟨A,L,S,k,s1,s2,s3⟩:=h1 h0
 rw [hl,List.take_length] at s2
 exact ⟨A,L,S,k,s1,s2,by omega⟩
end
set_option maxRecDepth 100000 in
theorem VQ (A A2:Option Addr) (c c2 n m:Nat) (l:List Us) (G:List ByteArray) (w:World) (hl:n=l.length) (hn:n≤1000) (hr:Z9 w A l) (ho:∀ u∈l,u.Ok w) (hm:m=G.length) (hm1:m≤1000) (hg:RdS w A2 G) (hgs:∀ g∈G,g.size≤9223372036854775807) (h5:vQ w) :
  Calls Tryz.prog 41 #[.slice A n c,.slice A2 m c2] w (Of11 l G w):=by
 have HNW:Hid (∀ W,Calls Tryz.prog 23 #[] W fun e w'=>∃ D P M G,e=.returned (.pointer (some ⟨D,0,none⟩))∧zl W w' D P M G [] [] []):=fun W=>XB W
 have HMB:Hid (∀ W,Below w.heap.size w W→Calls Tryz.prog 108 #[.slice A n c,.func (.func 109) #[] #[]] W (zP (yO l) W)):=fun W hb=>Yu W hb hl hn hr ho h5
 have HNO:Hid (∀ W,Below w.heap.size w W→Calls Tryz.prog 111 #[.slice A n c] W fun e w'=>∃ A2 c2,e=.returned (.slice A2 n c2)∧RdS w' A2 (l.map (·.nm))∧Below W.heap.size W w'):=fun W hb=>fF A c n l W hl hn (hr.later hb)
 have HRI:Hid (∀ A3 c3 W,RdS W A3 (l.map (·.nm))→Calls Tryz.prog 110 #[.slice A3 n c3] W fun e w'=>e=.returned (.int .i64 (ze (zA (l.map (·.nm))) 9))∧∃ q,w'=W.drewN q):=fun A3 c3 W h=>jx A3 n c3 _ W (by rw [List.length_map]; exact hl) h (by omega)
 have HFI:Hid (∀ W,Calls Tryz.prog 112 #[.int .i64 (n:Int),.int .i64 12] W fun e w'=>e=.returned (.int .i64 (ze (decide ((l.length:Int)≤12)) 7))∧w'=W):=fun W=>by rw [← hl]; exact qp _ _ W
 have HNM:Hid (∀ W,Below w.heap.size w W→Calls Tryz.prog 113 #[.slice A2 m c2,.func (.func 52) #[] #[]] W (zP (ze (zM G) 10) W)):=fun W hb=>Zg W hb hm hm1 hg hgs
 have HRG:Hid (∀ W,Below w.heap.size w W→Calls Tryz.prog 110 #[.slice A2 m c2] W fun e w'=>e=.returned (.int .i64 (ze (zA G) 9))∧∃ q,w'=W.drewN q):=fun W hb=>jx A2 m c2 G W hm (hg.below hb) (by omega)
 have HFG:Hid (∀ W,Calls Tryz.prog 112 #[.int .i64 (m:Int),.int .i64 6] W fun e w'=>e=.returned (.int .i64 (ze (decide ((G.length:Int)≤6)) 7))∧w'=W):=fun W=>by rw [← hm]; exact qp _ _ W
 have HFS:Hid (∀ W:World,Calls Tryz.prog 51 #[.slice (some ⟨W.heap.size,0,none⟩) 6 6] (W.alloc (.cells #[.int .i64 (yO l),.int .i64 (ze (zA (l.map (·.nm))) 9),.int .i64 (ze (decide ((l.length:Int)≤12)) 7),.int .i64 (ze (zM G) 10),.int .i64 (ze (zA G) 9),.int .i64 (ze (decide ((G.length:Int)≤6)) 7)] 24)) fun e w'=>e=.returned (.int .i64 (J2 l G))∧w'=W.alloc (.cells #[.int .i64 (yO l),.int .i64 (ze (zA (l.map (·.nm))) 9),.int .i64 (ze (decide ((l.length:Int)≤12)) 7),.int .i64 (ze (zM G) 10),.int .i64 (ze (zA G) 9),.int .i64 (ze (decide ((G.length:Int)≤6)) 7)] 24)):=fun W =>
  uF W [yO l,ze (zA (l.map fun u:Us=>u.nm)) 9,ze (decide ((l.length:Int)≤12)) 7,ze (zM G) 10,ze (zA G) 9,ze (decide ((G.length:Int)≤6)) 7] 24 (by simp)
 have HF2:Hid (∀ (W:World) (x:Int),Calls Tryz.prog 51 #[.slice (some ⟨W.heap.size,0,none⟩) 2 2] (W.alloc (.cells #[.int .i64 0,.int .i64 x] 24)) fun e w'=>e=.returned (.int .i64 x)∧w'=W.alloc (.cells #[.int .i64 0,.int .i64 x] 24)):=fun W x=>by
  have:=uF W [0,x] 24 (by simp)
  rw [show zu [0,x]=x by unfold zu zu zu; by_cases h:x=0 <;> simp [h]] at this
  exact this
 have HMK:Hid (J2 l G=0→∀ D P M Gr W,zl w W D P M Gr [] [] []→Calls Tryz.prog 113 #[.slice A2 m c2,.func (.func 114) #[.pointer (some ⟨Gr,0,none⟩)] #[]] W fun e w'=>e=.returned (.int .i64 0)∧∃ S,zl w w' D P M Gr [] [] S∧zs [] [] S m∧zb S=xX G):=fun h0 D P M Gr W hown=>by
  obtain ⟨_,_,_,f4,f5,f6⟩:=X2 h0
  exact Zh D P M Gr W hown hm f6 f4 f5 hg hgs
 have HAD:Hid (J2 l G=0→∀ D P M Gr S W,zl w W D P M Gr [] [] S→zs [] [] S m→zb S=xX G→Calls Tryz.prog 108 #[.slice A n c,.func (.func 115) #[.pointer (some ⟨D,0,none⟩)] #[]] W fun e w'=>e=.returned (.int .i64 (yk G [] l)) ∧
   (yk G [] l=0→∃ A L S k,zl w w' D P M Gr A L S∧Vl A L S l G k∧k≤200)∧(yk G [] l≠0→Below w.heap.size w w')):=fun h0 D P M Gr S W hown hG hN=>by
  obtain ⟨f1,f2,f3,_,_,f6⟩:=X2 h0
  exact Yv D P M Gr S W hown hG hN (by omega) hl f3 f1 f2 hr ho h5
 have HCE:=za (cE_of (l:=l) (G:=G))
 unfold Of11
 clear hl hn hr ho hm hm1 hg hgs h5
 generalize yO l=e0 at *
 generalize ze (zA (l.map (·.nm))) 9=e1 at *
 generalize ze (decide ((l.length:Int)≤12)) 7=e2 at *
 generalize ze (zM G) 10=e3 at *
 generalize ze (zA G) 9=e4 at *
 generalize ze (decide ((G.length:Int)≤6)) 7=e5 at *
 generalize J2 l G=r at *
 generalize yk G [] l=rr at *
 generalize vJ l G=ro at *
 go_enter Tryz.func41,Tryz.ntmps41
 go_wp2_with fail
 with_reducible refine (HNW.out w).mono ?_
 rintro e w1 ⟨D,P,M,Gr,rfl,hown⟩
 have HO1:=za hown
 have HB1:=za hown.below
 clear hown HNW
 go_wp2_with fail
 with_reducible refine (HMB.out w1 HB1.out).mono ?_
 rintro e w2 ⟨rfl,hb⟩
 have HO2:=za (HO1.out.later hb)
 have HB2:=za (z7 HB1.out hb)
 clear hb HMB HO1 HB1
 go_wp2_with fail
 with_reducible refine (HNO.out w2 HB2.out).mono ?_
 rintro e w3 ⟨A3,c3,rfl,hrd,hb⟩
 have HRD:=za hrd
 have HO3:=za (HO2.out.later hb)
 have HB3:=za (z7 HB2.out hb)
 clear hb hrd HNO HO2 HB2
 go_wp2_with fail
 with_reducible refine (HRI.out A3 c3 w3 HRD.out).mono ?_
 rintro e w4 ⟨rfl,q,hq⟩
 have hb:Below w3.heap.size w3 w4:=by rw [hq]; exact zo (Below.refl _ _) q
 have HO4:=za (HO3.out.later hb)
 have HB4:=za (z7 HB3.out hb)
 clear hb hq HRD HRI HO3 HB3
 go_wp2_with fail
 with_reducible refine (HFI.out w4).mono ?_
 rintro e w5 ⟨rfl,rfl⟩
 go_wp2_with fail
 with_reducible refine (HNM.out w5 HB4.out).mono ?_
 rintro e w6 ⟨rfl,hb⟩
 have HO6:=za (HO4.out.later hb)
 have HB6:=za (z7 HB4.out hb)
 clear hb HNM HO4 HB4 HFI
 go_wp2_with fail
 with_reducible refine (HRG.out w6 HB6.out).mono ?_
 rintro e w7 ⟨rfl,q2,hq⟩
 have hb:Below w6.heap.size w6 w7:=by rw [hq]; exact zo (Below.refl _ _) q2
 have HO7:=za (HO6.out.later hb)
 have HB7:=za (z7 HB6.out hb)
 clear hb hq HRG HO6 HB6
 go_wp2_with fail
 with_reducible refine (HFG.out w7).mono ?_
 rintro e w8 ⟨rfl,rfl⟩
 clear HFG
 go_wp2_with fail
 with_reducible refine (HFS.out _).mono ?_
 rintro e w9 ⟨rfl,hw9⟩
 have hb:Below w8.heap.size w8 w9:=by rw [hw9]; exact z8 (Below.refl _ _) _
 have HO9:=za (HO7.out.later hb)
 have HB9:=za (z7 HB7.out hb)
 clear hb hw9 HFS HO7 HB7
 by_cases h0:r=0
 case neg =>
  have h1:(r != 0)=true:=by simpa using h0
  have h2:(r == 0)=false:=by simpa using h0
  obtain rfl:ro=r:=HCE.out.1 h0
  have H0:=za h0
  clear h0 HMK HAD HF2 HCE HO9
  go_wp2
  go_ret2
  exact .inl ⟨H0.out,rfl,HB9.out⟩
 subst h0
 obtain rfl:ro=rr:=HCE.out.2 rfl
 have HMK2:=za (HMK.out rfl D P M Gr w9 HO9.out)
 have HAD2:=za (HAD.out rfl D P M Gr)
 have hc2:=HO9.out.c2
 have hmf:=mkf
 clear HMK HAD HCE
 go_wp2_with fail
 with_reducible refine HMK2.out.mono ?_
 rintro e w10 ⟨rfl,S,s1,s2,s3⟩
 have HA2:=za (HAD2.out S w10 s1 s2 s3)
 clear s1 s2 s3 HMK2 HAD2 hc2 HO9 HB9
 go_wp2_with fail
 with_reducible refine HA2.out.mono ?_
 rintro e w11 ⟨rfl,t1,t2⟩
 have HT1:=za t1
 have HT2:=za t2
 clear t1 t2 HA2
 go_wp2_with fail
 with_reducible refine (HF2.out _ _).mono ?_
 rintro e w12 ⟨rfl,hw⟩
 have hb:Below w11.heap.size w11 w12:=by rw [hw]; exact z8 (Below.refl _ _) _
 have HB:=za hb
 clear hb hw HF2
 by_cases h0:ro=0
 case neg =>
  have h1:(ro != 0)=true:=by simpa using h0
  have HF:=za (z7 (HT2.out h0) HB.out)
  have H0:=za h0
  clear h0 HT1 HT2 HB
  go_wp2
  go_ret2
  exact .inl ⟨H0.out,rfl,HF.out⟩
 subst h0
 obtain ⟨A4,L4,S4,k4,u1,u2,u3⟩:=HT1.out rfl
 have HF:Hid (zl w w12 D P M Gr A4 L4 S4∧Vl A4 L4 S4 l G k4∧k4≤200):=⟨u1.later HB.out,u2,u3⟩
 clear u1 u2 u3 HT1 HT2 HB
 go_wp2
 go_ret2
 exact ⟨D,rfl,P,M,Gr,A4,L4,S4,HF.out.1,k4,HF.out.2⟩
end Go.Proofs.YthmomkjingcbiaaGreatDoor
namespace Go.Proofs.YthmomkjingcbiaaGreatDoor
open Go.RowKit Go.Maps


section
variable {w0 w:World} {D P M G:Nat} {A:zt} {L:zg} {S:zj} {k:Nat}
end

/-! ### stores beside a directory -/
def Vi (W:World) (b:Nat) (A:Option Addr) (n:Nat):Prop :=
 0<n→∃ g cur,A=some ⟨g,0,none⟩∧b≤g∧W.heap[g]? = some (.cells cur 9 (0,0))∧n≤cur.size∧n≤9223372036854775807
theorem Vi.of {W:World} {b n c:Nat} {A:Option Addr} {xs:List Value} (h:W.ownsRow b 9 1 (.slice A n c) n xs):Vi W b A n:=fun hn=>by
 rcases h.2 with ⟨_,e⟩ | ⟨g,cap,cur,e,hb,hg,hc,hmx,hs,_⟩
 ·
  omega
 ·
  injection e with e1
  unfold maxLen at hmx
  exact ⟨g,cur,e1,hb,hg,by omega,by omega⟩
theorem Vi.few {W:World} {b n:Nat} {A:Option Addr} (h:Vi W b A n):n≤9223372036854775807:=by
 by_cases hn:0<n
 ·
  obtain ⟨_,_,_,_,_,_,h⟩:=h hn
  exact h
 ·
  omega
theorem Vi.low {W:World} {b a n:Nat} {A:Option Addr} (h:Vi W b A n) (ha:a≤b):Vi W a A n:=fun hn=>by
 obtain ⟨g,cur,e,hb,hg,hc⟩:=h hn
 exact ⟨g,cur,e,Nat.le_trans ha hb,hg,hc⟩
theorem Vi.below {W W':World} {b n:Nat} {A:Option Addr} (h:Vi W b A n) (hb:Below W.heap.size W W'):Vi W' b A n:=fun hn=>by
 obtain ⟨g,cur,e,h1,hg,hc⟩:=h hn
 exact ⟨g,cur,e,h1,(hb.block g (Array.getElem?_eq_some_iff.1 hg).1).trans hg,hc⟩
theorem Vi.keeps {W W':World} {b n:Nat} {A:Option Addr} (h:Vi W b A n) (hk:zN W W'):Vi W' b A n:=fun hn=>by
 obtain ⟨g,cur,e,h1,hg,hc⟩:=h hn
 exact ⟨g,cur,e,h1,hk g cur _ _ hg (by decide) (by decide) (by decide),hc⟩
theorem Vi.store {W:World} {b n g k:Nat} {A:Option Addr} {cur:Array Value} (h:Vi W b A n) (hg:W.heap[g]? = some (.cells cur 9 (0,0))) (s:Value):Vi (W.setCell ⟨g,k,none⟩ s) b A n:=fun hn=>by
 obtain ⟨g',cur',e,h1,hg',hc⟩:=h hn
 by_cases eg:g'=g
 ·
  subst eg
  rw [hg] at hg'
  injection hg' with hg'
  injection hg' with hg'
  subst hg'
  exact ⟨g',_,e,h1,heap_setCell_same W g' k cur _ s hg,by simpa using hc.1,hc.2⟩
 ·
  exact ⟨g',cur',e,h1,(heap_setCell_other W ⟨g,k,none⟩ g' s eg).trans hg',hc⟩
theorem zl.setStr {w0 W:World} {D P M G g k:Nat} {A:zt} {L:zg} {S:zj} {cur:Array Value} (h:zl w0 W D P M G A L S) (hg:W.heap[g]? = some (.cells cur 9 (0,0))) (hw:w0.heap.size≤g) (s:Value):zl w0 (W.setCell ⟨g,k,none⟩ s) D P M G A L S:=by
 obtain ⟨p,q,LM,pg,T,hd,hS,h2,h3⟩:=h
 have ht:zc (fun i=>i=g) W (W.setCell ⟨g,k,none⟩ s):=(zc.refl (fun i=>i=g) W).setCell (p:=⟨g,k,none⟩) (fun _=>rfl) _
 have hD:D≠g:=uG hd.blk hg (by decide)
 have hP:P≠g:=ff hd.acc hg
 refine ⟨p,q,LM,pg,T,⟨?_,?_,?_,?_,hd.sep1,hd.sep2,hd.sep3⟩,hS,h2,h3.turn ht (fun i e=>by subst e; exact ⟨hw,id⟩)⟩
 ·
  exact (heap_setCell_other W ⟨g,k,none⟩ D s hD).trans hd.blk
 ·
  exact hd.acc.kept (heap_setCell_other W ⟨g,k,none⟩ P s hP)
 ·
  exact hd.idx.turnsF ht (fun i hi e=>by subst e; exact qN hd.idx hg (by decide) hi)
 ·
  exact hd.grp.turnsF ht (fun i hi e=>by subst e; exact qO hd.grp hg (by decide) hi)
theorem zl.base {w00 w0 W:World} {D P M G:Nat} {A:zt} {L:zg} {S:zj} (h:zl w0 W D P M G A L S) (hb:Below w00.heap.size w00 w0):zl w00 W D P M G A L S:=by
 obtain ⟨p,q,LM,pg,T,hd,hS,h2,h3⟩:=h
 exact ⟨p,q,LM,pg,T,hd,hS,fun i hi=>⟨Nat.le_trans hb.size (h2 i hi).1,id⟩,z7 hb h3.1,h3.2⟩

/-! ### users in a row of one's own -/
def xu (l:List Us):List Value:=l.flatMap fun u=>u.cells.toList
theorem Vv (l:List Us) (i j:Nat) (hi:i<l.length) (hj:j<5):(xu l)[i * 5+j]? = l[i].cells[j]? := by
 induction l generalizing i with
 | nil=>exact absurd hi (Nat.not_lt_zero _)
 | cons u l ih =>
  have e:xu (u::l)=u.cells.toList++xu l:=rfl
  have h5:u.cells.toList.length=5:=rfl
  rw [e]
  cases i with
  | zero =>
   rw [List.getElem?_append_left (by omega),Nat.zero_mul,Nat.zero_add]
   simp
  | succ i =>
   rw [List.getElem?_append_right (by omega),h5,show (i+1) * 5+j - 5=i * 5+j by omega]
   exact ih i (by simpa using hi)
theorem Yg (l:List Us) (u:Us):xu (l++[u])=xu l++u.cells.toList:=by
 unfold xu
 rw [List.flatMap_append]
 simp
structure Zz11 (w W:World) (D P M G:Nat) (A:zt) (L:zg) (S:zj) (v:Value) (n:Nat) (l:List Us):Prop where
 own:zl w W D P M G A L S
 len:l.length=n
 row:W.ownsRow 0 47 5 v n (xu l)
 txt:∀ u∈l,Vi W w.heap.size u.ga u.gs.length
section
variable {w W:World} {D P M G:Nat} {A:zt} {L:zg} {S:zj} {l:List Us}
theorem Zz11.later {W':World} {v:Value} {n:Nat} (h:Zz11 w W D P M G A L S v n l) (hb:Below W.heap.size W W'):Zz11 w W' D P M G A L S v n l :=
 ⟨h.own.later hb,h.len,zw h.row hb,fun u hu=>(h.txt u hu).below hb⟩
theorem Zz11.at_ {B:Option Addr} {n c i:Nat} (h:Zz11 w W D P M G A L S (.slice B n c) n l) (hi:i<l.length):∃ g,B=some ⟨g,0,none⟩∧W.cell? ⟨g,i * 5+4,none⟩=some (.slice l[i].ga l[i].gs.length l[i].gc):=by
 have hn:=h.len
 obtain ⟨g,cap,e,_,_⟩:=h.row.form (by omega)
 injection e with e1 e2 e3
 subst e1 e3
 refine ⟨g,rfl,?_⟩
 rw [h.row.cellAt (i * 5+4) (by omega),Vv l i 4 hi (by decide)]
 rfl
theorem Zz11.store {v:Value} {n i k:Nat} (h:Zz11 w W D P M G A L S v n l) (hi:i<l.length) (hk:k<l[i].gs.length) (s:ByteArray) :
  ∃ g,l[i].ga=some ⟨g,0,none⟩∧(∃ x,W.cell? ⟨g,k,none⟩=some x)∧W.frozen? ⟨g,k,none⟩=false∧Zz11 w (W.setCell ⟨g,k,none⟩ (.string s)) D P M G A L S v n l:=by
 obtain ⟨g,cur,e,h1,hg,hc,_⟩:=h.txt _ (List.getElem_mem hi) (by omega)
 refine ⟨g,e,?_,?_,h.own.setStr hg h1 _,h.len,?_,fun u hu=>(h.txt u hu).store hg _⟩
 ·
  rw [cell_of_row W g k cur _ (0,0) hg]
  exact ⟨_,Array.getElem?_eq_getElem (by omega)⟩
 ·
  exact frozen_of_row W g k cur _ hg
 ·
  have ht:zc (fun i=>i=g) W (W.setCell ⟨g,k,none⟩ (.string s)):=(zc.refl (fun i=>i=g) W).setCell (p:=⟨g,k,none⟩) (fun _=>rfl) _
  rcases h.row.2 with hz | ⟨g2,cap,cur2,e2,hb2,hg2,rest⟩
  ·
   exact ⟨h.row.1,.inl hz⟩
  ·
   exact ⟨h.row.1,.inr ⟨g2,cap,cur2,e2,hb2,(heap_setCell_other W ⟨g,k,none⟩ g2 _ (fun e=>by
    subst e
    rw [hg] at hg2
    injection hg2 with hg2
    injection hg2 with _ hg2
    exact absurd hg2 (by decide))).trans hg2,rest⟩⟩
end

def yl (u:Us):Us:={ u with ga:=none,gc:=0 }
theorem XJ:∀ l:List Us,yO (l.map yl)=yO l
 | []=>rfl
 | u::l=>by
  show (if yM 2 (yl u)=0 then yO (l.map yl) else yM 2 (yl u))=_
  rw [XJ l]
  rfl
theorem ZH (G:List ByteArray):∀ (l pre:List Us),yk G (pre.map yl) (l.map yl)=yk G pre l
 | [],_=>rfl
 | u::l,pre=>by
  have h1:yN G (pre.map yl) (yl u)=yN G pre u:=by
   unfold yN
   rw [List.any_map]
   rfl
  show (if yN G (pre.map yl) (yl u)=0 then yk G (pre.map yl++[yl u]) (l.map yl) else yN G (pre.map yl) (yl u))=_
  rw [h1,show pre.map yl++[yl u]=(pre++[u]).map yl by rw [List.map_append]; rfl,ZH G l]
  rfl
theorem Yw (l:List Us) (G:List ByteArray):vJ (l.map yl) G=vJ l G:=by
 have h1:fC (l.map yl)=fC l:=by
  unfold fC
  rw [XJ,List.map_map,List.length_map]
  rfl
 unfold vJ
 rw [h1]
 have h2:=ZH G l []
 rw [List.map_nil] at h2
 rw [h2]
theorem UA (l:List Us):vH (l.map yl)=vH l:=by unfold vH; rw [List.map_map]; rfl

structure Cp11 (w W:World) (l:List Us) (k:Nat) (v:Value) (l2:List Us):Prop where
 bel:Below w.heap.size w W
 same:l2.map yl=(l.take k).map yl
 row:W.ownsRow w.heap.size 47 5 v k (xu l2)
 txt:∀ u∈l2,W.ownsRow w.heap.size 9 1 (.slice u.ga u.gs.length u.gc) u.gs.length (yz u.gs)
section
variable {w W W' wr w3 w5:World} {l l2:List Us} {k:Nat} {v v':Value}
theorem Cp11.later (h:Cp11 w W l k v l2) (hb:Below W.heap.size W W'):Cp11 w W' l k v l2 :=
 ⟨z7 h.bel hb,h.same,zw h.row hb,fun u hu=>zw (h.txt u hu) hb⟩
theorem JO {b0 n:Nat} {e:TypeId} {xs ys:List Value} {u:Value} {a b c d x:Value} {B:Nat} {o:Obj} (hB:yU w3 B a b c d x) (hv:w3.ownsRow b0 47 5 v n xs) (y:Value) (hg:((w3.setCell ⟨B,4,none⟩ y).alloc o).grownBy w5 v.ownBlock) {m:Nat} (h:w3.ownsRow m 9 1 u e ys):w5.ownsRow m 9 1 u e ys:=by
 refine ⟨h.1,?_⟩
 rcases h.2 with hz | ⟨g,cap,cur,e1,h1,hgg,rest⟩
 ·
  exact .inl hz
 ·
  have hlt:g<w3.heap.size:=(Array.getElem?_eq_some_iff.1 hgg).1
  have n1:g≠B:=fun e=>by
   subst e
   have hB':w3.heap[g]? = _:=hB
   rw [hgg] at hB'
   injection hB' with hB'
   injection hB' with _ hB'
   exact absurd hB' (by decide)
  have n2:some g≠v.ownBlock:=fun e=>by
   rcases hv.2 with ⟨rfl,_⟩ | ⟨g2,cap2,cur2,rfl,_,hg2,_⟩
   ·
    simp [Value.ownBlock] at e
   ·
    simp [Value.ownBlock] at e
    subst e
    rw [hgg] at hg2
    injection hg2 with hg2
    injection hg2 with _ hg2
    exact absurd hg2 (by decide)
  refine .inr ⟨g,cap,cur,e1,h1,?_,rest⟩
  rw [hg.block g (by simp; omega) n2]
  have hs:((w3.setCell ⟨B,4,none⟩ y).alloc o).heap[g]? = (w3.setCell ⟨B,4,none⟩ y).heap[g]? := (z8 (Below.refl (w3.setCell ⟨B,4,none⟩ y).heap.size _) o).block g (by simpa using hlt)
  rw [hs,heap_setCell_other w3 ⟨B,4,none⟩ g y n1]
  exact hgg
theorem Cp11.next {a b c d e x:Value} {o:Obj} (h:Cp11 w wr l k v l2) (hb:Below wr.heap.size wr w3) (hB:yU w3 wr.heap.size a b c d e) (hg:((w3.setCell ⟨wr.heap.size,4,none⟩ x).alloc o).grownBy w5 v.ownBlock) (u:Us)
  (ho:w5.ownsRow w.heap.size 47 5 v' (k+1) (xu l2++u.cells.toList)) (ht:w3.ownsRow wr.heap.size 9 1 (.slice u.ga u.gs.length u.gc) u.gs.length (yz u.gs)) (hk:k<l.length) (hu:yl u=yl l[k]):Cp11 w w5 l (k+1) v' (l2++[u]):=by
 have hrow3:=zw h.row hb
 have hb3:=z7 h.bel hb
 have hsz:=h.bel.size
 refine ⟨?_,?_,by rw [Yg]; exact ho,fun z hz=>?_⟩
 ·
  have h4:Below w.heap.size w (w3.setCell ⟨wr.heap.size,4,none⟩ x):=hb3.setCell (p:=⟨wr.heap.size,4,none⟩) hsz _
  exact (z7 h4 (z8 (Below.refl _ _) o)).grown hg (by have:=h4.size; simp at this ⊢; omega) (fun j hj=>(hrow3.lt j hj).1)
 ·
  rw [List.map_append,List.take_succ_eq_append_getElem hk,List.map_append,h.same]
  show _++[yl u]=_++[yl l[k]]
  rw [hu]
 ·
  rcases List.mem_append.1 hz with hz | hz
  ·
   exact JO hB hrow3 x hg (zw (h.txt z hz) hb)
  ·
   rw [List.mem_singleton] at hz
   subst hz
   exact JO hB hrow3 x hg (zv ht hsz)
theorem Cp11.all (h:Cp11 w W l l.length v l2) (ho:∀ u∈l,u.Ok w):l2.length=l.length∧(∀ u∈l2,u.Ok W)∧(∀ G,vJ l2 G=vJ l G)∧vH l2=vH l:=by
 have hs:=h.same
 rw [List.take_length] at hs
 have hlen:l2.length=l.length:=by have:=congrArg List.length hs; simpa using this
 refine ⟨hlen,fun u hu=>?_,fun G=>by rw [← Yw l2,hs,Yw],by rw [← UA l2,hs,UA]⟩
 have hm:yl u∈l.map yl:=by rw [← hs]; exact List.mem_map.2 ⟨u,hu,rfl⟩
 obtain ⟨z,hz,e⟩:=List.mem_map.1 hm
 have hz':=ho z hz
 have e1:z.nm=u.nm:=(congrArg Us.nm e:(yl z).nm=(yl u).nm)
 have e2:z.hs=u.hs:=(congrArg Us.hs e:(yl z).hs=(yl u).hs)
 have e3:z.ml=u.ml:=(congrArg Us.ml e:(yl z).ml=(yl u).ml)
 have e4:z.gs=u.gs:=(congrArg Us.gs e:(yl z).gs=(yl u).gs)
 have ht:=h.txt u hu
 have hform:(u.ga=none→u.gc=0)∧u.gs.length≤u.gc∧u.gc≤9223372036854775807:=by
  rcases ht.2 with ⟨q,q2⟩ | ⟨g,cap,cur,q,_,_,q3,q4,_⟩
  ·
   injection q with q0 _ q1
   exact ⟨fun _=>q1,by omega,by omega⟩
  ·
   injection q with q0 _ q1
   unfold maxLen at q4
   exact ⟨fun hn=>absurd (hn.symm.trans q0) (by simp),by omega,by omega⟩
 exact { rd:=ZK (zv ht (Nat.zero_le _)),nm:=e1 ▸ hz'.nm,hs:=e2 ▸ hz'.hs,ml:=e3 ▸ hz'.ml,nil:=hform.1,len:=hform.2.1,cap:=hform.2.2,all:=e4 ▸ hz'.all }
end

end Go.Proofs.YthmomkjingcbiaaGreatDoor
