/-
  The texts that the laws of this seat share, part 11: what the code and the document's own answers tell, walked function by function.
  Conditions: each theorem's own.
-/
import Derived.Test.YtmcomnocpibiiaaGreatDoorFolBBJ
set_option maxHeartbeats 16000000
namespace Go.Proofs.YtmcomnocpibiiaaGreatDoor
open Go.RowKit Go.Maps Go.Sort Go.Shelf

theorem Ul {α:Type} (P:α→Bool) (x:Int) (hx:x≠0) (r:Nat→Int):∀ (T:List α) (i:Nat),(∀ j (hj:j<T.length),r (i+j)=if P T[j] then 0 else x)→vH r i T.length=if T.all P then 0 else x
 | [],_,_=>rfl
 | t::T,i,h=>by
  have h0:r i=if P t then 0 else x:=h 0 (by simp)
  have ih:=Ul P x hx r T (i+1) (fun j hj=>by
   have:=h (j+1) (by simp; omega)
   rw [show i+1+j=i+(j+1) by omega]
   exact this)
  show (if r i=0 then vH r (i+1) T.length else r i)=_
  rw [ih,h0,List.all_cons]
  cases P t with
  | true=>simp
  | false=>simp [hx]
theorem FR (r:Nat→Int):∀ (l:List Us) (i:Nat),(∀ j (hj:j<l.length),r (i+j)=vV 2 l[j])→vH r i l.length=xR l
 | [],_,_=>rfl
 | u::l,i,h=>by
  have h0:r i=vV 2 u:=h 0 (by simp)
  have ih:=FR r l (i+1) (fun j hj=>by
   have:=h (j+1) (by simp; omega)
   rw [show i+1+j=i+(j+1) by omega]
   exact this)
  show (if r i=0 then vH r (i+1) l.length else r i)=_
  rw [ih,h0]
  rfl
theorem QG (r:Nat→Int):∀ (m i:Nat),(∀ j,i≤j→j<i+m→r j=0)→vH r i m=0
 | 0,_,_=>rfl
 | m+1,i,h=>by
  unfold vH
  rw [if_pos (h i (Nat.le_refl _) (by omega))]
  exact QG r m (i+1) fun j h1 h2=>h j (by omega) (by omega)
theorem YE:∀ {l:List Us},xR l=0→∀ u∈l,vV 2 u=0
 | [],_,u,h=>by cases h
 | x::r,h,u,hu=>by
  unfold xR at h
  by_cases e:vV 2 x=0
  ·
   rw [if_pos e] at h
   rcases List.mem_cons.1 hu with rfl | hu
   ·
    exact e
   ·
    exact YE h u hu
  ·
   rw [if_neg e] at h
   exact absurd h e
def cE11 (l:List Us) (G:List ByteArray):Int:=zS [xR l,zq (yu (l.map (·.nm))) 9,zq (decide ((l.length:Int)≤12)) 7,zq (yx G) 10,zq (yu G) 9,zq (decide ((G.length:Int)≤6)) 7]
theorem first67:∀ l:List Int,FP l=zS l
 | []=>rfl
 | e::l=>by unfold FP zS; rw [first67 l]
theorem cE_of {l:List Us} {G:List ByteArray}:(cE11 l G≠0→u7 l G=cE11 l G)∧(cE11 l G=0→u7 l G=x7 G [] l):=by
 have h1:cE11 l G=if XD l=0 then (if yx G then (if yu G then (if G.length≤6 then 0 else 7) else 9) else 10) else XD l:=by
  unfold cE11 XD
  rw [first67]
  have h6:decide ((G.length:Int)≤6)=decide (G.length≤6):=by
   by_cases h:G.length≤6
   ·
    rw [decide_eq_true h,decide_eq_true (by omega)]
   ·
    rw [decide_eq_false h,decide_eq_false (by omega)]
  rw [h6]
  generalize xR l=e0
  generalize zq (yu (l.map (·.nm))) 9=e1
  generalize zq (decide ((l.length:Int)≤12)) 7=e2
  unfold zS zS zS zS
  by_cases h0:e0=0
  ·
   subst h0
   by_cases h1:e1=0
   ·
    subst h1
    by_cases h2:e2=0
    ·
     subst h2
     cases yx G <;> cases yu G <;> by_cases hG:G.length≤6 <;> simp [zq,zS,hG]
    ·
     simp [h2]
   ·
    simp [h1]
  ·
   simp [h0]
 rw [h1]
 unfold u7
 by_cases h:XD l=0
 ·
  rw [if_pos h,if_pos h]
  cases yx G <;> cases yu G <;> by_cases hG:G.length≤6 <;> simp [hG]
 ·
  rw [if_neg h,if_neg h]
  exact ⟨fun _=>rfl,fun h'=>absurd h' h⟩
theorem Uw {l:List Us} {G:List ByteArray} (h:cE11 l G=0):(∀ u∈l,vV 2 u=0)∧yu (l.map (·.nm))=true∧l.length≤12∧yx G=true∧yu G=true∧G.length≤6:=by
 unfold cE11 at h
 have hz:=yD h
 refine ⟨YE (hz _ (by simp)),xe (n:=9) (by decide) (hz _ (by simp)),?_,xe (n:=10) (by decide) (hz _ (by simp)),xe (n:=9) (by decide) (hz (zq (yu G) 9) (by simp)),?_⟩
 ·
  have:=xe (n:=7) (by decide) (hz (zq (decide ((l.length:Int)≤12)) 7) (by simp))
  rw [decide_eq_true_eq] at this
  omega
 ·
  have:=xe (n:=7) (by decide) (hz (zq (decide ((G.length:Int)≤6)) 7) (by simp))
  rw [decide_eq_true_eq] at this
  omega
theorem JA (l:List Us):(l.map fun u=>Value.string u.nm)=yb (l.map (·.nm)):=by unfold yb; rw [List.map_map]; rfl

set_option maxRecDepth 100000 in
theorem YC (A:Option Addr) (c n:Nat) (l:List Us) (w:World) (hl:n=l.length) (hn:n≤1000) (hr:Uy w A l) :
  Calls Tryz.prog 84 #[.slice A n c] w fun e w'=>∃ A2 c2,e=.returned (.slice A2 n c2)∧RdS w' A2 (l.map (·.nm))∧Below w.heap.size w w':=by
 obtain ⟨i0,hi,hz0,hz1,hz2⟩:=info_parts qU
 have HR:=za hr
 have HL:=za hl
 have HN:Hid (w.ownsRow w.heap.size 9 1 (.slice none 0 0) 0 ((l.take 0).map fun u=>Value.string u.nm)):=World.ownsRow_nil _ _ _ _
 clear hr hl
 go_enter Tryz.func84,Tryz.ntmps84
 go_wp2
 go_loopg [3,5,8] n (fun gg s3 _ s8 wr=>∃ k:Nat,k≤n∧n - k≤gg∧s8=.int .i64 k∧Hid (Below w.heap.size w wr)∧Hid (wr.ownsRow w.heap.size 9 1 s3 k ((l.take k).map fun u=>Value.string u.nm)))
 case atStart=>exact ⟨0,Nat.zero_le _,by omega,rfl,Below.refl _ _,HN.out⟩
 case round =>
  clear HN
  obtain ⟨k,hk,hg,rfl,HW,HO⟩:=hrel
  by_cases hlt:k<n
  ·
   have hltz:(k:Int)<(n:Int):=by omega
   have hkl:k<l.length:=HL.out ▸ hlt
   obtain ⟨b,off,rfl,hb,hc⟩:=(HR.out.later HW.out) (by intro e; rw [e] at hkl; exact absurd hkl (Nat.not_lt_zero _))
   have c0:wr.cell? ⟨b,off+k * 5,none⟩=some (.string l[k].nm):=hc k hkl 0 _ rfl
   have c1:wr.cell? ⟨b,off+k * 5+1,none⟩=some (.string l[k].hs):=hc k hkl 1 _ rfl
   have c2:wr.cell? ⟨b,off+k * 5+2,none⟩=some (.string l[k].ml):=hc k hkl 2 _ rfl
   have c3:wr.cell? ⟨b,off+k * 5+3,none⟩=some (.bool l[k].dis):=hc k hkl 3 _ rfl
   have c4:wr.cell? ⟨b,off+k * 5+4,none⟩=some (.slice l[k].ga l[k].gs.length l[k].gc):=hc k hkl 4 _ rfl
   have HU2:=za (HO.out.alloc (.cells #[.string l[k].nm,.string l[k].hs,.string l[k].ml,.bool l[k].dis,.slice l[k].ga l[k].gs.length l[k].gc] 37))
   have HW2:=za (z8 HW.out (z7 (Below.refl wr.heap.size wr) (.cells #[.string l[k].nm,.string l[k].hs,.string l[k].ml,.bool l[k].dis,.slice l[k].ga l[k].gs.length l[k].gc] 37)))
   have HT:Hid (((l.take (k+1)).map fun u=>Value.string u.nm)=((l.take k).map fun u=>Value.string u.nm)++[.string l[k].nm]):=by
    show _=_
    rw [List.take_succ_eq_append_getElem hkl,List.map_append]
    rfl
   have hsz:=HW.out.size
   clear hc hb HO HW
   generalize l[k].nm=nm at *
   generalize l[k].hs=hs at *
   generalize l[k].ml=ml at *
   generalize l[k].dis=dis at *
   generalize l[k].ga=ga at *
   generalize l[k].gs.length=gl at *
   generalize l[k].gc=gc at *
   go_wp2_with (first
    | (at_builtin; refine wpList_append_own _ rfl _ _ 28 rfl w.heap.size 9 i0 (.string ⟨#[]⟩) 1 16 Tryz.underlying28 hi hz0 hz1 hz2 rfl (by decide) _ _ _ rfl (HU2.out.alloc _) ⟨wr.heap.size+1,0,none⟩ 1 1 [.string nm] rfl rfl (fun j u hu=>by rw [Addr.add_lit,Nat.zero_add,World.cell?_alloc_at _ _ _ _ (by simp)]; simpa using hu) (by simp [Value.oneCell']) (by unfold maxLen; omega) (by omega) (by simp; omega) ?_; intro v2 w2 hown' hgrow _; have HOw2:=za hown'; have HGw2:=za hgrow; clear hown' hgrow)
    | fail)
   have R1:=za (XP HW2.out HU2.out HGw2.out)
   have R2:Hid (w2.ownsRow w.heap.size 9 1 v2 (k+1) ((l.take (k+1)).map fun u=>Value.string u.nm)):=by
    show World.ownsRow _ _ _ _ _ _ _
    rw [HT.out]
    exact HOw2.out
   clear HT HOw2 HGw2 HU2 HW2
   go_roundg (n - (k+1))
   case measure=>omega
   case rel=>exact ⟨k+1,by omega,by omega,by go_num,R1,R2⟩
  ·
   have hltz:¬ (k:Int)<(n:Int):=by omega
   obtain rfl:k=n:=by omega
   have hown:=HO.out
   rw [List.take_of_length_le (by have:=HL.out; omega)] at hown
   have hsh:∃ A2 c2,u3=.slice A2 k c2∧RdS wr A2 (l.map (·.nm)):=by
    have hk':k=(l.map (·.nm)).length:=by rw [List.length_map]; exact HL.out
    have hs:∃ A2 c2,u3=.slice A2 k c2:=by
     have e:(l.map fun u=>Value.string u.nm)=(l.map fun u=>u.nm.data.toList).map encStr:=by
      rw [List.map_map]
      refine List.map_congr_left fun u _=>?_
      exact (vr u.nm).symm
     rw [e] at hown
     have hk2:k=(l.map fun u=>u.nm.data.toList).length:=by rw [List.length_map]; exact HL.out
     rw [hk2] at hown ⊢
     exact xn hown
    obtain ⟨A2,c2,rfl⟩:=hs
    refine ⟨A2,c2,rfl,?_⟩
    have h2:=zA hown (Nat.zero_le _)
    rw [JA] at h2
    rw [hk'] at h2
    exact V3 h2
   obtain ⟨A2,c2,rfl,hrd⟩:=hsh
   have HF:=za hrd
   have HB:=za HW.out
   clear hrd hown HO HW
   go_wp2
   go_ret
   exact ⟨A2,⟨c2,rfl⟩,HF.out,HB.out⟩
set_option maxRecDepth 100000 in
theorem Zl (Aa:Option Addr) (n c:Nat) (ss:List ByteArray) (w:World) (hl:n=ss.length) (hr:RdS w Aa ss) (hm:n≤9223372036854775807) :
  Calls Tryz.prog 83 #[.slice Aa n c] w fun e w'=>e=.returned (.int .i64 (zq (yu ss) 9))∧∃ q,w'=w.drewN q:=by
 have HR:=za hr
 have HL:=za hl
 clear hr hl
 obtain ⟨r,hr⟩:∃ r,r=zq (yu ss) 9:=⟨_,rfl⟩
 rw [← hr]
 have HE:=za hr
 clear hr
 go_enter Tryz.func83,Tryz.ntmps83
 go_wp2
 go_loopg [3] n (fun gg s3 wr=>∃ k:Nat,(k≤n∨k=1)∧1≤k∧n - k≤gg∧s3=.int .i64 k∧(∃ q,wr=w.drewN q)∧Hid (∀ j (h:j+1<ss.length),j+1<k→xN ss[j] ss[j+1]=true))
 case atStart=>exact ⟨1,.inr rfl,Nat.le_refl _,by omega,rfl,⟨0,rfl⟩,fun j _ hj=>absurd hj (by omega)⟩
 case round =>
  obtain ⟨k,hk,hk1,hg,rfl,⟨q,hq⟩,A⟩:=hrel
  have HQ:=za hq
  have HW:Hid (RdS wr Aa ss):=by rw [hq]; exact HR.out.below (zt (Below.refl w.heap.size w) q)
  clear hq
  by_cases hlt:k<n
  ·
   have hltz:(k:Int)<(n:Int):=by omega
   have hkl:k<ss.length:=HL.out ▸ hlt
   have hkl':k - 1<ss.length:=by omega
   obtain ⟨b,off,hA,hcell⟩:=HW.out.at6 k hkl
   obtain ⟨b',off',hA',hcell'⟩:=HW.out.at6 (k - 1) hkl'
   obtain ⟨rfl,rfl⟩:b'=b∧off'=off:=by
    rw [hA] at hA'
    simp at hA'
    exact ⟨hA'.1.symm,hA'.2.symm⟩
   subst hA
   have zk:(k:Int) - 1=((k - 1:Nat):Int):=by omega
   have z1:((k - 1:Nat):Int)<(n:Int):=by omega
   have hcw:∀ i,(wr.drewN i).cell? ⟨b',off'+k,none⟩=some (.string ss[k]):=fun i=>hcell
   have hcw':∀ i,(wr.drewN i).cell? ⟨b',off'+(k - 1),none⟩=some (.string ss[k - 1]):=fun i=>hcell'
   have HX:Hid (xN ss[k - 1] ss[k]=true→∀ j (h:j+1<ss.length),j+1<k+1→xN ss[j] ss[j+1]=true):=fun hq j h hj=>by
    by_cases e:j=k - 1
    ·
     subst e
     have e2:k - 1+1=k:=by omega
     have:ss[k - 1+1]=ss[k]:=by congr 1
     rw [this]; exact hq
    ·
     exact A.out j h (by omega)
   have HF:Hid (xN ss[k - 1] ss[k]=false→r=9):=fun hf=>by
    rw [HE.out]
    have:yu ss=false:=Yn ss (k - 1) (by omega) (by
     have:ss[k - 1+1]=ss[k]:=by congr 1; omega
     rw [this]; exact hf)
    rw [this]; rfl
   have HC:Hid (∀ W,Calls Tryz.prog 151 #[.string ss[k - 1],.string ss[k]] W fun e w'=>e=.returned (.int .i64 (Lib.compareBytes ss[k - 1].data.toList ss[k].data.toList))∧w'=W):=fun W=>qy _ _ W
   have HD:Hid (xN ss[k - 1] ss[k]=decide (Lib.compareBytes ss[k - 1].data.toList ss[k].data.toList<0)):=rfl
   generalize Lib.compareBytes ss[k - 1].data.toList ss[k].data.toList=cm at *
   generalize xN ss[k - 1] ss[k]=q6 at *
   generalize ss[k]=x at *
   generalize ss[k - 1]=y at *
   clear A hcell hcell'
   have hwr:IntKind.i64.wrap ((k - 1:Nat):Int)=((k - 1:Nat):Int):=IntWalk.i64_in _ (by omega)
   by_cases hc:cm<0
   ·
    have hq:q6=true:=by rw [HD.out,decide_eq_true hc]
    have HY:=za (HX.out hq)
    have hcd:decide (cm ≥ 0)=false:=decide_eq_false (by omega)
    have hc2:¬ cm ≥ 0:=by omega
    have hc3:¬ 0≤cm:=by omega
    clear HX HF HD hq
    go_wp2
    go_quiet (first | (go_at_call 151; exact Calls.quiet_of_same (HC.out _)))
    go_wp2
    go_roundg (n - (k+1))
    case measure=>omega
    case rel=>exact ⟨k+1,.inl (by omega),by omega,by omega,by go_num,⟨q+nq,by rw [HQ.out,World.drewN_drewN]⟩,HY⟩
   ·
    have hq:q6=false:=by rw [HD.out,decide_eq_false hc]
    have hr9:r=9:=HF.out hq
    subst hr9
    have hc2:cm ≥ 0:=by omega
    have hc3:0≤cm:=by omega
    clear HX HF HD hq
    go_wp2
    go_quiet (first | (go_at_call 151; exact Calls.quiet_of_same (HC.out _)))
    go_wp2
    go_ret
    exact ⟨rfl,q+nq,by rw [HQ.out,World.drewN_drewN]⟩
  ·
   have hltz:¬ (k:Int)<(n:Int):=by omega
   have hr0:r=0:=by
    rw [HE.out]
    have:yu ss=true:=Yo ss (fun j h=>A.out j h (by have:=HL.out; omega))
    rw [this]; rfl
   subst hr0
   clear A
   go_wp2
   go_ret
   exact ⟨rfl,q,HQ.out⟩


/-! ### a user is added -/
def YJn11 (D G C1:Nat) (g n:ByteArray):Nat→Value→Prop
 | 2,v=>v=.pointer (some ⟨D,2,none⟩)
 | 3,v=>v=.pointer (some ⟨G,0,none⟩)
 | 4,v=>v=.string g
 | 5,v=>v=.pointer (some ⟨C1,0,none⟩)
 | 6,v=>v=.string n
 | _,v=>v=.pointer (some ⟨D,0,none⟩)
def YJnW11 (D G C1:Nat) (g n:ByteArray) (j:Nat) (v:Value) (_:World):Prop:=YJn11 D G C1 g n j v
section
variable {w0 w:World} {D P M G:Nat} {A:zM} {L:zT} {S:zv} {k:Nat}
set_option maxRecDepth 100000 in
theorem XQ (C0 C1:Nat) (g n:ByteArray) (ho:zo w0 w D P M G A L S) (hk:zL S k) (h9:k≤900) (hc0:w.cell? ⟨C0,0,none⟩=some (.pointer (some ⟨D,0,none⟩))) (hc1:w.cell? ⟨C1,0,none⟩=some (.string n)) (hg:g.size≤9223372036854775807) (hn:n.size≤9223372036854775807) :
  Calls Tryz.prog 158 #[.string g,.pointer (some ⟨C0,0,none⟩),.pointer (some ⟨C1,0,none⟩)] w fun e w'=>e=.returned (.int .i64 (q7 S g.data.toList n.data.toList))∧zE w0 w D P M G A L (qr S g.data.toList n.data.toList) w':=by
 have HO:=za ho
 have HST:Hid (∀ W,Below w.heap.size w W→Calls Tryz.prog 131 #[.pointer (some ⟨G,0,none⟩),.string g,.string n] W fun e w'=>e=.returned (.int .i64 (q7 S g.data.toList n.data.toList))∧zE w0 w D P M G A L (qr S g.data.toList n.data.toList) w'):=fun W hb =>
  ((ho.later hb).gjoin hk h9 g n hg hn).mono fun e w' ⟨he,hgo⟩=>⟨he,hgo.ahead hb⟩
 have HC0:Hid (∀ W,Below w.heap.size w W→W.cell? ⟨C0,0,none⟩=some (.pointer (some ⟨D,0,none⟩))):=fun W hb=>(hb.cell (p:=⟨C0,0,none⟩) (World.block_lt_of_cell? w _ hc0)).trans hc0
 have HC1:Hid (∀ W,Below w.heap.size w W→W.cell? ⟨C1,0,none⟩=some (.string n)):=fun W hb=>(hb.cell (p:=⟨C1,0,none⟩) (World.block_lt_of_cell? w _ hc1)).trans hc1
 clear ho hk h9 hc0 hc1 hg hn
 generalize q7 S g.data.toList n.data.toList=r at *
 generalize qr S g.data.toList n.data.toList=S' at *
 go_enter Tryz.func158,Tryz.ntmps158
 go_wp2_with fail
 refine yI (by kernel_rfl) 7 (fun W=>Below w.heap.size w W) (fun W=>zE w0 w D P M G A L S' W) (YJnW11 D G C1 g n) (fun v=>v=.int .i64 r) ?F ?hF (by kernel_rfl) (by kernel_rfl) (by kernel_rfl) (by kernel_rfl) (by decide) (zK (Below.refl _ _)) ?step ?fin
 case hF =>
  intro x
  simp only [List.map_cons,List.map_nil,vc,Act.put,List.setIfInBounds_toArray,List.set_cons_zero,List.set_cons_succ,Nat.zero_add,Nat.reduceAdd]
  exact rfl
 case step =>
  refine ⟨?_,?_,?_,?_,?_,?_,?_,?_,?_,trivial⟩
  ·
   intro x W
   refine ⟨fun _ hW hdep K hK=>?_,(fun h=>absurd h (by decide)),(fun h=>absurd h (by decide))⟩
   have c:=HC0.out W hW
   clear hdep
   go_simp
   exact hK _ _ rfl hW (fun _ _ h=>h)
  ·
   intro x W
   refine ⟨fun _ hW hdep K hK=>?_,(fun h=>absurd h (by decide)),(fun h=>absurd h (by decide))⟩
   have h0:x 0=_:=hdep 0 rfl
   clear hdep
   simp only [h0] at hK
   go_simp
   exact hK _ _ rfl hW (fun _ _ h=>h)
  ·
   intro x W
   refine ⟨fun _ hW hdep K hK=>?_,(fun h=>absurd h (by decide)),(fun h=>absurd h (by decide))⟩
   have h1:x 1=_:=hdep 1 rfl
   clear hdep
   simp only [h1] at hK
   go_simp
   exact hK _ _ rfl hW (fun _ _ h=>h)
  ·
   intro x W
   refine ⟨fun _ hW hdep K hK=>?_,(fun h=>absurd h (by decide)),(fun h=>absurd h (by decide))⟩
   have h2:x 2=_:=hdep 2 rfl
   have c:=(HO.out.later hW).c2
   clear hdep
   simp only [h2] at hK
   go_simp
   exact hK _ _ rfl hW (fun _ _ h=>h)
  ·
   intro x W
   refine ⟨fun _ hW hdep K hK=>?_,(fun h=>absurd h (by decide)),(fun h=>absurd h (by decide))⟩
   clear hdep
   go_simp
   exact hK _ _ rfl hW (fun _ _ h=>h)
  ·
   intro x W
   refine ⟨fun _ hW hdep K hK=>?_,(fun h=>absurd h (by decide)),(fun h=>absurd h (by decide))⟩
   clear hdep
   go_simp
   exact hK _ _ rfl hW (fun _ _ h=>h)
  ·
   intro x W
   refine ⟨fun _ hW hdep K hK=>?_,(fun h=>absurd h (by decide)),(fun h=>absurd h (by decide))⟩
   have h5:x 5=_:=hdep 5 rfl
   have c:=HC1.out W hW
   clear hdep
   simp only [h5] at hK
   go_simp
   exact hK _ _ rfl hW (fun _ _ h=>h)
  ·
   intro x W
   refine ⟨(fun h=>absurd h (by decide)),fun _ hW hdep K hK=>?_,(fun h=>absurd h (by decide))⟩
   have h3:x 3=_:=hdep 3 rfl
   have h4:x 4=_:=hdep 4 rfl
   have h6:x 6=_:=hdep 6 rfl
   have hc:=HST.out W hW
   clear hdep
   simp only [h3,h4,h6] at hK
   go_simp
   refine hc.mono ?_
   rintro e W' ⟨rfl,hg⟩
   exact hK _ _ rfl hg
  ·
   intro x W
   refine ⟨(fun h=>absurd h (by decide)),(fun h=>absurd h (by decide)),fun _ hW hdep K hK=>?_⟩
   have h7:x 7=_:=hdep 7 rfl (by decide)
   clear hdep
   simp only [h7] at hK
   go_simp
   exact hK _ rfl
 case fin =>
  intro x W hW hZ
  have h8:x 8=.int .i64 r:=hZ 8 (by decide) (by decide)
  have HF:=za hW
  clear hW hZ HST HO HC0 HC1
  rw [h8]
  go_wp2
  go_ret
  exact ⟨rfl,HF.out⟩
def Jn11 (w0 w1:World) (D P M G:Nat) (A:zM) (L:zT) (S:zv) (u:Us) (N:List (List UInt8)) (i:Nat) (W:World):Prop :=
 zo w0 W D P M G A L (vU S u.nm.data.toList (u.gs.take i))∧zr w1 W∧∀ g∈u.gs.take i,ve N g.data.toList=true
theorem YJ {w1 W:World} {b:Nat} {c:Array Value} {T:TypeId} {fr:Nat×Nat} (h:zr w1 W) (hb:w1.heap[b]? = some (.cells c T fr)) (h1:T≠84) (h2:T≠140) (h3:T≠143) (j:Nat):W.cell? ⟨b,j,none⟩=w1.cell? ⟨b,j,none⟩:=by
 have:=h b c T fr hb h1 h2 h3
 unfold World.cell?
 rw [this,hb]
set_option maxRecDepth 100000 in
theorem Fh {pre:List Us} {Gs:List ByteArray} (u:Us) (ho:zo w0 w D P M G A L S) (hg:Xm A L S pre Gs k) (h9:k≤800) (hc:vV 2 u=0) (hup:∀ v∈pre,bytesBefore v.nm.data.toList u.nm.data.toList=true) (h12:pre.length<12) (hu:u.Ok w0) (h5:vX w0) :
  Calls Tryz.prog 88 #[.pointer (some ⟨D,0,none⟩),.agg #[.string u.nm,.string u.hs,.string u.ml,.bool u.dis,.slice u.ga u.gs.length u.gc]] w fun e w'=>e=.returned (.int .i64 (xM Gs pre u)) ∧
   (xM Gs pre u=0→zo w0 w' D P M G (zO A u.nm.data.toList (u.hs.data.toList,u.dis)) (XV L u.nm.data.toList u.ml.data.toList) (vU S u.nm.data.toList u.gs))∧(xM Gs pre u≠0→Below w0.heap.size w0 w'):=by
 obtain ⟨_,hn5,hh5⟩:=Xa hc
 obtain ⟨hfo,h6,hns,hri⟩:=Uv hc
 have hN:zb S=ue Gs:=hg.1.2.2
 have hst:=step11 hg u hc hup h12
 have hL:=hg.2
 have hAl:=hg.len
 have hfr:=hg.fresh hup
 have hG10:=hg.1.1.grp
 obtain ⟨w1,hw1⟩:∃ w1,w1=(w.alloc (.cells #[.pointer (some ⟨D,0,none⟩)] 25)).alloc (.cells #[.string u.nm,.string u.hs,.string u.ml,.bool u.dis,.slice u.ga u.gs.length u.gc] 37):=⟨_,rfl⟩
 have hb1:Below w.heap.size w w1:=by rw [hw1]; exact z7 (z7 (Below.refl _ _) _) _
 have ka:(w.alloc (.cells #[.pointer (some ⟨D,0,none⟩)] 25)).heap[w.heap.size]? = some (.cells #[.pointer (some ⟨D,0,none⟩)] 25 (0,0)):=(MapKept.heap_alloc w _).1
 have ks:(w.alloc (.cells #[.pointer (some ⟨D,0,none⟩)] 25)).heap.size=w.heap.size+1:=by simp
 have k0:w1.heap[w.heap.size]? = some (.cells #[.pointer (some ⟨D,0,none⟩)] 25 (0,0)):=by rw [hw1]; exact ((z7 (Below.refl _ _) _).block w.heap.size (by omega)).trans ka
 have k1:w1.heap[w.heap.size+1]? = some (.cells #[.string u.nm,.string u.hs,.string u.ml,.bool u.dis,.slice u.ga u.gs.length u.gc] 37 (0,0)):=by rw [hw1,← ks]; exact (MapKept.heap_alloc _ _).1
 have hcell0:∀ W,zr w1 W→W.cell? ⟨w.heap.size,0,none⟩=some (.pointer (some ⟨D,0,none⟩)):=fun W hk=>(YJ hk k0 (by decide) (by decide) (by decide) 0).trans (by simp [World.cell?,k0])
 have hcell1:∀ W j,zr w1 W→W.cell? ⟨w.heap.size+1,j,none⟩=(#[.string u.nm,.string u.hs,.string u.ml,.bool u.dis,.slice u.ga u.gs.length u.gc]:Array Value)[j]? := fun W j hk=>(YJ hk k1 (by decide) (by decide) (by decide) j).trans (by simp [World.cell?,k1])
 have hI0:Jn11 w0 w1 D P M G A L S u (ue Gs) 0 w1:=⟨ho.later hb1,zr.refl _,fun g hg=>by simp at hg⟩
 have hE:=uO 158 #[] #[.pointer (some ⟨w.heap.size,0,none⟩),.pointer (some ⟨w.heap.size+1,0,none⟩)] u.ga u.gs.length u.gc u.gs w1 (fun i=>if h:i<u.gs.length then (if ve (ue Gs) u.gs[i].data.toList then 0 else 8) else 0) (Jn11 w0 w1 D P M G A L S u (ue Gs)) (fun W=>Below w0.heap.size w0 W) rfl (Nat.le_trans hu.len hu.cap)
  (enters_of Tryz.func158 (by kernel_rfl) rfl) hI0 (fun i W hI=>hu.rd.below hI.1.below) (fun i hi W hI=>by
   obtain ⟨h1,h2,h3⟩:=hI
   have hJ:=U9 hG10 hn5 hns hri hfr i (Nat.le_of_lt hi) (fun g hg=>by rw [hN]; exact h3 g hg)
   have hj:=FG hi hJ hn5 hns hri hfr
   rw [hN] at hj
   refine (XQ w.heap.size (w.heap.size+1) u.gs[i] u.nm h1 hJ.good (by omega) (hcell0 W h2) (by rw [hcell1 W 0 h2]; rfl) (hu.all _ (List.getElem_mem hi)) (Nat.le_trans hu.nm (by decide))).mono ?_
   rintro e w' ⟨he,hgo⟩
   rw [dif_pos hi]
   rw [hj] at he
   refine ⟨he,fun h0=>?_,fun _=>hgo.1.below⟩
   refine ⟨by rw [Ve S _ hi]; exact hgo.1,h2.trans hgo.2,fun g hg=>?_⟩
   rw [List.take_succ_eq_append_getElem hi,List.mem_append] at hg
   rcases hg with hg | hg
   ·
    exact h3 g hg
   ·
    rw [List.mem_singleton] at hg
    subst hg
    by_cases hh:ve (ue Gs) u.gs[i].data.toList=true
    ·
     exact hh
    ·
     rw [if_neg hh] at h0; exact absurd h0 (by decide))
 have hev:vH (fun i=>if h:i<u.gs.length then (if ve (ue Gs) u.gs[i].data.toList then 0 else 8) else 0) 0 u.gs.length=if u.gs.all (fun g=>ve (ue Gs) g.data.toList) then 0 else 8 :=
  Ul (fun g:ByteArray=>ve (ue Gs) g.data.toList) 8 (by decide) _ u.gs 0 (fun j hj=>by
   simp only [Nat.zero_add]
   rw [dif_pos hj])
 rw [hev] at hE
 have hone:xM Gs pre u=if u.gs.all (fun g=>ve (ue Gs) g.data.toList) then (if pre.any (fun v=>!(u.ml.data.toList == []) && (u.ml.data.toList == v.ml.data.toList)) then 9 else 0) else 8:=rfl
 obtain ⟨r,hr⟩:∃ r,r=xM Gs pre u:=⟨_,rfl⟩
 rw [← hr]
 rw [hone] at hr
 have HRR:=za hr
 clear hr
 have HE:=za hE
 have HNS:u.nm.size≤1000:=xX hn5
 have HHS:u.hs.size≤1000:=jK hh5
 have HML:u.ml.size≤9223372036854775807:=Nat.le_trans hu.ml (by decide)
 have HPUT:Hid (∀ W,zo w0 W D P M G A L (vU S u.nm.data.toList u.gs)→Calls Tryz.prog 94 #[.pointer (some ⟨D,0,none⟩),.string u.nm,.agg #[.string u.hs,.bool u.dis]] W fun e w'=>e=.returned (.tuple #[])∧zE w0 W D P M G (zO A u.nm.data.toList (u.hs.data.toList,u.dis)) L (vU S u.nm.data.toList u.gs) w'):=fun W h=>un u.nm u.hs u.dis h (by omega) HNS HHS
 have HPM:Hid (∀ W,zo w0 W D P M G (zO A u.nm.data.toList (u.hs.data.toList,u.dis)) L (vU S u.nm.data.toList u.gs)→Calls Tryz.prog 113 #[.pointer (some ⟨D,0,none⟩),.string u.nm,.string u.ml] W fun e w'=>e=.returned (.int .i64 (qJ L u.nm.data.toList u.ml.data.toList))∧zE w0 W D P M G (zO A u.nm.data.toList (u.hs.data.toList,u.dis)) (XV L u.nm.data.toList u.ml.data.toList) (vU S u.nm.data.toList u.gs) w'):=fun W h =>
  qQ u.nm u.ml h (by omega) (h5.later h.below) HNS HML
 have HCL0:=za hcell0
 have HCL1:=za hcell1
 have HST:=za hst
 have hmf:=mkf
 clear hst hE hI0 hcell0 hcell1 hone hev hN hL hAl hfr hG10 hg hc hup h12 hu h5 hn5 hh5 hfo h6 hns hri HNS HHS HML h9 ho
 generalize (pre.any fun v=>!(u.ml.data.toList == []) && (u.ml.data.toList == v.ml.data.toList))=pm at *
 have hen1:(Tryz.prog.funcs[88]?).isSome=true:=by kernel_rfl
 clear hen1
 rw [hw1] at HE
 go_enter Tryz.func88,Tryz.ntmps88
 go_wp2_with fail
 with_reducible refine HE.out.mono ?_
 rw [← hw1]
 rintro e w2 ⟨rfl,hok,hbad⟩
 clear HE
 cases hall:u.gs.all (fun g=>ve (ue Gs) g.data.toList) with
 | false =>
  rw [hall] at hbad
  have HF:=za (hbad (by decide))
  obtain rfl:r=8:=by have:=HRR.out; rw [hall] at this; exact this
  clear hok hbad
  go_wp2
  go_ret
  exact ⟨rfl,fun h=>absurd h (by decide),fun _=>HF.out⟩
 | true =>
  rw [hall] at hok
  obtain ⟨j1,j2,_⟩:=hok rfl
  rw [List.take_length] at j1
  have hst2:=HST.out hall
  obtain rfl:r=qJ L u.nm.data.toList u.ml.data.toList:=by
   have:=HRR.out
   rw [hall,if_pos rfl] at this
   rw [this]
   exact hst2.1.symm
  have HO:=za j1
  have HK:=za j2
  have HP2:=za (HPUT.out w2 j1)
  have d0:=HCL0.out w2 j2
  have d1:w2.cell? ⟨w.heap.size+1,0,none⟩=some (.string u.nm):=HCL1.out w2 0 j2
  have d2:w2.cell? ⟨w.heap.size+1,1,none⟩=some (.string u.hs):=HCL1.out w2 1 j2
  have d3:w2.cell? ⟨w.heap.size+1,3,none⟩=some (.bool u.dis):=HCL1.out w2 3 j2
  clear hok hbad j1 j2 hst2 HPUT HST HO HRR
  go_wp2_with fail
  with_reducible refine HP2.out.mono ?_
  rintro e w3 ⟨rfl,hgo⟩
  have hk3:=HK.out.trans hgo.2
  have HP3:=za (HPM.out w3 hgo.1)
  have e0:=HCL0.out w3 hk3
  have e1:w3.cell? ⟨w.heap.size+1,0,none⟩=some (.string u.nm):=HCL1.out w3 0 hk3
  have e2:w3.cell? ⟨w.heap.size+1,2,none⟩=some (.string u.ml):=HCL1.out w3 2 hk3
  clear hgo hk3 HP2 HK HPM d0 d1 d2 d3
  go_wp2_with fail
  with_reducible refine HP3.out.mono ?_
  rintro e w4 ⟨rfl,hgo⟩
  have HF:=za hgo.1
  clear hgo HP3 e0 e1 e2
  go_wp2
  go_ret
  exact ⟨rfl,fun _=>HF.out,fun _=>HF.out.below⟩
end

/-! ### Of -/
def Of11 (l:List Us) (G:List ByteArray) (w:World) (e:Ending) (w':World):Prop :=
 (u7 l G≠0∧e=.returned (.tuple #[.pointer none,.int .i64 (u7 l G)])∧Below w.heap.size w w') ∨
 (u7 l G=0∧∃ D P M Gr A L S k,e=.returned (.tuple #[.pointer (some ⟨D,0,none⟩),.int .i64 0])∧zo w w' D P M Gr A L S∧Xm A L S l G k∧k≤200)
section
variable {w:World} {A A2:Option Addr} {c c2 n m:Nat} {l:List Us} {G:List ByteArray}
theorem VZ (W:World) (hb:Below w.heap.size w W) (hl:n=l.length) (hn:n≤1000) (hr:Uy w A l) (ho:∀ u∈l,u.Ok w) (h5:vX w) :
  Calls Tryz.prog 81 #[.slice A n c,.func (.func 82) #[] #[]] W (xt (xR l) W):=by
 have h:=jA 82 #[] #[] A n c l W (fun i=>if h:i<l.length then vV 2 l[i] else 0) (fun _ W'=>Below W.heap.size W W') (fun W'=>Below W.heap.size W W') hl (by omega)
  (enters_of Tryz.func82 (by kernel_rfl) rfl) (Below.refl _ _) (fun i W' hb'=>hr.later (z8 hb hb')) (fun i W' hb' o=>z8 hb' (z7 (Below.refl _ _) _))
  (fun i hi W' hb'=>(U4 l[i] W' ((ho _ (List.getElem_mem hi)).below (z8 hb hb')) (h5.later (z8 hb hb'))).mono fun e w' ⟨he,hb2⟩=>⟨by rw [he,dif_pos hi],fun _=>z8 hb' hb2,fun _=>z8 hb' hb2⟩)
 rw [show vH (fun i=>if h:i<l.length then vV 2 l[i] else 0) 0 n=xR l by
  rw [hl]; exact FR _ l 0 (fun j hj=>by simp only [Nat.zero_add]; rw [dif_pos hj])] at h
 refine h.mono ?_
 rintro e w' ⟨he,h1,h2⟩
 refine ⟨he,?_⟩
 by_cases h0:xR l=0
 ·
  exact h1 h0
 ·
  exact h2 h0
theorem XB (W:World) (hb:Below w.heap.size w W) (hm:m=G.length) (hm1:m≤1000) (hg:RdS w A2 G) (hgs:∀ g∈G,g.size≤9223372036854775807) :
  Calls Tryz.prog 86 #[.slice A2 m c2,.func (.func 65) #[] #[]] W (xt (zq (yx G) 10) W):=by
 have h:=uO 65 #[] #[] A2 m c2 G W (fun i=>if h:i<G.length then zq (zf G[i].data.toList) 10 else 0) (fun _ W'=>Below W.heap.size W W') (fun W'=>Below W.heap.size W W') hm (by omega)
  (enters_of Tryz.func65 (by kernel_rfl) rfl) (Below.refl _ _) (fun i W' hb'=>hg.below (z8 hb hb'))
  (fun i hi W' hb'=>(yf G[i] W' (hgs _ (List.getElem_mem hi))).mono fun e w' ⟨he,hb2⟩=>⟨by rw [he,dif_pos hi],fun _=>z8 hb' hb2,fun _=>z8 hb' hb2⟩)
 rw [show vH (fun i=>if h:i<G.length then zq (zf G[i].data.toList) 10 else 0) 0 m=zq (yx G) 10 by
  rw [hm]; exact Ul (fun g:ByteArray=>zf g.data.toList) 10 (by decide) _ G 0 (fun j hj=>by simp only [Nat.zero_add]; rw [dif_pos hj]; rfl)] at h
 refine h.mono ?_
 rintro e w' ⟨he,h1,h2⟩
 refine ⟨he,?_⟩
 by_cases h0:zq (yx G) 10=0
 ·
  exact h1 h0
 ·
  exact h2 h0
theorem XC (D P M Gr:Nat) (W:World) (hown:zo w W D P M Gr [] [] []) (hm:m=G.length) (h6:G.length≤6) (hn6:yx G=true) (hr6:yu G=true) (hg:RdS w A2 G) (hgs:∀ g∈G,g.size≤9223372036854775807) :
  Calls Tryz.prog 86 #[.slice A2 m c2,.func (.func 87) #[.pointer (some ⟨Gr,0,none⟩)] #[]] W fun e w'=>e=.returned (.int .i64 0)∧∃ S,zo w w' D P M Gr [] [] S∧zu [] [] S m∧zb S=ue G:=by
 have h:=uO 87 #[.pointer (some ⟨Gr,0,none⟩)] #[] A2 m c2 G W (fun _=>0) (fun i W'=>∃ S,zo w W' D P M Gr [] [] S∧zu [] [] S i∧zb S=ue (G.take i)) (fun _=>True) hm (by omega)
  (enters_of Tryz.func87 (by kernel_rfl) rfl) ⟨[],hown,zu.nil,rfl⟩ (fun i W' ⟨_,h1,_⟩=>hg.below h1.below)
  (fun i hi W' ⟨S,h1,h2,h3⟩=>by
   obtain ⟨m1,m2,m3⟩:=JD hi h6 hn6 hr6 h2 h3
   refine (h1.gmake h2.grp G[i] (hgs _ (List.getElem_mem hi))).mono ?_
   rintro e w' ⟨he,hgo⟩
   rw [m1] at he
   exact ⟨he,fun _=>⟨_,hgo.1,m2,m3⟩,fun h=>absurd rfl h⟩)
 rw [QG (fun _=>0) m 0 (fun _ _ _=>rfl)] at h
 refine h.mono ?_
 rintro e w' ⟨he,h1,_⟩
 refine ⟨he,?_⟩
 obtain ⟨S,s1,s2,s3⟩:=h1 rfl
 rw [hm,List.take_length] at s3
 exact ⟨S,s1,s2,s3⟩
theorem U0 (D P M Gr:Nat) (S:zv) (W:World) (hown:zo w W D P M Gr [] [] S) (hG:zu [] [] S m) (hN:zb S=ue G) (hm6:m≤6) (hl:n=l.length) (h12:l.length≤12) (hc:∀ u∈l,vV 2 u=0) (hri:yu (l.map (·.nm))=true) (hr:Uy w A l) (ho:∀ u∈l,u.Ok w) (h5:vX w) :
  Calls Tryz.prog 81 #[.slice A n c,.func (.func 88) #[.pointer (some ⟨D,0,none⟩)] #[]] W fun e w'=>e=.returned (.int .i64 (x7 G [] l)) ∧
   (x7 G [] l=0→∃ A L S k,zo w w' D P M Gr A L S∧Xm A L S l G k∧k≤200)∧(x7 G [] l≠0→Below w.heap.size w w'):=by
 have h:=jA 88 #[.pointer (some ⟨D,0,none⟩)] #[] A n c l W (fun j=>if hj:j<l.length then xM G (l.take j) l[j] else 0) (fun i W'=>∃ A L S k,zo w W' D P M Gr A L S∧Xm A L S (l.take i) G k∧k≤6+8 * i) (fun W'=>Below w.heap.size w W') hl (by omega)
  (enters_of Tryz.func88 (by kernel_rfl) rfl) ⟨[],[],S,m,hown,st_nil11 hG hN,by omega⟩ (fun i W' ⟨_,_,_,_,h1,_⟩=>hr.later h1.below) (fun i W' ⟨A,L,S,k,h1,h2⟩ o=>⟨A,L,S,k,h1.later (z7 (Below.refl _ _) _),h2⟩)
  (fun i hi W' ⟨A,L,S,k,h1,h2,h3⟩=>by
   have hup:∀ v∈l.take i,bytesBefore v.nm.data.toList l[i].nm.data.toList=true:=fun v hv=>by
    obtain ⟨j,hj,rfl⟩:=List.getElem_of_mem hv
    have hj':j<i:=by rw [List.length_take] at hj; omega
    rw [List.getElem_take]
    have:=List.pairwise_iff_getElem.1 (um hri) j i (by simp; omega) (by simpa using hi) hj'
    simpa using this
   have hcu:=hc _ (List.getElem_mem hi)
   have hlt:(l.take i).length<12:=by rw [List.length_take]; omega
   refine (Fh l[i] h1 h2 (by omega) hcu hup hlt (ho _ (List.getElem_mem hi)) h5).mono ?_
   rintro e w' ⟨he,q1,q2⟩
   rw [dif_pos hi]
   refine ⟨he,fun h0=>?_,q2⟩
   have hone:xM G (l.take i) l[i]=if l[i].gs.all (fun g=>ve (ue G) g.data.toList) then (if (l.take i).any (fun v=>!(l[i].ml.data.toList == []) && (l[i].ml.data.toList == v.ml.data.toList)) then 9 else 0) else 8:=rfl
   have hall:l[i].gs.all (fun g=>ve (ue G) g.data.toList)=true:=by
    cases hh:l[i].gs.all (fun g=>ve (ue G) g.data.toList) with
    | true=>rfl
    | false=>rw [hone,hh] at h0; simp at h0
   obtain ⟨s1,s2⟩:=step11 h2 l[i] hcu hup hlt hall
   rw [hone,hall,if_pos rfl,← s1] at h0
   refine ⟨_,_,_,k+8,q1 (by rw [hone,hall,if_pos rfl,← s1]; exact h0),?_,?_⟩
   ·
    rw [List.take_succ_eq_append_getElem hi]
    exact s2 h0
   ·
    omega)
 rw [show vH (fun j=>if hj:j<l.length then xM G (l.take j) l[j] else 0) 0 n=x7 G [] l by
  rw [hl]; exact Fy G l l.length 0 (by omega)] at h
 refine h.mono ?_
 rintro e w' ⟨he,h1,h2⟩
 refine ⟨he,fun h0=>?_,h2⟩
 obtain ⟨A,L,S,k,s1,s2,s3⟩:=h1 h0
 rw [hl,List.take_length] at s2
 exact ⟨A,L,S,k,s1,s2,by omega⟩
end
set_option maxRecDepth 100000 in
theorem Jz (A A2:Option Addr) (c c2 n m:Nat) (l:List Us) (G:List ByteArray) (w:World) (hl:n=l.length) (hn:n≤1000) (hr:Uy w A l) (ho:∀ u∈l,u.Ok w) (hm:m=G.length) (hm1:m≤1000) (hg:RdS w A2 G) (hgs:∀ g∈G,g.size≤9223372036854775807) (h5:vX w) :
  Calls Tryz.prog 27 #[.slice A n c,.slice A2 m c2] w (Of11 l G w):=by
 have HNW:Hid (∀ W,Calls Tryz.prog 13 #[] W fun e w'=>∃ D P M G,e=.returned (.pointer (some ⟨D,0,none⟩))∧zo W w' D P M G [] [] []):=fun W=>qS W
 have HMB:Hid (∀ W,Below w.heap.size w W→Calls Tryz.prog 81 #[.slice A n c,.func (.func 82) #[] #[]] W (xt (xR l) W)):=fun W hb=>VZ W hb hl hn hr ho h5
 have HNO:Hid (∀ W,Below w.heap.size w W→Calls Tryz.prog 84 #[.slice A n c] W fun e w'=>∃ A2 c2,e=.returned (.slice A2 n c2)∧RdS w' A2 (l.map (·.nm))∧Below W.heap.size W w'):=fun W hb=>YC A c n l W hl hn (hr.later hb)
 have HRI:Hid (∀ A3 c3 W,RdS W A3 (l.map (·.nm))→Calls Tryz.prog 83 #[.slice A3 n c3] W fun e w'=>e=.returned (.int .i64 (zq (yu (l.map (·.nm))) 9))∧∃ q,w'=W.drewN q):=fun A3 c3 W h=>Zl A3 n c3 _ W (by rw [List.length_map]; exact hl) h (by omega)
 have HFI:Hid (∀ W,Calls Tryz.prog 85 #[.int .i64 (n:Int),.int .i64 12] W fun e w'=>e=.returned (.int .i64 (zq (decide ((l.length:Int)≤12)) 7))∧w'=W):=fun W=>by rw [← hl]; exact jM _ _ W
 have HNM:Hid (∀ W,Below w.heap.size w W→Calls Tryz.prog 86 #[.slice A2 m c2,.func (.func 65) #[] #[]] W (xt (zq (yx G) 10) W)):=fun W hb=>XB W hb hm hm1 hg hgs
 have HRG:Hid (∀ W,Below w.heap.size w W→Calls Tryz.prog 83 #[.slice A2 m c2] W fun e w'=>e=.returned (.int .i64 (zq (yu G) 9))∧∃ q,w'=W.drewN q):=fun W hb=>Zl A2 m c2 G W hm (hg.below hb) (by omega)
 have HFG:Hid (∀ W,Calls Tryz.prog 85 #[.int .i64 (m:Int),.int .i64 6] W fun e w'=>e=.returned (.int .i64 (zq (decide ((G.length:Int)≤6)) 7))∧w'=W):=fun W=>by rw [← hm]; exact jM _ _ W
 have HFS:Hid (∀ W:World,Calls Tryz.prog 64 #[.slice (some ⟨W.heap.size,0,none⟩) 6 6] (W.alloc (.cells #[.int .i64 (xR l),.int .i64 (zq (yu (l.map (·.nm))) 9),.int .i64 (zq (decide ((l.length:Int)≤12)) 7),.int .i64 (zq (yx G) 10),.int .i64 (zq (yu G) 9),.int .i64 (zq (decide ((G.length:Int)≤6)) 7)] 38)) fun e w'=>e=.returned (.int .i64 (cE11 l G))∧w'=W.alloc (.cells #[.int .i64 (xR l),.int .i64 (zq (yu (l.map (·.nm))) 9),.int .i64 (zq (decide ((l.length:Int)≤12)) 7),.int .i64 (zq (yx G) 10),.int .i64 (zq (yu G) 9),.int .i64 (zq (decide ((G.length:Int)≤6)) 7)] 38)):=fun W =>
  vM W [xR l,zq (yu (l.map fun u:Us=>u.nm)) 9,zq (decide ((l.length:Int)≤12)) 7,zq (yx G) 10,zq (yu G) 9,zq (decide ((G.length:Int)≤6)) 7] 38 (by simp)
 have HF2:Hid (∀ (W:World) (x:Int),Calls Tryz.prog 64 #[.slice (some ⟨W.heap.size,0,none⟩) 2 2] (W.alloc (.cells #[.int .i64 0,.int .i64 x] 38)) fun e w'=>e=.returned (.int .i64 x)∧w'=W.alloc (.cells #[.int .i64 0,.int .i64 x] 38)):=fun W x=>by
  have:=vM W [0,x] 38 (by simp)
  rw [show zS [0,x]=x by unfold zS zS zS; by_cases h:x=0 <;> simp [h]] at this
  exact this
 have HMK:Hid (cE11 l G=0→∀ D P M Gr W,zo w W D P M Gr [] [] []→Calls Tryz.prog 86 #[.slice A2 m c2,.func (.func 87) #[.pointer (some ⟨Gr,0,none⟩)] #[]] W fun e w'=>e=.returned (.int .i64 0)∧∃ S,zo w w' D P M Gr [] [] S∧zu [] [] S m∧zb S=ue G):=fun h0 D P M Gr W hown=>by
  obtain ⟨_,_,_,f4,f5,f6⟩:=Uw h0
  exact XC D P M Gr W hown hm f6 f4 f5 hg hgs
 have HAD:Hid (cE11 l G=0→∀ D P M Gr S W,zo w W D P M Gr [] [] S→zu [] [] S m→zb S=ue G→Calls Tryz.prog 81 #[.slice A n c,.func (.func 88) #[.pointer (some ⟨D,0,none⟩)] #[]] W fun e w'=>e=.returned (.int .i64 (x7 G [] l)) ∧
   (x7 G [] l=0→∃ A L S k,zo w w' D P M Gr A L S∧Xm A L S l G k∧k≤200)∧(x7 G [] l≠0→Below w.heap.size w w')):=fun h0 D P M Gr S W hown hG hN=>by
  obtain ⟨f1,f2,f3,_,_,f6⟩:=Uw h0
  exact U0 D P M Gr S W hown hG hN (by omega) hl f3 f1 f2 hr ho h5
 have HCE:=za (cE_of (l:=l) (G:=G))
 unfold Of11
 clear hl hn hr ho hm hm1 hg hgs h5
 generalize xR l=e0 at *
 generalize zq (yu (l.map (·.nm))) 9=e1 at *
 generalize zq (decide ((l.length:Int)≤12)) 7=e2 at *
 generalize zq (yx G) 10=e3 at *
 generalize zq (yu G) 9=e4 at *
 generalize zq (decide ((G.length:Int)≤6)) 7=e5 at *
 generalize cE11 l G=r at *
 generalize x7 G [] l=rr at *
 generalize u7 l G=ro at *
 go_enter Tryz.func27,Tryz.ntmps27
 go_wp2_with fail
 with_reducible refine (HNW.out w).mono ?_
 rintro e w1 ⟨D,P,M,Gr,rfl,hown⟩
 have HO1:=za hown
 have HB1:=za hown.below
 clear hown HNW
 go_wp2_with fail
 with_reducible refine (HMB.out w1 HB1.out).mono ?_
 rintro e w2 ⟨rfl,hb⟩
 have HO2:=za (HO1.out.later hb)
 have HB2:=za (z8 HB1.out hb)
 clear hb HMB HO1 HB1
 go_wp2_with fail
 with_reducible refine (HNO.out w2 HB2.out).mono ?_
 rintro e w3 ⟨A3,c3,rfl,hrd,hb⟩
 have HRD:=za hrd
 have HO3:=za (HO2.out.later hb)
 have HB3:=za (z8 HB2.out hb)
 clear hb hrd HNO HO2 HB2
 go_wp2_with fail
 with_reducible refine (HRI.out A3 c3 w3 HRD.out).mono ?_
 rintro e w4 ⟨rfl,q,hq⟩
 have hb:Below w3.heap.size w3 w4:=by rw [hq]; exact zt (Below.refl _ _) q
 have HO4:=za (HO3.out.later hb)
 have HB4:=za (z8 HB3.out hb)
 clear hb hq HRD HRI HO3 HB3
 go_wp2_with fail
 with_reducible refine (HFI.out w4).mono ?_
 rintro e w5 ⟨rfl,rfl⟩
 go_wp2_with fail
 with_reducible refine (HNM.out w5 HB4.out).mono ?_
 rintro e w6 ⟨rfl,hb⟩
 have HO6:=za (HO4.out.later hb)
 have HB6:=za (z8 HB4.out hb)
 clear hb HNM HO4 HB4 HFI
 go_wp2_with fail
 with_reducible refine (HRG.out w6 HB6.out).mono ?_
 rintro e w7 ⟨rfl,q2,hq⟩
 have hb:Below w6.heap.size w6 w7:=by rw [hq]; exact zt (Below.refl _ _) q2
 have HO7:=za (HO6.out.later hb)
 have HB7:=za (z8 HB6.out hb)
 clear hb hq HRG HO6 HB6
 go_wp2_with fail
 with_reducible refine (HFG.out w7).mono ?_
 rintro e w8 ⟨rfl,rfl⟩
 clear HFG
 go_wp2_with fail
 with_reducible refine (HFS.out _).mono ?_
 rintro e w9 ⟨rfl,hw9⟩
 have hb:Below w8.heap.size w8 w9:=by rw [hw9]; exact z7 (Below.refl _ _) _
 have HO9:=za (HO7.out.later hb)
 have HB9:=za (z8 HB7.out hb)
 clear hb hw9 HFS HO7 HB7
 by_cases h0:r=0
 case neg =>
  have h1:(r != 0)=true:=by simpa using h0
  have h2:(r == 0)=false:=by simpa using h0
  obtain rfl:ro=r:=HCE.out.1 h0
  have H0:=za h0
  clear h0 HMK HAD HF2 HCE HO9
  go_wp2
  go_ret2
  exact .inl ⟨H0.out,rfl,HB9.out⟩
 subst h0
 obtain rfl:ro=rr:=HCE.out.2 rfl
 have HMK2:=za (HMK.out rfl D P M Gr w9 HO9.out)
 have HAD2:=za (HAD.out rfl D P M Gr)
 have hc2:=HO9.out.c2
 have hmf:=mkf
 clear HMK HAD HCE
 go_wp2_with fail
 with_reducible refine HMK2.out.mono ?_
 rintro e w10 ⟨rfl,S,s1,s2,s3⟩
 have HA2:=za (HAD2.out S w10 s1 s2 s3)
 clear s1 s2 s3 HMK2 HAD2 hc2 HO9 HB9
 go_wp2_with fail
 with_reducible refine HA2.out.mono ?_
 rintro e w11 ⟨rfl,t1,t2⟩
 have HT1:=za t1
 have HT2:=za t2
 clear t1 t2 HA2
 go_wp2_with fail
 with_reducible refine (HF2.out _ _).mono ?_
 rintro e w12 ⟨rfl,hw⟩
 have hb:Below w11.heap.size w11 w12:=by rw [hw]; exact z7 (Below.refl _ _) _
 have HB:=za hb
 clear hb hw HF2
 by_cases h0:ro=0
 case neg =>
  have h1:(ro != 0)=true:=by simpa using h0
  have HF:=za (z8 (HT2.out h0) HB.out)
  have H0:=za h0
  clear h0 HT1 HT2 HB
  go_wp2
  go_ret2
  exact .inl ⟨H0.out,rfl,HF.out⟩
 subst h0
 obtain ⟨A4,L4,S4,k4,u1,u2,u3⟩:=HT1.out rfl
 have HF:Hid (zo w w12 D P M Gr A4 L4 S4∧Xm A4 L4 S4 l G k4∧k4≤200):=⟨u1.later HB.out,u2,u3⟩
 clear u1 u2 u3 HT1 HT2 HB
 go_wp2
 go_ret2
 exact ⟨D,rfl,P,M,Gr,A4,L4,S4,HF.out.1,k4,HF.out.2⟩
end Go.Proofs.YtmcomnocpibiiaaGreatDoor
namespace Go.Proofs.YtmcomnocpibiiaaGreatDoor
open Go.RowKit Go.Maps


section
variable {w0 w:World} {D P M G:Nat} {A:zM} {L:zT} {S:zv} {k:Nat}
end

/-! ### stores beside a directory -/
def QX (W:World) (b:Nat) (A:Option Addr) (n:Nat):Prop :=
 0<n→∃ g cur,A=some ⟨g,0,none⟩∧b≤g∧W.heap[g]? = some (.cells cur 9 (0,0))∧n≤cur.size∧n≤9223372036854775807
theorem QX.of {W:World} {b n c:Nat} {A:Option Addr} {xs:List Value} (h:W.ownsRow b 9 1 (.slice A n c) n xs):QX W b A n:=fun hn=>by
 rcases h.2 with ⟨_,e⟩ | ⟨g,cap,cur,e,hb,hg,hc,hmx,hs,_⟩
 ·
  omega
 ·
  injection e with e1
  unfold maxLen at hmx
  exact ⟨g,cur,e1,hb,hg,by omega,by omega⟩
theorem QX.few {W:World} {b n:Nat} {A:Option Addr} (h:QX W b A n):n≤9223372036854775807:=by
 by_cases hn:0<n
 ·
  obtain ⟨_,_,_,_,_,_,h⟩:=h hn
  exact h
 ·
  omega
theorem QX.low {W:World} {b a n:Nat} {A:Option Addr} (h:QX W b A n) (ha:a≤b):QX W a A n:=fun hn=>by
 obtain ⟨g,cur,e,hb,hg,hc⟩:=h hn
 exact ⟨g,cur,e,Nat.le_trans ha hb,hg,hc⟩
theorem QX.below {W W':World} {b n:Nat} {A:Option Addr} (h:QX W b A n) (hb:Below W.heap.size W W'):QX W' b A n:=fun hn=>by
 obtain ⟨g,cur,e,h1,hg,hc⟩:=h hn
 exact ⟨g,cur,e,h1,(hb.block g (Array.getElem?_eq_some_iff.1 hg).1).trans hg,hc⟩
theorem QX.keeps {W W':World} {b n:Nat} {A:Option Addr} (h:QX W b A n) (hk:zr W W'):QX W' b A n:=fun hn=>by
 obtain ⟨g,cur,e,h1,hg,hc⟩:=h hn
 exact ⟨g,cur,e,h1,hk g cur _ _ hg (by decide) (by decide) (by decide),hc⟩
theorem QX.store {W:World} {b n g k:Nat} {A:Option Addr} {cur:Array Value} (h:QX W b A n) (hg:W.heap[g]? = some (.cells cur 9 (0,0))) (s:Value):QX (W.setCell ⟨g,k,none⟩ s) b A n:=fun hn=>by
 obtain ⟨g',cur',e,h1,hg',hc⟩:=h hn
 by_cases eg:g'=g
 ·
  subst eg
  rw [hg] at hg'
  injection hg' with hg'
  injection hg' with hg'
  subst hg'
  exact ⟨g',_,e,h1,heap_setCell_same W g' k cur _ s hg,by simpa using hc.1,hc.2⟩
 ·
  exact ⟨g',cur',e,h1,(heap_setCell_other W ⟨g,k,none⟩ g' s eg).trans hg',hc⟩
theorem zo.setStr {w0 W:World} {D P M G g k:Nat} {A:zM} {L:zT} {S:zv} {cur:Array Value} (h:zo w0 W D P M G A L S) (hg:W.heap[g]? = some (.cells cur 9 (0,0))) (hw:w0.heap.size≤g) (s:Value):zo w0 (W.setCell ⟨g,k,none⟩ s) D P M G A L S:=by
 obtain ⟨p,q,LM,pg,T,hd,hS,h2,h3⟩:=h
 have ht:zm (fun i=>i=g) W (W.setCell ⟨g,k,none⟩ s):=(zm.refl (fun i=>i=g) W).setCell (p:=⟨g,k,none⟩) (fun _=>rfl) _
 have hD:D≠g:=jn hd.blk hg (by decide)
 have hP:P≠g:=Y1 hd.acc hg
 refine ⟨p,q,LM,pg,T,⟨?_,?_,?_,?_,hd.sep1,hd.sep2,hd.sep3⟩,hS,h2,h3.setCell (p:=⟨g,k,none⟩) hw _⟩
 ·
  exact (heap_setCell_other W ⟨g,k,none⟩ D s hD).trans hd.blk
 ·
  exact hd.acc.kept (heap_setCell_other W ⟨g,k,none⟩ P s hP)
 ·
  exact hd.idx.turnsF ht (fun i hi e=>by subst e; exact fz hd.idx hg (by decide) hi)
 ·
  exact hd.grp.turnsF ht (fun i hi e=>by subst e; exact fA hd.grp hg (by decide) hi)
theorem zo.base {w00 w0 W:World} {D P M G:Nat} {A:zM} {L:zT} {S:zv} (h:zo w0 W D P M G A L S) (hb:Below w00.heap.size w00 w0):zo w00 W D P M G A L S:=by
 obtain ⟨p,q,LM,pg,T,hd,hS,h2,h3⟩:=h
 exact ⟨p,q,LM,pg,T,hd,hS,fun i hi=>Nat.le_trans hb.size (h2 i hi),z8 hb h3⟩

/-! ### users in a row of one's own -/
def vh (l:List Us):List Value:=l.flatMap fun u=>u.cells.toList
theorem Y3 (l:List Us) (i j:Nat) (hi:i<l.length) (hj:j<5):(vh l)[i * 5+j]? = l[i].cells[j]? := by
 induction l generalizing i with
 | nil=>exact absurd hi (Nat.not_lt_zero _)
 | cons u l ih =>
  have e:vh (u::l)=u.cells.toList++vh l:=rfl
  have h5:u.cells.toList.length=5:=rfl
  rw [e]
  cases i with
  | zero =>
   rw [List.getElem?_append_left (by omega),Nat.zero_mul,Nat.zero_add]
   simp
  | succ i =>
   rw [List.getElem?_append_right (by omega),h5,show (i+1) * 5+j - 5=i * 5+j by omega]
   exact ih i (by simpa using hi)
theorem jT (l:List Us) (u:Us):vh (l++[u])=vh l++u.cells.toList:=by
 unfold vh
 rw [List.flatMap_append]
 simp
theorem Q4 {w:World} {b0 n c:Nat} {A:Option Addr} {l:List Us} (ho:w.ownsRow b0 37 5 (.slice A n c) n (vh l)) (hn:n=l.length):Uy w A l:=by
 intro hl
 have hp:0<l.length:=List.length_pos_iff.2 hl
 obtain ⟨g,cap,hv,_,hg⟩:=ho.form (by omega)
 injection hv with hA _ hc
 subst hA hc
 refine ⟨g,0,rfl,hg,fun i hi j u hu=>?_⟩
 have h5:j<5:=by
  have:=(Array.getElem?_eq_some_iff.1 hu).1
  exact this
 have:=ho.cellAt (i * 5+j) (by omega)
 rw [Y3 l i j hi h5,hu] at this
 rwa [Nat.zero_add]
structure Zz11 (w W:World) (D P M G:Nat) (A:zM) (L:zT) (S:zv) (v:Value) (n:Nat) (l:List Us):Prop where
 own:zo w W D P M G A L S
 len:l.length=n
 row:W.ownsRow 0 37 5 v n (vh l)
 txt:∀ u∈l,QX W w.heap.size u.ga u.gs.length
section
variable {w W:World} {D P M G:Nat} {A:zM} {L:zT} {S:zv} {l:List Us}
theorem Zz11.later {W':World} {v:Value} {n:Nat} (h:Zz11 w W D P M G A L S v n l) (hb:Below W.heap.size W W'):Zz11 w W' D P M G A L S v n l :=
 ⟨h.own.later hb,h.len,zG h.row hb,fun u hu=>(h.txt u hu).below hb⟩
theorem Zz11.at_ {B:Option Addr} {n c i:Nat} (h:Zz11 w W D P M G A L S (.slice B n c) n l) (hi:i<l.length):∃ g,B=some ⟨g,0,none⟩∧W.cell? ⟨g,i * 5+4,none⟩=some (.slice l[i].ga l[i].gs.length l[i].gc):=by
 have hn:=h.len
 obtain ⟨g,cap,e,_,_⟩:=h.row.form (by omega)
 injection e with e1 e2 e3
 subst e1 e3
 refine ⟨g,rfl,?_⟩
 rw [h.row.cellAt (i * 5+4) (by omega),Y3 l i 4 hi (by decide)]
 rfl
theorem Zz11.store {v:Value} {n i k:Nat} (h:Zz11 w W D P M G A L S v n l) (hi:i<l.length) (hk:k<l[i].gs.length) (s:ByteArray) :
  ∃ g,l[i].ga=some ⟨g,0,none⟩∧(∃ x,W.cell? ⟨g,k,none⟩=some x)∧W.frozen? ⟨g,k,none⟩=false∧Zz11 w (W.setCell ⟨g,k,none⟩ (.string s)) D P M G A L S v n l:=by
 obtain ⟨g,cur,e,h1,hg,hc,_⟩:=h.txt _ (List.getElem_mem hi) (by omega)
 refine ⟨g,e,?_,?_,h.own.setStr hg h1 _,h.len,?_,fun u hu=>(h.txt u hu).store hg _⟩
 ·
  rw [cell_of_row W g k cur _ (0,0) hg]
  exact ⟨_,Array.getElem?_eq_getElem (by omega)⟩
 ·
  exact frozen_of_row W g k cur _ hg
 ·
  have ht:zm (fun i=>i=g) W (W.setCell ⟨g,k,none⟩ (.string s)):=(zm.refl (fun i=>i=g) W).setCell (p:=⟨g,k,none⟩) (fun _=>rfl) _
  rcases h.row.2 with hz | ⟨g2,cap,cur2,e2,hb2,hg2,rest⟩
  ·
   exact ⟨h.row.1,.inl hz⟩
  ·
   exact ⟨h.row.1,.inr ⟨g2,cap,cur2,e2,hb2,(heap_setCell_other W ⟨g,k,none⟩ g2 _ (fun e=>by
    subst e
    rw [hg] at hg2
    injection hg2 with hg2
    injection hg2 with _ hg2
    exact absurd hg2 (by decide))).trans hg2,rest⟩⟩
end

theorem XA {w:World} {b:Nat} {e size n:Nat} {v:Value} {xs:List Value} (h:w.ownsRow 0 e size v n xs) (hk:∀ k,v.ownBlock=some k→b≤k):w.ownsRow b e size v n xs:=by
 refine ⟨h.1,?_⟩
 rcases h.2 with hz | ⟨g,cap,cur,e1,_,rest⟩
 ·
  exact .inl hz
 ·
  exact .inr ⟨g,cap,cur,e1,hk g (by rw [e1]; rfl),rest⟩
def yy (u:Us):Us:={ u with ga:=none,gc:=0 }
theorem Ql:∀ l:List Us,xR (l.map yy)=xR l
 | []=>rfl
 | u::l=>by
  show (if vV 2 (yy u)=0 then xR (l.map yy) else vV 2 (yy u))=_
  rw [Ql l]
  rfl
theorem V1 (G:List ByteArray):∀ (l pre:List Us),x7 G (pre.map yy) (l.map yy)=x7 G pre l
 | [],_=>rfl
 | u::l,pre=>by
  have h1:xM G (pre.map yy) (yy u)=xM G pre u:=by
   unfold xM
   rw [List.any_map]
   rfl
  show (if xM G (pre.map yy) (yy u)=0 then x7 G (pre.map yy++[yy u]) (l.map yy) else xM G (pre.map yy) (yy u))=_
  rw [h1,show pre.map yy++[yy u]=(pre++[u]).map yy by rw [List.map_append]; rfl,V1 G l]
  rfl
theorem fo (l:List Us) (G:List ByteArray):u7 (l.map yy) G=u7 l G:=by
 have h1:XD (l.map yy)=XD l:=by
  unfold XD
  rw [Ql,List.map_map,List.length_map]
  rfl
 unfold u7
 rw [h1]
 have h2:=V1 G l []
 rw [List.map_nil] at h2
 rw [h2]
theorem VV (l:List Us):uX (l.map yy)=uX l:=by unfold uX; rw [List.map_map]; rfl

structure Cp11 (w W:World) (l:List Us) (k:Nat) (v:Value) (l2:List Us):Prop where
 bel:Below w.heap.size w W
 same:l2.map yy=(l.take k).map yy
 row:W.ownsRow w.heap.size 37 5 v k (vh l2)
 txt:∀ u∈l2,W.ownsRow w.heap.size 9 1 (.slice u.ga u.gs.length u.gc) u.gs.length (yb u.gs)
section
variable {w W W' wr w3 w5:World} {l l2:List Us} {k:Nat} {v v':Value}
theorem Cp11.later (h:Cp11 w W l k v l2) (hb:Below W.heap.size W W'):Cp11 w W' l k v l2 :=
 ⟨z8 h.bel hb,h.same,zG h.row hb,fun u hu=>zG (h.txt u hu) hb⟩
theorem keepS11 {b0 n:Nat} {e:TypeId} {xs ys:List Value} {u:Value} {a b c d x:Value} {B:Nat} {o:Obj} (hB:y5 w3 B a b c d x) (hv:w3.ownsRow b0 37 5 v n xs) (y:Value) (hg:((w3.setCell ⟨B,4,none⟩ y).alloc o).grownBy w5 v.ownBlock) {m:Nat} (h:w3.ownsRow m 9 1 u e ys):w5.ownsRow m 9 1 u e ys:=by
 refine ⟨h.1,?_⟩
 rcases h.2 with hz | ⟨g,cap,cur,e1,h1,hgg,rest⟩
 ·
  exact .inl hz
 ·
  have hlt:g<w3.heap.size:=(Array.getElem?_eq_some_iff.1 hgg).1
  have n1:g≠B:=fun e=>by
   subst e
   have hB':w3.heap[g]? = _:=hB
   rw [hgg] at hB'
   injection hB' with hB'
   injection hB' with _ hB'
   exact absurd hB' (by decide)
  have n2:some g≠v.ownBlock:=fun e=>by
   rcases hv.2 with ⟨rfl,_⟩ | ⟨g2,cap2,cur2,rfl,_,hg2,_⟩
   ·
    simp [Value.ownBlock] at e
   ·
    simp [Value.ownBlock] at e
    subst e
    rw [hgg] at hg2
    injection hg2 with hg2
    injection hg2 with _ hg2
    exact absurd hg2 (by decide)
  refine .inr ⟨g,cap,cur,e1,h1,?_,rest⟩
  rw [hg.block g (by simp; omega) n2]
  have hs:((w3.setCell ⟨B,4,none⟩ y).alloc o).heap[g]? = (w3.setCell ⟨B,4,none⟩ y).heap[g]? := (z7 (Below.refl (w3.setCell ⟨B,4,none⟩ y).heap.size _) o).block g (by simpa using hlt)
  rw [hs,heap_setCell_other w3 ⟨B,4,none⟩ g y n1]
  exact hgg
theorem Cp11.next {a b c d e x:Value} {o:Obj} (h:Cp11 w wr l k v l2) (hb:Below wr.heap.size wr w3) (hB:y5 w3 wr.heap.size a b c d e) (hg:((w3.setCell ⟨wr.heap.size,4,none⟩ x).alloc o).grownBy w5 v.ownBlock) (u:Us)
  (ho:w5.ownsRow w.heap.size 37 5 v' (k+1) (vh l2++u.cells.toList)) (ht:w3.ownsRow wr.heap.size 9 1 (.slice u.ga u.gs.length u.gc) u.gs.length (yb u.gs)) (hk:k<l.length) (hu:yy u=yy l[k]):Cp11 w w5 l (k+1) v' (l2++[u]):=by
 have hrow3:=zG h.row hb
 have hb3:=z8 h.bel hb
 have hsz:=h.bel.size
 refine ⟨?_,?_,by rw [jT]; exact ho,fun z hz=>?_⟩
 ·
  have h4:Below w.heap.size w (w3.setCell ⟨wr.heap.size,4,none⟩ x):=hb3.setCell (p:=⟨wr.heap.size,4,none⟩) hsz _
  exact (z8 h4 (z7 (Below.refl _ _) o)).grown hg (by have:=h4.size; simp at this ⊢; omega) (fun j hj=>(hrow3.lt j hj).1)
 ·
  rw [List.map_append,List.take_succ_eq_append_getElem hk,List.map_append,h.same]
  show _++[yy u]=_++[yy l[k]]
  rw [hu]
 ·
  rcases List.mem_append.1 hz with hz | hz
  ·
   exact keepS11 hB hrow3 x hg (zG (h.txt z hz) hb)
  ·
   rw [List.mem_singleton] at hz
   subst hz
   exact keepS11 hB hrow3 x hg (zA ht hsz)
theorem Cp11.all (h:Cp11 w W l l.length v l2) (ho:∀ u∈l,u.Ok w):l2.length=l.length∧(∀ u∈l2,u.Ok W)∧(∀ G,u7 l2 G=u7 l G)∧uX l2=uX l:=by
 have hs:=h.same
 rw [List.take_length] at hs
 have hlen:l2.length=l.length:=by have:=congrArg List.length hs; simpa using this
 refine ⟨hlen,fun u hu=>?_,fun G=>by rw [← fo l2,hs,fo],by rw [← VV l2,hs,VV]⟩
 have hm:yy u∈l.map yy:=by rw [← hs]; exact List.mem_map.2 ⟨u,hu,rfl⟩
 obtain ⟨z,hz,e⟩:=List.mem_map.1 hm
 have hz':=ho z hz
 have e1:z.nm=u.nm:=(congrArg Us.nm e:(yy z).nm=(yy u).nm)
 have e2:z.hs=u.hs:=(congrArg Us.hs e:(yy z).hs=(yy u).hs)
 have e3:z.ml=u.ml:=(congrArg Us.ml e:(yy z).ml=(yy u).ml)
 have e4:z.gs=u.gs:=(congrArg Us.gs e:(yy z).gs=(yy u).gs)
 have ht:=h.txt u hu
 have hform:(u.ga=none→u.gc=0)∧u.gs.length≤u.gc∧u.gc≤9223372036854775807:=by
  rcases ht.2 with ⟨q,q2⟩ | ⟨g,cap,cur,q,_,_,q3,q4,_⟩
  ·
   injection q with q0 _ q1
   exact ⟨fun _=>q1,by omega,by omega⟩
  ·
   injection q with q0 _ q1
   unfold maxLen at q4
   exact ⟨fun hn=>absurd (hn.symm.trans q0) (by simp),by omega,by omega⟩
 exact { rd:=V3 (zA ht (Nat.zero_le _)),nm:=e1 ▸ hz'.nm,hs:=e2 ▸ hz'.hs,ml:=e3 ▸ hz'.ml,nil:=hform.1,len:=hform.2.1,cap:=hform.2.2,all:=e4 ▸ hz'.all }
end

theorem failS_z12 (st:St):vz st 0=st:=by unfold vz; rw [if_pos (.inl rfl)]

theorem Yh (st:St) (m l:Int):(fU st m l).1.bs.length≤st.bs.length:=Nat.le_trans (XY l _ _ _) (va st m)

def jW (st:St):Us:=if (YY 2 st).1.e=0 then (YY 2 st).2 else zeroU
def xk:Nat→St→St×List Us
 | 0,st=>(st,[])
 | k+1,st=>((xk k (YY 2 st).1).1,jW st::(xk k (YY 2 st).1).2)
def vZ (st:St):St:=if (vd st 1).2=2 then (vd st 1).1 else vz (vd st 1).1 6
def vu (st:St):St×Nat:=if 12<(vd st 2).2 then (vz (vd st 2).1 7,0) else vd st 2
def code12 (G:List ByteArray) (r:St×List Us):Int×List Us×List ByteArray :=
 if r.1.e≠0 then (r.1.e,[],[]) else if u7 r.2 G≠0 then (u7 r.2 G,[],[]) else if endS r.1≠0 then (endS r.1,[],[]) else (0,r.2,G)
def tail12 (g:St×List ByteArray):Int×List Us×List ByteArray:=code12 g.2 (xk (vu g.1).2 (vu g.1).1)
def Fr (bs:List UInt8):Int×List Us×List ByteArray:=tail12 (fU (vZ ⟨bs,0⟩) 6 12)
def UC (l:List Us) (G:List ByteArray):List UInt8:=le 2 1++(vL G++(le l.length 2++l.flatMap (y8 2)))

theorem QA (st:St):(YY 2 st).1.bs.length≤st.bs.length:=by
 rcases h1:yi st 65535 with ⟨s1,nm⟩
 rcases h2:yi s1 65535 with ⟨s2,hs⟩
 rcases h3:yi s2 65535 with ⟨s3,ml⟩
 rcases h4:xY s3 with ⟨s4,dis⟩
 rcases h5:fU s4 65535 65535 with ⟨s5,gs⟩
 have e1:=yK st 65535
 have e2:=yK s1 65535
 have e3:=yK s2 65535
 have e4:=qH s3
 have e5:=Yh s4 65535 65535
 rw [h1] at e1
 rw [h2] at e2
 rw [h3] at e3
 rw [h4] at e4
 rw [h5] at e5
 dsimp only at e1 e2 e3 e4 e5
 rw [fx h1 h2 h3 h4 h5]
 dsimp only
 have e6:=vb s5 (vV 2 (J4 nm hs ml dis gs))
 omega
theorem jw:∀ (k:Nat) (st:St),(xk k st).2.length=k
 | 0,_=>rfl
 | k+1,st=>by
  show (jW st::(xk k (YY 2 st).1).2).length=_
  rw [List.length_cons,jw k]
theorem VL (st:St):(vZ st).bs.length≤st.bs.length:=by
 unfold vZ
 split
 ·
  exact vQ st 1
 ·
  exact Nat.le_trans (vb _ _) (vQ st 1)
theorem QR (st:St):(vu st).1.bs.length≤st.bs.length:=by
 unfold vu
 split
 ·
  exact Nat.le_trans (vb _ _) (vQ st 2)
 ·
  exact vQ st 2
theorem F6 (st:St):(vu st).2≤12:=by
 unfold vu
 split
 ·
  exact Nat.zero_le _
 ·
  omega

/-! ### What was read is what is written -/

/-! ### What is written is read -/
theorem JN {u:Us} (h:vV 2 u=0) (r:List UInt8):(YY 2 ⟨y8 2 u++r,0⟩).1=⟨r,0⟩∧jW ⟨y8 2 u++r,0⟩=yy u:=by
 obtain ⟨hl,_⟩:=qz h
 have n1:=hl.nm
 have n2:=hl.hs
 have n3:=hl.ml
 have n4:=hl.len
 have n5:=hl.all
 obtain ⟨nm,hs,ml,dis,ga,gs,gc⟩:=u
 dsimp only at n1 n2 n3 n4 n5
 have g1:yi ⟨y8 2 ⟨nm,hs,ml,dis,ga,gs,gc⟩++r,0⟩ 65535=(⟨zC hs++(zC ml++(le dis.toNat 1++(vL gs++r))),0⟩,nm.data.toList):=by
  have e:y8 2 ⟨nm,hs,ml,dis,ga,gs,gc⟩++r=zC nm++(zC hs++(zC ml++(le dis.toNat 1++(vL gs++r)))):=by
   show zC nm++zC hs++(zC ml++le dis.toNat 1++vL gs)++r=_
   simp only [List.append_assoc]
  rw [e]
  exact jd nm _ 65535 (by omega) (by omega)
 have g2:yi ⟨zC hs++(zC ml++(le dis.toNat 1++(vL gs++r))),0⟩ 65535=(⟨zC ml++(le dis.toNat 1++(vL gs++r)),0⟩,hs.data.toList):=jd hs _ 65535 (by omega) (by omega)
 have g3:yi ⟨zC ml++(le dis.toNat 1++(vL gs++r)),0⟩ 65535=(⟨le dis.toNat 1++(vL gs++r),0⟩,ml.data.toList):=jd ml _ 65535 (by omega) (by omega)
 have g4:xY ⟨le dis.toNat 1++(vL gs++r),0⟩=(⟨vL gs++r,0⟩,dis):=Jc dis _
 have g5:fU ⟨vL gs++r,0⟩ 65535 65535=(⟨r,0⟩,gs):=UW gs r 65535 65535 (by omega) (by omega) (fun s hs=>by have:=n5 s hs; omega)
 have ew:J4 nm.data.toList hs.data.toList ml.data.toList dis gs=yy ⟨nm,hs,ml,dis,ga,gs,gc⟩:=by
  unfold J4 yy mk6
  rw [qA,qA,qA]
 have ec:vV 2 (J4 nm.data.toList hs.data.toList ml.data.toList dis gs)=0:=by rw [ew]; exact h
 have e0:YY 2 ⟨y8 2 ⟨nm,hs,ml,dis,ga,gs,gc⟩++r,0⟩=(⟨r,0⟩,yy ⟨nm,hs,ml,dis,ga,gs,gc⟩):=by
  rw [fx g1 g2 g3 g4 g5,ec,failS_z12,ew]
 refine ⟨by rw [e0],?_⟩
 unfold jW
 rw [e0,if_pos rfl]
theorem Y2:∀ (l:List Us) (r:List UInt8),(∀ u∈l,vV 2 u=0)→xk l.length ⟨l.flatMap (y8 2)++r,0⟩=(⟨r,0⟩,l.map yy)
 | [],r,_=>rfl
 | u::l,r,h=>by
  obtain ⟨h1,h2⟩:=JN (h u (List.mem_cons_self ..)) (l.flatMap (y8 2)++r)
  have e:(u::l).flatMap (y8 2)++r=y8 2 u++(l.flatMap (y8 2)++r):=by rw [List.flatMap_cons,List.append_assoc]
  rw [e,List.length_cons,xk,h1,h2,Y2 l r (fun x hx=>h x (List.mem_cons_of_mem _ hx))]
  rfl
structure May12 (l:List Us) (G:List ByteArray):Prop where
 of:u7 l G=0
 all:∀ u∈l,vV 2 u=0
 few:l.length≤12
 names:yx G=true
 rise:yu G=true
 gfew:G.length≤6
theorem may12 {l:List Us} {G:List ByteArray} (h:u7 l G=0):May12 l G:=by
 have hc:cE11 l G=0:=by
  by_cases hc:cE11 l G=0
  ·
   exact hc
  ·
   have:=(cE_of (l:=l) (G:=G)).1 hc
   rw [h] at this
   exact absurd this.symm hc
 obtain ⟨h1,_,h3,h4,h5,h6⟩:=Uw hc
 exact ⟨h,h1,h3,h4,h5,h6⟩
theorem May12.sizes {l:List Us} {G:List ByteArray} (h:May12 l G):∀ g∈G,g.size≤12:=fun g hg=>ji (by
 have:=List.all_eq_true.1 h.names g hg
 exact this)
theorem read12_put {l:List Us} {G:List ByteArray} (h:u7 l G=0):Fr (UC l G)=(0,l.map yy,G):=by
 have m:=may12 h
 have hsz:=m.sizes
 have hg6:=m.gfew
 have hl12:=m.few
 have e0:vZ ⟨UC l G,0⟩=⟨vL G++(le l.length 2++(l.flatMap (y8 2)++[])),0⟩:=by
  have hn:vd ⟨le 2 1++(vL G++(le l.length 2++(l.flatMap (y8 2)++[]))),0⟩ 1=(⟨vL G++(le l.length 2++(l.flatMap (y8 2)++[])),0⟩,2):=by
   rw [fq]
  have e9:UC l G=le 2 1++(vL G++(le l.length 2++(l.flatMap (y8 2)++[]))):=by unfold UC; rw [List.append_nil]
  unfold vZ
  rw [e9,hn,if_pos rfl]
 have e1:fU ⟨vL G++(le l.length 2++(l.flatMap (y8 2)++[])),0⟩ 6 12=(⟨le l.length 2++(l.flatMap (y8 2)++[]),0⟩,G):=UW G _ 6 12 (by omega) (by omega) (fun s hs=>by have:=hsz s hs; omega)
 have e2:vu ⟨le l.length 2++(l.flatMap (y8 2)++[]),0⟩=(⟨l.flatMap (y8 2)++[],0⟩,l.length):=by
  have hn:vd ⟨le l.length 2++(l.flatMap (y8 2)++[]),0⟩ 2=(⟨l.flatMap (y8 2)++[],0⟩,l.length):=by
   rw [fq,Nat.mod_eq_of_lt (by omega)]
  unfold vu
  rw [hn,if_neg (by dsimp only; omega)]
 unfold Fr tail12
 rw [e0,e1]
 dsimp only
 rw [e2]
 dsimp only
 rw [Y2 l [] m.all]
 unfold code12
 dsimp only
 rw [if_neg (by simp),if_neg (by rw [fo,h]; simp),if_neg (by simp [endS])]
theorem Vl (l:List Us) (G:List ByteArray):UC (l.map yy) G=UC l G:=by
 unfold UC
 rw [List.length_map,List.flatMap_map]
 rfl

/-! ### How long -/
theorem vj {n:Nat}:∀ {ss:List ByteArray},(∀ s∈ss,s.size≤n)→(zW ss).length≤(n+2) * ss.length
 | [],_=>by simp [zW]
 | s::ss,h=>by
  have h1:=h s (List.mem_cons_self ..)
  have h2:=vj (n:=n) (ss:=ss) (fun x hx=>h x (List.mem_cons_of_mem _ hx))
  show (zC s++zW ss).length≤_
  rw [List.length_append,yT,List.length_cons,Nat.mul_succ]
  omega
theorem Xn {u:Us} (h:vV 2 u=0):(y8 2 u).length≤137:=by
 obtain ⟨hl,_⟩:=qz h
 have h1:=hl.nm
 have h2:=hl.hs
 have h3:=hl.ml
 have h4:=vj hl.all
 have h5:=hl.len
 show (zC u.nm++zC u.hs++(zC u.ml++le u.dis.toNat 1++(le u.gs.length 2++zW u.gs))).length≤137
 simp only [List.length_append,yT,zZ]
 omega
theorem uk:∀ {l:List Us},(∀ u∈l,vV 2 u=0)→(l.flatMap (y8 2)).length≤137 * l.length
 | [],_=>Nat.le_refl _
 | q::l,h=>by
  have h1:=Xn (h q (List.mem_cons_self ..))
  have h2:=uk (l:=l) (fun x hx=>h x (List.mem_cons_of_mem _ hx))
  rw [List.flatMap_cons,List.length_append,List.length_cons]
  omega
theorem JQ {l:List Us} {G:List ByteArray} (h:May12 l G):(UC l G).length≤1733:=by
 have h1:=uk h.all
 have h2:=vj h.sizes
 have h3:=h.few
 have h4:=h.gfew
 unfold UC vL
 simp only [List.length_append,zZ]
 omega

/-! ### The document's way -/

/-! ### A directory's rows -/
def vN (p:List UInt8×U11):Us:=⟨zI p.1,zI p.2.hs,zI p.2.ml,p.2.dis,none,p.2.gs.map zI,0⟩
theorem Fd (N:List (List UInt8)):ue (N.map zI)=N:=by
 unfold ue
 rw [List.map_map]
 conv=>rhs; rw [← List.map_id N]
 exact List.map_congr_left fun x _=>zy x
theorem tx_bl12 (G:List ByteArray):(ue G).map zI=G:=by
 unfold ue
 rw [List.map_map]
 conv=>rhs; rw [← List.map_id G]
 exact List.map_congr_left fun x _=>yM x
theorem plU_usOf12 (T:yH):uX (T.map vN)=T:=by
 unfold uX
 rw [List.map_map]
 conv=>rhs; rw [← List.map_id T]
 refine List.map_congr_left fun p _=>?_
 show ((zI p.1).data.toList,(⟨(zI p.2.hs).data.toList,(zI p.2.ml).data.toList,p.2.dis,ue (p.2.gs.map zI)⟩:U11))=p
 rw [zy,zy,zy,Fd]
theorem XR (l:List Us):(uX l).map vN=l.map yy:=by
 unfold uX
 rw [List.map_map]
 refine List.map_congr_left fun u _=>?_
 show (⟨zI u.nm.data.toList,zI u.hs.data.toList,zI u.ml.data.toList,u.dis,none,(ue u.gs).map zI,0⟩:Us)=yy u
 rw [yM,yM,yM,tx_bl12]
 rfl
def FO (T:yH) (N:List (List UInt8)):List UInt8:=UC (T.map vN) (N.map zI)
theorem folT_of12 (l:List Us) (G:List ByteArray):FO (uX l) (ue G)=UC l G:=by
 unfold FO
 rw [XR,tx_bl12,Vl]
theorem V0:∀ {ss:List ByteArray},(ss.Pairwise fun a b=>bytesBefore a.data.toList b.data.toList=true)→yu ss=true
 | [],_=>rfl
 | [_],_=>rfl
 | a::b::r,h=>by
  obtain ⟨h1,h2⟩:=List.pairwise_cons.1 h
  unfold yu
  rw [V0 h2,Bool.and_true]
  unfold xN
  rw [qg]
  exact h1 b (List.mem_cons_self ..)
theorem fW {N:List (List UInt8)} (h:uf N):yu (N.map zI)=true:=by
 refine V0 (List.pairwise_map.2 (List.Pairwise.imp (fun {a b} hab=>?_) h))
 rw [zy,zy]
 exact hab
theorem YD {N:List (List UInt8)} (h:∀ n∈N,zf n=true):yx (N.map zI)=true:=by
 unfold yx
 rw [List.all_eq_true]
 intro g hg
 obtain ⟨n,hn,rfl⟩:=List.mem_map.1 hg
 rw [zy]
 exact h n hn
section
variable {A:zM} {L:zT} {S:zv} {k:Nat}
theorem JL (h:zu A L S k) (n:List UInt8):jL (zI (xz L n))=true:=by
 unfold jL
 rw [Bool.or_eq_true,Bool.and_eq_true,decide_eq_true_eq,decide_eq_true_eq,zy,xr]
 cases hh:xA L n with
 | false=>exact .inl (by rw [yV hh]; rfl)
 | true =>
  obtain ⟨_,h2,h3⟩:=h.all _ (xJ hh)
  refine .inr ⟨h2,?_⟩
  unfold uN
  rw [if_pos h2]
  show zI (zN (xz L n))=_
  rw [h3]
theorem good_chk12 (h:zu A L S k) (p:List UInt8×(List UInt8×Bool)) (hp:p∈A):vV 2 (vN (p.1,xF L S p.1 p.2))=0:=by
 obtain ⟨h1,h2⟩:=h.nm p hp
 have h3:=JL h p.1
 have h4:((yW S p.1).map zI).length≤6:=by rw [List.length_map]; exact Nat.le_trans (YA S p.1) h.grp.few
 have h5:yx ((yW S p.1).map zI)=true:=YD fun g hg=>by
  obtain ⟨q,hq,rfl⟩:=List.mem_map.1 (fp hg)
  exact h.grp.named q hq
 have h6:yu ((yW S p.1).map zI)=true:=fW (xC h.grp.rise p.1)
 unfold vV
 dsimp only
 rw [if_neg (by decide)]
 show zS [zS [zq (YH 2) 6,zq (zf (zI p.1).data.toList) 10,zq (yG (zI p.2.1).data.toList) 4],zq (jL (zI (xz L p.1))) 11,zq (decide (((yW S p.1).map zI).length≤6)) 7,zq (yx ((yW S p.1).map zI)) 10,zq (yu ((yW S p.1).map zI)) 9]=0
 rw [zy,zy,h1,h2,h3,h5,h6,decide_eq_true h4]
 rfl
theorem jV (A:zM) (L:zT) (S:zv):(ze A L S).map vN=A.map fun p=>vN (p.1,xF L S p.1 p.2):=by
 unfold ze
 rw [List.map_map]
 rfl
theorem Vb:∀ {l:List Us},(∀ u∈l,vV 2 u=0)→xR l=0
 | [],_=>rfl
 | u::l,h=>by
  unfold xR
  rw [if_pos (h u (List.mem_cons_self ..))]
  exact Vb fun x hx=>h x (List.mem_cons_of_mem _ hx)
theorem Yq (G:List ByteArray):∀ (l pre:List Us),(∀ u∈l,u.gs.all (fun g=>ve (ue G) g.data.toList)=true)→(pre++l).Pairwise (fun u v=>u.ml.data.toList≠[]→v.ml.data.toList≠u.ml.data.toList)→x7 G pre l=0
 | [],_,_,_=>rfl
 | u::l,pre,h1,h2=>by
  obtain ⟨_,_,p3⟩:=List.pairwise_append.1 h2
  have h0:xM G pre u=0:=by
   unfold xM
   rw [if_pos (h1 u (List.mem_cons_self ..)),if_neg]
   rw [Bool.not_eq_true,List.any_eq_false]
   intro v hv hc
   rw [Bool.and_eq_true,Bool.not_eq_true',beq_eq_false_iff_ne,beq_iff_eq] at hc
   exact p3 v hv u (List.mem_cons_self ..) (by rw [← hc.2]; exact hc.1) hc.2
  show (if xM G pre u=0 then x7 G (pre++[u]) l else xM G pre u)=0
  rw [if_pos h0]
  exact Yq G l (pre++[u]) (fun x hx=>h1 x (List.mem_cons_of_mem _ hx)) (by rw [List.append_assoc]; exact h2)
theorem good_of12 (h:zu A L S k):u7 ((ze A L S).map vN) ((zb S).map zI)=0:=by
 have h1:xR ((ze A L S).map vN)=0:=Vb fun u hu=>by
  rw [jV] at hu
  obtain ⟨p,hp,rfl⟩:=List.mem_map.1 hu
  exact good_chk12 h p hp
 have h2:yu (((ze A L S).map vN).map (·.nm))=true:=by
  have e:((ze A L S).map vN).map (·.nm)=(zb A).map zI:=by
   rw [jV,List.map_map]
   unfold zb
   rw [List.map_map]
   rfl
  rw [e]
  exact fW (zB.names h.rise)
 have h3:((ze A L S).map vN).length≤12:=by rw [List.length_map,uF]; exact h.few
 have h4:yx ((zb S).map zI)=true:=YD fun n hn=>by
  obtain ⟨q,hq,rfl⟩:=List.mem_map.1 hn
  exact h.grp.named q hq
 have h5:yu ((zb S).map zI)=true:=fW (zB.names h.grp.rise)
 have h6:((zb S).map zI).length≤6:=by
  rw [List.length_map]
  unfold zb
  rw [List.length_map]
  exact h.grp.few
 have h7:x7 ((zb S).map zI) [] ((ze A L S).map vN)=0:=by
  refine Yq _ _ _ (fun u hu=>?_) ?_
  ·
   rw [jV] at hu
   obtain ⟨p,hp,rfl⟩:=List.mem_map.1 hu
   rw [List.all_eq_true]
   intro g hg
   obtain ⟨x,hx,rfl⟩:=List.mem_map.1 (show g∈(yW S p.1).map zI from hg)
   rw [Fd,zy,xU]
   exact fp hx
  ·
   rw [List.nil_append,jV]
   refine List.pairwise_map.2 (List.Pairwise.imp (fun {p q} hpq=>?_) h.rise)
   show (zI (xz L p.1)).data.toList≠[]→(zI (xz L q.1)).data.toList≠(zI (xz L p.1)).data.toList
   rw [zy,zy]
   intro hne he
   obtain ⟨M,hM⟩:=h.mir
   have hp:xA L p.1=true:=by
    cases hh:xA L p.1 with
    | true=>rfl
    | false=>exact absurd (yV hh) hne
   have hq:xA L q.1=true:=by
    cases hh:xA L q.1 with
    | true=>rfl
    | false=>exact absurd (he ▸ yV hh) hne
   have m1:=(hM.iff _ _).1 (xJ hp)
   have m2:=(hM.iff _ _).1 (xJ hq)
   rw [he] at m2
   have e:=VR hM.rm m1 m2
   rw [e] at hpq
   rw [zD] at hpq
   cases hpq
 unfold u7 XD
 rw [h1,h2,decide_eq_true (show ((((ze A L S).map vN).length:Nat):Int)≤12 by omega),h4,h5,if_pos h6,h7]
 rfl
end
end Go.Proofs.YtmcomnocpibiiaaGreatDoor
namespace Go.Proofs.YtmcomnocpibiiaaGreatDoor
open Go.RowKit Go.Maps Go.Sort Go.Shelf

/-! ### One user of any bytes -/
theorem JO (B:Nat) (st:St) (w:World) (h:Rdr w B st) (hl:st.bs.length≤100000) (hm:vX w) (hBg:B≠0) :
    Calls Tryz.prog 169 #[.pointer (some ⟨B,0,none⟩),.int .i64 2] w (Got6 w B (YY 2 st).1 (YY 2 st).2):=by
  have l1:=yK st 65535
  have f1:=vD st 65535
  rcases h1:yi st 65535 with ⟨s1,nm⟩
  rw [h1] at l1 f1
  have l2:=yK s1 65535
  have f2:=vD s1 65535
  rcases h2:yi s1 65535 with ⟨s2,hs⟩
  rw [h2] at l2 f2
  have l3:=yK s2 65535
  have f3:=vD s2 65535
  rcases h3:yi s2 65535 with ⟨s3,ml⟩
  rw [h3] at l3 f3
  have l4:=qH s3
  rcases h4:xY s3 with ⟨s4,dis⟩
  rw [h4] at l4
  have f5:=jH s4 65535 65535
  rcases h5:fU s4 65535 65535 with ⟨s5,gs⟩
  rw [h5] at f5
  dsimp only at l1 l2 l3 l4 f1 f2 f3 f5
  rw [fx h1 h2 h3 h4 h5]
  exact get6_two B st w h (by omega) hm hBg _ _ _ _ _ _ _ _ _ _ _ h1 h2 h3 h4 h5 rfl (by omega) (by omega) (by omega) (by omega) (by omega) (by omega) (by omega) (fun s hs=>by have:=f5 s hs; omega)
structure Us.Wide (u:Us):Prop where
  nm:u.nm.size≤100000
  hs:u.hs.size≤100000
  ml:u.ml.size≤100000
  all:∀ s∈u.gs,s.size≤100000
theorem JM (st:St) (hl:st.bs.length≤100000):(YY 2 st).2.Wide:=by
  have l1:=yK st 65535
  have f1:=vD st 65535
  rcases h1:yi st 65535 with ⟨s1,nm⟩
  rw [h1] at l1 f1
  have l2:=yK s1 65535
  have f2:=vD s1 65535
  rcases h2:yi s1 65535 with ⟨s2,hs⟩
  rw [h2] at l2 f2
  have l3:=yK s2 65535
  have f3:=vD s2 65535
  rcases h3:yi s2 65535 with ⟨s3,ml⟩
  rw [h3] at l3 f3
  have l4:=qH s3
  rcases h4:xY s3 with ⟨s4,dis⟩
  rw [h4] at l4
  have f5:=jH s4 65535 65535
  rcases h5:fU s4 65535 65535 with ⟨s5,gs⟩
  rw [h5] at f5
  dsimp only at l1 l2 l3 l4 f1 f2 f3 f5
  rw [← FB] at f1 f2 f3
  rw [fx h1 h2 h3 h4 h5]
  exact ⟨by show (mk6 nm).size≤_; omega,by show (mk6 hs).size≤_; omega,by show (mk6 ml).size≤_; omega,fun s hs=>by have:=f5 s hs; omega⟩
theorem QB (st:St):yy (YY 2 st).2=(YY 2 st).2:=by
  rcases h1:yi st 65535 with ⟨s1,nm⟩
  rcases h2:yi s1 65535 with ⟨s2,hs⟩
  rcases h3:yi s2 65535 with ⟨s3,ml⟩
  rcases h4:xY s3 with ⟨s4,dis⟩
  rcases h5:fU s4 65535 65535 with ⟨s5,gs⟩
  rw [fx h1 h2 h3 h4 h5]
  rfl
def Got12 (w:World) (B:Nat) (st:St) (e:Ending) (w':World):Prop :=
  ∃ u:Us,e=.returned u.v∧yy u=jW st∧u.Wide∧w'.ownsRow w.heap.size 9 1 (.slice u.ga u.gs.length u.gc) u.gs.length (yb u.gs)∧Did w B (YY 2 st).1 w'
theorem Zo {w:World} {b e size n:Nat} {v:Value} {xs:List Value} (h:w.ownsRow 0 e size v n xs) (hk:∀ k,v.ownBlock=some k→b≤k):w.ownsRow b e size v n xs:=XA h hk
theorem JP (B:Nat) (st:St) (w:World) (h:Rdr w B st) (hl:st.bs.length≤100000) (hm:vX w) (hBg:B≠0) :
    Calls Tryz.prog 169 #[.pointer (some ⟨B,0,none⟩),.int .i64 2] w (Got12 w B st):=by
  have h6:=JO B st w h hl hm hBg
  have hw:=JM st hl
  have hb:=QB st
  have ht:jW st=if (YY 2 st).1.e=0 then (YY 2 st).2 else zeroU:=rfl
  unfold Got12
  rw [ht]
  clear ht
  generalize YY 2 st=q at *
  obtain ⟨s1,u⟩:=q
  dsimp only at *
  refine h6.mono fun e w' ⟨A,c,he,ho,hn,hd⟩=>?_
  by_cases h0:s1.e=0
  · rw [if_pos h0] at he ⊢
    exact ⟨{ u with ga:=A,gc:=c },he,hb,⟨hw.nm,hw.hs,hw.ml,hw.all⟩,Zo ho hn,hd⟩
  · rw [if_neg h0] at he ⊢
    exact ⟨zeroU,he,rfl,⟨Nat.zero_le _,Nat.zero_le _,Nat.zero_le _,fun s hs=>by cases hs⟩,World.ownsRow_nil _ _ _ _,hd⟩

theorem Yi (long:Int):∀ (k:Nat) (st:St) (acc:List ByteArray),(rowGo long k st acc).2.length≤acc.length+k
  | 0,st,acc=>Nat.le_refl _
  | k+1,st,acc=>by
    unfold rowGo
    split
    · exact Nat.zero_le _
    · have:=Yi long k (yi st long).1 (acc++[⟨(yi st long).2.toArray⟩])
      rw [List.length_append] at this
      simp only [List.length_cons,List.length_nil] at this
      omega
theorem row_few12 (st:St) (m l:Int) (hm:m≤1000):(fU st m l).2.length≤1000:=by
  unfold fU
  have h1:=Yi l (yv st m).2 (yv st m).1 []
  have h2:(yv st m).2≤1000:=by
    unfold yv
    split
    · exact Nat.zero_le _
    · dsimp only
      omega
  have h3:([]:List ByteArray).length=0:=rfl
  omega

/-! ### Part by part -/
set_option maxRecDepth 100000 in
theorem Ye (B:Nat) (st:St) (w:World) (h:Rdr w B st) (hl:st.bs.length≤100000) :
    Calls Tryz.prog 101 #[.pointer (some ⟨B,0,none⟩)] w (Void w B (vZ st)):=by
  have HN:=za (Yv B st w h (by omega))
  obtain ⟨s0,hs0⟩:∃ s0,s0=vZ st:=⟨_,rfl⟩
  have HS:Hid (s0=if (vd st 1).2=2 then (vd st 1).1 else vz (vd st 1).1 6):=hs0
  rw [← hs0]
  clear hs0 h hl
  generalize (vd st 1).2=x at *
  generalize (vd st 1).1=s1 at *
  go_enter Tryz.func101,Tryz.ntmps101
  go_wp2_with fail
  with_reducible refine HN.out.mono ?_
  rintro e w1 ⟨rfl,hd⟩
  have HD:=za hd
  clear hd HN
  by_cases hx:x=2
  · have hs:=HS.out
    rw [if_pos hx] at hs
    subst hx
    subst hs
    clear HS
    go_wp2
    go_end0
    exact ⟨rfl,HD.out⟩
  · have hs:=HS.out
    rw [if_neg hx] at hs
    have hz:((x:Int) != 2)=true:=by simp; omega
    have HF:=za (ui B s1 6 w1 HD.out.rdr)
    rw [← hs] at HF
    clear hs HS
    go_wp2_with fail
    with_reducible refine HF.out.mono ?_
    rintro e w2 ⟨rfl,hd2⟩
    have HD2:=za (HD.out.next hd2)
    clear hd2 HF HD
    go_wp2
    go_end0
    exact ⟨rfl,HD2.out⟩

set_option maxRecDepth 100000 in
theorem Xx (B:Nat) (st:St) (w:World) (h:Rdr w B st) (hl:st.bs.length≤100000) :
    Calls Tryz.prog 104 #[.pointer (some ⟨B,0,none⟩)] w fun e w'=>e=.returned (.int .i64 (vu st).2)∧Did w B (vu st).1 w':=by
  have HN:=za (XW B st w h (by omega))
  have hx2:(vd st 2).2<65536:=Z1 st 2
  obtain ⟨c,hc⟩:∃ c,c=vu st:=⟨_,rfl⟩
  have HS:Hid (c=if 12<(vd st 2).2 then (vz (vd st 2).1 7,0) else ((vd st 2).1,(vd st 2).2)):=hc
  rw [← hc]
  clear hc h hl
  generalize (vd st 2).2=x at *
  generalize (vd st 2).1=s1 at *
  obtain ⟨s2,n⟩:=c
  go_enter Tryz.func104,Tryz.ntmps104
  go_wp2_with fail
  with_reducible refine HN.out.mono ?_
  rintro e w1 ⟨rfl,hd⟩
  have HD:=za hd
  clear hd HN
  by_cases hx:12<x
  · have hs:=HS.out
    rw [if_pos hx] at hs
    have hz:(x:Int) > 12:=by omega
    obtain ⟨h1,h2⟩:=Prod.mk.inj hs
    have HF:=za (ui B s1 7 w1 HD.out.rdr)
    rw [← h1] at HF
    subst h2
    clear hs HS h1
    go_wp2_with fail
    with_reducible refine HF.out.mono ?_
    rintro e w2 ⟨rfl,hd2⟩
    have HD2:=za (HD.out.next hd2)
    clear hd2 HF HD
    go_wp2
    go_ret
    exact ⟨rfl,HD2.out⟩
  · have hs:=HS.out
    rw [if_neg hx] at hs
    have hz:¬ (x:Int) > 12:=by omega
    obtain ⟨h1,h2⟩:=Prod.mk.inj hs
    subst h1
    subst h2
    clear hs HS
    go_wp2
    go_ret
    exact ⟨rfl,HD.out⟩

theorem fQ {w:World} {B b0:Nat} {st:St} {v:Value} {n:Nat} {xs:List Value} (hr:Rdr w B st) (h:w.ownsRow b0 37 5 v n xs):v.ownBlock≠some B:=by
  obtain ⟨u,hb,_⟩:=hr
  rcases h.2 with ⟨rfl,_⟩ | ⟨g,cap,cur,rfl,_,hg,_⟩
  · simp [Value.ownBlock]
  · intro he
    have:g=B:=by simpa [Value.ownBlock] using he
    subst this
    have:=hb.symm.trans hg
    simp at this
theorem Rdr.beside12 {w w':World} {B b0:Nat} {st:St} {v:Value} {n:Nat} {xs:List Value} (hr:Rdr w B st) (ho:w.ownsRow b0 37 5 v n xs) (ht:zm (fun i=>v.ownBlock=some i) w w'):Rdr w' B st:=by
  have hne:=fQ hr ho
  have hB:=hr.lt
  obtain ⟨u,hu,hru⟩:=hr
  refine ⟨u,(ht.block B hB hne).trans hu,?_⟩
  rcases hru with h0 | ⟨g,off,cc,rfl,h1,h2,h3,h4,hbk,h5⟩
  · exact .inl h0
  · have hgn:v.ownBlock≠some g:=by
      obtain ⟨cur,fr,hcur⟩:=hbk
      intro he
      rcases ho.2 with ⟨hv,_⟩ | ⟨g',cap',cur',hv,_,hg',_⟩
      · rw [hv] at he; simp [Value.ownBlock] at he
      · rw [hv] at he
        have:g'=g:=by simpa [Value.ownBlock] using he
        subst this
        have:=hcur.symm.trans hg'
        simp at this
    exact .inr ⟨g,off,cc,rfl,h1,h2,Nat.lt_of_lt_of_le h3 ht.size,h4,hbk.keep ht hgn,fun j hj=>(ht.cell (p:=⟨g,off+j,none⟩) h3 hgn).trans (h5 j hj)⟩
theorem jy {w w':World} {b b0:Nat} {v u:Value} {n m:Nat} {xs ys:List Value} (h:w.ownsRow b 9 1 u m ys) (ho:w.ownsRow b0 37 5 v n xs) (ht:zm (fun i=>v.ownBlock=some i) w w'):w'.ownsRow b 9 1 u m ys:=by
  refine ⟨h.1,?_⟩
  rcases h.2 with h0 | ⟨g,cap,cur,rfl,hb,hg,rest⟩
  · exact .inl h0
  · refine .inr ⟨g,cap,cur,rfl,hb,(ht.block g (Array.getElem?_eq_some_iff.1 hg).1 fun he=>?_).trans hg,rest⟩
    rcases ho.2 with ⟨hv,_⟩ | ⟨g',cap',cur',hv,_,hg',_⟩
    · rw [hv] at he; simp [Value.ownBlock] at he
    · rw [hv] at he
      have:g'=g:=by simpa [Value.ownBlock] using he
      subst this
      have:=hg'.symm.trans hg
      simp at this

structure J2 (b:Nat) (w:World) (v:Value) (n:Nat) (l l2:List Us):Prop where
  same:l2.map yy=l
  row:w.ownsRow b 37 5 v n (vh l2)
  wide:∀ u∈l2,u.Wide
  txt:∀ u∈l2,w.ownsRow b 9 1 (.slice u.ga u.gs.length u.gc) u.gs.length (yb u.gs)
theorem J2.turns {S:Nat→Prop} {b n:Nat} {w w':World} {v:Value} {l l2:List Us} (h:J2 b w v n l l2) (ht:zm S w w') (hS:∀ k,b≤k→¬ S k):J2 b w' v n l l2 :=
  ⟨h.same,jg h.row (Nat.le_refl _) ht hS,h.wide,fun u hu=>jg (h.txt u hu) (Nat.le_refl _) ht hS⟩
theorem J2.ok {b n:Nat} {w:World} {v:Value} {l l2:List Us} (h:J2 b w v n l l2):∀ u∈l2,u.Ok w:=fun u hu=>by
  obtain ⟨f1,f2,f3,f4⟩:=qq (h.txt u hu) rfl
  have hw:=h.wide u hu
  exact ⟨f1,Nat.le_trans hw.nm (by omega),Nat.le_trans hw.hs (by omega),Nat.le_trans hw.ml (by omega),f2,f3,f4,fun s hs=>Nat.le_trans (hw.all s hs) (by omega)⟩
def Fk (w:World) (B:Nat) (n:Nat) (st:St) (l:List Us) (e:Ending) (w':World):Prop :=
  ∃ v l2,e=.returned v∧J2 w.heap.size w' v n l l2∧Did w B st w'

set_option maxRecDepth 100000 in
theorem Xq (B n:Nat) (st:St) (w:World) (h:Rdr w B st) (hl:st.bs.length≤100000) (hn:n≤12) (hm:vX w) (hBg:B≠0) :
    Calls Tryz.prog 103 #[.pointer (some ⟨B,0,none⟩),.int .i64 n] w (Fk w B n (xk n st).1 (xk n st).2):=by
  obtain ⟨i0,hi,hz0,hz1,hz2⟩:=info_parts uh
  have hB:=h.lt
  have HR:=za (Did.refl h)
  have HM:Hid (∀ W s,Did w B s W→vX W):=fun W s hd=>by
    obtain ⟨hlt,m,hcm⟩:=hm
    exact ⟨Nat.lt_of_lt_of_le hlt hd.2.size,m,(hd.2.cell (p:=⟨0,0,none⟩) hlt (fun e=>hBg e.symm)).trans hcm⟩
  have HBG:=za hBg
  obtain ⟨us,hus⟩:∃ us,us=xk n st:=⟨_,rfl⟩
  rw [← hus]
  have HUS:Hid (∃ acc:List Us,acc.length=0∧st.bs.length≤100000∧us=((xk (n - 0) st).1,acc++(xk (n - 0) st).2)):=⟨[],rfl,hl,hus⟩
  clear hus h hl hm hBg
  go_enter Tryz.func103,Tryz.ntmps103
  go_wp2
  go_loopg [5,7] n (fun gg s5 s7 wr=>∃ (k:Nat) (acc l2:List Us) (s1:St),k≤n∧n - k≤gg∧s7=.int .i64 k∧Hid (acc.length=k∧s1.bs.length≤100000∧us=((xk (n - k) s1).1,acc++(xk (n - k) s1).2))∧Hid (Did w B s1 wr)∧Hid (J2 w.heap.size wr s5 k acc l2))
  case atStart =>
    obtain ⟨acc,h0,h1,h2⟩:=HUS.out
    have:acc=[]:=List.eq_nil_of_length_eq_zero h0
    subst this
    exact ⟨0,[],[],st,Nat.zero_le _,by omega,rfl,⟨rfl,h1,h2⟩,HR.out,rfl,World.ownsRow_nil _ _ _ _,(fun _ h=>nomatch h),(fun _ h=>nomatch h)⟩
  case round =>
    clear HUS HR
    obtain ⟨k,acc,l2,s1,hk,hg,rfl,HAC,HD,HO⟩:=hrel
    by_cases hlt:k<n
    · have hltz:(k:Int)<(n:Int):=by omega
      have hac:=HAC.out
      rw [show n - k=(n - (k+1))+1 by omega] at hac
      have HAC2:Hid ((acc++[jW s1]).length=k+1∧(YY 2 s1).1.bs.length≤100000∧us=((xk (n - (k+1)) (YY 2 s1).1).1,(acc++[jW s1])++(xk (n - (k+1)) (YY 2 s1).1).2)) :=
        ⟨by rw [List.length_append,hac.1]; rfl,Nat.le_trans (QA s1) hac.2.1,by rw [List.append_assoc]; exact hac.2.2⟩
      have HG:=za (JP B s1 wr HD.out.1 hac.2.1 (HM.out wr s1 HD.out) HBG.out)
      clear hac HAC
      go_wp2_with fail
      with_reducible refine HG.out.mono ?_
      rintro e w2 ⟨u,rfl,hnu,hwu,htu,hd⟩
      have HD2:=za (HD.out.next hd)
      have HO2:Hid (J2 w.heap.size w2 u5 k acc l2):=HO.out.turns hd.2 (fun j hj he=>by have he':j=B:=he; omega)
      have hszw:=HD.out.2.size
      have HTU:=za (zA htu hszw)
      have hsz:=HD2.out.2.size
      have HNU:=za hnu
      have HWU:=za hwu
      have HR2:=za HO2.out.row
      clear hd HG HD HO htu hnu hwu
      obtain ⟨nm,hs,ml,dis,ga,gs,gc⟩:=u
      unfold Us.v Us.cells
      dsimp only
      generalize hgl:gs.length=gl at *
      go_wp2_with (first
        | (at_builtin; refine wpList_append_own _ rfl _ _ 27 rfl w.heap.size 37 i0 (.agg #[.string ⟨#[]⟩,.string ⟨#[]⟩,.string ⟨#[]⟩,.bool false,.slice none 0 0]) 5 80 Tryz.underlying27 hi hz0 hz1 hz2 rfl (by decide) _ _ _ rfl (HR2.out.alloc _) ⟨w2.heap.size,0,none⟩ 1 1 [.string nm,.string hs,.string ml,.bool dis,.slice ga gl gc] rfl rfl
            (fun j u hu=>by rw [Addr.add_lit,Nat.zero_add,World.cell?_alloc_at _ _ _ _ rfl]; simpa using hu) (by simp [Value.oneCell']) (by unfold maxLen; omega) (by omega) (by simp; omega) ?_
           intro v' w3 hown' hgrow _
           have HO3:=za hown'
           have HG3:=za hgrow
           clear hown' hgrow)
        | fail)
      go_roundg (n - (k+1))
      case measure=>omega
      case rel =>
        have ht0:zm (fun i=>u5.ownBlock=some i) w2 w3:=(((zm.refl _ w2).alloc _).grown HG3.out (fun k hk _=>hk))
        refine ⟨k+1,acc++[jW s1],l2++[⟨nm,hs,ml,dis,ga,gs,gc⟩],(YY 2 s1).1,by omega,by omega,by go_num,HAC2,?_,?_⟩
        · exact za ⟨HD2.out.1.beside12 HO2.out.row ht0,HD2.out.2.next ht0 (fun i hi he=>by have:=(HO2.out.row.lt i he).1; omega)⟩
        · refine za ⟨by rw [List.map_append,HO2.out.same,List.map_singleton,HNU.out],?_,fun x hx=>?_,fun x hx=>?_⟩
          · rw [jT]
            subst hgl
            exact HO3.out
          · rcases List.mem_append.1 hx with hx | hx
            · exact HO2.out.wide x hx
            · rw [List.mem_singleton.1 hx]; exact HWU.out
          · rcases List.mem_append.1 hx with hx | hx
            · exact jy (HO2.out.txt x hx) HO2.out.row ht0
            · rw [List.mem_singleton.1 hx]
              subst hgl
              exact jy HTU.out HO2.out.row ht0
    · have hltz:¬ (k:Int)<(n:Int):=by omega
      obtain rfl:k=n:=by omega
      have hac:=HAC.out
      rw [Nat.sub_self] at hac
      have e1:us.1=s1:=by rw [hac.2.2]; rfl
      have e2:us.2=acc:=by rw [hac.2.2]; exact List.append_nil acc
      have HF:Hid (Fk w B k us.1 us.2 (.returned u5) wr):=⟨u5,l2,rfl,by rw [e2]; exact HO.out,by rw [e1]; exact HD.out⟩
      clear hac e1 e2 HAC HO HD
      go_wp2
      go_ret
      exact HF.out

def Xh (w:World) (r:Int×List Us×List ByteArray) (e:Ending) (w':World):Prop :=
 (r.1≠0∧e=.returned (.tuple #[.pointer none,.int .i64 r.1])∧Below w.heap.size w w') ∨
 (r.1=0∧∃ D P M Gr A L S k,e=.returned (.tuple #[.pointer (some ⟨D,0,none⟩),.int .i64 0])∧zo w w' D P M Gr A L S∧Xm A L S r.2.1 r.2.2 k∧k≤200)
theorem Xm.nrm12 {A:zM} {L:zT} {S:zv} {l l2:List Us} {G:List ByteArray} {k:Nat} (h:Xm A L S l2 G k) (e:l2.map yy=l):Xm A L S l G k:=by
 subst e
 unfold Xm at h ⊢
 rw [VV,List.length_map]
 exact h
theorem Jy (A A2:Option Addr) (c c2 n m:Nat) (l l2:List Us) (G:List ByteArray) (w:World) (he:l2.map yy=l) (hl:n=l.length) (hn:n≤1000) (hr:Uy w A l2) (ho:∀ u∈l2,u.Ok w) (hm:m=G.length) (hm1:m≤1000) (hg:RdS w A2 G) (hgs:∀ g∈G,g.size≤9223372036854775807) (h5:vX w) :
  Calls Tryz.prog 27 #[.slice A n c,.slice A2 m c2] w (Of11 l G w):=by
 have hx:u7 l2 G=u7 l G:=by rw [← he,fo]
 refine (Jz A A2 c c2 n m l2 G w (by rw [hl,← he,List.length_map]) hn hr ho hm hm1 hg hgs h5).mono fun e w' h=>?_
 unfold Of11 at h ⊢
 rw [hx] at h
 rcases h with h | ⟨h0,D,P,M,Gr,A,L,S,k,h1,h2,h3,h4⟩
 ·
  exact .inl h
 ·
  exact .inr ⟨h0,D,P,M,Gr,A,L,S,k,h1,h2,h3.nrm12 he,h4⟩

set_option maxRecDepth 100000 in
theorem fread12_calls (u:Value) (bs:List UInt8) (w:World) (hu:Rd w u bs) (hl:bs.length≤100000) (hm:vX w) :
  Calls Tryz.prog 35 #[u] w (Xh w (Fr bs)):=by
 have HOF:=za (of_calls u bs w hu (by omega))
 have HM:=za hm
 have l1:=VL ⟨bs,0⟩
 have l0:(⟨bs,0⟩:St).bs.length≤100000:=hl
 have HSC:Hid (∀ W R,Rdr W R ⟨bs,0⟩→Calls Tryz.prog 101 #[.pointer (some ⟨R,0,none⟩)] W (Void W R (vZ ⟨bs,0⟩))):=fun W R hr=>Ye R _ W hr l0
 unfold Fr
 generalize vZ ⟨bs,0⟩=s0 at *
 have l2:=Yh s0 6 12
 have z2:=jH s0 6 12
 have HRW:Hid (∀ W R,Rdr W R s0→Calls Tryz.prog 102 #[.pointer (some ⟨R,0,none⟩),.int .i64 6,.int .i64 12] W (Rows6 W R (fU s0 6 12).1 (fU s0 6 12).2)):=fun W R hr=>Yf R s0 6 12 W hr (by have:s0.bs.length≤100000:=Nat.le_trans l1 l0; omega)
 have hgl:(fU s0 6 12).2.length≤1000:=row_few12 s0 6 12 (by omega)
 unfold tail12
 generalize fU s0 6 12=g at *
 obtain ⟨s1,G⟩:=g
 dsimp only at *
 have hc:=F6 s1
 have l3:=QR s1
 have HCT:Hid (∀ W R,Rdr W R s1→Calls Tryz.prog 104 #[.pointer (some ⟨R,0,none⟩)] W fun e w'=>e=.returned (.int .i64 (vu s1).2)∧Did W R (vu s1).1 w'):=fun W R hr=>Xx R s1 W hr (by omega)
 generalize hcs:vu s1=cs at *
 obtain ⟨s2,n⟩:=cs
 dsimp only at *
 clear hcs
 have hln:=jw n s2
 have HUR:Hid (∀ W R,Rdr W R s2→vX W→R≠0→Calls Tryz.prog 103 #[.pointer (some ⟨R,0,none⟩),.int .i64 n] W (Fk W R n (xk n s2).1 (xk n s2).2)):=fun W R hr hm hR=>Xq R n s2 W hr (by omega) hc hm hR
 generalize hus:xk n s2=us at *
 obtain ⟨s3,l⟩:=us
 dsimp only at *
 clear hus
 have HER:Hid (∀ W R,Rdr W R s3→Calls Tryz.prog 105 #[.pointer (some ⟨R,0,none⟩)] W fun e w'=>e=.returned (.int .i64 s3.e)∧W=w'):=fun W R hr=>V2 R s3 W hr
 have HEN:Hid (∀ W R,Rdr W R s3→Calls Tryz.prog 106 #[.pointer (some ⟨R,0,none⟩)] W fun e w'=>e=.returned (.int .i64 (endS s3))∧W=w'):=fun W R hr=>rend_calls R s3 W hr
 obtain ⟨m,hmg⟩:∃ m,m=G.length:=⟨_,rfl⟩
 have hgz:∀ x∈G,x.size≤9223372036854775807:=fun x hx=>by have:=z2 x hx; omega
 have HNO:Hid (∀ A A2 c c2 l2 W,l2.map yy=l→Uy W A l2→(∀ u∈l2,u.Ok W)→RdS W A2 G→vX W→Calls Tryz.prog 27 #[.slice A n c,.slice A2 m c2] W (Of11 l G W)):=fun A A2 c c2 l2 W he hr ho hg h5=>Jy A A2 c c2 n m l l2 G W he hln.symm (by omega) hr ho hmg (by omega) hg hgz h5
 have HLN:Hid (l.length=n):=hln
 rw [← hmg] at hgl
 have HMG:=za hmg
 obtain ⟨out,hout⟩:∃ out,out=code12 G (s3,l):=⟨_,rfl⟩
 have HO:Hid (out=if s3.e≠0 then (s3.e,[],[]) else if u7 l G≠0 then (u7 l G,[],[]) else if endS s3≠0 then (endS s3,[],[]) else (0,l,G)):=hout
 rw [← hout]
 obtain ⟨A0,c0,rfl⟩:=hu.shape
 clear hout hu hm hl l0 l1 l2 l3 z2 hgz hln hc hmg
 unfold Of11 at HNO
 generalize u7 l G=oe at *
 generalize endS s3=en at *
 go_enter Tryz.func35,Tryz.ntmps35
 go_wp2_with fail
 with_reducible refine HOF.out.mono ?_
 rintro e w1 ⟨R,hR,rfl,hr,ht⟩
 have hb1:=ht.below (fun _ f=>f.elim)
 have HB1:=za hb1
 have HR1:=za (Did.refl hr)
 have hRM:R≠0:=by have:=HM.out.1; omega
 have HRM:=za hRM
 have HM1:Hid (∀ W s,Did w1 R s W→vX W):=fun W s hd=>by
  obtain ⟨hlt,m,hcm⟩:=HM.out.later HB1.out
  exact ⟨Nat.lt_of_lt_of_le hlt hd.2.size,m,(hd.2.cell (p:=⟨0,0,none⟩) hlt (fun e=>hRM e.symm)).trans hcm⟩
 have HBW:Hid (∀ W s,Did w1 R s W→Below w.heap.size w W):=fun W s hd=>((ht.mono (S':=fun i=>i=R) (fun _ _ f=>f.elim)).next hd.2 (fun _ _ h=>h)).below (fun i hi=>by omega)
 clear hr ht hb1 HOF hRM HM HB1
 go_wp2_with fail
 with_reducible refine (HSC.out w1 R HR1.out.rdr).mono ?_
 rintro e w2 ⟨rfl,hd⟩
 have HR2:=za (HR1.out.next hd)
 clear hd HSC HR1
 go_wp2_with fail
 with_reducible refine (HRW.out w2 R HR2.out.rdr).mono ?_
 rintro e w3 ⟨Ag,cg,rfl,hog,hng,hd⟩
 rw [← HMG.out] at hog hng ⊢
 have HR3:=za (HR2.out.next hd)
 have hR2:R<w2.heap.size:=HR2.out.rdr.lt
 have HG3:=za (Zo hog hng)
 clear hd hog hng HRW
 go_wp2_with fail
 with_reducible refine (HCT.out w3 R HR3.out.rdr).mono ?_
 rintro e w4 ⟨rfl,hd⟩
 have HR4:=za (HR3.out.next hd)
 have HG4:=za (jg HG3.out (Nat.le_refl _) hd.2 (fun j hj he=>by have he':j=R:=he; omega))
 clear hd HCT HR3 HG3 HR2
 go_wp2_with fail
 with_reducible refine (HUR.out w4 R HR4.out.rdr (HM1.out w4 _ HR4.out) HRM.out).mono ?_
 rintro e w5 ⟨v,l2,rfl,hmem,hd⟩
 have HR5:=za (HR4.out.next hd)
 have hg5:=jg HG4.out (Nat.zero_le _) hd.2 (fun j hj he=>by have he':j=R:=he; omega)
 have HG5:Hid (RdS w5 Ag G):=(qq hg5 HMG.out).1
 obtain ⟨A,c,rfl⟩:=vG (zA hmem.row (Nat.zero_le _))
 have HU5:Hid (Uy w5 A l2):=Q4 hmem.row (by rw [← HLN.out,← hmem.same,List.length_map])
 have HOK:=za hmem.ok
 have HSM:=za hmem.same
 clear hd hmem hg5 HUR HR4 HG4 hR2
 go_wp2_with fail
 with_reducible refine (HER.out w5 R HR5.out.rdr).mono ?_
 rintro e w6 ⟨rfl,rfl⟩
 clear HER
 by_cases h0:s3.e=0
 case neg =>
  have hz:(s3.e != 0)=true:=by simpa using h0
  have ho:=HO.out
  rw [if_pos h0] at ho
  have HF:Hid (Xh w out (.returned (.tuple #[.pointer none,.int .i64 s3.e])) w5):=.inl ⟨by rw [ho]; exact h0,by rw [ho],HBW.out w5 _ HR5.out⟩
  clear ho HO h0
  go_wp2
  go_ret2
  exact HF.out
 have hz:(s3.e != 0)=false:=by simpa using h0
 have ho:=HO.out
 rw [if_neg (by simpa using h0)] at ho
 have HO2:=za ho
 have HOU5:=za (HNO.out A Ag c cg l2 w5 HSM.out HU5.out HOK.out HG5.out (HM1.out w5 _ HR5.out))
 clear ho HO h0 HNO
 go_wp2_with fail
 with_reducible refine HOU5.out.mono ?_
 rintro e w7 hcase
 clear HOU5
 rcases hcase with ⟨hne,rfl,hb⟩ | ⟨h0,D,P,M,Gr,Aa,L,S,k,rfl,hown,hst,hk⟩
 ·
  have ho:=HO2.out
  rw [if_pos hne] at ho
  have hx1:(oe != 0)=true:=by simpa using hne
  have HF:Hid (Xh w out (.returned (.tuple #[.pointer none,.int .i64 oe])) w7):=.inl ⟨by rw [ho]; exact hne,by rw [ho],z8 (HBW.out w5 _ HR5.out) hb⟩
  clear ho HO2 hne hb
  go_wp2
  go_ret2
  exact HF.out
 subst h0
 have ho:=HO2.out
 rw [if_neg (by simp)] at ho
 have HO3:=za ho
 have HEN7:=za (HEN.out w7 R (HR5.out.rdr.still (zm.of_below hown.below _)))
 have HOW:Hid (zo w w7 D P M Gr Aa L S):=hown.base (HBW.out w5 _ HR5.out)
 have HST:=za hst
 clear ho HO2 hown hst HEN HU5
 go_wp2_with fail
 with_reducible refine HEN7.out.mono ?_
 rintro e w8 ⟨rfl,rfl⟩
 clear HEN7
 by_cases h0:en=0
 ·
  have hz2:(en != 0)=false:=by simpa using h0
  have ho:=HO3.out
  rw [if_neg (by simpa using h0)] at ho
  have HF:Hid (Xh w out (.returned (.tuple #[.pointer (some ⟨D,0,none⟩),.int .i64 0])) w7):=.inr ⟨by rw [ho],D,P,M,Gr,Aa,L,S,k,rfl,HOW.out,by rw [ho]; exact HST.out,hk⟩
  clear ho HO3 h0
  go_wp2
  go_ret2
  exact HF.out
 ·
  have hz2:(en != 0)=true:=by simpa using h0
  have ho:=HO3.out
  rw [if_pos h0] at ho
  have HF:Hid (Xh w out (.returned (.tuple #[.pointer none,.int .i64 en])) w7):=.inl ⟨by rw [ho]; exact h0,by rw [ho],HOW.out.below⟩
  clear ho HO3 h0
  go_wp2
  go_ret2
  exact HF.out

def UA (w:World) (B:Nat) (bs:List UInt8) (e:Ending) (w':World):Prop:=e=.returned (.pointer (some ⟨B,0,none⟩))∧NW6 w B bs w'
theorem NW6.byte12 {w W:World} {B:Nat} {bs:List UInt8} (xi:Int) (x:Nat) (h:NW6 w B bs W) (ex:xi=x) (hx:x<256) (hr:bs.length≤500000) :
  Calls Tryz.prog 95 #[.pointer (some ⟨B,0,none⟩),.int .u8 xi] W (UA w B (bs++le x 1)):=by
 subst ex
 obtain ⟨hB,⟨v,hw,hv⟩,ht⟩:=h
 exact (Vr B v bs x W hw hx (by omega)).mono fun e w' ⟨he,hg⟩=>⟨he,hg.nw6 hB hv ht⟩
theorem NW6.two12 {w W:World} {B:Nat} {bs:List UInt8} (xi:Int) (x:Nat) (h:NW6 w B bs W) (ex:xi=x) (hx:x<65536) (hr:bs.length≤500000) :
  Calls Tryz.prog 97 #[.pointer (some ⟨B,0,none⟩),.int .u16 xi] W (UA w B (bs++le x 2)):=by
 subst ex
 obtain ⟨hB,⟨v,hw,hv⟩,ht⟩:=h
 exact (jU B v bs x W hw hx (by omega)).mono fun e w' ⟨he,hg⟩=>⟨he,hg.nw6 hB hv ht⟩
theorem NW6.row12 {w W:World} {B:Nat} {bs:List UInt8} {b c:Nat} {A:Option Addr} (ss:List ByteArray) (h:NW6 w B bs W) (ho:W.ownsRow b 9 1 (.slice A ss.length c) ss.length (yb ss)) (hl:ss.length≤65535) (hs:∀ s∈ss,s.size≤65535) (hr:bs.length≤500000) :
  Calls Tryz.prog 96 #[.pointer (some ⟨B,0,none⟩),.slice A ss.length c] W (UA w B (bs++vL ss)):=by
 obtain ⟨hB,⟨v,hw,hv⟩,ht⟩:=h
 obtain ⟨f1,_,f3,f4⟩:=qq ho rfl
 refine (UV B v bs A ss.length c ss W hw f3 f4 (by omega) f1 (fun hne a ha=>?_) hs (by omega)).mono fun e w' ⟨he,hg⟩=>⟨he,hg.nw6 hB hv ht⟩
 rcases ho.2 with ⟨h0,h1⟩ | ⟨g,cap,cur,hv',_,hg,_⟩
 ·
  exact absurd (List.eq_nil_of_length_eq_zero h1) hne
 ·
  injection hv' with hA _ _
  rw [hA] at ha
  injection ha with ha
  subst ha
  rintro (he | he)
  ·
   have he':g=B:=he
   subst he'
   have:=hw.1.symm.trans hg
   simp at this
  ·
   rcases hw.2.2 with ⟨hv2,_⟩ | ⟨g',cap',cur',hv2,_,hg',_⟩
   ·
    rw [hv2] at he; simp [Value.ownBlock] at he
   ·
    rw [hv2] at he
    have:g'=g:=by simpa [Value.ownBlock] using he
    subst this
    have:=hg'.symm.trans hg
    simp at this

set_option maxRecDepth 100000 in
theorem fbytes0_calls (w:World):Calls Tryz.prog 34 #[.pointer none] w fun e w'=>e=.returned (.slice none 0 0)∧w=w':=by
 go_enter Tryz.func34,Tryz.ntmps34
 go_wp2
 go_ret
 exact ⟨rfl,rfl⟩
set_option maxRecDepth 100000 in
theorem fmost_calls (w:World):Calls Tryz.prog 37 #[] w fun e w'=>e=.returned (.int .i64 1733)∧w=w':=by
 go_enter Tryz.func37,Tryz.ntmps37
 go_wp2
 go_ret
 exact ⟨rfl,rfl⟩

theorem plU_us12 (R:zJ W11):uX (R.map J8)=zc R:=by
 unfold uX zc
 rw [List.map_map]
 refine List.map_congr_left fun q _=>?_
 show ((zI q.1).data.toList,(⟨q.2.hs.data.toList,q.2.ml.data.toList,q.2.dis,ue (q.2.gs.map zI)⟩:U11))=(q.1,q.2.u)
 rw [zy,Fd]
 rfl
theorem JU (N:List (List UInt8)):N.map encStr=yb (N.map zI):=by
 unfold yb
 rw [List.map_map]
 rfl
section
variable {w0 w:World} {D P M G:Nat} {A:zM} {L:zT} {S:zv} {k:Nat}
theorem QF (ho:zo w0 w D P M G A L S) (hg:zu A L S k):Calls Tryz.prog 29 #[.pointer (some ⟨D,0,none⟩)] w fun e w' =>
  ∃ Aa c l,e=.returned (.slice Aa l.length c)∧Uy w' Aa l∧(∀ u∈l,u.Ok w')∧uX l=ze A L S∧Below w.heap.size w w':=by
 refine (Zq ho hg).mono fun e w' ⟨v,R,he,hr,hp,hb⟩=>?_
 have hs:=short11 hg
 have hr0:=hr.low (Nat.zero_le _)
 obtain ⟨Aa,c,rfl⟩:=hr0.rw.us.shape
 obtain ⟨h1,h2⟩:=Jq hr0.rw.us
 refine ⟨Aa,c,R.map J8,by rw [← h1]; exact he,h2,fun u hu=>?_,by rw [plU_us12]; exact hp,hb⟩
 obtain ⟨q,hq,rfl⟩:=List.mem_map.1 hu
 have hm:(q.1,q.2.u)∈ze A L S:=by rw [← hp]; exact List.mem_map.2 ⟨q,hq,rfl⟩
 have a2:=hs.hs _ hm
 have a3:=hs.ml _ hm
 exact us11_ok (hr0.2 q hq) (hs.nm _ hm) (by rw [← zw]; exact a2) (by rw [← zw]; exact a3) (hs.gs _ hm)
theorem YZ (ho:zo w0 w D P M G A L S) (hg:zu A L S k):Calls Tryz.prog 63 #[.pointer (some ⟨D,0,none⟩)] w fun e w' =>
  ∃ Aa c,e=.returned (.slice Aa ((zb S).map zI).length c)∧w'.ownsRow 0 9 1 (.slice Aa ((zb S).map zI).length c) ((zb S).map zI).length (yb ((zb S).map zI))∧Below w.heap.size w w':=by
 refine (qT ho hg.grp).mono fun e w' ⟨v,he,hr,hb⟩=>?_
 have hr0:=zA hr (Nat.zero_le _)
 obtain ⟨Aa,c,rfl⟩:=vG hr0
 rw [JU] at hr0
 refine ⟨Aa,c,by rw [List.length_map]; exact he,?_,hb⟩
 rw [List.length_map]
 exact hr0

set_option maxRecDepth 100000 in
theorem XJ (ho:zo w0 w D P M G A L S) (hg:zu A L S k) (h5:vX w) :
  Calls Tryz.prog 34 #[.pointer (some ⟨D,0,none⟩)] w (Told6 w (FO (ze A L S) (zb S))):=by
 have hz:=good_of12 hg
 have hmay:=may12 hz
 have HAL:Hid (Calls Tryz.prog 29 #[.pointer (some ⟨D,0,none⟩)] w fun e w'=>∃ Aa c l,e=.returned (.slice Aa l.length c)∧Uy w' Aa l∧(∀ u∈l,u.Ok w')∧l.map yy=(ze A L S).map vN∧Below w.heap.size w w') :=
  (QF ho hg).mono fun e w' ⟨Aa,c,l,h1,h2,h3,h4,h5⟩=>⟨Aa,c,l,h1,h2,h3,by rw [← XR,h4],h5⟩
 have HGR:Hid (∀ W,Below w.heap.size w W→Calls Tryz.prog 63 #[.pointer (some ⟨D,0,none⟩)] W fun e w'=>∃ Aa c,e=.returned (.slice Aa ((zb S).map zI).length c)∧w'.ownsRow 0 9 1 (.slice Aa ((zb S).map zI).length c) ((zb S).map zI).length (yb ((zb S).map zI))∧Below W.heap.size W w'):=fun W hb=>YZ (ho.later hb) hg
 have H5:=za h5
 have hgz:=hmay.sizes
 have hg6:=hmay.gfew
 unfold FO
 generalize (zb S).map zI=Gs at *
 have HCH:Hid (∀ l:List Us,l.map yy=(ze A L S).map vN→l.length≤12∧(∀ u∈l,vV 2 u=0)∧UC ((ze A L S).map vN) Gs=UC l Gs):=fun l he=>by
  have m2:May12 l Gs:=may12 (by rw [← fo,he]; exact hz)
  exact ⟨m2.few,m2.all,by rw [← he,Vl]⟩
 clear hz hmay h5 ho hg
 generalize (ze A L S).map vN=T at *
 generalize UC T Gs=out at *
 have HGZ:Hid (∀ g∈Gs,g.size≤65535):=fun g h=>Nat.le_trans (hgz g h) (by decide)
 have HRL:Hid ((vL Gs).length≤1000):=by
  have:=vj hgz
  show (le Gs.length 2++zW Gs).length≤1000
  rw [List.length_append,zZ]
  omega
 obtain ⟨m,hm⟩:∃ m,m=Gs.length:=⟨_,rfl⟩
 have HMG:=za hm
 rw [← hm] at HGR hg6
 clear hm hgz
 go_enter Tryz.func34,Tryz.ntmps34
 go_wp2_with fail
 with_reducible refine HAL.out.mono ?_
 rintro e w1 ⟨Aa,c,l,rfl,hu,hok,hse,hb⟩
 obtain ⟨hfew,hck,hfo⟩:=HCH.out l hse
 obtain ⟨n,hn⟩:∃ n,n=l.length:=⟨_,rfl⟩
 have HLN:Hid (n=l.length):=hn
 have HU:=za hu
 have HOK:=za hok
 have HCK:=za hck
 have HB1:=za hb
 have HSH:Hid (out=le 2 1++vL Gs++le l.length 2++l.flatMap (y8 2)):=by show out=_; rw [hfo]; unfold UC; simp only [List.append_assoc]
 have hbl:∀ k,((l.take k).flatMap (y8 2)).length≤137 * 12:=fun k=>by
  have:=uk (l:=l.take k) (fun q hq=>hck q (List.mem_of_mem_take hq))
  have h2:(l.take k).length≤l.length:=by rw [List.length_take]; omega
  omega
 have HBL:=za hbl
 rw [← hn] at hfew HSH ⊢
 have HM1:=za (H5.out.later hb)
 clear hu hok hck hse hfo hb HAL HCH hn hbl H5
 have HZ:=za (NW6.zero w1)
 go_wp2_with fail
 with_reducible refine (NW6.byte12 _ 2 HZ.out (by simp) (by omega) (by simp)).mono ?_
 rintro e w2 ⟨rfl,h1⟩
 rw [List.nil_append] at h1
 have H1:=za h1
 have HG2:=za (HGR.out w2 (z8 HB1.out h1.2.2))
 clear h1 HZ HGR
 go_wp2_with fail
 with_reducible refine HG2.out.mono ?_
 rintro e w3 ⟨Ag,cg,rfl,hog,hb⟩
 have H2:=za (H1.out.below hb)
 have HOG:=za hog
 clear hb hog HG2 H1
 have HRC:Hid (Calls Tryz.prog 96 #[.pointer (some ⟨w1.heap.size,0,none⟩),.slice Ag m cg] w3 (UA w1 w1.heap.size (le 2 1++vL Gs))):=by
  have ho:=HOG.out
  rw [HMG.out] at ho ⊢
  exact NW6.row12 Gs H2.out ho (by rw [← HMG.out]; omega) HGZ.out (by rw [zZ]; omega)
 go_wp2_with fail
 with_reducible refine HRC.out.mono ?_
 rintro e w4 ⟨rfl,h1⟩
 have H3:=za h1
 clear h1 HRC H2 HOG
 go_wp2_with fail
 with_reducible refine (NW6.two12 _ n H3.out (by go_num) (by omega) (by have:=HRL.out; rw [List.length_append,zZ]; omega)).mono ?_
 rintro e w5 ⟨rfl,h1⟩
 have H4:=za h1
 have hpre:(le 2 1++vL Gs++le n 2).length≤2000:=by have:=HRL.out; rw [List.length_append,List.length_append,zZ,zZ]; omega
 clear h1 H3
 generalize le 2 1++vL Gs++le n 2=pre at *
 generalize hB:w1.heap.size=BW at *
 have HBW:=za hB
 clear hB
 go_wp2
 go_loopg [6,21] n (fun gg _ s21 wr=>∃ k:Nat,k≤n∧n - k≤gg∧s21=.int .i64 k∧Hid (NW6 w1 BW (pre++(l.take k).flatMap (y8 2)) wr))
 case atStart=>exact ⟨0,Nat.zero_le _,by omega,rfl,by show NW6 w1 BW (pre++[]) w5; rw [List.append_nil]; exact H4.out⟩
 case round =>
  clear H4
  obtain ⟨k,hk,hg,rfl,HW⟩:=hrel
  have hbw:=HW.out.2.2
  by_cases hlt:k<n
  ·
   have hltz:(k:Int)<(n:Int):=by omega
   have hkl:k<l.length:=HLN.out ▸ hlt
   obtain ⟨b,off,rfl,hb,hc⟩:=(HU.out.later hbw) (by intro e; rw [e] at hkl; exact absurd hkl (Nat.not_lt_zero _))
   have c0:wr.cell? ⟨b,off+k * 5,none⟩=some (.string l[k].nm):=hc k hkl 0 _ rfl
   have c1:wr.cell? ⟨b,off+k * 5+1,none⟩=some (.string l[k].hs):=hc k hkl 1 _ rfl
   have c2:wr.cell? ⟨b,off+k * 5+2,none⟩=some (.string l[k].ml):=hc k hkl 2 _ rfl
   have c3:wr.cell? ⟨b,off+k * 5+3,none⟩=some (.bool l[k].dis):=hc k hkl 3 _ rfl
   have c4:wr.cell? ⟨b,off+k * 5+4,none⟩=some (.slice l[k].ga l[k].gs.length l[k].gc):=hc k hkl 4 _ rfl
   have hb1:=z7 (Below.refl wr.heap.size wr) (.cells #[.string l[k].nm,.string l[k].hs,.string l[k].ml,.bool l[k].dis,.slice l[k].ga l[k].gs.length l[k].gc] 37)
   have hch:=HCK.out l[k] (List.getElem_mem hkl)
   have hlen:(pre++(l.take k).flatMap (y8 2)).length≤100000:=by have:=HBL.out k; rw [List.length_append]; omega
   have HP:Hid (Calls Tryz.prog 98 #[.pointer (some ⟨BW,0,none⟩),.int .i64 2,.agg #[.string l[k].nm,.string l[k].hs,.string l[k].ml,.bool l[k].dis,.slice l[k].ga l[k].gs.length l[k].gc]] (wr.alloc (.cells #[.string l[k].nm,.string l[k].hs,.string l[k].ml,.bool l[k].dis,.slice l[k].ga l[k].gs.length l[k].gc] 37)) fun e w'=>e=.returned (.bool true)∧NW6 w1 BW (pre++(l.take (k+1)).flatMap (y8 2)) w'):=by
    refine (put6_wide w1 BW _ 2 l[k] _ (HW.out.below hb1) (HOK.out _ (List.getElem_mem hkl)) HM1.out hlen).mono fun e w' h=>?_
    rcases h with ⟨_,he,hn⟩ | ⟨h0,_⟩
    ·
     refine ⟨he,?_⟩
     rw [List.take_succ_eq_append_getElem hkl,List.flatMap_append,List.flatMap_singleton,← List.append_assoc]
     exact hn
    ·
     exact absurd hch h0
   clear hc hb hb1 hch hlen hbw HW
   generalize l[k].nm=nm at *
   generalize l[k].hs=hs at *
   generalize l[k].ml=ml at *
   generalize l[k].dis=dis at *
   generalize l[k].ga=ga at *
   generalize l[k].gs.length=gl at *
   generalize l[k].gc=gc at *
   go_wp2_with (go_at_call 98; (with_reducible refine HP.out.mono ?_); rintro e w6 ⟨rfl,h4⟩; have H5:=za h4; clear h4)
   go_roundg (n - (k+1))
   case measure=>omega
   case rel=>exact ⟨k+1,by omega,by omega,by go_num,H5⟩
  ·
   have hltz:¬ (k:Int)<(n:Int):=by omega
   obtain rfl:k=n:=by omega
   have hw:=HW.out
   rw [List.take_of_length_le (by have:=HLN.out; omega),← HSH.out] at hw
   have hol:out.length≤1000000:=by
    have:=HBL.out k
    rw [List.take_of_length_le (by have:=HLN.out; omega)] at this
    rw [HSH.out,List.length_append]
    omega
   have HBY:=za (hw.bytes hol)
   have HBB:=za (z8 HB1.out hw.2.2)
   have hszb:=HBB.out.size
   clear hw hol hbw HW
   go_wp2_with fail
   with_reducible refine HBY.out.mono ?_
   rintro e w7 ⟨v7,rfl,ho,hn,hb⟩
   have HF:Hid (Told6 w out (.returned v7) w7):=⟨v7,rfl,ho,fun j hj=>Nat.le_trans hszb (hn j hj),z8 HBB.out hb⟩
   clear ho hn hb HBY
   go_wp2
   go_ret
   exact HF.out
end

set_option maxRecDepth 100000 in
theorem lives12_calls (w:World) (h5:vX w):Calls Tryz.prog 32 #[] w (y7 true w):=by
 have HN:=za (qS w)
 have HBY:Hid (∀ W D P M G,zo w W D P M G [] [] []→Calls Tryz.prog 34 #[.pointer (some ⟨D,0,none⟩)] W (Told6 W [2,0,0,0,0])):=fun W D P M G h=>XJ h zu.nil (h5.later h.below)
 clear h5
 go_enter Tryz.func32,Tryz.ntmps32
 go_wp2_with fail
 with_reducible refine HN.out.mono ?_
 rintro e w1 ⟨D,P,M,G,rfl,ho⟩
 have HB1:=za ho.below
 have HB:=za (HBY.out w1 D P M G ho)
 clear ho HN HBY
 go_wp2_with fail
 with_reducible refine HB.out.mono ?_
 rintro e w2 ⟨v2,rfl,ho,_,hb⟩
 have hrd:=(Rd.of_own ho).string (P:=Tryz.prog) (src:=66) (dst:=9) Tryz.underlying66 Tryz.underlying5 Tryz.underlying9
 obtain ⟨A2,c2,rfl⟩:=vG ho
 have HB2:=za (z8 HB1.out hb)
 clear ho hb HB
 have hrd6:(convert 66 9 (.slice A2 5 c2)).run Tryz.prog w2=.ok (.string ⟨#[2,0,0,0,0]⟩) w2:=hrd
 clear hrd
 go_wp2
 go_ret
 exact ⟨rfl,HB2.out⟩

def UP:List UInt8→Int
 | []=>0
 | b::_=>if b.toNat=1∨b.toNat=2 then b.toNat else 0
set_option maxRecDepth 100000 in
theorem sch12_calls (u:Value) (bs:List UInt8) (w:World) (hu:Rd w u bs) :
  Calls Tryz.prog 38 #[u] w fun e w'=>e=.returned (.int .i64 (UP bs))∧w=w':=by
 obtain ⟨A0,c0,rfl⟩:=hu.shape
 cases bs with
 | nil =>
  clear hu
  show Calls Tryz.prog 38 #[.slice A0 0 c0] w fun e w'=>e=.returned (.int .i64 0)∧w=w'
  go_enter Tryz.func38,Tryz.ntmps38
  go_wp2
  go_ret
  exact ⟨rfl,rfl⟩
 | cons b r =>
  obtain ⟨g,off,c,he,hc⟩:=hu.at_ 0 (by simp)
  injection he with e1 _ e3
  subst e1 e3
  rw [Nat.add_zero] at hc
  have hcell:w.cell? ⟨g,off,none⟩=some (.int .u8 (b.toNat:Int)):=hc
  have hs:UP (b::r)=if b.toNat=1∨b.toNat=2 then (b.toNat:Int) else 0:=rfl
  rw [hs]
  have hb:b.toNat<256:=b.toNat_lt
  clear hc hs hu
  obtain ⟨n,hn⟩:∃ n,n=(b::r).length:=⟨_,rfl⟩
  have hp:0<n:=by rw [hn]; simp
  have hpz:(n:Int) > 0:=by omega
  rw [← hn]
  clear hn
  generalize b.toNat=x at *
  by_cases h1:x=1
  ·
   subst h1
   go_enter Tryz.func38,Tryz.ntmps38
   go_wp2
   go_ret
   exact ⟨rfl,rfl⟩
  ·
   by_cases h2:x=2
   ·
    subst h2
    go_enter Tryz.func38,Tryz.ntmps38
    go_wp2
    go_ret
    exact ⟨rfl,rfl⟩
   ·
    have z1:((x:Int) == 1)=false:=by simp; omega
    have z2:((x:Int) == 2)=false:=by simp; omega
    rw [if_neg (by omega)]
    go_enter Tryz.func38,Tryz.ntmps38
    go_wp2
    go_ret
    exact ⟨rfl,rfl⟩

set_option maxRecDepth 100000 in
theorem rusers2_12 (A:Option Addr) (c n:Nat) (l:List Us) (w:World) (hl:n=l.length) (hn:n≤12) (hr:Uy w A l) (ho:∀ u∈l,u.Ok w) (hc:∀ u∈l,vV 2 u=0) :
  Calls Tryz.prog 108 #[.int .i64 2,.slice A n c] w fun e w'=>e=.returned (.string (mk6 (le n 2++l.flatMap (y8 2))))∧Below w.heap.size w w':=by
 have HNM:Hid (∀ W,Calls Tryz.prog 171 #[.int .u64 (n:Int),.int .i64 2] W (Says (le n 2) W)):=fun W=>Qf n 2 W (by omega) (by omega)
 have HR:=za hr
 have HL:=za hl
 have HO:=za ho
 have HC:=za hc
 have HB0:=za (Below.refl w.heap.size w)
 clear hr hl ho hc
 obtain ⟨out,hout⟩:∃ out,out=(⟨(le n 2++l.flatMap (y8 2)).toArray⟩:ByteArray):=⟨_,rfl⟩
 have HOUT:=za hout
 rw [show mk6 (le n 2++l.flatMap (y8 2))=out from hout.symm]
 clear hout
 go_enter Tryz.func108,Tryz.ntmps108
 go_wp2_with fail
 with_reducible refine (HNM.out w).mono ?_
 rintro e w1 ⟨rfl,ht⟩
 have HB1:=za (ht.below (fun _ f=>f.elim))
 clear ht HNM HB0
 go_wp2
 go_loopg [5,7,14] n (fun gg s5 _ s14 wr=>∃ (k:Nat) (t:ByteArray),k≤n∧n - k≤gg∧s14=.int .i64 k∧s5=.string t∧Hid (t=⟨(le n 2++(l.take k).flatMap (y8 2)).toArray⟩∧((l.take k).flatMap (y8 2)).length≤1000 * k)∧Hid (Below w.heap.size w wr))
 case atStart=>exact ⟨0,_,Nat.zero_le _,by omega,rfl,rfl,⟨by rw [List.take_zero,List.flatMap_nil,List.append_nil],by simp⟩,HB1.out⟩
 case round =>
  clear HB1
  obtain ⟨k,t,hk,hg,rfl,rfl,HT,HW⟩:=hrel
  by_cases hlt:k<n
  ·
   have hltz:(k:Int)<(n:Int):=by omega
   have hkl:k<l.length:=HL.out ▸ hlt
   obtain ⟨b,off,rfl,hb,hc⟩:=(HR.out.later HW.out) (by intro e; rw [e] at hkl; exact absurd hkl (Nat.not_lt_zero _))
   have c0:wr.cell? ⟨b,off+k * 5,none⟩=some (.string l[k].nm):=hc k hkl 0 _ rfl
   have c1:wr.cell? ⟨b,off+k * 5+1,none⟩=some (.string l[k].hs):=hc k hkl 1 _ rfl
   have c2:wr.cell? ⟨b,off+k * 5+2,none⟩=some (.string l[k].ml):=hc k hkl 2 _ rfl
   have c3:wr.cell? ⟨b,off+k * 5+3,none⟩=some (.bool l[k].dis):=hc k hkl 3 _ rfl
   have c4:wr.cell? ⟨b,off+k * 5+4,none⟩=some (.slice l[k].ga l[k].gs.length l[k].gc):=hc k hkl 4 _ rfl
   have hb1:=z8 HW.out (z7 (Below.refl wr.heap.size wr) (.cells #[.string l[k].nm,.string l[k].hs,.string l[k].ml,.bool l[k].dis,.slice l[k].ga l[k].gs.length l[k].gc] 37))
   have hch:=HC.out _ (List.getElem_mem hkl)
   have hli:=(qz hch).1
   have HX:Hid (Calls Tryz.prog 173 #[.int .i64 2,.agg #[.string l[k].nm,.string l[k].hs,.string l[k].ml,.bool l[k].dis,.slice l[k].ga l[k].gs.length l[k].gc]] (wr.alloc (.cells #[.string l[k].nm,.string l[k].hs,.string l[k].ml,.bool l[k].dis,.slice l[k].ga l[k].gs.length l[k].gc] 37)) fun e w'=>e=.returned (.string (mk6 (y8 2 l[k])))∧Below (wr.alloc (.cells #[.string l[k].nm,.string l[k].hs,.string l[k].ml,.bool l[k].dis,.slice l[k].ga l[k].gs.length l[k].gc] 37)).heap.size (wr.alloc (.cells #[.string l[k].nm,.string l[k].hs,.string l[k].ml,.bool l[k].dis,.slice l[k].ga l[k].gs.length l[k].gc] 37)) w'):=UT 2 l[k] _ ((HO.out _ (List.getElem_mem hkl)).below hb1) hli
   have HB2:=za hb1
   have hub:(y8 2 l[k]).length≤1000:=UH hli
   obtain ⟨t2,ht2⟩:∃ t2,t2=(⟨(le n 2++(l.take (k+1)).flatMap (y8 2)).toArray⟩:ByteArray):=⟨_,rfl⟩
   have htk:(l.take (k+1)).flatMap (y8 2)=(l.take k).flatMap (y8 2)++y8 2 l[k]:=by
    rw [List.take_succ_eq_append_getElem hkl,List.flatMap_append,List.flatMap_singleton]
   have HA:Hid (∀ W,(Op.stringOp .add t (mk6 (y8 2 l[k]))).run Tryz.prog W=.ok (.string t2) W):=fun W=>by
    have:=uR (P:=Tryz.prog) W (le n 2++(l.take k).flatMap (y8 2)) (y8 2 l[k]) (by have:=HT.out.2; rw [List.length_append,zZ]; omega)
    rw [List.append_assoc,← htk,← ht2] at this
    rw [HT.out.1]
    exact this
   have HT2:Hid (t2=⟨(le n 2++(l.take (k+1)).flatMap (y8 2)).toArray⟩∧((l.take (k+1)).flatMap (y8 2)).length≤1000 * (k+1)):=⟨ht2,by have:=HT.out.2; rw [htk,List.length_append]; omega⟩
   clear hc hb hb1 hch hli hub ht2 htk HT
   generalize mk6 (y8 2 l[k])=ux at *
   generalize l[k].nm=nm at *
   generalize l[k].hs=hs at *
   generalize l[k].ml=ml at *
   generalize l[k].dis=dis at *
   generalize l[k].ga=ga at *
   generalize l[k].gs.length=gl at *
   generalize l[k].gc=gc at *
   go_wp2_with (go_at_call 173; (with_reducible refine HX.out.mono ?_); rintro e w4 ⟨rfl,hb⟩; have HB4:=za (z8 HB2.out hb); have ha:=HA.out w4; clear hb)
   go_roundg (n - (k+1))
   case measure=>omega
   case rel=>exact ⟨k+1,t2,by omega,by omega,by go_num,rfl,HT2,HB4⟩
  ·
   have hltz:¬ (k:Int)<(n:Int):=by omega
   obtain rfl:k=n:=by omega
   obtain rfl:t=out:=by
    have:=HT.out.1
    rw [List.take_of_length_le (by have:=HL.out; omega)] at this
    rw [this,HOUT.out]
   clear HT HOUT
   go_wp2
   go_ret
   exact ⟨rfl,HW.out⟩

/-! ### Text -/
def YTx12 (b0:Nat) (A A2:Option Addr) (c c2 n m:Nat) (t1 t2 t3 t4:ByteArray):Nat→Value→World→Prop
 | 0,v,_=>v=.pointer (some ⟨b0,1,none⟩)
 | 1,v,_=>v=.slice A2 m c2
 | 2,v,_=>v=.string t1
 | 3,v,_=>v=.string t2
 | 4,v,_=>v=.pointer (some ⟨b0,0,none⟩)
 | 5,v,_=>v=.slice A n c
 | 6,v,_=>v=.string t3
 | 7,v,_=>v=.string t4
 | _,v,_=>v=.string t4
theorem Vu {b0:Nat} {A A2:Option Addr} {c c2 n m:Nat} {t1 t2 t3 t4:ByteArray} {W W':World} (_hb:Below W.heap.size W W') (j:Nat) (z:Value) (h:YTx12 b0 A A2 c c2 n m t1 t2 t3 t4 j z W):YTx12 b0 A A2 c c2 n m t1 t2 t3 t4 j z W':=by
 match j,h with
 | 0,h=>exact h
 | 1,h=>exact h
 | 2,h=>exact h
 | 3,h=>exact h
 | 4,h=>exact h
 | 5,h=>exact h
 | 6,h=>exact h
 | 7,h=>exact h
 | _+8,h=>exact h

set_option maxRecDepth 100000 in
theorem rtext12_calls (A A2:Option Addr) (c c2 n m:Nat) (l:List Us) (G:List ByteArray) (w:World) (hl:n=l.length) (hm:m=G.length) (hr:Uy w A l) (ho:∀ u∈l,u.Ok w) (hg:RdS w A2 G) (hmay:May12 l G) :
  Calls Tryz.prog 36 #[.agg #[.slice A n c,.slice A2 m c2]] w fun e w'=>e=.returned (.string (mk6 (UC l G)))∧Below w.heap.size w w':=by
 have hz:=hmay.sizes
 have hb0:=z7 (Below.refl w.heap.size w) (.cells #[.slice A n c,.slice A2 m c2] zn)
 have hlg:=JQ hmay
 have HRW:Hid (∀ W,Below (w.alloc (.cells #[.slice A n c,.slice A2 m c2] zn)).heap.size (w.alloc (.cells #[.slice A n c,.slice A2 m c2] zn)) W→Calls Tryz.prog 107 #[.slice A2 m c2] W fun e w'=>e=.returned (.string (mk6 (vL G)))∧Below W.heap.size W w'):=fun W hb=>by
  rw [hm]
  exact (Zm A2 c2 G W (hg.below (z8 hb0 hb)) (by have:=hmay.gfew; omega) (fun s hs=>Nat.le_trans (hz s hs) (by decide))).mono fun e w' ⟨he,ht⟩=>⟨he,ht.below (fun _ f=>f.elim)⟩
 have HUS:Hid (∀ W,Below (w.alloc (.cells #[.slice A n c,.slice A2 m c2] zn)).heap.size (w.alloc (.cells #[.slice A n c,.slice A2 m c2] zn)) W→Calls Tryz.prog 108 #[.int .i64 2,.slice A n c] W fun e w'=>e=.returned (.string (mk6 (le n 2++l.flatMap (y8 2))))∧Below W.heap.size W w'):=fun W hb =>
  rusers2_12 A c n l W hl (by rw [hl]; exact hmay.few) (hr.later (z8 hb0 hb)) (fun u hu=>(ho u hu).below (z8 hb0 hb)) hmay.all
 have hfo:UC l G=[2]++vL G++(le n 2++l.flatMap (y8 2)):=by unfold UC; rw [← hl,List.append_assoc]; rfl
 rw [hfo] at hlg ⊢
 have HA1:Hid (∀ W,(Op.stringOp .add ⟨#[2]⟩ (mk6 (vL G))).run Tryz.prog W=.ok (.string (mk6 ([2]++vL G))) W):=fun W=>uR (P:=Tryz.prog) W [2] (vL G) (by simp only [List.length_append] at hlg ⊢; omega)
 have HA2:Hid (∀ W,(Op.stringOp .add (mk6 ([2]++vL G)) (mk6 (le n 2++l.flatMap (y8 2)))).run Tryz.prog W=.ok (.string (mk6 ([2]++vL G++(le n 2++l.flatMap (y8 2))))) W):=fun W=>uR (P:=Tryz.prog) W ([2]++vL G) (le n 2++l.flatMap (y8 2)) (by simp only [List.length_append] at hlg ⊢; omega)
 have K0:(w.alloc (.cells #[.slice A n c,.slice A2 m c2] zn)).cell? ⟨w.heap.size,0,none⟩=some (.slice A n c):=by rw [World.cell?_alloc_at _ _ _ _ rfl]; rfl
 have K1:(w.alloc (.cells #[.slice A n c,.slice A2 m c2] zn)).cell? ⟨w.heap.size,1,none⟩=some (.slice A2 m c2):=by rw [World.cell?_alloc_at _ _ _ _ rfl]; rfl
 have LT:w.heap.size<(w.alloc (.cells #[.slice A n c,.slice A2 m c2] zn)).heap.size:=by simp
 have HB:Hid (∀ W,Below (w.alloc (.cells #[.slice A n c,.slice A2 m c2] zn)).heap.size (w.alloc (.cells #[.slice A n c,.slice A2 m c2] zn)) W→Below w.heap.size w W):=fun W hb=>z8 hb0 hb
 generalize mk6 ([2]++vL G++(le n 2++l.flatMap (y8 2)))=t4 at *
 generalize mk6 ([2]++vL G)=t2 at *
 generalize mk6 (vL G)=t1 at *
 generalize mk6 (le n 2++l.flatMap (y8 2))=t3 at *
 clear hz hmay hl hm hr ho hg hlg hfo hb0
 go_enter Tryz.func36,Tryz.ntmps36
 go_wp2_with fail
 generalize w.alloc (.cells #[.slice A n c,.slice A2 m c2] zn)=w1 at *
 refine yS (by kernel_rfl) (fun W=>Below w1.heap.size w1 W) (YTx12 w.heap.size A A2 c c2 n m t1 t2 t3 t4) ?F ?hF (by kernel_rfl) (by kernel_rfl) (zK (Below.refl _ _)) ?step ?fin
 case hF =>
  intro x
  simp only [List.map_cons,List.map_nil,vc,Act.put,List.setIfInBounds_toArray,List.set_cons_zero,List.set_cons_succ,Nat.zero_add,Nat.reduceAdd]
  exact rfl
 case step =>
  refine ⟨?_,?_,?_,?_,?_,?_,?_,?_,?_,trivial⟩
  all_goals intro x W hW hdep K hK
  ·
   clear hdep
   go_simp
   exact hK _ _ rfl hW (fun _ _ h=>h)
  ·
   have h0:x 0=_:=hdep 0 rfl
   have k1:=(hW.cell (p:=⟨w.heap.size,1,none⟩) LT).trans K1
   clear hdep
   simp only [h0] at hK
   go_simp
   exact hK _ _ rfl hW (fun _ _ h=>h)
  ·
   have h1:x 1=_:=hdep 1 rfl
   clear hdep
   simp only [h1] at hK
   go_simp
   refine (HRW.out W hW).mono ?_
   rintro e W' ⟨rfl,hb⟩
   exact hK _ _ rfl (z8 hW hb) (fun j z h=>Vu hb j z h)
  ·
   have h2:x 2=_:=hdep 2 rfl
   have ha:=HA1.out W
   clear hdep
   simp only [h2] at hK
   go_simp
   exact hK _ _ rfl hW (fun _ _ h=>h)
  ·
   clear hdep
   go_simp
   exact hK _ _ rfl hW (fun _ _ h=>h)
  ·
   have h4:x 4=_:=hdep 4 rfl
   have k0:=(hW.cell (p:=⟨w.heap.size,0,none⟩) LT).trans K0
   clear hdep
   simp only [h4] at hK
   go_simp
   exact hK _ _ rfl hW (fun _ _ h=>h)
  ·
   have h5:x 5=_:=hdep 5 rfl
   clear hdep
   simp only [h5] at hK
   go_simp
   refine (HUS.out W hW).mono ?_
   rintro e W' ⟨rfl,hb⟩
   exact hK _ _ rfl (z8 hW hb) (fun j z h=>Vu hb j z h)
  ·
   have h3:x 3=_:=hdep 3 rfl
   have h6:x 6=_:=hdep 6 rfl
   have ha:=HA2.out W
   clear hdep
   simp only [h3,h6] at hK
   go_simp
   exact hK _ _ rfl hW (fun _ _ h=>h)
  ·
   have h7:x 7=_:=hdep 7 rfl
   clear hdep
   simp only [h7] at hK
   go_simp
   exact hK _ _ rfl hW (fun _ _ h=>h)
 case fin =>
  intro x W hW hY
  have h8:x 8=.string t4:=hY 8 (by decide)
  have HF:=za (HB.out W hW)
  clear hY hW
  rw [h8]
  go_wp2
  go_ret
  exact ⟨rfl,HF.out⟩

end Go.Proofs.YtmcomnocpibiiaaGreatDoor
namespace Go.Proofs.YtmcomnocpibiiaaGreatDoor
open Go.RowKit Go.Maps
set_option linter.unusedVariables false

def VA (w0:World) (D:Nat) (T:yH) (N:List (List UInt8)) (v vg:Value) (k:Nat) (W:World):Prop :=
 ∃ P M G A L S R,zo w0 W D P M G A L S∧zu A L S k∧xV 0 R W v∧NmR W vg N∧zc R=T∧ze A L S=T∧zb S=N
theorem VA.later {w0 W W':World} {D k:Nat} {T:yH} {N:List (List UInt8)} {v vg:Value} (h:VA w0 D T N v vg k W) (hb:Below W.heap.size W W'):VA w0 D T N v vg k W':=by
 obtain ⟨P,M,G,A,L,S,R,h1,h2,h3,h4,h5⟩:=h
 exact ⟨P,M,G,A,L,S,R,h1.later hb,h2,h3.later hb,h4.later hb,h5⟩
theorem VA.below {w0 W:World} {D k:Nat} {T:yH} {N:List (List UInt8)} {v vg:Value} (h:VA w0 D T N v vg k W):Below w0.heap.size w0 W:=by
 obtain ⟨P,M,G,A,L,S,R,h1,_⟩:=h
 exact h1.below
def Played12 (w:World) (n:Nat) (e:Ending) (w':World):Prop :=
 ∃ D T N A1 n1 C1 A2 n2 C2,e=.returned (.tuple #[.pointer (some ⟨D,0,none⟩),.agg #[.slice A1 n1 C1,.slice A2 n2 C2]])∧VA w D T N (.slice A1 n1 C1) (.slice A2 n2 C2) n w'
def Gp12 (Wi Wf:World) (L:Nat→Bool) (W:World):Prop:=W=if L 3=true then Wf else Wi
theorem Gp12.quiet {Wi Wf W:World} {L:Nat→Bool} (h:Gp12 Wi Wf L W) (i:Nat) (hi:i≠3):Gp12 Wi Wf (xP L i) W:=by
 unfold Gp12 at *
 rw [show xP L i 3=L 3 from if_neg (by omega)]
 exact h
theorem Gp12.ahead {Wi Wf W:World} {L:Nat→Bool} (h:Gp12 Wi Wf L W) (hL:L 3=false):W=Wi:=by
 unfold Gp12 at h
 rw [hL] at h
 exact h
theorem Gp12.stored {Wi Wf:World} (L:Nat→Bool):Gp12 Wi Wf (xP L 3) Wf:=by
 unfold Gp12
 rw [show xP L 3 3=true from if_pos rfl]
 rfl
def YPd12 (D:Nat) (v vg:Value):Nat→Value→World→Prop
 | 0,u,_=>u=.pointer (some ⟨D,0,none⟩)
 | 1,u,_=>u=.agg #[v,vg]
 | 2,u,_=>u=.pointer (some ⟨D,0,none⟩)
 | _,_,_=>True
theorem YPd12_keep {D:Nat} {v vg:Value} {W W':World} (j:Nat) (z:Value) (h:YPd12 D v vg j z W):YPd12 D v vg j z W':=by
 match j,h with
 | 0,h=>exact h
 | 1,h=>exact h
 | 2,h=>exact h
 | _+3,_=>trivial

set_option maxRecDepth 100000 in
theorem played12_calls (A:Option Addr) (c n:Nat) (l:List J7) (w:World) (hm:vX w) (hl:n=l.length) (hn60:n≤60) (hsz:∀ t∈l,t.nm.size≤50∧t.hs.size≤50) (hr:RdAN w A l) :
  Calls Tryz.prog 33 #[.slice A n c] w (Played12 w n):=by
 have HNW:Hid (∀ W,Calls Tryz.prog 13 #[] W fun e w'=>∃ D P M G,e=.returned (.pointer (some ⟨D,0,none⟩))∧zo W w' D P M G [] [] []):=qS
 have HR:=za hr
 have HL:=za hl
 have hb1:=z7 (Below.refl w.heap.size w) (.cells #[.slice none 0 0,.slice none 0 0] zn)
 have H51:=za (hm.later hb1)
 have HB1:=za hb1
 have HRB1:=za (zp w (.slice none 0 0) (.slice none 0 0))
 have HSZ:=za hsz
 clear hr hl hm hsz hb1
 have hzd:∀ w:World,(zeroValue zn).run Tryz.prog w=.ok (.agg #[.slice none 0 0,.slice none 0 0]) w:=fun w=>by kernel_rfl
 go_enter Tryz.func33,Tryz.ntmps33
 go_wp2_with fail
 generalize w.alloc (.cells #[.slice none 0 0,.slice none 0 0] zn)=w1 at *
 with_reducible refine (HNW.out w1).mono ?_
 rintro e w3 ⟨D,P,M,G,rfl,ho⟩
 have HO:=za ho
 have HZB:Hid (w1.heap.size≤w3.heap.size):=ho.below.size
 have HRB3:Hid (yn (w3.alloc (.cells #[.slice none 0 0,.slice none 0 0] zn)) w.heap.size (.slice none 0 0) (.slice none 0 0)):=(HRB1.out.later ho.below).later (z7 (Below.refl w3.heap.size w3) _)
 have HNE:Hid (w.heap.size≠w3.heap.size):=by have h1:=HRB1.out.lt; have h2:=HZB.out; show _≠_; omega
 clear HNW ho HRB1
 have HL0:Hid (Loop11 w1 D P M G w3.heap.size 0 (w3.alloc (.cells #[.slice none 0 0,.slice none 0 0] zn))):=by
  have hb:=z7 (Below.refl w3.heap.size w3) (.cells #[.slice none 0 0,.slice none 0 0] zn)
  exact ⟨[],[],[],[],none,0,none,0,HO.out.later hb,zu.nil,zp _ _ _,xV.nil _ _,NmR.nil _,rfl⟩
 clear HO
 go_wp2
 clear hzd
 generalize w3.alloc (.cells #[.slice none 0 0,.slice none 0 0] zn)=w4 at *
 generalize w3.heap.size=Wb at *
 go_loopg [7,11] n (fun gg _ s11 wr=>∃ k:Nat,k≤n∧n - k≤gg∧s11=.int .i64 k∧Hid (Loop11 w1 D P M G Wb k wr)∧Hid (yn wr w.heap.size (.slice none 0 0) (.slice none 0 0)))
 case atStart=>exact ⟨0,Nat.zero_le _,by omega,rfl,HL0,HRB3⟩
 case round =>
  obtain ⟨k,hk,hg,rfl,HW,HRB⟩:=hrel
  clear HRB3 HL0
  by_cases hlt:k<n
  ·
   have hltz:(k:Int)<(n:Int):=by omega
   have hkl:k<l.length:=HL.out ▸ hlt
   obtain ⟨A0,L0,S0,R,A1,C1,A2,C2,ho,hgd,hx,hr1,hn1,hp1⟩:=HW.out
   obtain ⟨b,off,rfl,hb,hc⟩:=(HR.out.later (z8 HB1.out ho.below)) (by intro e; rw [e] at hkl; exact absurd hkl (Nat.not_lt_zero _))
   have c0:wr.cell? ⟨b,off+k * 4,none⟩=some (.int .u8 (l[k].kd:Int)):=hc k hkl 0 _ rfl
   have c1:wr.cell? ⟨b,off+k * 4+1,none⟩=some (.string l[k].nm):=hc k hkl 1 _ rfl
   have c2:wr.cell? ⟨b,off+k * 4+2,none⟩=some (.string l[k].hs):=hc k hkl 2 _ rfl
   have c3:wr.cell? ⟨b,off+k * 4+3,none⟩=some (.bool l[k].is_):=hc k hkl 3 _ rfl
   have hbv:=z7 (Below.refl wr.heap.size wr) (.cells #[.int .u8 (l[k].kd:Int),.string l[k].nm,.string l[k].hs,.bool l[k].is_] 32)
   have hbv0:=hbv
   have HDO:=za (do11_calls R _ _ l[k].kd l[k].nm l[k].hs l[k].is_ _ (ho.later hbv) hgd (by omega) H51.out (hr1.later hbv) (hn1.later hbv) hp1 (HSZ.out _ (List.getElem_mem hkl)).1 (HSZ.out _ (List.getElem_mem hkl)).2)
   have HXV:=za (hx.later hbv)
   have HAV:=za (act11_new wr l[k].kd l[k].nm l[k].hs l[k].is_)
   have x0:=HXV.out.c0
   have x1:=HXV.out.c1
   have xl:=hx.lt
   have av0:=HAV.out.c0
   have av1:=HAV.out.c1
   have av2:=HAV.out.c2
   have av3:=HAV.out.c3
   clear hc hb ho hx hr1 hn1 hp1 hgd hbv HW HAV
   generalize l[k].kd=kd at *
   generalize l[k].nm=nm at *
   generalize l[k].hs=hs at *
   generalize l[k].is_=is_ at *
   generalize List.length R=nR at *
   generalize List.length (zb S0)=nN at *
   clear hkl
   go_wp2_with fail
   with_reducible refine HDO.out.mono ?_
   rintro e w5 ⟨A5,L5,S5,R5,v1,v2,rfl,ho5,hg5,hr5,hn5,hp5,hk5,_⟩
   obtain ⟨a5,c5,rfl⟩:=hr5.rw.us.shape
   obtain ⟨a6,c6,rfl⟩:=hn5.shape
   have hx5:=HXV.out.keeps11 hk5
   have HRB5:=za (HRB.out.keeps11 ((zr.of_below hbv0).trans hk5))
   have r0:=hx5.c0
   have r1:=hx5.c1
   have rf0:=hx5.f0
   have rf1:=hx5.f1
   have HLN:Hid (Loop11 w1 D P M G Wb (k+1) ((w5.setCell ⟨Wb,0,none⟩ (.slice a5 R5.length c5)).setCell ⟨Wb,1,none⟩ (.slice a6 (zb S5).length c6))):=JF HXV.out HZB.out hk5 ho5 hg5 hr5 hn5 hp5

   have HRB6:Hid (yn ((w5.setCell ⟨Wb,0,none⟩ (.slice a5 R5.length c5)).setCell ⟨Wb,1,none⟩ (.slice a6 (zb S5).length c6)) w.heap.size (.slice none 0 0) (.slice none 0 0)):=(HRB5.out.other HNE.out _).other HNE.out _
   clear ho5 hg5 hr5 hn5 hp5 hk5 hx5 HXV HDO x0 x1 xl c0 c1 c2 c3 av0 av1 av2 av3 HRB5 HRB hbv0
   generalize List.length R5=nR5 at *
   generalize List.length (zb S5)=nN5 at *
   go_wp2
   go_roundg (n - (k+1))
   case measure=>omega
   case rel=>exact ⟨k+1,by omega,by omega,by go_num,HLN,HRB6⟩
  ·
   have hltz:¬ (k:Int)<(n:Int):=by omega
   obtain rfl:k=n:=by omega
   obtain ⟨A0,L0,S0,R,A1,C1,A2,C2,ho,hgd,hx,hr1,hn1,hp1⟩:=HW.out
   have HX:=za hx
   generalize List.length R=nR at *
   generalize List.length (zb S0)=nN at *
   have HNN:=za HNE.out
   have HFIN:Hid (Played12 w k (.returned (.tuple #[.pointer (some ⟨D,0,none⟩),.agg #[.slice A1 nR C1,.slice A2 nN C2]])) ((wr.drew.setCell ⟨w.heap.size,0,none⟩ (.slice A1 nR C1)).setCell ⟨w.heap.size,1,none⟩ (.slice A2 nN C2))):=by
    have hd:=zK (Below.refl wr.heap.size wr)
    have hb:=HRB.out.later hd
    have hkg:zQ wr.drew ((wr.drew.setCell ⟨w.heap.size,0,none⟩ (.slice A1 nR C1)).setCell ⟨w.heap.size,1,none⟩ (.slice A2 nN C2)):=(hb.keep 0 _).trans ((hb.set0 _).keep 1 _)
    exact ⟨D,_,_,_,_,_,_,_,_,rfl,P,M,G,A0,L0,S0,R,((((ho.base HB1.out).later hd).cell11 hb (Nat.le_refl _) _).cell11 (hb.set0 _) (Nat.le_refl _) _),hgd,(hr1.later hd).keepD11 hkg,(hn1.later hd).keepD11 hkg,hp1,rfl,rfl⟩
   have HRD:=za (HRB.out.later (zK (Below.refl wr.heap.size wr)))
   have HXD:=za (HX.out.later (zK (Below.refl wr.heap.size wr)))
   clear ho hgd hx hr1 hn1 hp1 HW HRB HX
   go_wp2_with fail
   generalize hwd:wr.drew=wd at *
   refine VD (by kernel_rfl) (YPd12 D (.slice A1 nR C1) (.slice A2 nN C2)) (Gp12 wd ((wd.setCell ⟨w.heap.size,0,none⟩ (.slice A1 nR C1)).setCell ⟨w.heap.size,1,none⟩ (.slice A2 nN C2))) ?F ?hF (by kernel_rfl) (by kernel_rfl) hwd ?step ?fin
   case hF =>
    intro x
    simp only [List.map_cons,List.map_nil,vc,Act.put,List.setIfInBounds_toArray,List.set_cons_zero,List.set_cons_succ,Nat.zero_add,Nat.reduceAdd]
    exact rfl
   case step =>
    refine ⟨?_,?_,?_,?_,trivial⟩
    all_goals intro L x W hL hd hG hdep K hK
    ·
     clear hdep
     go_simp
     exact hK _ _ rfl (hG.quiet 0 (by omega)) (fun _ _ h=>h)
    ·
     have q:W.cell? ⟨Wb,0,none⟩=some (.slice A1 nR C1)∧W.cell? ⟨Wb,1,none⟩=some (.slice A2 nN C2):=by
      have hx:=HXD.out
      rw [hG]
      split
      ·
       have hx2:=(hx.other (Ne.symm HNN.out) (i:=0) (.slice A1 nR C1)).other (Ne.symm HNN.out) (i:=1) (.slice A2 nN C2)
       exact ⟨hx2.c0,hx2.c1⟩
      ·
       exact ⟨hx.c0,hx.c1⟩
     have q0:=q.1
     have q1:=q.2
     clear hdep q
     go_simp
     exact hK _ _ rfl (hG.quiet 1 (by omega)) (fun _ _ h=>h)
    ·
     have h0:x 0=_:=hdep 0 rfl
     clear hdep
     simp only [h0] at hK
     go_simp
     exact hK _ _ rfl (hG.quiet 2 (by omega)) (fun _ _ h=>h)
    ·
     have h1:x 1=_:=hdep 1 rfl
     have hb:=HRD.out
     obtain rfl:=hG.ahead hL
     have z0:=hb.c0
     have z1:=hb.c1
     have f0:=hb.f0
     have f1:=hb.f1
     clear hdep hb
     simp only [h1] at hK
     go_simp
     exact hK undef _ trivial (Gp12.stored _) (fun j _ h=>YPd12_keep j _ h)
   case fin =>
    intro L x W8 hall hG hY
    have h2:x 2=.pointer (some ⟨D,0,none⟩):=hY 2 (by decide)
    have hW:W8=_:=hG
    rw [hall 3 (by decide),if_pos rfl] at hW
    have hb:=HRD.out
    have hy:=(hb.set0 (.slice A1 nR C1)).set1 (.slice A2 nN C2)
    subst hW
    have y0:=hy.c0
    have y1:=hy.c1
    have HF2:=HFIN
    clear hY hG hall hb hy HXD HRD HFIN
    rw [h2]
    go_wp2
    refine bodyPost_ret (v:=.tuple #[.pointer (some ⟨D,0,none⟩),.agg #[.slice A1 nR C1,.slice A2 nN C2]]) ?_ rfl HF2.out
    simp [results,Tryz.results33,go_sem,y0,y1]
end Go.Proofs.YtmcomnocpibiiaaGreatDoor
