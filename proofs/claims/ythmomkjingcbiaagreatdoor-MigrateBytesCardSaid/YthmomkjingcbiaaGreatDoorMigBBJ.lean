/-
  The texts that the laws of this seat share, part 10: what the code and the document's own answers tell, walked function by function.
  Conditions: each theorem's own.
-/
import Derived.Test.YthmomkjingcbiaaGreatDoorMigBBI
set_option maxHeartbeats 16000000
namespace Go.Proofs.YthmomkjingcbiaaGreatDoor
open Go.RowKit Go.Maps Go.Sort Go.Shelf

theorem V5 {α:Type} (P:α→Bool) (x:Int) (hx:x≠0) (r:Nat→Int):∀ (T:List α) (i:Nat),(∀ j (hj:j<T.length),r (i+j)=if P T[j] then 0 else x)→xZ r i T.length=if T.all P then 0 else x
 | [],_,_=>rfl
 | t::T,i,h=>by
  have h0:r i=if P t then 0 else x:=h 0 (by simp)
  have ih:=V5 P x hx r T (i+1) (fun j hj=>by
   have:=h (j+1) (by simp; omega)
   rw [show i+1+j=i+(j+1) by omega]
   exact this)
  show (if r i=0 then xZ r (i+1) T.length else r i)=_
  rw [ih,h0,List.all_cons]
  cases P t with
  | true=>simp
  | false=>simp [hx]
theorem Jv (r:Nat→Int):∀ (l:List Us) (i:Nat),(∀ j (hj:j<l.length),r (i+j)=yk 2 l[j])→xZ r i l.length=yL l
 | [],_,_=>rfl
 | u::l,i,h=>by
  have h0:r i=yk 2 u:=h 0 (by simp)
  have ih:=Jv r l (i+1) (fun j hj=>by
   have:=h (j+1) (by simp; omega)
   rw [show i+1+j=i+(j+1) by omega]
   exact this)
  show (if r i=0 then xZ r (i+1) l.length else r i)=_
  rw [ih,h0]
  rfl
theorem UF (r:Nat→Int):∀ (m i:Nat),(∀ j,i≤j→j<i+m→r j=0)→xZ r i m=0
 | 0,_,_=>rfl
 | m+1,i,h=>by
  unfold xZ
  rw [if_pos (h i (Nat.le_refl _) (by omega))]
  exact UF r m (i+1) fun j h1 h2=>h j (by omega) (by omega)
theorem ZH:∀ {l:List Us},yL l=0→∀ u∈l,yk 2 u=0
 | [],_,u,h=>by cases h
 | x::r,h,u,hu=>by
  unfold yL at h
  by_cases e:yk 2 x=0
  ·
   rw [if_pos e] at h
   rcases List.mem_cons.1 hu with rfl | hu
   ·
    exact e
   ·
    exact ZH h u hu
  ·
   rw [if_neg e] at h
   exact absurd h e
def FJ (l:List Us) (G:List ByteArray):Int:=zD [yL l,zA (zB (l.map (·.nm))) 9,zA (decide ((l.length:Int)≤12)) 7,zA (zK G) 10,zA (zB G) 9,zA (decide ((G.length:Int)≤6)) 7]
theorem first67:∀ l:List Int,xz l=zD l
 | []=>rfl
 | e::l=>by unfold xz zD; rw [first67 l]
theorem cE_of {l:List Us} {G:List ByteArray}:(FJ l G≠0→yU l G=FJ l G)∧(FJ l G=0→yU l G=yc G [] l):=by
 have h1:FJ l G=if uF l=0 then (if zK G then (if zB G then (if G.length≤6 then 0 else 7) else 9) else 10) else uF l:=by
  unfold FJ uF
  rw [first67]
  have h6:decide ((G.length:Int)≤6)=decide (G.length≤6):=by
   by_cases h:G.length≤6
   ·
    rw [decide_eq_true h,decide_eq_true (by omega)]
   ·
    rw [decide_eq_false h,decide_eq_false (by omega)]
  rw [h6]
  generalize yL l=e0
  generalize zA (zB (l.map (·.nm))) 9=e1
  generalize zA (decide ((l.length:Int)≤12)) 7=e2
  unfold zD zD zD zD
  by_cases h0:e0=0
  ·
   subst h0
   by_cases h1:e1=0
   ·
    subst h1
    by_cases h2:e2=0
    ·
     subst h2
     cases zK G <;> cases zB G <;> by_cases hG:G.length≤6 <;> simp [zA,zD,hG]
    ·
     simp [h2]
   ·
    simp [h1]
  ·
   simp [h0]
 rw [h1]
 unfold yU
 by_cases h:uF l=0
 ·
  rw [if_pos h,if_pos h]
  cases zK G <;> cases zB G <;> by_cases hG:G.length≤6 <;> simp [hG]
 ·
  rw [if_neg h,if_neg h]
  exact ⟨fun _=>rfl,fun h'=>absurd h' h⟩
theorem Vf {l:List Us} {G:List ByteArray} (h:FJ l G=0):(∀ u∈l,yk 2 u=0)∧zB (l.map (·.nm))=true∧l.length≤12∧zK G=true∧zB G=true∧G.length≤6:=by
 unfold FJ at h
 have hz:=ym h
 refine ⟨ZH (hz _ (by simp)),yN (n:=9) (by decide) (hz _ (by simp)),?_,yN (n:=10) (by decide) (hz _ (by simp)),yN (n:=9) (by decide) (hz (zA (zB G) 9) (by simp)),?_⟩
 ·
  have:=yN (n:=7) (by decide) (hz (zA (decide ((l.length:Int)≤12)) 7) (by simp))
  rw [decide_eq_true_eq] at this
  omega
 ·
  have:=yN (n:=7) (by decide) (hz (zA (decide ((G.length:Int)≤6)) 7) (by simp))
  rw [decide_eq_true_eq] at this
  omega
theorem Qq (l:List Us):(l.map fun u=>Value.string u.nm)=zr (l.map (·.nm)):=by unfold zr; rw [List.map_map]; rfl

set_option maxRecDepth 100000 in
theorem ZC (A:Option Addr) (c n:Nat) (l:List Us) (w:World) (hl:n=l.length) (hn:n≤1000) (hr:uz w A l) :
  Calls Tryz.prog 111 #[.slice A n c] w fun e w'=>∃ A2 c2,e=.returned (.slice A2 n c2)∧RdS w' A2 (l.map (·.nm))∧Below w.heap.size w w':=by
 obtain ⟨i0,hi,hz0,hz1,hz2⟩:=info_parts Um
 have HR:=z8 hr
 have HL:=z8 hl
 have HN:Hid (w.ownsRow w.heap.size 9 1 (.slice none 0 0) 0 ((l.take 0).map fun u=>Value.string u.nm)):=World.ownsRow_nil _ _ _ _
 clear hr hl
 go_enter Tryz.func111,Tryz.ntmps111
 go_wp2
 go_loopg [3,5,8] n (fun gg s3 _ s8 wr=>∃ k:Nat,k≤n∧n - k≤gg∧s8=.int .i64 k∧Hid (Below w.heap.size w wr)∧Hid (wr.ownsRow w.heap.size 9 1 s3 k ((l.take k).map fun u=>Value.string u.nm)))
 case atStart=>exact ⟨0,Nat.zero_le _,by omega,rfl,Below.refl _ _,HN.out⟩
 case round =>
  clear HN
  obtain ⟨k,hk,hg,rfl,HW,HO⟩:=hrel
  by_cases hlt:k<n
  ·
   have hltz:(k:Int)<(n:Int):=by omega
   have hkl:k<l.length:=HL.out ▸ hlt
   obtain ⟨b,off,rfl,hb,hc⟩:=(HR.out.later HW.out) (by intro e; rw [e] at hkl; exact absurd hkl (Nat.not_lt_zero _))
   have c0:wr.cell? ⟨b,off+k * 5,none⟩=some (.string l[k].nm):=hc k hkl 0 _ rfl
   have c1:wr.cell? ⟨b,off+k * 5+1,none⟩=some (.string l[k].hs):=hc k hkl 1 _ rfl
   have c2:wr.cell? ⟨b,off+k * 5+2,none⟩=some (.string l[k].ml):=hc k hkl 2 _ rfl
   have c3:wr.cell? ⟨b,off+k * 5+3,none⟩=some (.bool l[k].dis):=hc k hkl 3 _ rfl
   have c4:wr.cell? ⟨b,off+k * 5+4,none⟩=some (.slice l[k].ga l[k].gs.length l[k].gc):=hc k hkl 4 _ rfl
   have HU2:=z8 (HO.out.alloc (.cells #[.string l[k].nm,.string l[k].hs,.string l[k].ml,.bool l[k].dis,.slice l[k].ga l[k].gs.length l[k].gc] 47))
   have HW2:=z8 (z7 HW.out (za (Below.refl wr.heap.size wr) (.cells #[.string l[k].nm,.string l[k].hs,.string l[k].ml,.bool l[k].dis,.slice l[k].ga l[k].gs.length l[k].gc] 47)))
   have HT:Hid (((l.take (k+1)).map fun u=>Value.string u.nm)=((l.take k).map fun u=>Value.string u.nm)++[.string l[k].nm]):=by
    show _=_
    rw [List.take_succ_eq_append_getElem hkl,List.map_append]
    rfl
   have hsz:=HW.out.size
   clear hc hb HO HW
   generalize l[k].nm=nm at *
   generalize l[k].hs=hs at *
   generalize l[k].ml=ml at *
   generalize l[k].dis=dis at *
   generalize l[k].ga=ga at *
   generalize l[k].gs.length=gl at *
   generalize l[k].gc=gc at *
   go_wp2_with (first
    | (at_builtin; refine wpList_append_own _ rfl _ _ 45 rfl w.heap.size 9 i0 (.string ⟨#[]⟩) 1 16 Tryz.underlying45 hi hz0 hz1 hz2 rfl (by decide) _ _ _ rfl (HU2.out.alloc _) ⟨wr.heap.size+1,0,none⟩ 1 1 [.string nm] rfl rfl (fun j u hu=>by rw [Addr.add_lit,Nat.zero_add,World.cell?_alloc_at _ _ _ _ (by simp)]; simpa using hu) (by simp [Value.oneCell']) (by unfold maxLen; omega) (by omega) (by simp; omega) ?_; intro v2 w2 hown' hgrow _; have HOw2:=z8 hown'; have HGw2:=z8 hgrow; clear hown' hgrow)
    | fail)
   have R1:=z8 (app10 HW2.out HU2.out HGw2.out)
   have R2:Hid (w2.ownsRow w.heap.size 9 1 v2 (k+1) ((l.take (k+1)).map fun u=>Value.string u.nm)):=by
    show World.ownsRow _ _ _ _ _ _ _
    rw [HT.out]
    exact HOw2.out
   clear HT HOw2 HGw2 HU2 HW2
   go_roundg (n - (k+1))
   case measure=>omega
   case rel=>exact ⟨k+1,by omega,by omega,by go_num,R1,R2⟩
  ·
   have hltz:¬ (k:Int)<(n:Int):=by omega
   obtain rfl:k=n:=by omega
   have hown:=HO.out
   rw [List.take_of_length_le (by have:=HL.out; omega)] at hown
   have hsh:∃ A2 c2,u3=.slice A2 k c2∧RdS wr A2 (l.map (·.nm)):=by
    have hk':k=(l.map (·.nm)).length:=by rw [List.length_map]; exact HL.out
    have hs:∃ A2 c2,u3=.slice A2 k c2:=by
     have e:(l.map fun u=>Value.string u.nm)=(l.map fun u=>u.nm.data.toList).map encStr:=by
      rw [List.map_map]
      refine List.map_congr_left fun u _=>?_
      exact (V6 u.nm).symm
     rw [e] at hown
     have hk2:k=(l.map fun u=>u.nm.data.toList).length:=by rw [List.length_map]; exact HL.out
     rw [hk2] at hown ⊢
     exact uD hown
    obtain ⟨A2,c2,rfl⟩:=hs
    refine ⟨A2,c2,rfl,?_⟩
    have h2:=zx hown (Nat.zero_le _)
    rw [Qq] at h2
    rw [hk'] at h2
    exact YV h2
   obtain ⟨A2,c2,rfl,hrd⟩:=hsh
   have HF:=z8 hrd
   have HB:=z8 HW.out
   clear hrd hown HO HW
   go_wp2
   go_ret
   exact ⟨A2,⟨c2,rfl⟩,HF.out,HB.out⟩
set_option maxRecDepth 100000 in
theorem fD (Aa:Option Addr) (n c:Nat) (ss:List ByteArray) (w:World) (hl:n=ss.length) (hr:RdS w Aa ss) (hm:n≤9223372036854775807) :
  Calls Tryz.prog 110 #[.slice Aa n c] w fun e w'=>e=.returned (.int .i64 (zA (zB ss) 9))∧∃ q,w'=w.drewN q:=by
 have HR:=z8 hr
 have HL:=z8 hl
 clear hr hl
 obtain ⟨r,hr⟩:∃ r,r=zA (zB ss) 9:=⟨_,rfl⟩
 rw [← hr]
 have HE:=z8 hr
 clear hr
 go_enter Tryz.func110,Tryz.ntmps110
 go_wp2
 go_loopg [3] n (fun gg s3 wr=>∃ k:Nat,(k≤n∨k=1)∧1≤k∧n - k≤gg∧s3=.int .i64 k∧(∃ q,wr=w.drewN q)∧Hid (∀ j (h:j+1<ss.length),j+1<k→zv ss[j] ss[j+1]=true))
 case atStart=>exact ⟨1,.inr rfl,Nat.le_refl _,by omega,rfl,⟨0,rfl⟩,fun j _ hj=>absurd hj (by omega)⟩
 case round =>
  obtain ⟨k,hk,hk1,hg,rfl,⟨q,hq⟩,A⟩:=hrel
  have HQ:=z8 hq
  have HW:Hid (RdS wr Aa ss):=by rw [hq]; exact HR.out.below (zn (Below.refl w.heap.size w) q)
  clear hq
  by_cases hlt:k<n
  ·
   have hltz:(k:Int)<(n:Int):=by omega
   have hkl:k<ss.length:=HL.out ▸ hlt
   have hkl':k - 1<ss.length:=by omega
   obtain ⟨b,off,hA,hcell⟩:=HW.out.at6 k hkl
   obtain ⟨b',off',hA',hcell'⟩:=HW.out.at6 (k - 1) hkl'
   obtain ⟨rfl,rfl⟩:b'=b∧off'=off:=by
    rw [hA] at hA'
    simp at hA'
    exact ⟨hA'.1.symm,hA'.2.symm⟩
   subst hA
   have zk:(k:Int) - 1=((k - 1:Nat):Int):=by omega
   have z1:((k - 1:Nat):Int)<(n:Int):=by omega
   have hcw:∀ i,(wr.drewN i).cell? ⟨b',off'+k,none⟩=some (.string ss[k]):=fun i=>hcell
   have hcw':∀ i,(wr.drewN i).cell? ⟨b',off'+(k - 1),none⟩=some (.string ss[k - 1]):=fun i=>hcell'
   have HX:Hid (zv ss[k - 1] ss[k]=true→∀ j (h:j+1<ss.length),j+1<k+1→zv ss[j] ss[j+1]=true):=fun hq j h hj=>by
    by_cases e:j=k - 1
    ·
     subst e
     have e2:k - 1+1=k:=by omega
     have:ss[k - 1+1]=ss[k]:=by congr 1
     rw [this]; exact hq
    ·
     exact A.out j h (by omega)
   have HF:Hid (zv ss[k - 1] ss[k]=false→r=9):=fun hf=>by
    rw [HE.out]
    have:zB ss=false:=xJ ss (k - 1) (by omega) (by
     have:ss[k - 1+1]=ss[k]:=by congr 1; omega
     rw [this]; exact hf)
    rw [this]; rfl
   have HC:Hid (∀ W,Calls Tryz.prog 138 #[.string ss[k - 1],.string ss[k]] W fun e w'=>e=.returned (.int .i64 (Lib.compareBytes ss[k - 1].data.toList ss[k].data.toList))∧w'=W):=fun W=>vz _ _ W
   have HD:Hid (zv ss[k - 1] ss[k]=decide (Lib.compareBytes ss[k - 1].data.toList ss[k].data.toList<0)):=rfl
   generalize Lib.compareBytes ss[k - 1].data.toList ss[k].data.toList=cm at *
   generalize zv ss[k - 1] ss[k]=q6 at *
   generalize ss[k]=x at *
   generalize ss[k - 1]=y at *
   clear A hcell hcell'
   have hwr:IntKind.i64.wrap ((k - 1:Nat):Int)=((k - 1:Nat):Int):=IntWalk.i64_in _ (by omega)
   by_cases hc:cm<0
   ·
    have hq:q6=true:=by rw [HD.out,decide_eq_true hc]
    have HY:=z8 (HX.out hq)
    have hcd:decide (cm ≥ 0)=false:=decide_eq_false (by omega)
    have hc2:¬ cm ≥ 0:=by omega
    have hc3:¬ 0≤cm:=by omega
    clear HX HF HD hq
    go_wp2
    go_quiet (first | (go_at_call 138; exact Calls.quiet_of_same (HC.out _)))
    go_wp2
    go_roundg (n - (k+1))
    case measure=>omega
    case rel=>exact ⟨k+1,.inl (by omega),by omega,by omega,by go_num,⟨q+nq,by rw [HQ.out,World.drewN_drewN]⟩,HY⟩
   ·
    have hq:q6=false:=by rw [HD.out,decide_eq_false hc]
    have hr9:r=9:=HF.out hq
    subst hr9
    have hc2:cm ≥ 0:=by omega
    have hc3:0≤cm:=by omega
    clear HX HF HD hq
    go_wp2
    go_quiet (first | (go_at_call 138; exact Calls.quiet_of_same (HC.out _)))
    go_wp2
    go_ret
    exact ⟨rfl,q+nq,by rw [HQ.out,World.drewN_drewN]⟩
  ·
   have hltz:¬ (k:Int)<(n:Int):=by omega
   have hr0:r=0:=by
    rw [HE.out]
    have:zB ss=true:=xK ss (fun j h=>A.out j h (by have:=HL.out; omega))
    rw [this]; rfl
   subst hr0
   clear A
   go_wp2
   go_ret
   exact ⟨rfl,q,HQ.out⟩


/-! ### a user is added -/
def YJn11 (D G C1:Nat) (g n:ByteArray):Nat→Value→Prop
 | 2,v=>v=.pointer (some ⟨D,2,none⟩)
 | 3,v=>v=.pointer (some ⟨G,0,none⟩)
 | 4,v=>v=.string g
 | 5,v=>v=.pointer (some ⟨C1,0,none⟩)
 | 6,v=>v=.string n
 | _,v=>v=.pointer (some ⟨D,0,none⟩)
def YJnW11 (D G C1:Nat) (g n:ByteArray) (j:Nat) (v:Value) (_:World):Prop:=YJn11 D G C1 g n j v
section
variable {w0 w:World} {D P M G:Nat} {A:zW} {L:zq} {S:zw} {k:Nat}
set_option maxRecDepth 100000 in
theorem Yx (C0 C1:Nat) (g n:ByteArray) (ho:zH w0 w D P M G A L S) (hk:yz S k) (h9:k≤900) (hc0:w.cell? ⟨C0,0,none⟩=some (.pointer (some ⟨D,0,none⟩))) (hc1:w.cell? ⟨C1,0,none⟩=some (.string n)) (hg:g.size≤9223372036854775807) (hn:n.size≤9223372036854775807) :
  Calls Tryz.prog 202 #[.string g,.pointer (some ⟨C0,0,none⟩),.pointer (some ⟨C1,0,none⟩)] w fun e w'=>e=.returned (.int .i64 (jL S g.data.toList n.data.toList))∧yR w0 w D P M G A L (je S g.data.toList n.data.toList) w':=by
 have HO:=z8 ho
 have HST:Hid (∀ W,Below w.heap.size w W→Calls Tryz.prog 162 #[.pointer (some ⟨G,0,none⟩),.string g,.string n] W fun e w'=>e=.returned (.int .i64 (jL S g.data.toList n.data.toList))∧yR w0 w D P M G A L (je S g.data.toList n.data.toList) w'):=fun W hb =>
  ((ho.later hb).gjoin hk h9 g n hg hn).mono fun e w' ⟨he,hgo⟩=>⟨he,hgo.ahead hb⟩
 have HC0:Hid (∀ W,Below w.heap.size w W→W.cell? ⟨C0,0,none⟩=some (.pointer (some ⟨D,0,none⟩))):=fun W hb=>(hb.cell (p:=⟨C0,0,none⟩) (World.block_lt_of_cell? w _ hc0)).trans hc0
 have HC1:Hid (∀ W,Below w.heap.size w W→W.cell? ⟨C1,0,none⟩=some (.string n)):=fun W hb=>(hb.cell (p:=⟨C1,0,none⟩) (World.block_lt_of_cell? w _ hc1)).trans hc1
 clear ho hk h9 hc0 hc1 hg hn
 generalize jL S g.data.toList n.data.toList=r at *
 generalize je S g.data.toList n.data.toList=S' at *
 go_enter Tryz.func202,Tryz.ntmps202
 go_wp2_with fail
 refine xa (by kernel_rfl) 7 (fun W=>Below w.heap.size w W) (fun W=>yR w0 w D P M G A L S' W) (YJnW11 D G C1 g n) (fun v=>v=.int .i64 r) ?F ?hF (by kernel_rfl) (by kernel_rfl) (by kernel_rfl) (by kernel_rfl) (by decide) (zy (Below.refl _ _)) ?step ?fin
 case hF =>
  intro x
  simp only [List.map_cons,List.map_nil,xc,Act.put,List.setIfInBounds_toArray,List.set_cons_zero,List.set_cons_succ,Nat.zero_add,Nat.reduceAdd]
  exact rfl
 case step =>
  refine ⟨?_,?_,?_,?_,?_,?_,?_,?_,?_,trivial⟩
  ·
   intro x W
   refine ⟨fun _ hW hdep K hK=>?_,(fun h=>absurd h (by decide)),(fun h=>absurd h (by decide))⟩
   have c:=HC0.out W hW
   clear hdep
   go_simp
   exact hK _ _ rfl hW (fun _ _ h=>h)
  ·
   intro x W
   refine ⟨fun _ hW hdep K hK=>?_,(fun h=>absurd h (by decide)),(fun h=>absurd h (by decide))⟩
   have h0:x 0=_:=hdep 0 rfl
   clear hdep
   simp only [h0] at hK
   go_simp
   exact hK _ _ rfl hW (fun _ _ h=>h)
  ·
   intro x W
   refine ⟨fun _ hW hdep K hK=>?_,(fun h=>absurd h (by decide)),(fun h=>absurd h (by decide))⟩
   have h1:x 1=_:=hdep 1 rfl
   clear hdep
   simp only [h1] at hK
   go_simp
   exact hK _ _ rfl hW (fun _ _ h=>h)
  ·
   intro x W
   refine ⟨fun _ hW hdep K hK=>?_,(fun h=>absurd h (by decide)),(fun h=>absurd h (by decide))⟩
   have h2:x 2=_:=hdep 2 rfl
   have c:=(HO.out.later hW).c2
   clear hdep
   simp only [h2] at hK
   go_simp
   exact hK _ _ rfl hW (fun _ _ h=>h)
  ·
   intro x W
   refine ⟨fun _ hW hdep K hK=>?_,(fun h=>absurd h (by decide)),(fun h=>absurd h (by decide))⟩
   clear hdep
   go_simp
   exact hK _ _ rfl hW (fun _ _ h=>h)
  ·
   intro x W
   refine ⟨fun _ hW hdep K hK=>?_,(fun h=>absurd h (by decide)),(fun h=>absurd h (by decide))⟩
   clear hdep
   go_simp
   exact hK _ _ rfl hW (fun _ _ h=>h)
  ·
   intro x W
   refine ⟨fun _ hW hdep K hK=>?_,(fun h=>absurd h (by decide)),(fun h=>absurd h (by decide))⟩
   have h5:x 5=_:=hdep 5 rfl
   have c:=HC1.out W hW
   clear hdep
   simp only [h5] at hK
   go_simp
   exact hK _ _ rfl hW (fun _ _ h=>h)
  ·
   intro x W
   refine ⟨(fun h=>absurd h (by decide)),fun _ hW hdep K hK=>?_,(fun h=>absurd h (by decide))⟩
   have h3:x 3=_:=hdep 3 rfl
   have h4:x 4=_:=hdep 4 rfl
   have h6:x 6=_:=hdep 6 rfl
   have hc:=HST.out W hW
   clear hdep
   simp only [h3,h4,h6] at hK
   go_simp
   refine hc.mono ?_
   rintro e W' ⟨rfl,hg⟩
   exact hK _ _ rfl hg
  ·
   intro x W
   refine ⟨(fun h=>absurd h (by decide)),(fun h=>absurd h (by decide)),fun _ hW hdep K hK=>?_⟩
   have h7:x 7=_:=hdep 7 rfl (by decide)
   clear hdep
   simp only [h7] at hK
   go_simp
   exact hK _ rfl
 case fin =>
  intro x W hW hZ
  have h8:x 8=.int .i64 r:=hZ 8 (by decide) (by decide)
  have HF:=z8 hW
  clear hW hZ HST HO HC0 HC1
  rw [h8]
  go_wp2
  go_ret
  exact ⟨rfl,HF.out⟩
def Jn11 (w0 w1:World) (D P M G:Nat) (A:zW) (L:zq) (S:zw) (u:Us) (N:List (List UInt8)) (i:Nat) (W:World):Prop :=
 zH w0 W D P M G A L (vp S u.nm.data.toList (u.gs.take i))∧yq w1 W∧∀ g∈u.gs.take i,qg N g.data.toList=true
theorem ZJ {w1 W:World} {b:Nat} {c:Array Value} {T:TypeId} {fr:Nat×Nat} (h:yq w1 W) (hb:w1.heap[b]? = some (.cells c T fr)) (h1:T≠108) (h2:T≠164) (h3:T≠167) (j:Nat):W.cell? ⟨b,j,none⟩=w1.cell? ⟨b,j,none⟩:=by
 have:=h b c T fr hb h1 h2 h3
 unfold World.cell?
 rw [this,hb]
set_option maxRecDepth 100000 in
theorem J0 {pre:List Us} {Gs:List ByteArray} (u:Us) (ho:zH w0 w D P M G A L S) (hg:Yc A L S pre Gs k) (h9:k≤800) (hc:yk 2 u=0) (hup:∀ v∈pre,bytesBefore v.nm.data.toList u.nm.data.toList=true) (h12:pre.length<12) (hu:u.Ok w0) (h5:vm w0) :
  Calls Tryz.prog 115 #[.pointer (some ⟨D,0,none⟩),.agg #[.string u.nm,.string u.hs,.string u.ml,.bool u.dis,.slice u.ga u.gs.length u.gc]] w fun e w'=>e=.returned (.int .i64 (yQ Gs pre u)) ∧
   (yQ Gs pre u=0→zH w0 w' D P M G (xA A u.nm.data.toList (u.hs.data.toList,u.dis)) (VA L u.nm.data.toList u.ml.data.toList) (vp S u.nm.data.toList u.gs))∧(yQ Gs pre u≠0→Below w0.heap.size w0 w'):=by
 obtain ⟨_,hn5,hh5⟩:=ql hc
 obtain ⟨hfo,h6,hns,hri⟩:=Ve hc
 have hN:ze S=xP Gs:=hg.1.2.2
 have hst:=step11 hg u hc hup h12
 have hL:=hg.2
 have hAl:=hg.len
 have hfr:=hg.fresh hup
 have hG10:=hg.1.1.grp
 obtain ⟨w1,hw1⟩:∃ w1,w1=(w.alloc (.cells #[.pointer (some ⟨D,0,none⟩)] 39)).alloc (.cells #[.string u.nm,.string u.hs,.string u.ml,.bool u.dis,.slice u.ga u.gs.length u.gc] 47):=⟨_,rfl⟩
 have hb1:Below w.heap.size w w1:=by rw [hw1]; exact za (za (Below.refl _ _) _) _
 have ka:(w.alloc (.cells #[.pointer (some ⟨D,0,none⟩)] 39)).heap[w.heap.size]? = some (.cells #[.pointer (some ⟨D,0,none⟩)] 39 (0,0)):=(MapKept.heap_alloc w _).1
 have ks:(w.alloc (.cells #[.pointer (some ⟨D,0,none⟩)] 39)).heap.size=w.heap.size+1:=by simp
 have k0:w1.heap[w.heap.size]? = some (.cells #[.pointer (some ⟨D,0,none⟩)] 39 (0,0)):=by rw [hw1]; exact ((za (Below.refl _ _) _).block w.heap.size (by omega)).trans ka
 have k1:w1.heap[w.heap.size+1]? = some (.cells #[.string u.nm,.string u.hs,.string u.ml,.bool u.dis,.slice u.ga u.gs.length u.gc] 47 (0,0)):=by rw [hw1,← ks]; exact (MapKept.heap_alloc _ _).1
 have hcell0:∀ W,yq w1 W→W.cell? ⟨w.heap.size,0,none⟩=some (.pointer (some ⟨D,0,none⟩)):=fun W hk=>(ZJ hk k0 (by decide) (by decide) (by decide) 0).trans (by simp [World.cell?,k0])
 have hcell1:∀ W j,yq w1 W→W.cell? ⟨w.heap.size+1,j,none⟩=(#[.string u.nm,.string u.hs,.string u.ml,.bool u.dis,.slice u.ga u.gs.length u.gc]:Array Value)[j]? := fun W j hk=>(ZJ hk k1 (by decide) (by decide) (by decide) j).trans (by simp [World.cell?,k1])
 have hI0:Jn11 w0 w1 D P M G A L S u (xP Gs) 0 w1:=⟨ho.later hb1,yq.refl _,fun g hg=>by simp at hg⟩
 have hE:=uf 202 #[] #[.pointer (some ⟨w.heap.size,0,none⟩),.pointer (some ⟨w.heap.size+1,0,none⟩)] u.ga u.gs.length u.gc u.gs w1 (fun i=>if h:i<u.gs.length then (if qg (xP Gs) u.gs[i].data.toList then 0 else 8) else 0) (Jn11 w0 w1 D P M G A L S u (xP Gs)) (fun W=>Below w0.heap.size w0 W) rfl (Nat.le_trans hu.len hu.cap)
  (enters_of Tryz.func202 (by kernel_rfl) rfl) hI0 (fun i W hI=>hu.rd.below hI.1.below) (fun i hi W hI=>by
   obtain ⟨h1,h2,h3⟩:=hI
   have hJ:=XS hG10 hn5 hns hri hfr i (Nat.le_of_lt hi) (fun g hg=>by rw [hN]; exact h3 g hg)
   have hj:=Jn hi hJ hn5 hns hri hfr
   rw [hN] at hj
   refine (Yx w.heap.size (w.heap.size+1) u.gs[i] u.nm h1 hJ.good (by omega) (hcell0 W h2) (by rw [hcell1 W 0 h2]; rfl) (hu.all _ (List.getElem_mem hi)) (Nat.le_trans hu.nm (by decide))).mono ?_
   rintro e w' ⟨he,hgo⟩
   rw [dif_pos hi]
   rw [hj] at he
   refine ⟨he,fun h0=>?_,fun _=>hgo.1.below⟩
   refine ⟨by rw [X7 S _ hi]; exact hgo.1,h2.trans hgo.2,fun g hg=>?_⟩
   rw [List.take_succ_eq_append_getElem hi,List.mem_append] at hg
   rcases hg with hg | hg
   ·
    exact h3 g hg
   ·
    rw [List.mem_singleton] at hg
    subst hg
    by_cases hh:qg (xP Gs) u.gs[i].data.toList=true
    ·
     exact hh
    ·
     rw [if_neg hh] at h0; exact absurd h0 (by decide))
 have hev:xZ (fun i=>if h:i<u.gs.length then (if qg (xP Gs) u.gs[i].data.toList then 0 else 8) else 0) 0 u.gs.length=if u.gs.all (fun g=>qg (xP Gs) g.data.toList) then 0 else 8 :=
  V5 (fun g:ByteArray=>qg (xP Gs) g.data.toList) 8 (by decide) _ u.gs 0 (fun j hj=>by
   simp only [Nat.zero_add]
   rw [dif_pos hj])
 rw [hev] at hE
 have hone:yQ Gs pre u=if u.gs.all (fun g=>qg (xP Gs) g.data.toList) then (if pre.any (fun v=>!(u.ml.data.toList == []) && (u.ml.data.toList == v.ml.data.toList)) then 9 else 0) else 8:=rfl
 obtain ⟨r,hr⟩:∃ r,r=yQ Gs pre u:=⟨_,rfl⟩
 rw [← hr]
 rw [hone] at hr
 have HRR:=z8 hr
 clear hr
 have HE:=z8 hE
 have HNS:u.nm.size≤1000:=Qr hn5
 have HHS:u.hs.size≤1000:=Qz hh5
 have HML:u.ml.size≤9223372036854775807:=Nat.le_trans hu.ml (by decide)
 have HPUT:Hid (∀ W,zH w0 W D P M G A L (vp S u.nm.data.toList u.gs)→Calls Tryz.prog 119 #[.pointer (some ⟨D,0,none⟩),.string u.nm,.agg #[.string u.hs,.bool u.dis]] W fun e w'=>e=.returned (.tuple #[])∧yR w0 W D P M G (xA A u.nm.data.toList (u.hs.data.toList,u.dis)) L (vp S u.nm.data.toList u.gs) w'):=fun W h=>Qi u.nm u.hs u.dis h (by omega) HNS HHS
 have HPM:Hid (∀ W,zH w0 W D P M G (xA A u.nm.data.toList (u.hs.data.toList,u.dis)) L (vp S u.nm.data.toList u.gs)→Calls Tryz.prog 148 #[.pointer (some ⟨D,0,none⟩),.string u.nm,.string u.ml] W fun e w'=>e=.returned (.int .i64 (qO L u.nm.data.toList u.ml.data.toList))∧yR w0 W D P M G (xA A u.nm.data.toList (u.hs.data.toList,u.dis)) (VA L u.nm.data.toList u.ml.data.toList) (vp S u.nm.data.toList u.gs) w'):=fun W h =>
  Zw u.nm u.ml h (by omega) (h5.later h.below) HNS HML
 have HCL0:=z8 hcell0
 have HCL1:=z8 hcell1
 have HST:=z8 hst
 have hmf:=mkf
 clear hst hE hI0 hcell0 hcell1 hone hev hN hL hAl hfr hG10 hg hc hup h12 hu h5 hn5 hh5 hfo h6 hns hri HNS HHS HML h9 ho
 generalize (pre.any fun v=>!(u.ml.data.toList == []) && (u.ml.data.toList == v.ml.data.toList))=pm at *
 have hen1:(Tryz.prog.funcs[115]?).isSome=true:=by kernel_rfl
 clear hen1
 rw [hw1] at HE
 go_enter Tryz.func115,Tryz.ntmps115
 go_wp2_with fail
 with_reducible refine HE.out.mono ?_
 rw [← hw1]
 rintro e w2 ⟨rfl,hok,hbad⟩
 clear HE
 cases hall:u.gs.all (fun g=>qg (xP Gs) g.data.toList) with
 | false =>
  rw [hall] at hbad
  have HF:=z8 (hbad (by decide))
  obtain rfl:r=8:=by have:=HRR.out; rw [hall] at this; exact this
  clear hok hbad
  go_wp2
  go_ret
  exact ⟨rfl,fun h=>absurd h (by decide),fun _=>HF.out⟩
 | true =>
  rw [hall] at hok
  obtain ⟨j1,j2,_⟩:=hok rfl
  rw [List.take_length] at j1
  have hst2:=HST.out hall
  obtain rfl:r=qO L u.nm.data.toList u.ml.data.toList:=by
   have:=HRR.out
   rw [hall,if_pos rfl] at this
   rw [this]
   exact hst2.1.symm
  have HO:=z8 j1
  have HK:=z8 j2
  have HP2:=z8 (HPUT.out w2 j1)
  have d0:=HCL0.out w2 j2
  have d1:w2.cell? ⟨w.heap.size+1,0,none⟩=some (.string u.nm):=HCL1.out w2 0 j2
  have d2:w2.cell? ⟨w.heap.size+1,1,none⟩=some (.string u.hs):=HCL1.out w2 1 j2
  have d3:w2.cell? ⟨w.heap.size+1,3,none⟩=some (.bool u.dis):=HCL1.out w2 3 j2
  clear hok hbad j1 j2 hst2 HPUT HST HO HRR
  go_wp2_with fail
  with_reducible refine HP2.out.mono ?_
  rintro e w3 ⟨rfl,hgo⟩
  have hk3:=HK.out.trans hgo.2
  have HP3:=z8 (HPM.out w3 hgo.1)
  have e0:=HCL0.out w3 hk3
  have e1:w3.cell? ⟨w.heap.size+1,0,none⟩=some (.string u.nm):=HCL1.out w3 0 hk3
  have e2:w3.cell? ⟨w.heap.size+1,2,none⟩=some (.string u.ml):=HCL1.out w3 2 hk3
  clear hgo hk3 HP2 HK HPM d0 d1 d2 d3
  go_wp2_with fail
  with_reducible refine HP3.out.mono ?_
  rintro e w4 ⟨rfl,hgo⟩
  have HF:=z8 hgo.1
  clear hgo HP3 e0 e1 e2
  go_wp2
  go_ret
  exact ⟨rfl,fun _=>HF.out,fun _=>HF.out.below⟩
end

/-! ### Of -/
def Of11 (l:List Us) (G:List ByteArray) (w:World) (e:Ending) (w':World):Prop :=
 (yU l G≠0∧e=.returned (.tuple #[.pointer none,.int .i64 (yU l G)])∧Below w.heap.size w w') ∨
 (yU l G=0∧∃ D P M Gr A L S k,e=.returned (.tuple #[.pointer (some ⟨D,0,none⟩),.int .i64 0])∧zH w w' D P M Gr A L S∧Yc A L S l G k∧k≤200)
section
variable {w:World} {A A2:Option Addr} {c c2 n m:Nat} {l:List Us} {G:List ByteArray}
theorem XI (W:World) (hb:Below w.heap.size w W) (hl:n=l.length) (hn:n≤1000) (hr:uz w A l) (ho:∀ u∈l,u.Ok w) (h5:vm w) :
  Calls Tryz.prog 108 #[.slice A n c,.func (.func 109) #[] #[]] W (yi (yL l) W):=by
 have h:=qR 109 #[] #[] A n c l W (fun i=>if h:i<l.length then yk 2 l[i] else 0) (fun _ W'=>Below W.heap.size W W') (fun W'=>Below W.heap.size W W') hl (by omega)
  (enters_of Tryz.func109 (by kernel_rfl) rfl) (Below.refl _ _) (fun i W' hb'=>hr.later (z7 hb hb')) (fun i W' hb' o=>z7 hb' (za (Below.refl _ _) _))
  (fun i hi W' hb'=>(XP l[i] W' ((ho _ (List.getElem_mem hi)).below (z7 hb hb')) (h5.later (z7 hb hb'))).mono fun e w' ⟨he,hb2⟩=>⟨by rw [he,dif_pos hi],fun _=>z7 hb' hb2,fun _=>z7 hb' hb2⟩)
 rw [show xZ (fun i=>if h:i<l.length then yk 2 l[i] else 0) 0 n=yL l by
  rw [hl]; exact Jv _ l 0 (fun j hj=>by simp only [Nat.zero_add]; rw [dif_pos hj])] at h
 refine h.mono ?_
 rintro e w' ⟨he,h1,h2⟩
 refine ⟨he,?_⟩
 by_cases h0:yL l=0
 ·
  exact h1 h0
 ·
  exact h2 h0
theorem Yo (W:World) (hb:Below w.heap.size w W) (hm:m=G.length) (hm1:m≤1000) (hg:RdS w A2 G) (hgs:∀ g∈G,g.size≤9223372036854775807) :
  Calls Tryz.prog 113 #[.slice A2 m c2,.func (.func 52) #[] #[]] W (yi (zA (zK G) 10) W):=by
 have h:=uf 52 #[] #[] A2 m c2 G W (fun i=>if h:i<G.length then zA (zm G[i].data.toList) 10 else 0) (fun _ W'=>Below W.heap.size W W') (fun W'=>Below W.heap.size W W') hm (by omega)
  (enters_of Tryz.func52 (by kernel_rfl) rfl) (Below.refl _ _) (fun i W' hb'=>hg.below (z7 hb hb'))
  (fun i hi W' hb'=>(vD G[i] W' (hgs _ (List.getElem_mem hi))).mono fun e w' ⟨he,hb2⟩=>⟨by rw [he,dif_pos hi],fun _=>z7 hb' hb2,fun _=>z7 hb' hb2⟩)
 rw [show xZ (fun i=>if h:i<G.length then zA (zm G[i].data.toList) 10 else 0) 0 m=zA (zK G) 10 by
  rw [hm]; exact V5 (fun g:ByteArray=>zm g.data.toList) 10 (by decide) _ G 0 (fun j hj=>by simp only [Nat.zero_add]; rw [dif_pos hj]; rfl)] at h
 refine h.mono ?_
 rintro e w' ⟨he,h1,h2⟩
 refine ⟨he,?_⟩
 by_cases h0:zA (zK G) 10=0
 ·
  exact h1 h0
 ·
  exact h2 h0
theorem Yp (D P M Gr:Nat) (W:World) (hown:zH w W D P M Gr [] [] []) (hm:m=G.length) (h6:G.length≤6) (hn6:zK G=true) (hr6:zB G=true) (hg:RdS w A2 G) (hgs:∀ g∈G,g.size≤9223372036854775807) :
  Calls Tryz.prog 113 #[.slice A2 m c2,.func (.func 114) #[.pointer (some ⟨Gr,0,none⟩)] #[]] W fun e w'=>e=.returned (.int .i64 0)∧∃ S,zH w w' D P M Gr [] [] S∧ya [] [] S m∧ze S=xP G:=by
 have h:=uf 114 #[.pointer (some ⟨Gr,0,none⟩)] #[] A2 m c2 G W (fun _=>0) (fun i W'=>∃ S,zH w W' D P M Gr [] [] S∧ya [] [] S i∧ze S=xP (G.take i)) (fun _=>True) hm (by omega)
  (enters_of Tryz.func114 (by kernel_rfl) rfl) ⟨[],hown,ya.nil,rfl⟩ (fun i W' ⟨_,h1,_⟩=>hg.below h1.below)
  (fun i hi W' ⟨S,h1,h2,h3⟩=>by
   obtain ⟨m1,m2,m3⟩:=Qs hi h6 hn6 hr6 h2 h3
   refine (h1.gmake h2.grp G[i] (hgs _ (List.getElem_mem hi))).mono ?_
   rintro e w' ⟨he,hgo⟩
   rw [m1] at he
   exact ⟨he,fun _=>⟨_,hgo.1,m2,m3⟩,fun h=>absurd rfl h⟩)
 rw [UF (fun _=>0) m 0 (fun _ _ _=>rfl)] at h
 refine h.mono ?_
 rintro e w' ⟨he,h1,_⟩
 refine ⟨he,?_⟩
 obtain ⟨S,s1,s2,s3⟩:=h1 rfl
 rw [hm,List.take_length] at s3
 exact ⟨S,s1,s2,s3⟩
theorem XJ (D P M Gr:Nat) (S:zw) (W:World) (hown:zH w W D P M Gr [] [] S) (hG:ya [] [] S m) (hN:ze S=xP G) (hm6:m≤6) (hl:n=l.length) (h12:l.length≤12) (hc:∀ u∈l,yk 2 u=0) (hri:zB (l.map (·.nm))=true) (hr:uz w A l) (ho:∀ u∈l,u.Ok w) (h5:vm w) :
  Calls Tryz.prog 108 #[.slice A n c,.func (.func 115) #[.pointer (some ⟨D,0,none⟩)] #[]] W fun e w'=>e=.returned (.int .i64 (yc G [] l)) ∧
   (yc G [] l=0→∃ A L S k,zH w w' D P M Gr A L S∧Yc A L S l G k∧k≤200)∧(yc G [] l≠0→Below w.heap.size w w'):=by
 have h:=qR 115 #[.pointer (some ⟨D,0,none⟩)] #[] A n c l W (fun j=>if hj:j<l.length then yQ G (l.take j) l[j] else 0) (fun i W'=>∃ A L S k,zH w W' D P M Gr A L S∧Yc A L S (l.take i) G k∧k≤6+8 * i) (fun W'=>Below w.heap.size w W') hl (by omega)
  (enters_of Tryz.func115 (by kernel_rfl) rfl) ⟨[],[],S,m,hown,st_nil11 hG hN,by omega⟩ (fun i W' ⟨_,_,_,_,h1,_⟩=>hr.later h1.below) (fun i W' ⟨A,L,S,k,h1,h2⟩ o=>⟨A,L,S,k,h1.later (za (Below.refl _ _) _),h2⟩)
  (fun i hi W' ⟨A,L,S,k,h1,h2,h3⟩=>by
   have hup:∀ v∈l.take i,bytesBefore v.nm.data.toList l[i].nm.data.toList=true:=fun v hv=>by
    obtain ⟨j,hj,rfl⟩:=List.getElem_of_mem hv
    have hj':j<i:=by rw [List.length_take] at hj; omega
    rw [List.getElem_take]
    have:=List.pairwise_iff_getElem.1 (vJ hri) j i (by simp; omega) (by simpa using hi) hj'
    simpa using this
   have hcu:=hc _ (List.getElem_mem hi)
   have hlt:(l.take i).length<12:=by rw [List.length_take]; omega
   refine (J0 l[i] h1 h2 (by omega) hcu hup hlt (ho _ (List.getElem_mem hi)) h5).mono ?_
   rintro e w' ⟨he,q1,q2⟩
   rw [dif_pos hi]
   refine ⟨he,fun h0=>?_,q2⟩
   have hone:yQ G (l.take i) l[i]=if l[i].gs.all (fun g=>qg (xP G) g.data.toList) then (if (l.take i).any (fun v=>!(l[i].ml.data.toList == []) && (l[i].ml.data.toList == v.ml.data.toList)) then 9 else 0) else 8:=rfl
   have hall:l[i].gs.all (fun g=>qg (xP G) g.data.toList)=true:=by
    cases hh:l[i].gs.all (fun g=>qg (xP G) g.data.toList) with
    | true=>rfl
    | false=>rw [hone,hh] at h0; simp at h0
   obtain ⟨s1,s2⟩:=step11 h2 l[i] hcu hup hlt hall
   rw [hone,hall,if_pos rfl,← s1] at h0
   refine ⟨_,_,_,k+8,q1 (by rw [hone,hall,if_pos rfl,← s1]; exact h0),?_,?_⟩
   ·
    rw [List.take_succ_eq_append_getElem hi]
    exact s2 h0
   ·
    omega)
 rw [show xZ (fun j=>if hj:j<l.length then yQ G (l.take j) l[j] else 0) 0 n=yc G [] l by
  rw [hl]; exact Je G l l.length 0 (by omega)] at h
 refine h.mono ?_
 rintro e w' ⟨he,h1,h2⟩
 refine ⟨he,fun h0=>?_,h2⟩
 obtain ⟨A,L,S,k,s1,s2,s3⟩:=h1 h0
 rw [hl,List.take_length] at s2
 exact ⟨A,L,S,k,s1,s2,by omega⟩
end
set_option maxRecDepth 100000 in
theorem ZA (A A2:Option Addr) (c c2 n m:Nat) (l:List Us) (G:List ByteArray) (w:World) (hl:n=l.length) (hn:n≤1000) (hr:uz w A l) (ho:∀ u∈l,u.Ok w) (hm:m=G.length) (hm1:m≤1000) (hg:RdS w A2 G) (hgs:∀ g∈G,g.size≤9223372036854775807) (h5:vm w) :
  Calls Tryz.prog 41 #[.slice A n c,.slice A2 m c2] w (Of11 l G w):=by
 have HNW:Hid (∀ W,Calls Tryz.prog 23 #[] W fun e w'=>∃ D P M G,e=.returned (.pointer (some ⟨D,0,none⟩))∧zH W w' D P M G [] [] []):=fun W=>U5 W
 have HMB:Hid (∀ W,Below w.heap.size w W→Calls Tryz.prog 108 #[.slice A n c,.func (.func 109) #[] #[]] W (yi (yL l) W)):=fun W hb=>XI W hb hl hn hr ho h5
 have HNO:Hid (∀ W,Below w.heap.size w W→Calls Tryz.prog 111 #[.slice A n c] W fun e w'=>∃ A2 c2,e=.returned (.slice A2 n c2)∧RdS w' A2 (l.map (·.nm))∧Below W.heap.size W w'):=fun W hb=>ZC A c n l W hl hn (hr.later hb)
 have HRI:Hid (∀ A3 c3 W,RdS W A3 (l.map (·.nm))→Calls Tryz.prog 110 #[.slice A3 n c3] W fun e w'=>e=.returned (.int .i64 (zA (zB (l.map (·.nm))) 9))∧∃ q,w'=W.drewN q):=fun A3 c3 W h=>fD A3 n c3 _ W (by rw [List.length_map]; exact hl) h (by omega)
 have HFI:Hid (∀ W,Calls Tryz.prog 112 #[.int .i64 (n:Int),.int .i64 12] W fun e w'=>e=.returned (.int .i64 (zA (decide ((l.length:Int)≤12)) 7))∧w'=W):=fun W=>by rw [← hl]; exact ZR _ _ W
 have HNM:Hid (∀ W,Below w.heap.size w W→Calls Tryz.prog 113 #[.slice A2 m c2,.func (.func 52) #[] #[]] W (yi (zA (zK G) 10) W)):=fun W hb=>Yo W hb hm hm1 hg hgs
 have HRG:Hid (∀ W,Below w.heap.size w W→Calls Tryz.prog 110 #[.slice A2 m c2] W fun e w'=>e=.returned (.int .i64 (zA (zB G) 9))∧∃ q,w'=W.drewN q):=fun W hb=>fD A2 m c2 G W hm (hg.below hb) (by omega)
 have HFG:Hid (∀ W,Calls Tryz.prog 112 #[.int .i64 (m:Int),.int .i64 6] W fun e w'=>e=.returned (.int .i64 (zA (decide ((G.length:Int)≤6)) 7))∧w'=W):=fun W=>by rw [← hm]; exact ZR _ _ W
 have HFS:Hid (∀ W:World,Calls Tryz.prog 51 #[.slice (some ⟨W.heap.size,0,none⟩) 6 6] (W.alloc (.cells #[.int .i64 (yL l),.int .i64 (zA (zB (l.map (·.nm))) 9),.int .i64 (zA (decide ((l.length:Int)≤12)) 7),.int .i64 (zA (zK G) 10),.int .i64 (zA (zB G) 9),.int .i64 (zA (decide ((G.length:Int)≤6)) 7)] 24)) fun e w'=>e=.returned (.int .i64 (FJ l G))∧w'=W.alloc (.cells #[.int .i64 (yL l),.int .i64 (zA (zB (l.map (·.nm))) 9),.int .i64 (zA (decide ((l.length:Int)≤12)) 7),.int .i64 (zA (zK G) 10),.int .i64 (zA (zB G) 9),.int .i64 (zA (decide ((G.length:Int)≤6)) 7)] 24)):=fun W =>
  Jt W [yL l,zA (zB (l.map fun u:Us=>u.nm)) 9,zA (decide ((l.length:Int)≤12)) 7,zA (zK G) 10,zA (zB G) 9,zA (decide ((G.length:Int)≤6)) 7] 24 (by simp)
 have HF2:Hid (∀ (W:World) (x:Int),Calls Tryz.prog 51 #[.slice (some ⟨W.heap.size,0,none⟩) 2 2] (W.alloc (.cells #[.int .i64 0,.int .i64 x] 24)) fun e w'=>e=.returned (.int .i64 x)∧w'=W.alloc (.cells #[.int .i64 0,.int .i64 x] 24)):=fun W x=>by
  have:=Jt W [0,x] 24 (by simp)
  rw [show zD [0,x]=x by unfold zD zD zD; by_cases h:x=0 <;> simp [h]] at this
  exact this
 have HMK:Hid (FJ l G=0→∀ D P M Gr W,zH w W D P M Gr [] [] []→Calls Tryz.prog 113 #[.slice A2 m c2,.func (.func 114) #[.pointer (some ⟨Gr,0,none⟩)] #[]] W fun e w'=>e=.returned (.int .i64 0)∧∃ S,zH w w' D P M Gr [] [] S∧ya [] [] S m∧ze S=xP G):=fun h0 D P M Gr W hown=>by
  obtain ⟨_,_,_,f4,f5,f6⟩:=Vf h0
  exact Yp D P M Gr W hown hm f6 f4 f5 hg hgs
 have HAD:Hid (FJ l G=0→∀ D P M Gr S W,zH w W D P M Gr [] [] S→ya [] [] S m→ze S=xP G→Calls Tryz.prog 108 #[.slice A n c,.func (.func 115) #[.pointer (some ⟨D,0,none⟩)] #[]] W fun e w'=>e=.returned (.int .i64 (yc G [] l)) ∧
   (yc G [] l=0→∃ A L S k,zH w w' D P M Gr A L S∧Yc A L S l G k∧k≤200)∧(yc G [] l≠0→Below w.heap.size w w')):=fun h0 D P M Gr S W hown hG hN=>by
  obtain ⟨f1,f2,f3,_,_,f6⟩:=Vf h0
  exact XJ D P M Gr S W hown hG hN (by omega) hl f3 f1 f2 hr ho h5
 have HCE:=z8 (cE_of (l:=l) (G:=G))
 unfold Of11
 clear hl hn hr ho hm hm1 hg hgs h5
 generalize yL l=e0 at *
 generalize zA (zB (l.map (·.nm))) 9=e1 at *
 generalize zA (decide ((l.length:Int)≤12)) 7=e2 at *
 generalize zA (zK G) 10=e3 at *
 generalize zA (zB G) 9=e4 at *
 generalize zA (decide ((G.length:Int)≤6)) 7=e5 at *
 generalize FJ l G=r at *
 generalize yc G [] l=rr at *
 generalize yU l G=ro at *
 go_enter Tryz.func41,Tryz.ntmps41
 go_wp2_with fail
 with_reducible refine (HNW.out w).mono ?_
 rintro e w1 ⟨D,P,M,Gr,rfl,hown⟩
 have HO1:=z8 hown
 have HB1:=z8 hown.below
 clear hown HNW
 go_wp2_with fail
 with_reducible refine (HMB.out w1 HB1.out).mono ?_
 rintro e w2 ⟨rfl,hb⟩
 have HO2:=z8 (HO1.out.later hb)
 have HB2:=z8 (z7 HB1.out hb)
 clear hb HMB HO1 HB1
 go_wp2_with fail
 with_reducible refine (HNO.out w2 HB2.out).mono ?_
 rintro e w3 ⟨A3,c3,rfl,hrd,hb⟩
 have HRD:=z8 hrd
 have HO3:=z8 (HO2.out.later hb)
 have HB3:=z8 (z7 HB2.out hb)
 clear hb hrd HNO HO2 HB2
 go_wp2_with fail
 with_reducible refine (HRI.out A3 c3 w3 HRD.out).mono ?_
 rintro e w4 ⟨rfl,q,hq⟩
 have hb:Below w3.heap.size w3 w4:=by rw [hq]; exact zn (Below.refl _ _) q
 have HO4:=z8 (HO3.out.later hb)
 have HB4:=z8 (z7 HB3.out hb)
 clear hb hq HRD HRI HO3 HB3
 go_wp2_with fail
 with_reducible refine (HFI.out w4).mono ?_
 rintro e w5 ⟨rfl,rfl⟩
 go_wp2_with fail
 with_reducible refine (HNM.out w5 HB4.out).mono ?_
 rintro e w6 ⟨rfl,hb⟩
 have HO6:=z8 (HO4.out.later hb)
 have HB6:=z8 (z7 HB4.out hb)
 clear hb HNM HO4 HB4 HFI
 go_wp2_with fail
 with_reducible refine (HRG.out w6 HB6.out).mono ?_
 rintro e w7 ⟨rfl,q2,hq⟩
 have hb:Below w6.heap.size w6 w7:=by rw [hq]; exact zn (Below.refl _ _) q2
 have HO7:=z8 (HO6.out.later hb)
 have HB7:=z8 (z7 HB6.out hb)
 clear hb hq HRG HO6 HB6
 go_wp2_with fail
 with_reducible refine (HFG.out w7).mono ?_
 rintro e w8 ⟨rfl,rfl⟩
 clear HFG
 go_wp2_with fail
 with_reducible refine (HFS.out _).mono ?_
 rintro e w9 ⟨rfl,hw9⟩
 have hb:Below w8.heap.size w8 w9:=by rw [hw9]; exact za (Below.refl _ _) _
 have HO9:=z8 (HO7.out.later hb)
 have HB9:=z8 (z7 HB7.out hb)
 clear hb hw9 HFS HO7 HB7
 by_cases h0:r=0
 case neg =>
  have h1:(r != 0)=true:=by simpa using h0
  have h2:(r == 0)=false:=by simpa using h0
  obtain rfl:ro=r:=HCE.out.1 h0
  have H0:=z8 h0
  clear h0 HMK HAD HF2 HCE HO9
  go_wp2
  go_ret2
  exact .inl ⟨H0.out,rfl,HB9.out⟩
 subst h0
 obtain rfl:ro=rr:=HCE.out.2 rfl
 have HMK2:=z8 (HMK.out rfl D P M Gr w9 HO9.out)
 have HAD2:=z8 (HAD.out rfl D P M Gr)
 have hc2:=HO9.out.c2
 have hmf:=mkf
 clear HMK HAD HCE
 go_wp2_with fail
 with_reducible refine HMK2.out.mono ?_
 rintro e w10 ⟨rfl,S,s1,s2,s3⟩
 have HA2:=z8 (HAD2.out S w10 s1 s2 s3)
 clear s1 s2 s3 HMK2 HAD2 hc2 HO9 HB9
 go_wp2_with fail
 with_reducible refine HA2.out.mono ?_
 rintro e w11 ⟨rfl,t1,t2⟩
 have HT1:=z8 t1
 have HT2:=z8 t2
 clear t1 t2 HA2
 go_wp2_with fail
 with_reducible refine (HF2.out _ _).mono ?_
 rintro e w12 ⟨rfl,hw⟩
 have hb:Below w11.heap.size w11 w12:=by rw [hw]; exact za (Below.refl _ _) _
 have HB:=z8 hb
 clear hb hw HF2
 by_cases h0:ro=0
 case neg =>
  have h1:(ro != 0)=true:=by simpa using h0
  have HF:=z8 (z7 (HT2.out h0) HB.out)
  have H0:=z8 h0
  clear h0 HT1 HT2 HB
  go_wp2
  go_ret2
  exact .inl ⟨H0.out,rfl,HF.out⟩
 subst h0
 obtain ⟨A4,L4,S4,k4,u1,u2,u3⟩:=HT1.out rfl
 have HF:Hid (zH w w12 D P M Gr A4 L4 S4∧Yc A4 L4 S4 l G k4∧k4≤200):=⟨u1.later HB.out,u2,u3⟩
 clear u1 u2 u3 HT1 HT2 HB
 go_wp2
 go_ret2
 exact ⟨D,rfl,P,M,Gr,A4,L4,S4,HF.out.1,k4,HF.out.2⟩
end Go.Proofs.YthmomkjingcbiaaGreatDoor
namespace Go.Proofs.YthmomkjingcbiaaGreatDoor
open Go.RowKit Go.Maps


section
variable {w0 w:World} {D P M G:Nat} {A:zW} {L:zq} {S:zw} {k:Nat}
end

/-! ### stores beside a directory -/
def UV (W:World) (b:Nat) (A:Option Addr) (n:Nat):Prop :=
 0<n→∃ g cur,A=some ⟨g,0,none⟩∧b≤g∧W.heap[g]? = some (.cells cur 9 (0,0))∧n≤cur.size∧n≤9223372036854775807
theorem UV.of {W:World} {b n c:Nat} {A:Option Addr} {xs:List Value} (h:W.ownsRow b 9 1 (.slice A n c) n xs):UV W b A n:=fun hn=>by
 rcases h.2 with ⟨_,e⟩ | ⟨g,cap,cur,e,hb,hg,hc,hmx,hs,_⟩
 ·
  omega
 ·
  injection e with e1
  unfold maxLen at hmx
  exact ⟨g,cur,e1,hb,hg,by omega,by omega⟩
theorem UV.few {W:World} {b n:Nat} {A:Option Addr} (h:UV W b A n):n≤9223372036854775807:=by
 by_cases hn:0<n
 ·
  obtain ⟨_,_,_,_,_,_,h⟩:=h hn
  exact h
 ·
  omega
theorem UV.low {W:World} {b a n:Nat} {A:Option Addr} (h:UV W b A n) (ha:a≤b):UV W a A n:=fun hn=>by
 obtain ⟨g,cur,e,hb,hg,hc⟩:=h hn
 exact ⟨g,cur,e,Nat.le_trans ha hb,hg,hc⟩
theorem UV.below {W W':World} {b n:Nat} {A:Option Addr} (h:UV W b A n) (hb:Below W.heap.size W W'):UV W' b A n:=fun hn=>by
 obtain ⟨g,cur,e,h1,hg,hc⟩:=h hn
 exact ⟨g,cur,e,h1,(hb.block g (Array.getElem?_eq_some_iff.1 hg).1).trans hg,hc⟩
theorem UV.keeps {W W':World} {b n:Nat} {A:Option Addr} (h:UV W b A n) (hk:yq W W'):UV W' b A n:=fun hn=>by
 obtain ⟨g,cur,e,h1,hg,hc⟩:=h hn
 exact ⟨g,cur,e,h1,hk g cur _ _ hg (by decide) (by decide) (by decide),hc⟩
theorem UV.store {W:World} {b n g k:Nat} {A:Option Addr} {cur:Array Value} (h:UV W b A n) (hg:W.heap[g]? = some (.cells cur 9 (0,0))) (s:Value):UV (W.setCell ⟨g,k,none⟩ s) b A n:=fun hn=>by
 obtain ⟨g',cur',e,h1,hg',hc⟩:=h hn
 by_cases eg:g'=g
 ·
  subst eg
  rw [hg] at hg'
  injection hg' with hg'
  injection hg' with hg'
  subst hg'
  exact ⟨g',_,e,h1,heap_setCell_same W g' k cur _ s hg,by simpa using hc.1,hc.2⟩
 ·
  exact ⟨g',cur',e,h1,(heap_setCell_other W ⟨g,k,none⟩ g' s eg).trans hg',hc⟩
theorem zH.setStr {w0 W:World} {D P M G g k:Nat} {A:zW} {L:zq} {S:zw} {cur:Array Value} (h:zH w0 W D P M G A L S) (hg:W.heap[g]? = some (.cells cur 9 (0,0))) (hw:w0.heap.size≤g) (s:Value):zH w0 (W.setCell ⟨g,k,none⟩ s) D P M G A L S:=by
 obtain ⟨p,q,LM,pg,T,hd,hS,h2,h3⟩:=h
 have ht:zb (fun i=>i=g) W (W.setCell ⟨g,k,none⟩ s):=(zb.refl (fun i=>i=g) W).setCell (p:=⟨g,k,none⟩) (fun _=>rfl) _
 have hD:D≠g:=fq hd.blk hg (by decide)
 have hP:P≠g:=Vh hd.acc hg
 refine ⟨p,q,LM,pg,T,⟨?_,?_,?_,?_,hd.sep1,hd.sep2,hd.sep3⟩,hS,h2,h3.turn ht (fun i e=>by subst e; exact ⟨hw,id⟩)⟩
 ·
  exact (heap_setCell_other W ⟨g,k,none⟩ D s hD).trans hd.blk
 ·
  exact hd.acc.kept (heap_setCell_other W ⟨g,k,none⟩ P s hP)
 ·
  exact hd.idx.turnsF ht (fun i hi e=>by subst e; exact ZO hd.idx hg (by decide) hi)
 ·
  exact hd.grp.turnsF ht (fun i hi e=>by subst e; exact ZP hd.grp hg (by decide) hi)
theorem zH.base {w00 w0 W:World} {D P M G:Nat} {A:zW} {L:zq} {S:zw} (h:zH w0 W D P M G A L S) (hb:Below w00.heap.size w00 w0):zH w00 W D P M G A L S:=by
 obtain ⟨p,q,LM,pg,T,hd,hS,h2,h3⟩:=h
 exact ⟨p,q,LM,pg,T,hd,hS,fun i hi=>⟨Nat.le_trans hb.size (h2 i hi).1,id⟩,z7 hb h3.1,h3.2⟩

/-! ### users in a row of one's own -/
def xE (l:List Us):List Value:=l.flatMap fun u=>u.cells.toList
theorem Zd (l:List Us) (i j:Nat) (hi:i<l.length) (hj:j<5):(xE l)[i * 5+j]? = l[i].cells[j]? := by
 induction l generalizing i with
 | nil=>exact absurd hi (Nat.not_lt_zero _)
 | cons u l ih =>
  have e:xE (u::l)=u.cells.toList++xE l:=rfl
  have h5:u.cells.toList.length=5:=rfl
  rw [e]
  cases i with
  | zero =>
   rw [List.getElem?_append_left (by omega),Nat.zero_mul,Nat.zero_add]
   simp
  | succ i =>
   rw [List.getElem?_append_right (by omega),h5,show (i+1) * 5+j - 5=i * 5+j by omega]
   exact ih i (by simpa using hi)
theorem uB (l:List Us) (u:Us):xE (l++[u])=xE l++u.cells.toList:=by
 unfold xE
 rw [List.flatMap_append]
 simp
theorem qa {w:World} {b0 n c:Nat} {A:Option Addr} {l:List Us} (ho:w.ownsRow b0 47 5 (.slice A n c) n (xE l)) (hn:n=l.length):uz w A l:=by
 intro hl
 have hp:0<l.length:=List.length_pos_iff.2 hl
 obtain ⟨g,cap,hv,_,hg⟩:=ho.form (by omega)
 injection hv with hA _ hc
 subst hA hc
 refine ⟨g,0,rfl,hg,fun i hi j u hu=>?_⟩
 have h5:j<5:=by
  have:=(Array.getElem?_eq_some_iff.1 hu).1
  exact this
 have:=ho.cellAt (i * 5+j) (by omega)
 rw [Zd l i j hi h5,hu] at this
 rwa [Nat.zero_add]
structure Zz11 (w W:World) (D P M G:Nat) (A:zW) (L:zq) (S:zw) (v:Value) (n:Nat) (l:List Us):Prop where
 own:zH w W D P M G A L S
 len:l.length=n
 row:W.ownsRow 0 47 5 v n (xE l)
 txt:∀ u∈l,UV W w.heap.size u.ga u.gs.length
section
variable {w W:World} {D P M G:Nat} {A:zW} {L:zq} {S:zw} {l:List Us}
theorem Zz11.later {W':World} {v:Value} {n:Nat} (h:Zz11 w W D P M G A L S v n l) (hb:Below W.heap.size W W'):Zz11 w W' D P M G A L S v n l :=
 ⟨h.own.later hb,h.len,zP h.row hb,fun u hu=>(h.txt u hu).below hb⟩
theorem Zz11.at_ {B:Option Addr} {n c i:Nat} (h:Zz11 w W D P M G A L S (.slice B n c) n l) (hi:i<l.length):∃ g,B=some ⟨g,0,none⟩∧W.cell? ⟨g,i * 5+4,none⟩=some (.slice l[i].ga l[i].gs.length l[i].gc):=by
 have hn:=h.len
 obtain ⟨g,cap,e,_,_⟩:=h.row.form (by omega)
 injection e with e1 e2 e3
 subst e1 e3
 refine ⟨g,rfl,?_⟩
 rw [h.row.cellAt (i * 5+4) (by omega),Zd l i 4 hi (by decide)]
 rfl
theorem Zz11.store {v:Value} {n i k:Nat} (h:Zz11 w W D P M G A L S v n l) (hi:i<l.length) (hk:k<l[i].gs.length) (s:ByteArray) :
  ∃ g,l[i].ga=some ⟨g,0,none⟩∧(∃ x,W.cell? ⟨g,k,none⟩=some x)∧W.frozen? ⟨g,k,none⟩=false∧Zz11 w (W.setCell ⟨g,k,none⟩ (.string s)) D P M G A L S v n l:=by
 obtain ⟨g,cur,e,h1,hg,hc,_⟩:=h.txt _ (List.getElem_mem hi) (by omega)
 refine ⟨g,e,?_,?_,h.own.setStr hg h1 _,h.len,?_,fun u hu=>(h.txt u hu).store hg _⟩
 ·
  rw [cell_of_row W g k cur _ (0,0) hg]
  exact ⟨_,Array.getElem?_eq_getElem (by omega)⟩
 ·
  exact frozen_of_row W g k cur _ hg
 ·
  have ht:zb (fun i=>i=g) W (W.setCell ⟨g,k,none⟩ (.string s)):=(zb.refl (fun i=>i=g) W).setCell (p:=⟨g,k,none⟩) (fun _=>rfl) _
  rcases h.row.2 with hz | ⟨g2,cap,cur2,e2,hb2,hg2,rest⟩
  ·
   exact ⟨h.row.1,.inl hz⟩
  ·
   exact ⟨h.row.1,.inr ⟨g2,cap,cur2,e2,hb2,(heap_setCell_other W ⟨g,k,none⟩ g2 _ (fun e=>by
    subst e
    rw [hg] at hg2
    injection hg2 with hg2
    injection hg2 with _ hg2
    exact absurd hg2 (by decide))).trans hg2,rest⟩⟩
end

theorem Yn {w:World} {b:Nat} {e size n:Nat} {v:Value} {xs:List Value} (h:w.ownsRow 0 e size v n xs) (hk:∀ k,v.ownBlock=some k→b≤k):w.ownsRow b e size v n xs:=by
 refine ⟨h.1,?_⟩
 rcases h.2 with hz | ⟨g,cap,cur,e1,_,rest⟩
 ·
  exact .inl hz
 ·
  exact .inr ⟨g,cap,cur,e1,hk g (by rw [e1]; rfl),rest⟩
def zZ (u:Us):Us:={ u with ga:=none,gc:=0 }
theorem Uc:∀ l:List Us,yL (l.map zZ)=yL l
 | []=>rfl
 | u::l=>by
  show (if yk 2 (zZ u)=0 then yL (l.map zZ) else yk 2 (zZ u))=_
  rw [Uc l]
  rfl
theorem YS (G:List ByteArray):∀ (l pre:List Us),yc G (pre.map zZ) (l.map zZ)=yc G pre l
 | [],_=>rfl
 | u::l,pre=>by
  have h1:yQ G (pre.map zZ) (zZ u)=yQ G pre u:=by
   unfold yQ
   rw [List.any_map]
   rfl
  show (if yQ G (pre.map zZ) (zZ u)=0 then yc G (pre.map zZ++[zZ u]) (l.map zZ) else yQ G (pre.map zZ) (zZ u))=_
  rw [h1,show pre.map zZ++[zZ u]=(pre++[u]).map zZ by rw [List.map_append]; rfl,YS G l]
  rfl
theorem qt (l:List Us) (G:List ByteArray):yU (l.map zZ) G=yU l G:=by
 have h1:uF (l.map zZ)=uF l:=by
  unfold uF
  rw [Uc,List.map_map,List.length_map]
  rfl
 unfold yU
 rw [h1]
 have h2:=YS G l []
 rw [List.map_nil] at h2
 rw [h2]
theorem XF (l:List Us):um (l.map zZ)=um l:=by unfold um; rw [List.map_map]; rfl

structure Cp11 (w W:World) (l:List Us) (k:Nat) (v:Value) (l2:List Us):Prop where
 bel:Below w.heap.size w W
 same:l2.map zZ=(l.take k).map zZ
 row:W.ownsRow w.heap.size 47 5 v k (xE l2)
 txt:∀ u∈l2,W.ownsRow w.heap.size 9 1 (.slice u.ga u.gs.length u.gc) u.gs.length (zr u.gs)
section
variable {w W W' wr w3 w5:World} {l l2:List Us} {k:Nat} {v v':Value}
theorem Cp11.later (h:Cp11 w W l k v l2) (hb:Below W.heap.size W W'):Cp11 w W' l k v l2 :=
 ⟨z7 h.bel hb,h.same,zP h.row hb,fun u hu=>zP (h.txt u hu) hb⟩
theorem keepS11 {b0 n:Nat} {e:TypeId} {xs ys:List Value} {u:Value} {a b c d x:Value} {B:Nat} {o:Obj} (hB:xq w3 B a b c d x) (hv:w3.ownsRow b0 47 5 v n xs) (y:Value) (hg:((w3.setCell ⟨B,4,none⟩ y).alloc o).grownBy w5 v.ownBlock) {m:Nat} (h:w3.ownsRow m 9 1 u e ys):w5.ownsRow m 9 1 u e ys:=by
 refine ⟨h.1,?_⟩
 rcases h.2 with hz | ⟨g,cap,cur,e1,h1,hgg,rest⟩
 ·
  exact .inl hz
 ·
  have hlt:g<w3.heap.size:=(Array.getElem?_eq_some_iff.1 hgg).1
  have n1:g≠B:=fun e=>by
   subst e
   have hB':w3.heap[g]? = _:=hB
   rw [hgg] at hB'
   injection hB' with hB'
   injection hB' with _ hB'
   exact absurd hB' (by decide)
  have n2:some g≠v.ownBlock:=fun e=>by
   rcases hv.2 with ⟨rfl,_⟩ | ⟨g2,cap2,cur2,rfl,_,hg2,_⟩
   ·
    simp [Value.ownBlock] at e
   ·
    simp [Value.ownBlock] at e
    subst e
    rw [hgg] at hg2
    injection hg2 with hg2
    injection hg2 with _ hg2
    exact absurd hg2 (by decide)
  refine .inr ⟨g,cap,cur,e1,h1,?_,rest⟩
  rw [hg.block g (by simp; omega) n2]
  have hs:((w3.setCell ⟨B,4,none⟩ y).alloc o).heap[g]? = (w3.setCell ⟨B,4,none⟩ y).heap[g]? := (za (Below.refl (w3.setCell ⟨B,4,none⟩ y).heap.size _) o).block g (by simpa using hlt)
  rw [hs,heap_setCell_other w3 ⟨B,4,none⟩ g y n1]
  exact hgg
theorem Cp11.next {a b c d e x:Value} {o:Obj} (h:Cp11 w wr l k v l2) (hb:Below wr.heap.size wr w3) (hB:xq w3 wr.heap.size a b c d e) (hg:((w3.setCell ⟨wr.heap.size,4,none⟩ x).alloc o).grownBy w5 v.ownBlock) (u:Us)
  (ho:w5.ownsRow w.heap.size 47 5 v' (k+1) (xE l2++u.cells.toList)) (ht:w3.ownsRow wr.heap.size 9 1 (.slice u.ga u.gs.length u.gc) u.gs.length (zr u.gs)) (hk:k<l.length) (hu:zZ u=zZ l[k]):Cp11 w w5 l (k+1) v' (l2++[u]):=by
 have hrow3:=zP h.row hb
 have hb3:=z7 h.bel hb
 have hsz:=h.bel.size
 refine ⟨?_,?_,by rw [uB]; exact ho,fun z hz=>?_⟩
 ·
  have h4:Below w.heap.size w (w3.setCell ⟨wr.heap.size,4,none⟩ x):=hb3.setCell (p:=⟨wr.heap.size,4,none⟩) hsz _
  exact (z7 h4 (za (Below.refl _ _) o)).grown hg (by have:=h4.size; simp at this ⊢; omega) (fun j hj=>(hrow3.lt j hj).1)
 ·
  rw [List.map_append,List.take_succ_eq_append_getElem hk,List.map_append,h.same]
  show _++[zZ u]=_++[zZ l[k]]
  rw [hu]
 ·
  rcases List.mem_append.1 hz with hz | hz
  ·
   exact keepS11 hB hrow3 x hg (zP (h.txt z hz) hb)
  ·
   rw [List.mem_singleton] at hz
   subst hz
   exact keepS11 hB hrow3 x hg (zx ht hsz)
theorem Cp11.all (h:Cp11 w W l l.length v l2) (ho:∀ u∈l,u.Ok w):l2.length=l.length∧(∀ u∈l2,u.Ok W)∧(∀ G,yU l2 G=yU l G)∧um l2=um l:=by
 have hs:=h.same
 rw [List.take_length] at hs
 have hlen:l2.length=l.length:=by have:=congrArg List.length hs; simpa using this
 refine ⟨hlen,fun u hu=>?_,fun G=>by rw [← qt l2,hs,qt],by rw [← XF l2,hs,XF]⟩
 have hm:zZ u∈l.map zZ:=by rw [← hs]; exact List.mem_map.2 ⟨u,hu,rfl⟩
 obtain ⟨z,hz,e⟩:=List.mem_map.1 hm
 have hz':=ho z hz
 have e1:z.nm=u.nm:=(congrArg Us.nm e:(zZ z).nm=(zZ u).nm)
 have e2:z.hs=u.hs:=(congrArg Us.hs e:(zZ z).hs=(zZ u).hs)
 have e3:z.ml=u.ml:=(congrArg Us.ml e:(zZ z).ml=(zZ u).ml)
 have e4:z.gs=u.gs:=(congrArg Us.gs e:(zZ z).gs=(zZ u).gs)
 have ht:=h.txt u hu
 have hform:(u.ga=none→u.gc=0)∧u.gs.length≤u.gc∧u.gc≤9223372036854775807:=by
  rcases ht.2 with ⟨q,q2⟩ | ⟨g,cap,cur,q,_,_,q3,q4,_⟩
  ·
   injection q with q0 _ q1
   exact ⟨fun _=>q1,by omega,by omega⟩
  ·
   injection q with q0 _ q1
   unfold maxLen at q4
   exact ⟨fun hn=>absurd (hn.symm.trans q0) (by simp),by omega,by omega⟩
 exact { rd:=YV (zx ht (Nat.zero_le _)),nm:=e1 ▸ hz'.nm,hs:=e2 ▸ hz'.hs,ml:=e3 ▸ hz'.ml,nil:=hform.1,len:=hform.2.1,cap:=hform.2.2,all:=e4 ▸ hz'.all }
end

theorem Jm:∀ m:List UInt8,le (val m) m.length=m
 | []=>rfl
 | b::l=>by
  have hb:b.toNat<256:=b.toNat_lt
  rw [val,List.length_cons,Qt,show (b.toNat+256 * val l) / 256=val l by omega,Jm l]
  congr 1
  apply UInt8.toNat_inj.1
  simp only [UInt8.toNat_ofNat']
  omega
theorem UC {st:St} {e:Int} (h:st.e≠0):zu st e=st:=by unfold zu; rw [if_pos (.inr h)]
theorem UB (st:St):zu st 0=st:=by unfold zu; rw [if_pos (.inl rfl)]
theorem xd {st:St} {e:Int} (h:(zu st e).e=0):e=0∧st.e=0∧zu st e=st:=by
 by_cases he:e=0
 ·
  subst he
  rw [UB] at h ⊢
  exact ⟨rfl,h,rfl⟩
 ·
  unfold zu at h
  by_cases hs:st.e=0
  ·
   rw [if_neg (by simp [he,hs])] at h
   exact absurd h he
  ·
   rw [if_pos (.inr hs)] at h
   exact absurd h hs
theorem fA {st:St} (n:Nat) (h:st.e≠0):(zO st n).1.e=st.e:=by
 unfold zO
 split
 ·
  rw [UC h]
 ·
  rfl
theorem vi {st:St} (e:Int) (h:st.e≠0):(zu st e).e=st.e:=by rw [UC h]
theorem jb {st:St} (n:Nat) (h:st.e≠0):(zt st n).1.e=st.e:=fA n h
theorem qQ {st:St} (m:Int) (h:st.e≠0):(zi st m).1.e=st.e:=by
 have h1:=jb 2 h
 unfold zi
 split
 ·
  rw [vi _ (by rw [h1]; exact h),h1]
 ·
  exact h1
theorem vT {st:St} (m:Int) (h:st.e≠0):(zj st m).1.e=st.e:=by
 have h1:=qQ m h
 unfold zj
 rw [fA _ (by rw [h1]; exact h),h1]
theorem Zg {st:St} {n:Nat} (h:(zO st n).1.e=0):st.e=0∧(zO st n).2.length=n∧st.bs=(zO st n).2++(zO st n).1.bs:=by
 unfold zO at h ⊢
 by_cases hl:st.bs.length<n
 ·
  rw [if_pos hl] at h
  obtain ⟨h1,_⟩:=xd h
  cases h1
 ·
  rw [if_neg hl] at h ⊢
  exact ⟨h,by simp only [List.length_take]; omega,(List.take_append_drop n st.bs).symm⟩
theorem un {st:St} {n:Nat} (h:(zt st n).1.e=0):st.e=0∧st.bs=le (zt st n).2 n++(zt st n).1.bs:=by
 obtain ⟨h1,h2,h3⟩:=Zg (st:=st) (n:=n) h
 refine ⟨h1,?_⟩
 have:=Jm (zO st n).2
 rw [h2] at this
 show st.bs=le (val (zO st n).2) n++(zO st n).1.bs
 rw [this]
 exact h3
theorem uC {st:St} {m:Int} (h:(zj st m).1.e=0):st.e=0∧st.bs=zo (mk6 (zj st m).2)++(zj st m).1.bs:=by
 obtain ⟨h1,h2,h3⟩:=Zg (st:=(zi st m).1) (n:=(zi st m).2) h
 have h4:(zi st m)=((zt st 2).1,(zt st 2).2):=by
  unfold zi at h1 ⊢
  split at h1
  ·
   obtain ⟨h5,_⟩:=xd h1
   cases h5
  ·
   rename_i hc
   rw [if_neg hc]
 have h5:(zt st 2).1.e=0:=by rw [h4] at h1; exact h1
 obtain ⟨h6,h7⟩:=un h5
 refine ⟨h6,?_⟩
 have e1:(zi st m).1=(zt st 2).1:=by rw [h4]
 have e2:(zi st m).2=(zt st 2).2:=by rw [h4]
 show st.bs=zo (mk6 (zO (zi st m).1 (zi st m).2).2)++(zO (zi st m).1 (zi st m).2).1.bs
 have h8:(mk6 (zO (zi st m).1 (zi st m).2).2).data.toList=(zO (zi st m).1 (zi st m).2).2:=by simp [mk6]
 unfold zo
 rw [jI,h8,h2,e2,h7,List.append_assoc,← e1]
 rw [e2] at h3
 rw [← h3]

theorem Xt {st:St} (h:st.e≠0):(yj st).1.e=st.e:=by
 have h1:=jb 1 h
 unfold yj
 split
 ·
  rw [vi _ (by rw [h1]; exact h),h1]
 ·
  exact h1
theorem VK (long:Int):∀ (k:Nat) {st:St} (acc:List ByteArray),st.e≠0→(rowGo long k st acc).1.e=st.e
 | 0,_,_,_=>rfl
 | k+1,st,acc,h=>by
  have h1:=vT long h
  unfold rowGo
  rw [if_pos (by rw [h1]; exact h)]
  exact h1
theorem Zp {st:St} (m l:Int) (h:st.e≠0):(xI st m l).1.e=st.e:=by
 have h1:=qQ m h
 unfold xI
 rw [VK l _ _ (by rw [h1]; exact h),h1]
theorem qV (st:St) (m l:Int):(xI st m l).1.bs.length≤st.bs.length:=Nat.le_trans (YO l _ _ _) (xx st m)

def xw (st:St):Us:=if (yP 2 st).1.e=0 then (yP 2 st).2 else qF
def zN:Nat→St→St×List Us
 | 0,st=>(st,[])
 | k+1,st=>((zN k (yP 2 st).1).1,xw st::(zN k (yP 2 st).1).2)
def yF (st:St):St:=if (zt st 1).2=2 then (zt st 1).1 else zu (zt st 1).1 6
def zV (st:St):St×Nat:=if 12<(zt st 2).2 then (zu (zt st 2).1 7,0) else zt st 2
def uL (G:List ByteArray) (r:St×List Us):Int×List Us×List ByteArray :=
 if r.1.e≠0 then (r.1.e,[],[]) else if yU r.2 G≠0 then (yU r.2 G,[],[]) else if Yu r.1≠0 then (Yu r.1,[],[]) else (0,r.2,G)
def YI (g:St×List ByteArray):Int×List Us×List ByteArray:=uL g.2 (zN (zV g.1).2 (zV g.1).1)
def xm (bs:List UInt8):Int×List Us×List ByteArray:=YI (xI (yF ⟨bs,0⟩) 6 12)
def fV (l:List Us) (G:List ByteArray):List UInt8:=le 2 1++(xR G++(le l.length 2++l.flatMap (zR 2)))

theorem Uu {st:St} (h:st.e≠0):(yP 2 st).1.e=st.e:=by
 rcases h1:zj st 65535 with ⟨s1,nm⟩
 rcases h2:zj s1 65535 with ⟨s2,hs⟩
 rcases h3:zj s2 65535 with ⟨s3,ml⟩
 rcases h4:yj s3 with ⟨s4,dis⟩
 rcases h5:xI s4 65535 65535 with ⟨s5,gs⟩
 have e1:s1.e=st.e:=by have:=vT 65535 h; rwa [h1] at this
 have e2:s2.e=st.e:=by have:=vT (st:=s1) 65535 (by rw [e1]; exact h); rw [h2] at this; exact this.trans e1
 have e3:s3.e=st.e:=by have:=vT (st:=s2) 65535 (by rw [e2]; exact h); rw [h3] at this; exact this.trans e2
 have e4:s4.e=st.e:=by have:=Xt (st:=s3) (by rw [e3]; exact h); rw [h4] at this; exact this.trans e3
 have e5:s5.e=st.e:=by have:=Zp (st:=s4) 65535 65535 (by rw [e4]; exact h); rw [h5] at this; exact this.trans e4
 rw [vf h1 h2 h3 h4 h5]
 dsimp only
 rw [vi _ (by rw [e5]; exact h),e5]
theorem fK (st:St):(yP 2 st).1.bs.length≤st.bs.length:=by
 rcases h1:zj st 65535 with ⟨s1,nm⟩
 rcases h2:zj s1 65535 with ⟨s2,hs⟩
 rcases h3:zj s2 65535 with ⟨s3,ml⟩
 rcases h4:yj s3 with ⟨s4,dis⟩
 rcases h5:xI s4 65535 65535 with ⟨s5,gs⟩
 have e1:=zI st 65535
 have e2:=zI s1 65535
 have e3:=zI s2 65535
 have e4:=vS s3
 have e5:=qV s4 65535 65535
 rw [h1] at e1
 rw [h2] at e2
 rw [h3] at e3
 rw [h4] at e4
 rw [h5] at e5
 dsimp only at e1 e2 e3 e4 e5
 rw [vf h1 h2 h3 h4 h5]
 dsimp only
 have e6:=yI s5 (yk 2 (fz nm hs ml dis gs))
 omega
theorem uS:∀ (k:Nat) {st:St},st.e≠0→(zN k st).1.e=st.e
 | 0,_,_=>rfl
 | k+1,st,h=>by
  have h1:=Uu h
  show (zN k (yP 2 st).1).1.e=_
  rw [uS k (by rw [h1]; exact h),h1]
theorem vb:∀ (k:Nat) (st:St),(zN k st).2.length=k
 | 0,_=>rfl
 | k+1,st=>by
  show (xw st::(zN k (yP 2 st).1).2).length=_
  rw [List.length_cons,vb k]
theorem Xw (st:St):(yF st).bs.length≤st.bs.length:=by
 unfold yF
 split
 ·
  exact yf st 1
 ·
  exact Nat.le_trans (yI _ _) (yf st 1)
theorem UN (st:St):(zV st).1.bs.length≤st.bs.length:=by
 unfold zV
 split
 ·
  exact Nat.le_trans (yI _ _) (yf st 2)
 ·
  exact yf st 2
theorem QT (st:St):(zV st).2≤12:=by
 unfold zV
 split
 ·
  exact Nat.zero_le _
 ·
  omega
theorem UO {st:St} (h:st.e≠0):(zV st).1.e=st.e:=by
 have h1:=jb 2 h
 unfold zV
 split
 ·
  rw [vi _ (by rw [h1]; exact h),h1]
 ·
  exact h1
theorem JG {st:St} (G:List ByteArray) (h:st.e≠0):YI (st,G)=(st.e,[],[]):=by
 have h1:=UO h
 have h2:=uS (zV st).2 (st:=(zV st).1) (by rw [h1]; exact h)
 show uL G (zN (zV st).2 (zV st).1)=_
 unfold uL
 rw [if_pos (by rw [h2,h1]; exact h),h2,h1]

/-! ### What was read is what is written -/
theorem Vv {st:St} (h:(yj st).1.e=0):st.e=0∧st.bs=le (yj st).2.toNat 1++(yj st).1.bs:=by
 unfold yj at h ⊢
 by_cases hc:1<(zt st 1).2
 ·
  rw [if_pos hc] at h
  obtain ⟨h1,_⟩:=xd h
  cases h1
 ·
  rw [if_neg hc] at h ⊢
  dsimp only at h ⊢
  obtain ⟨h1,h2⟩:=un h
  refine ⟨h1,?_⟩
  have hx:(zt st 1).2=0∨(zt st 1).2=1:=by omega
  rcases hx with hx | hx
  ·
   rw [hx] at h2 ⊢; exact h2
  ·
   rw [hx] at h2 ⊢; exact h2
theorem XR {st:St} {m:Int} (h:(zi st m).1.e=0):st.e=0∧st.bs=le (zi st m).2 2++(zi st m).1.bs:=by
 unfold zi at h ⊢
 split at h
 ·
  obtain ⟨h5,_⟩:=xd h
  cases h5
 ·
  rename_i hc
  rw [if_neg hc]
  exact un h
theorem Zq (long:Int):∀ (k:Nat) {st:St} (acc:List ByteArray),(rowGo long k st acc).1.e=0→st.e=0∧∃ ss,ss.length=k∧(rowGo long k st acc).2=acc++ss∧st.bs=zL ss++(rowGo long k st acc).1.bs
 | 0,st,acc,h=>⟨h,[],rfl,by rw [List.append_nil]; rfl,rfl⟩
 | k+1,st,acc,h=>by
  by_cases he:(zj st long).1.e≠0
  ·
   unfold rowGo at h
   rw [if_pos he] at h
   exact absurd h he
  ·
   have e0:rowGo long (k+1) st acc=rowGo long k (zj st long).1 (acc++[⟨(zj st long).2.toArray⟩]):=by
    show (if (zj st long).1.e≠0 then _ else _)=_
    rw [if_neg he]
   rw [e0] at h ⊢
   obtain ⟨h1,ss,h2,h3,h4⟩:=Zq long k _ h
   obtain ⟨h5,h6⟩:=uC h1
   refine ⟨h5,mk6 (zj st long).2::ss,by rw [List.length_cons,h2],by rw [h3,List.append_assoc]; rfl,?_⟩
   rw [h6,h4]
   show _=(zo (mk6 (zj st long).2)++zL ss)++_
   rw [List.append_assoc]
theorem YM {st:St} {m l:Int} (h:(xI st m l).1.e=0):st.e=0∧st.bs=xR (xI st m l).2++(xI st m l).1.bs:=by
 unfold xI at h ⊢
 obtain ⟨h1,ss,h2,h3,h4⟩:=Zq l _ _ h
 obtain ⟨h5,h6⟩:=XR h1
 refine ⟨h5,?_⟩
 rw [h3,List.nil_append]
 unfold xR
 rw [h2,List.append_assoc,← h4]
 exact h6
theorem QG {st:St} (h:(yP 2 st).1.e=0):st.e=0∧yk 2 (xw st)=0∧st.bs=zR 2 (xw st)++(yP 2 st).1.bs:=by
 have ht:xw st=(yP 2 st).2:=by unfold xw; rw [if_pos h]
 rw [ht]
 clear ht
 have g1:=uC (st:=st) (m:=65535)
 rcases h1:zj st 65535 with ⟨s1,nm⟩
 rw [h1] at g1
 have g2:=uC (st:=s1) (m:=65535)
 rcases h2:zj s1 65535 with ⟨s2,hs⟩
 rw [h2] at g2
 have g3:=uC (st:=s2) (m:=65535)
 rcases h3:zj s2 65535 with ⟨s3,ml⟩
 rw [h3] at g3
 have g4:=Vv (st:=s3)
 rcases h4:yj s3 with ⟨s4,dis⟩
 rw [h4] at g4
 have g5:=YM (st:=s4) (m:=65535) (l:=65535)
 rcases h5:xI s4 65535 65535 with ⟨s5,gs⟩
 rw [h5] at g5
 rw [vf h1 h2 h3 h4 h5] at h ⊢
 dsimp only at *
 obtain ⟨hc,h0,he⟩:=xd h
 obtain ⟨k5,b5⟩:=g5 h0
 obtain ⟨k4,b4⟩:=g4 k5
 obtain ⟨k3,b3⟩:=g3 k4
 obtain ⟨k2,b2⟩:=g2 k3
 obtain ⟨k1,b1⟩:=g1 k2
 refine ⟨k1,hc,?_⟩
 rw [he,b1,b2,b3,b4,b5]
 show _=(zo (mk6 nm)++zo (mk6 hs)++(zo (mk6 ml)++le dis.toNat 1++xR gs))++s5.bs
 simp only [List.append_assoc]
theorem Z9:∀ (k:Nat) {st:St},(zN k st).1.e=0→st.e=0∧(∀ u∈(zN k st).2,yk 2 u=0)∧st.bs=(zN k st).2.flatMap (zR 2)++(zN k st).1.bs
 | 0,st,h=>⟨h,(fun u hu=>by cases hu),rfl⟩
 | k+1,st,h=>by
  obtain ⟨h1,h2,h3⟩:=Z9 k (st:=(yP 2 st).1) h
  obtain ⟨h4,h5,h6⟩:=QG h1
  refine ⟨h4,fun u hu=>?_,?_⟩
  ·
   rcases List.mem_cons.1 hu with rfl | hu
   ·
    exact h5
   ·
    exact h2 u hu
  ·
   show st.bs=(xw st::(zN k (yP 2 st).1).2).flatMap (zR 2)++(zN k (yP 2 st).1).1.bs
   rw [List.flatMap_cons,List.append_assoc,← h3]
   exact h6
theorem VB {bs:List UInt8} (h:(yF ⟨bs,0⟩).e=0):bs=le 2 1++(yF ⟨bs,0⟩).bs:=by
 unfold yF at h ⊢
 by_cases hc:(zt ⟨bs,0⟩ 1).2=2
 ·
  rw [if_pos hc] at h ⊢
  obtain ⟨_,h2⟩:=un h
  rw [hc] at h2
  exact h2
 ·
  rw [if_neg hc] at h
  obtain ⟨h5,_⟩:=xd h
  cases h5
theorem QS {st:St} (h:(zV st).1.e=0):st.e=0∧st.bs=le (zV st).2 2++(zV st).1.bs:=by
 unfold zV at h ⊢
 by_cases hc:12<(zt st 2).2
 ·
  rw [if_pos hc] at h
  obtain ⟨h5,_⟩:=xd h
  cases h5
 ·
  rw [if_neg hc] at h ⊢
  exact un h
theorem QV {G:List ByteArray} {r:St×List Us} (h:(uL G r).1=0):uL G r=(0,r.2,G)∧r.1.e=0∧yU r.2 G=0∧r.1.bs=[]:=by
 unfold uL at h ⊢
 by_cases h1:r.1.e≠0
 ·
  rw [if_pos h1] at h; exact absurd h h1
 ·
  rw [if_neg h1] at h ⊢
  by_cases h2:yU r.2 G≠0
  ·
   rw [if_pos h2] at h; exact absurd h h2
  ·
   rw [if_neg h2] at h ⊢
   by_cases h3:Yu r.1≠0
   ·
    rw [if_pos h3] at h; exact absurd h h3
   ·
    rw [if_neg h3]
    refine ⟨rfl,by simpa using h1,by simpa using h2,?_⟩
    unfold Yu at h3
    by_cases h4:0<r.1.bs.length
    ·
     rw [if_pos h4] at h3; exact absurd (by decide) h3
    ·
     exact List.eq_nil_of_length_eq_zero (by omega)
theorem JW {bs:List UInt8} (h:(xm bs).1=0):(∀ u∈(xm bs).2.1,yk 2 u=0)∧yU (xm bs).2.1 (xm bs).2.2=0∧fV (xm bs).2.1 (xm bs).2.2=bs:=by
 unfold xm YI at h ⊢
 obtain ⟨e0,h1,h2,h3⟩:=QV h
 rw [e0]
 dsimp only
 obtain ⟨k1,k2,k3⟩:=Z9 _ h1
 obtain ⟨k4,k5⟩:=QS k1
 obtain ⟨k6,k7⟩:=YM k4
 have k8:=VB k6
 refine ⟨k2,h2,?_⟩
 unfold fV
 rw [vb]
 rw [h3,List.append_nil] at k3
 rw [← k3,← k5,← k7]
 exact k8.symm

/-! ### What is written is read -/
theorem QF {u:Us} (h:yk 2 u=0) (r:List UInt8):(yP 2 ⟨zR 2 u++r,0⟩).1=⟨r,0⟩∧xw ⟨zR 2 u++r,0⟩=zZ u:=by
 obtain ⟨hl,_⟩:=vO h
 have n1:=hl.nm
 have n2:=hl.hs
 have n3:=hl.ml
 have n4:=hl.len
 have n5:=hl.all
 obtain ⟨nm,hs,ml,dis,ga,gs,gc⟩:=u
 dsimp only at n1 n2 n3 n4 n5
 have g1:zj ⟨zR 2 ⟨nm,hs,ml,dis,ga,gs,gc⟩++r,0⟩ 65535=(⟨zo hs++(zo ml++(le dis.toNat 1++(xR gs++r))),0⟩,nm.data.toList):=by
  have e:zR 2 ⟨nm,hs,ml,dis,ga,gs,gc⟩++r=zo nm++(zo hs++(zo ml++(le dis.toNat 1++(xR gs++r)))):=by
   show zo nm++zo hs++(zo ml++le dis.toNat 1++xR gs)++r=_
   simp only [List.append_assoc]
  rw [e]
  exact qo nm _ 65535 (by omega) (by omega)
 have g2:zj ⟨zo hs++(zo ml++(le dis.toNat 1++(xR gs++r))),0⟩ 65535=(⟨zo ml++(le dis.toNat 1++(xR gs++r)),0⟩,hs.data.toList):=qo hs _ 65535 (by omega) (by omega)
 have g3:zj ⟨zo ml++(le dis.toNat 1++(xR gs++r)),0⟩ 65535=(⟨le dis.toNat 1++(xR gs++r),0⟩,ml.data.toList):=qo ml _ 65535 (by omega) (by omega)
 have g4:yj ⟨le dis.toNat 1++(xR gs++r),0⟩=(⟨xR gs++r,0⟩,dis):=Q6 dis _
 have g5:xI ⟨xR gs++r,0⟩ 65535 65535=(⟨r,0⟩,gs):=VJ gs r 65535 65535 (by omega) (by omega) (fun s hs=>by have:=n5 s hs; omega)
 have ew:fz nm.data.toList hs.data.toList ml.data.toList dis gs=zZ ⟨nm,hs,ml,dis,ga,gs,gc⟩:=by
  unfold fz zZ mk6
  rw [uI,uI,uI]
 have ec:yk 2 (fz nm.data.toList hs.data.toList ml.data.toList dis gs)=0:=by rw [ew]; exact h
 have e0:yP 2 ⟨zR 2 ⟨nm,hs,ml,dis,ga,gs,gc⟩++r,0⟩=(⟨r,0⟩,zZ ⟨nm,hs,ml,dis,ga,gs,gc⟩):=by
  rw [vf g1 g2 g3 g4 g5,ec,UB,ew]
 refine ⟨by rw [e0],?_⟩
 unfold xw
 rw [e0,if_pos rfl]
theorem Z7:∀ (l:List Us) (r:List UInt8),(∀ u∈l,yk 2 u=0)→zN l.length ⟨l.flatMap (zR 2)++r,0⟩=(⟨r,0⟩,l.map zZ)
 | [],r,_=>rfl
 | u::l,r,h=>by
  obtain ⟨h1,h2⟩:=QF (h u (List.mem_cons_self ..)) (l.flatMap (zR 2)++r)
  have e:(u::l).flatMap (zR 2)++r=zR 2 u++(l.flatMap (zR 2)++r):=by rw [List.flatMap_cons,List.append_assoc]
  rw [e,List.length_cons,zN,h1,h2,Z7 l r (fun x hx=>h x (List.mem_cons_of_mem _ hx))]
  rfl
structure FQ (l:List Us) (G:List ByteArray):Prop where
 of:yU l G=0
 all:∀ u∈l,yk 2 u=0
 few:l.length≤12
 names:zK G=true
 rise:zB G=true
 gfew:G.length≤6
theorem may12 {l:List Us} {G:List ByteArray} (h:yU l G=0):FQ l G:=by
 have hc:FJ l G=0:=by
  by_cases hc:FJ l G=0
  ·
   exact hc
  ·
   have:=(cE_of (l:=l) (G:=G)).1 hc
   rw [h] at this
   exact absurd this.symm hc
 obtain ⟨h1,_,h3,h4,h5,h6⟩:=Vf hc
 exact ⟨h,h1,h3,h4,h5,h6⟩
theorem FQ.sizes {l:List Us} {G:List ByteArray} (h:FQ l G):∀ g∈G,g.size≤12:=fun g hg=>qu (by
 have:=List.all_eq_true.1 h.names g hg
 exact this)
theorem JV {l:List Us} {G:List ByteArray} (h:yU l G=0):xm (fV l G)=(0,l.map zZ,G):=by
 have m:=may12 h
 have hsz:=m.sizes
 have hg6:=m.gfew
 have hl12:=m.few
 have e0:yF ⟨fV l G,0⟩=⟨xR G++(le l.length 2++(l.flatMap (zR 2)++[])),0⟩:=by
  have hn:zt ⟨le 2 1++(xR G++(le l.length 2++(l.flatMap (zR 2)++[]))),0⟩ 1=(⟨xR G++(le l.length 2++(l.flatMap (zR 2)++[])),0⟩,2):=by
   rw [jH]
  have e9:fV l G=le 2 1++(xR G++(le l.length 2++(l.flatMap (zR 2)++[]))):=by unfold fV; rw [List.append_nil]
  unfold yF
  rw [e9,hn,if_pos rfl]
 have e1:xI ⟨xR G++(le l.length 2++(l.flatMap (zR 2)++[])),0⟩ 6 12=(⟨le l.length 2++(l.flatMap (zR 2)++[]),0⟩,G):=VJ G _ 6 12 (by omega) (by omega) (fun s hs=>by have:=hsz s hs; omega)
 have e2:zV ⟨le l.length 2++(l.flatMap (zR 2)++[]),0⟩=(⟨l.flatMap (zR 2)++[],0⟩,l.length):=by
  have hn:zt ⟨le l.length 2++(l.flatMap (zR 2)++[]),0⟩ 2=(⟨l.flatMap (zR 2)++[],0⟩,l.length):=by
   rw [jH,Nat.mod_eq_of_lt (by omega)]
  unfold zV
  rw [hn,if_neg (by dsimp only; omega)]
 unfold xm YI
 rw [e0,e1]
 dsimp only
 rw [e2]
 dsimp only
 rw [Z7 l [] m.all]
 unfold uL
 dsimp only
 rw [if_neg (by simp),if_neg (by rw [qt,h]; simp),if_neg (by simp [Yu])]
theorem Xg (l:List Us) (G:List ByteArray):fV (l.map zZ) G=fV l G:=by
 unfold fV
 rw [List.length_map,List.flatMap_map]
 rfl

/-! ### How long -/
theorem xG {n:Nat}:∀ {ss:List ByteArray},(∀ s∈ss,s.size≤n)→(zL ss).length≤(n+2) * ss.length
 | [],_=>by simp [zL]
 | s::ss,h=>by
  have h1:=h s (List.mem_cons_self ..)
  have h2:=xG (n:=n) (ss:=ss) (fun x hx=>h x (List.mem_cons_of_mem _ hx))
  show (zo s++zL ss).length≤_
  rw [List.length_append,yE,List.length_cons,Nat.mul_succ]
  omega
theorem Yd {u:Us} (h:yk 2 u=0):(zR 2 u).length≤137:=by
 obtain ⟨hl,_⟩:=vO h
 have h1:=hl.nm
 have h2:=hl.hs
 have h3:=hl.ml
 have h4:=xG hl.all
 have h5:=hl.len
 show (zo u.nm++zo u.hs++(zo u.ml++le u.dis.toNat 1++(le u.gs.length 2++zL u.gs))).length≤137
 simp only [List.length_append,yE,zQ]
 omega
theorem vF:∀ {l:List Us},(∀ u∈l,yk 2 u=0)→(l.flatMap (zR 2)).length≤137 * l.length
 | [],_=>Nat.le_refl _
 | q::l,h=>by
  have h1:=Yd (h q (List.mem_cons_self ..))
  have h2:=vF (l:=l) (fun x hx=>h x (List.mem_cons_of_mem _ hx))
  rw [List.flatMap_cons,List.length_append,List.length_cons]
  omega
theorem ZQ {l:List Us} {G:List ByteArray} (h:FQ l G):(fV l G).length≤1733:=by
 have h1:=vF h.all
 have h2:=xG h.sizes
 have h3:=h.few
 have h4:=h.gfew
 unfold fV xR
 simp only [List.length_append,zQ]
 omega

/-! ### The document's way -/
def US (st:St):Int×List Us×List ByteArray :=
 if (zt (xI st 6 12).1 2).1.e≠0 then ((zt (xI st 6 12).1 2).1.e,[],[])
 else if 12<(zt (xI st 6 12).1 2).2 then (7,[],[])
 else uL (xI st 6 12).2 (zN (zt (xI st 6 12).1 2).2 (zt (xI st 6 12).1 2).1)
def doc12:List UInt8→Int×List Us×List ByteArray
 | []=>(2,[],[])
 | b::r=>if b=2 then US ⟨r,0⟩ else (6,[],[])
theorem JX (bs:List UInt8):xm bs=doc12 bs:=by
 have hstop:∀ (st:St) (e:Int),yF ⟨bs,0⟩=st→st.e=e→e≠0→xm bs=(e,[],[]):=fun st e h0 h1 h2=>by
  have hk:=Zp (st:=st) 6 12 (by rw [h1]; exact h2)
  unfold xm
  rw [h0]
  have:=JG (st:=(xI st 6 12).1) (xI st 6 12).2 (by rw [hk,h1]; exact h2)
  rw [hk,h1] at this
  exact this
 cases bs with
 | nil=>exact hstop _ 2 rfl rfl (by decide)
 | cons b r =>
  have hnum:zt ⟨b::r,0⟩ 1=(⟨r,0⟩,b.toNat):=by
   unfold zt zO
   rw [if_neg (by simp)]
   simp [val]
  show _=if b=2 then US ⟨r,0⟩ else (6,[],[])
  by_cases hb:b=2
  ·
   subst hb
   rw [if_pos rfl]
   have hs:yF ⟨2::r,0⟩=⟨r,0⟩:=by unfold yF; rw [hnum]; rfl
   unfold xm
   rw [hs]
   unfold US YI
   generalize xI ⟨r,0⟩ 6 12=g
   by_cases he:(zt g.1 2).1.e≠0
   ·
    rw [if_pos he]
    have hc:(zV g.1).1.e=(zt g.1 2).1.e:=by
     unfold zV
     split
     ·
      exact vi 7 he
     ·
      rfl
    have h2:=uS (zV g.1).2 (st:=(zV g.1).1) (by rw [hc]; exact he)
    unfold uL
    rw [if_pos (by rw [h2,hc]; exact he),h2,hc]
   ·
    rw [if_neg he]
    have he0:(zt g.1 2).1.e=0:=by simpa using he
    unfold zV
    by_cases hc:12<(zt g.1 2).2
    ·
     rw [if_pos hc,if_pos hc]
     dsimp only
     have h7:(zu (zt g.1 2).1 7).e=7:=by
      unfold zu
      rw [if_neg (by simp [he0])]
     show uL g.2 (zu (zt g.1 2).1 7,[])=_
     unfold uL
     dsimp only
     rw [if_pos (by rw [h7]; decide),h7]
    ·
     rw [if_neg hc,if_neg hc]
  ·
   rw [if_neg hb]
   have hs:yF ⟨b::r,0⟩=⟨[],6⟩:=by
    unfold yF
    rw [hnum]
    dsimp only
    rw [if_neg (show ¬ b.toNat=2 from fun h=>hb (UInt8.toNat_inj.1 h))]
    rfl
   exact hstop _ 6 hs rfl (by decide)

/-! ### A directory's rows -/
def vq (p:List UInt8×U11):Us:=⟨yT p.1,yT p.2.hs,yT p.2.ml,p.2.dis,none,p.2.gs.map yT,0⟩
theorem bl_tx12 (N:List (List UInt8)):xP (N.map yT)=N:=by
 unfold xP
 rw [List.map_map]
 conv=>rhs; rw [← List.map_id N]
 exact List.map_congr_left fun x _=>yx x
theorem FZ (G:List ByteArray):(xP G).map yT=G:=by
 unfold xP
 rw [List.map_map]
 conv=>rhs; rw [← List.map_id G]
 exact List.map_congr_left fun x _=>uU x
theorem YB (l:List Us):(um l).map vq=l.map zZ:=by
 unfold um
 rw [List.map_map]
 refine List.map_congr_left fun u _=>?_
 show (⟨yT u.nm.data.toList,yT u.hs.data.toList,yT u.ml.data.toList,u.dis,none,(xP u.gs).map yT,0⟩:Us)=zZ u
 rw [uU,uU,uU,FZ]
 rfl
def Xf (T:jk) (N:List (List UInt8)):List UInt8:=fV (T.map vq) (N.map yT)
theorem Uy (l:List Us) (G:List ByteArray):Xf (um l) (xP G)=fV l G:=by
 unfold Xf
 rw [YB,FZ,Xg]
theorem fi:∀ {ss:List ByteArray},(ss.Pairwise fun a b=>bytesBefore a.data.toList b.data.toList=true)→zB ss=true
 | [],_=>rfl
 | [_],_=>rfl
 | a::b::r,h=>by
  obtain ⟨h1,h2⟩:=List.pairwise_cons.1 h
  unfold zB
  rw [fi h2,Bool.and_true]
  unfold zv
  rw [vC]
  exact h1 b (List.mem_cons_self ..)
theorem fh {N:List (List UInt8)} (h:ui N):zB (N.map yT)=true:=by
 refine fi (List.pairwise_map.2 (List.Pairwise.imp (fun {a b} hab=>?_) h))
 rw [yx,yx]
 exact hab
theorem ZD {N:List (List UInt8)} (h:∀ n∈N,zm n=true):zK (N.map yT)=true:=by
 unfold zK
 rw [List.all_eq_true]
 intro g hg
 obtain ⟨n,hn,rfl⟩:=List.mem_map.1 hg
 rw [yx]
 exact h n hn
section
variable {A:zW} {L:zq} {S:zw} {k:Nat}
theorem QD (h:ya A L S k) (n:List UInt8):uG (yT (xp L n))=true:=by
 unfold uG
 rw [Bool.or_eq_true,Bool.and_eq_true,decide_eq_true_eq,decide_eq_true_eq,yx,jv]
 cases hh:xn L n with
 | false=>exact .inl (by rw [yY hh]; rfl)
 | true =>
  obtain ⟨_,h2,h3⟩:=h.all _ (ve hh)
  refine .inr ⟨h2,?_⟩
  unfold up
  rw [if_pos h2]
  show yT (zF (xp L n))=_
  rw [h3]
theorem Fs (h:ya A L S k) (p:List UInt8×(List UInt8×Bool)) (hp:p∈A):yk 2 (vq (p.1,vt L S p.1 p.2))=0:=by
 obtain ⟨h1,h2⟩:=h.nm p hp
 have h3:=QD h p.1
 have h4:((ud S p.1).map yT).length≤6:=by rw [List.length_map]; exact Nat.le_trans (of10_le S p.1) h.grp.few
 have h5:zK ((ud S p.1).map yT)=true:=ZD fun g hg=>by
  obtain ⟨q,hq,rfl⟩:=List.mem_map.1 (XK hg)
  exact h.grp.named q hq
 have h6:zB ((ud S p.1).map yT)=true:=fh (jG h.grp.rise p.1)
 unfold yk
 dsimp only
 rw [if_neg (by decide)]
 show zD [zD [zA (vo 2) 6,zA (zm (yT p.1).data.toList) 10,zA (xo (yT p.2.1).data.toList) 4],zA (uG (yT (xp L p.1))) 11,zA (decide (((ud S p.1).map yT).length≤6)) 7,zA (zK ((ud S p.1).map yT)) 10,zA (zB ((ud S p.1).map yT)) 9]=0
 rw [yx,yx,h1,h2,h3,h5,h6,decide_eq_true h4]
 rfl
theorem jx (A:zW) (L:zq) (S:zw):(zM A L S).map vq=A.map fun p=>vq (p.1,vt L S p.1 p.2):=by
 unfold zM
 rw [List.map_map]
 rfl
theorem fl:∀ {l:List Us},(∀ u∈l,yk 2 u=0)→yL l=0
 | [],_=>rfl
 | u::l,h=>by
  unfold yL
  rw [if_pos (h u (List.mem_cons_self ..))]
  exact fl fun x hx=>h x (List.mem_cons_of_mem _ hx)
theorem qX (G:List ByteArray):∀ (l pre:List Us),(∀ u∈l,u.gs.all (fun g=>qg (xP G) g.data.toList)=true)→(pre++l).Pairwise (fun u v=>u.ml.data.toList≠[]→v.ml.data.toList≠u.ml.data.toList)→yc G pre l=0
 | [],_,_,_=>rfl
 | u::l,pre,h1,h2=>by
  obtain ⟨_,_,p3⟩:=List.pairwise_append.1 h2
  have h0:yQ G pre u=0:=by
   unfold yQ
   rw [if_pos (h1 u (List.mem_cons_self ..)),if_neg]
   rw [Bool.not_eq_true,List.any_eq_false]
   intro v hv hc
   rw [Bool.and_eq_true,Bool.not_eq_true',beq_eq_false_iff_ne,beq_iff_eq] at hc
   exact p3 v hv u (List.mem_cons_self ..) (by rw [← hc.2]; exact hc.1) hc.2
  show (if yQ G pre u=0 then yc G (pre++[u]) l else yQ G pre u)=0
  rw [if_pos h0]
  exact qX G l (pre++[u]) (fun x hx=>h1 x (List.mem_cons_of_mem _ hx)) (by rw [List.append_assoc]; exact h2)
theorem good_of12 (h:ya A L S k):yU ((zM A L S).map vq) ((ze S).map yT)=0:=by
 have h1:yL ((zM A L S).map vq)=0:=fl fun u hu=>by
  rw [jx] at hu
  obtain ⟨p,hp,rfl⟩:=List.mem_map.1 hu
  exact Fs h p hp
 have h2:zB (((zM A L S).map vq).map (·.nm))=true:=by
  have e:((zM A L S).map vq).map (·.nm)=(ze A).map yT:=by
   rw [jx,List.map_map]
   unfold ze
   rw [List.map_map]
   rfl
  rw [e]
  exact fh (ye.names h.rise)
 have h3:((zM A L S).map vq).length≤12:=by rw [List.length_map,jy]; exact h.few
 have h4:zK ((ze S).map yT)=true:=ZD fun n hn=>by
  obtain ⟨q,hq,rfl⟩:=List.mem_map.1 hn
  exact h.grp.named q hq
 have h5:zB ((ze S).map yT)=true:=fh (ye.names h.grp.rise)
 have h6:((ze S).map yT).length≤6:=by
  rw [List.length_map]
  unfold ze
  rw [List.length_map]
  exact h.grp.few
 have h7:yc ((ze S).map yT) [] ((zM A L S).map vq)=0:=by
  refine qX _ _ _ (fun u hu=>?_) ?_
  ·
   rw [jx] at hu
   obtain ⟨p,hp,rfl⟩:=List.mem_map.1 hu
   rw [List.all_eq_true]
   intro g hg
   obtain ⟨x,hx,rfl⟩:=List.mem_map.1 (show g∈(ud S p.1).map yT from hg)
   rw [bl_tx12,yx,qy]
   exact XK hx
  ·
   rw [List.nil_append,jx]
   refine List.pairwise_map.2 (List.Pairwise.imp (fun {p q} hpq=>?_) h.rise)
   show (yT (xp L p.1)).data.toList≠[]→(yT (xp L q.1)).data.toList≠(yT (xp L p.1)).data.toList
   rw [yx,yx]
   intro hne he
   obtain ⟨M,hM⟩:=h.mir
   have hp:xn L p.1=true:=by
    cases hh:xn L p.1 with
    | true=>rfl
    | false=>exact absurd (yY hh) hne
   have hq:xn L q.1=true:=by
    cases hh:xn L q.1 with
    | true=>rfl
    | false=>exact absurd (he ▸ yY hh) hne
   have m1:=(hM.iff _ _).1 (ve hp)
   have m2:=(hM.iff _ _).1 (ve hq)
   rw [he] at m2
   have e:=XC hM.rm m1 m2
   rw [e] at hpq
   rw [zG] at hpq
   cases hpq
 unfold yU uF
 rw [h1,h2,decide_eq_true (show ((((zM A L S).map vq).length:Nat):Int)≤12 by omega),h4,h5,if_pos h6,h7]
 rfl
end
end Go.Proofs.YthmomkjingcbiaaGreatDoor
namespace Go.Proofs.YthmomkjingcbiaaGreatDoor
open Go.RowKit Go.Maps Go.Sort Go.Shelf

def Vl (w:World) (B:Nat) (bs:List UInt8) (e:Ending) (w':World):Prop:=e=.returned (.pointer (some ⟨B,0,none⟩))∧NW6 w B bs w'
theorem NW6.byte12 {w W:World} {B:Nat} {bs:List UInt8} (xi:Int) (x:Nat) (h:NW6 w B bs W) (ex:xi=x) (hx:x<256) (hr:bs.length≤500000) :
  Calls Tryz.prog 36 #[.pointer (some ⟨B,0,none⟩),.int .u8 xi] W (Vl w B (bs++le x 1)):=by
 subst ex
 obtain ⟨hB,⟨v,hw,hv⟩,ht⟩:=h
 exact (Xh B v bs x W hw hx (by omega)).mono fun e w' ⟨he,hg⟩=>⟨he,hg.nw6 hB hv ht⟩
theorem NW6.two12 {w W:World} {B:Nat} {bs:List UInt8} (xi:Int) (x:Nat) (h:NW6 w B bs W) (ex:xi=x) (hx:x<65536) (hr:bs.length≤500000) :
  Calls Tryz.prog 37 #[.pointer (some ⟨B,0,none⟩),.int .u16 xi] W (Vl w B (bs++le x 2)):=by
 subst ex
 obtain ⟨hB,⟨v,hw,hv⟩,ht⟩:=h
 exact (jw B v bs x W hw hx (by omega)).mono fun e w' ⟨he,hg⟩=>⟨he,hg.nw6 hB hv ht⟩
theorem NW6.row12 {w W:World} {B:Nat} {bs:List UInt8} {b c:Nat} {A:Option Addr} (ss:List ByteArray) (h:NW6 w B bs W) (ho:W.ownsRow b 9 1 (.slice A ss.length c) ss.length (zr ss)) (hl:ss.length≤65535) (hs:∀ s∈ss,s.size≤65535) (hr:bs.length≤500000) :
  Calls Tryz.prog 46 #[.pointer (some ⟨B,0,none⟩),.slice A ss.length c] W (Vl w B (bs++xR ss)):=by
 obtain ⟨hB,⟨v,hw,hv⟩,ht⟩:=h
 obtain ⟨f1,_,f3,f4⟩:=xW ho rfl
 refine (VH B v bs A ss.length c ss W hw f3 f4 (by omega) f1 (fun hne a ha=>?_) hs (by omega)).mono fun e w' ⟨he,hg⟩=>⟨he,hg.nw6 hB hv ht⟩
 rcases ho.2 with ⟨h0,h1⟩ | ⟨g,cap,cur,hv',_,hg,_⟩
 ·
  exact absurd (List.eq_nil_of_length_eq_zero h1) hne
 ·
  injection hv' with hA _ _
  rw [hA] at ha
  injection ha with ha
  subst ha
  rintro (he | he)
  ·
   have he':g=B:=he
   subst he'
   have:=hw.1.symm.trans hg
   simp at this
  ·
   rcases hw.2.2 with ⟨hv2,_⟩ | ⟨g',cap',cur',hv2,_,hg',_⟩
   ·
    rw [hv2] at he; simp [Value.ownBlock] at he
   ·
    rw [hv2] at he
    have:g'=g:=by simpa [Value.ownBlock] using he
    subst this
    have:=hg'.symm.trans hg
    simp at this

theorem plU_us12 (R:yB W11):um (R.map FY)=YX R:=by
 unfold um YX
 rw [List.map_map]
 refine List.map_congr_left fun q _=>?_
 show ((yT q.1).data.toList,(⟨q.2.hs.data.toList,q.2.ml.data.toList,q.2.dis,xP (q.2.gs.map yT)⟩:U11))=(q.1,q.2.u)
 rw [yx,bl_tx12]
 rfl
theorem QM (N:List (List UInt8)):N.map encStr=zr (N.map yT):=by
 unfold zr
 rw [List.map_map]
 rfl
section
variable {w0 w:World} {D P M G:Nat} {A:zW} {L:zq} {S:zw} {k:Nat}
theorem UA (ho:zH w0 w D P M G A L S) (hg:ya A L S k):Calls Tryz.prog 45 #[.pointer (some ⟨D,0,none⟩)] w fun e w' =>
  ∃ Aa c l,e=.returned (.slice Aa l.length c)∧uz w' Aa l∧(∀ u∈l,u.Ok w')∧um l=zM A L S∧Below w.heap.size w w':=by
 refine (U9 ho hg).mono fun e w' ⟨v,R,he,hr,hp,hb⟩=>?_
 have hs:=short11 hg
 have hr0:=hr.low (Nat.zero_le _)
 obtain ⟨Aa,c,rfl⟩:=hr0.rw.us.shape
 obtain ⟨h1,h2⟩:=rd_us11 hr0.rw.us
 refine ⟨Aa,c,R.map FY,by rw [← h1]; exact he,h2,fun u hu=>?_,by rw [plU_us12]; exact hp,hb⟩
 obtain ⟨q,hq,rfl⟩:=List.mem_map.1 hu
 have hm:(q.1,q.2.u)∈zM A L S:=by rw [← hp]; exact List.mem_map.2 ⟨q,hq,rfl⟩
 have a2:=hs.hs _ hm
 have a3:=hs.ml _ hm
 exact us11_ok (hr0.2 q hq) (hs.nm _ hm) (by rw [← zh]; exact a2) (by rw [← zh]; exact a3) (hs.gs _ hm)
theorem ZS (ho:zH w0 w D P M G A L S) (hg:ya A L S k):Calls Tryz.prog 47 #[.pointer (some ⟨D,0,none⟩)] w fun e w' =>
  ∃ Aa c,e=.returned (.slice Aa ((ze S).map yT).length c)∧w'.ownsRow 0 9 1 (.slice Aa ((ze S).map yT).length c) ((ze S).map yT).length (zr ((ze S).map yT))∧Below w.heap.size w w':=by
 refine (ZB ho hg.grp).mono fun e w' ⟨v,he,hr,hb⟩=>?_
 have hr0:=zx hr (Nat.zero_le _)
 obtain ⟨Aa,c,rfl⟩:=yD hr0
 rw [QM] at hr0
 refine ⟨Aa,c,by rw [List.length_map]; exact he,?_,hb⟩
 rw [List.length_map]
 exact hr0

set_option maxRecDepth 100000 in
theorem Yt (ho:zH w0 w D P M G A L S) (hg:ya A L S k) (h5:vm w) :
  Calls Tryz.prog 16 #[.pointer (some ⟨D,0,none⟩)] w (Told6 w (Xf (zM A L S) (ze S))):=by
 have hz:=good_of12 hg
 have hmay:=may12 hz
 have HAL:Hid (Calls Tryz.prog 45 #[.pointer (some ⟨D,0,none⟩)] w fun e w'=>∃ Aa c l,e=.returned (.slice Aa l.length c)∧uz w' Aa l∧(∀ u∈l,u.Ok w')∧l.map zZ=(zM A L S).map vq∧Below w.heap.size w w') :=
  (UA ho hg).mono fun e w' ⟨Aa,c,l,h1,h2,h3,h4,h5⟩=>⟨Aa,c,l,h1,h2,h3,by rw [← YB,h4],h5⟩
 have HGR:Hid (∀ W,Below w.heap.size w W→Calls Tryz.prog 47 #[.pointer (some ⟨D,0,none⟩)] W fun e w'=>∃ Aa c,e=.returned (.slice Aa ((ze S).map yT).length c)∧w'.ownsRow 0 9 1 (.slice Aa ((ze S).map yT).length c) ((ze S).map yT).length (zr ((ze S).map yT))∧Below W.heap.size W w'):=fun W hb=>ZS (ho.later hb) hg
 have H5:=z8 h5
 have hgz:=hmay.sizes
 have hg6:=hmay.gfew
 unfold Xf
 generalize (ze S).map yT=Gs at *
 have HCH:Hid (∀ l:List Us,l.map zZ=(zM A L S).map vq→l.length≤12∧(∀ u∈l,yk 2 u=0)∧fV ((zM A L S).map vq) Gs=fV l Gs):=fun l he=>by
  have m2:FQ l Gs:=may12 (by rw [← qt,he]; exact hz)
  exact ⟨m2.few,m2.all,by rw [← he,Xg]⟩
 clear hz hmay h5 ho hg
 generalize (zM A L S).map vq=T at *
 generalize fV T Gs=out at *
 have HGZ:Hid (∀ g∈Gs,g.size≤65535):=fun g h=>Nat.le_trans (hgz g h) (by decide)
 have HRL:Hid ((xR Gs).length≤1000):=by
  have:=xG hgz
  show (le Gs.length 2++zL Gs).length≤1000
  rw [List.length_append,zQ]
  omega
 obtain ⟨m,hm⟩:∃ m,m=Gs.length:=⟨_,rfl⟩
 have HMG:=z8 hm
 rw [← hm] at HGR hg6
 clear hm hgz
 go_enter Tryz.func16,Tryz.ntmps16
 go_wp2_with fail
 with_reducible refine HAL.out.mono ?_
 rintro e w1 ⟨Aa,c,l,rfl,hu,hok,hse,hb⟩
 obtain ⟨hfew,hck,hfo⟩:=HCH.out l hse
 obtain ⟨n,hn⟩:∃ n,n=l.length:=⟨_,rfl⟩
 have HLN:Hid (n=l.length):=hn
 have HU:=z8 hu
 have HOK:=z8 hok
 have HCK:=z8 hck
 have HB1:=z8 hb
 have HSH:Hid (out=le 2 1++xR Gs++le l.length 2++l.flatMap (zR 2)):=by show out=_; rw [hfo]; unfold fV; simp only [List.append_assoc]
 have hbl:∀ k,((l.take k).flatMap (zR 2)).length≤137 * 12:=fun k=>by
  have:=vF (l:=l.take k) (fun q hq=>hck q (List.mem_of_mem_take hq))
  have h2:(l.take k).length≤l.length:=by rw [List.length_take]; omega
  omega
 have HBL:=z8 hbl
 rw [← hn] at hfew HSH ⊢
 have HM1:=z8 (H5.out.later hb)
 clear hu hok hck hse hfo hb HAL HCH hn hbl H5
 have HZ:=z8 (NW6.zero w1)
 go_wp2_with fail
 with_reducible refine (NW6.byte12 _ 2 HZ.out (by simp) (by omega) (by simp)).mono ?_
 rintro e w2 ⟨rfl,h1⟩
 rw [List.nil_append] at h1
 have H1:=z8 h1
 have HG2:=z8 (HGR.out w2 (z7 HB1.out h1.2.2))
 clear h1 HZ HGR
 go_wp2_with fail
 with_reducible refine HG2.out.mono ?_
 rintro e w3 ⟨Ag,cg,rfl,hog,hb⟩
 have H2:=z8 (H1.out.below hb)
 have HOG:=z8 hog
 clear hb hog HG2 H1
 have HRC:Hid (Calls Tryz.prog 46 #[.pointer (some ⟨w1.heap.size,0,none⟩),.slice Ag m cg] w3 (Vl w1 w1.heap.size (le 2 1++xR Gs))):=by
  have ho:=HOG.out
  rw [HMG.out] at ho ⊢
  exact NW6.row12 Gs H2.out ho (by rw [← HMG.out]; omega) HGZ.out (by rw [zQ]; omega)
 go_wp2_with fail
 with_reducible refine HRC.out.mono ?_
 rintro e w4 ⟨rfl,h1⟩
 have H3:=z8 h1
 clear h1 HRC H2 HOG
 go_wp2_with fail
 with_reducible refine (NW6.two12 _ n H3.out (by go_num) (by omega) (by have:=HRL.out; rw [List.length_append,zQ]; omega)).mono ?_
 rintro e w5 ⟨rfl,h1⟩
 have H4:=z8 h1
 have hpre:(le 2 1++xR Gs++le n 2).length≤2000:=by have:=HRL.out; rw [List.length_append,List.length_append,zQ,zQ]; omega
 clear h1 H3
 generalize le 2 1++xR Gs++le n 2=pre at *
 generalize hB:w1.heap.size=BW at *
 have HBW:=z8 hB
 clear hB
 go_wp2
 go_loopg [6,21] n (fun gg _ s21 wr=>∃ k:Nat,k≤n∧n - k≤gg∧s21=.int .i64 k∧Hid (NW6 w1 BW (pre++(l.take k).flatMap (zR 2)) wr))
 case atStart=>exact ⟨0,Nat.zero_le _,by omega,rfl,by show NW6 w1 BW (pre++[]) w5; rw [List.append_nil]; exact H4.out⟩
 case round =>
  clear H4
  obtain ⟨k,hk,hg,rfl,HW⟩:=hrel
  have hbw:=HW.out.2.2
  by_cases hlt:k<n
  ·
   have hltz:(k:Int)<(n:Int):=by omega
   have hkl:k<l.length:=HLN.out ▸ hlt
   obtain ⟨b,off,rfl,hb,hc⟩:=(HU.out.later hbw) (by intro e; rw [e] at hkl; exact absurd hkl (Nat.not_lt_zero _))
   have c0:wr.cell? ⟨b,off+k * 5,none⟩=some (.string l[k].nm):=hc k hkl 0 _ rfl
   have c1:wr.cell? ⟨b,off+k * 5+1,none⟩=some (.string l[k].hs):=hc k hkl 1 _ rfl
   have c2:wr.cell? ⟨b,off+k * 5+2,none⟩=some (.string l[k].ml):=hc k hkl 2 _ rfl
   have c3:wr.cell? ⟨b,off+k * 5+3,none⟩=some (.bool l[k].dis):=hc k hkl 3 _ rfl
   have c4:wr.cell? ⟨b,off+k * 5+4,none⟩=some (.slice l[k].ga l[k].gs.length l[k].gc):=hc k hkl 4 _ rfl
   have hb1:=za (Below.refl wr.heap.size wr) (.cells #[.string l[k].nm,.string l[k].hs,.string l[k].ml,.bool l[k].dis,.slice l[k].ga l[k].gs.length l[k].gc] 47)
   have hch:=HCK.out l[k] (List.getElem_mem hkl)
   have hlen:(pre++(l.take k).flatMap (zR 2)).length≤100000:=by have:=HBL.out k; rw [List.length_append]; omega
   have HP:Hid (Calls Tryz.prog 38 #[.pointer (some ⟨BW,0,none⟩),.int .i64 2,.agg #[.string l[k].nm,.string l[k].hs,.string l[k].ml,.bool l[k].dis,.slice l[k].ga l[k].gs.length l[k].gc]] (wr.alloc (.cells #[.string l[k].nm,.string l[k].hs,.string l[k].ml,.bool l[k].dis,.slice l[k].ga l[k].gs.length l[k].gc] 47)) fun e w'=>e=.returned (.bool true)∧NW6 w1 BW (pre++(l.take (k+1)).flatMap (zR 2)) w'):=by
    refine (put6_wide w1 BW _ 2 l[k] _ (HW.out.below hb1) (HOK.out _ (List.getElem_mem hkl)) HM1.out hlen).mono fun e w' h=>?_
    rcases h with ⟨_,he,hn⟩ | ⟨h0,_⟩
    ·
     refine ⟨he,?_⟩
     rw [List.take_succ_eq_append_getElem hkl,List.flatMap_append,List.flatMap_singleton,← List.append_assoc]
     exact hn
    ·
     exact absurd hch h0
   clear hc hb hb1 hch hlen hbw HW
   generalize l[k].nm=nm at *
   generalize l[k].hs=hs at *
   generalize l[k].ml=ml at *
   generalize l[k].dis=dis at *
   generalize l[k].ga=ga at *
   generalize l[k].gs.length=gl at *
   generalize l[k].gc=gc at *
   go_wp2_with (go_at_call 38; (with_reducible refine HP.out.mono ?_); rintro e w6 ⟨rfl,h4⟩; have H5:=z8 h4; clear h4)
   go_roundg (n - (k+1))
   case measure=>omega
   case rel=>exact ⟨k+1,by omega,by omega,by go_num,H5⟩
  ·
   have hltz:¬ (k:Int)<(n:Int):=by omega
   obtain rfl:k=n:=by omega
   have hw:=HW.out
   rw [List.take_of_length_le (by have:=HLN.out; omega),← HSH.out] at hw
   have hol:out.length≤1000000:=by
    have:=HBL.out k
    rw [List.take_of_length_le (by have:=HLN.out; omega)] at this
    rw [HSH.out,List.length_append]
    omega
   have HBY:=z8 (hw.bytes hol)
   have HBB:=z8 (z7 HB1.out hw.2.2)
   have hszb:=HBB.out.size
   clear hw hol hbw HW
   go_wp2_with fail
   with_reducible refine HBY.out.mono ?_
   rintro e w7 ⟨v7,rfl,ho,hn,hb⟩
   have HF:Hid (Told6 w out (.returned v7) w7):=⟨v7,rfl,ho,fun j hj=>Nat.le_trans hszb (hn j hj),z7 HBB.out hb⟩
   clear ho hn hb HBY
   go_wp2
   go_ret
   exact HF.out
end

def yr:List UInt8→Int
 | []=>0
 | b::_=>if b.toNat=1∨b.toNat=2 then b.toNat else 0
set_option maxRecDepth 100000 in
theorem Zl (u:Value) (bs:List UInt8) (w:World) (hu:Rd w u bs) :
  Calls Tryz.prog 9 #[u] w fun e w'=>e=.returned (.int .i64 (yr bs))∧w=w':=by
 obtain ⟨A0,c0,rfl⟩:=hu.shape
 cases bs with
 | nil =>
  clear hu
  show Calls Tryz.prog 9 #[.slice A0 0 c0] w fun e w'=>e=.returned (.int .i64 0)∧w=w'
  go_enter Tryz.func9,Tryz.ntmps9
  go_wp2
  go_ret
  exact ⟨rfl,rfl⟩
 | cons b r =>
  obtain ⟨g,off,c,he,hc⟩:=hu.at_ 0 (by simp)
  injection he with e1 _ e3
  subst e1 e3
  rw [Nat.add_zero] at hc
  have hcell:w.cell? ⟨g,off,none⟩=some (.int .u8 (b.toNat:Int)):=hc
  have hs:yr (b::r)=if b.toNat=1∨b.toNat=2 then (b.toNat:Int) else 0:=rfl
  rw [hs]
  have hb:b.toNat<256:=b.toNat_lt
  clear hc hs hu
  obtain ⟨n,hn⟩:∃ n,n=(b::r).length:=⟨_,rfl⟩
  have hp:0<n:=by rw [hn]; simp
  have hpz:(n:Int) > 0:=by omega
  rw [← hn]
  clear hn
  generalize b.toNat=x at *
  by_cases h1:x=1
  ·
   subst h1
   go_enter Tryz.func9,Tryz.ntmps9
   go_wp2
   go_ret
   exact ⟨rfl,rfl⟩
  ·
   by_cases h2:x=2
   ·
    subst h2
    go_enter Tryz.func9,Tryz.ntmps9
    go_wp2
    go_ret
    exact ⟨rfl,rfl⟩
   ·
    have z1:((x:Int) == 1)=false:=by simp; omega
    have z2:((x:Int) == 2)=false:=by simp; omega
    rw [if_neg (by omega)]
    go_enter Tryz.func9,Tryz.ntmps9
    go_wp2
    go_ret
    exact ⟨rfl,rfl⟩

/-! ### One user of any bytes -/
theorem QH (B:Nat) (st:St) (w:World) (h:Rdr w B st) (hl:st.bs.length≤100000) (hm:vm w) (hBg:B≠0) :
    Calls Tryz.prog 236 #[.pointer (some ⟨B,0,none⟩),.int .i64 2] w (Got6 w B (yP 2 st).1 (yP 2 st).2):=by
  have l1:=zI st 65535
  have f1:=zX st 65535
  rcases h1:zj st 65535 with ⟨s1,nm⟩
  rw [h1] at l1 f1
  have l2:=zI s1 65535
  have f2:=zX s1 65535
  rcases h2:zj s1 65535 with ⟨s2,hs⟩
  rw [h2] at l2 f2
  have l3:=zI s2 65535
  have f3:=zX s2 65535
  rcases h3:zj s2 65535 with ⟨s3,ml⟩
  rw [h3] at l3 f3
  have l4:=vS s3
  rcases h4:yj s3 with ⟨s4,dis⟩
  rw [h4] at l4
  have f5:=vH s4 65535 65535
  rcases h5:xI s4 65535 65535 with ⟨s5,gs⟩
  rw [h5] at f5
  dsimp only at l1 l2 l3 l4 f1 f2 f3 f5
  rw [vf h1 h2 h3 h4 h5]
  exact get6_two B st w h (by omega) hm hBg _ _ _ _ _ _ _ _ _ _ _ h1 h2 h3 h4 h5 rfl (by omega) (by omega) (by omega) (by omega) (by omega) (by omega) (by omega) (fun s hs=>by have:=f5 s hs; omega)
structure Us.Wide (u:Us):Prop where
  nm:u.nm.size≤100000
  hs:u.hs.size≤100000
  ml:u.ml.size≤100000
  all:∀ s∈u.gs,s.size≤100000
theorem QE (st:St) (hl:st.bs.length≤100000):(yP 2 st).2.Wide:=by
  have l1:=zI st 65535
  have f1:=zX st 65535
  rcases h1:zj st 65535 with ⟨s1,nm⟩
  rw [h1] at l1 f1
  have l2:=zI s1 65535
  have f2:=zX s1 65535
  rcases h2:zj s1 65535 with ⟨s2,hs⟩
  rw [h2] at l2 f2
  have l3:=zI s2 65535
  have f3:=zX s2 65535
  rcases h3:zj s2 65535 with ⟨s3,ml⟩
  rw [h3] at l3 f3
  have l4:=vS s3
  rcases h4:yj s3 with ⟨s4,dis⟩
  rw [h4] at l4
  have f5:=vH s4 65535 65535
  rcases h5:xI s4 65535 65535 with ⟨s5,gs⟩
  rw [h5] at f5
  dsimp only at l1 l2 l3 l4 f1 f2 f3 f5
  rw [← jI] at f1 f2 f3
  rw [vf h1 h2 h3 h4 h5]
  exact ⟨by show (mk6 nm).size≤_; omega,by show (mk6 hs).size≤_; omega,by show (mk6 ml).size≤_; omega,fun s hs=>by have:=f5 s hs; omega⟩
theorem fL (st:St):zZ (yP 2 st).2=(yP 2 st).2:=by
  rcases h1:zj st 65535 with ⟨s1,nm⟩
  rcases h2:zj s1 65535 with ⟨s2,hs⟩
  rcases h3:zj s2 65535 with ⟨s3,ml⟩
  rcases h4:yj s3 with ⟨s4,dis⟩
  rcases h5:xI s4 65535 65535 with ⟨s5,gs⟩
  rw [vf h1 h2 h3 h4 h5]
  rfl
def Got12 (w:World) (B:Nat) (st:St) (e:Ending) (w':World):Prop :=
  ∃ u:Us,e=.returned u.v∧zZ u=xw st∧u.Wide∧w'.ownsRow w.heap.size 9 1 (.slice u.ga u.gs.length u.gc) u.gs.length (zr u.gs)∧Did w B (yP 2 st).1 w'
theorem vV {w:World} {b e size n:Nat} {v:Value} {xs:List Value} (h:w.ownsRow 0 e size v n xs) (hk:∀ k,v.ownBlock=some k→b≤k):w.ownsRow b e size v n xs:=Yn h hk
theorem QI (B:Nat) (st:St) (w:World) (h:Rdr w B st) (hl:st.bs.length≤100000) (hm:vm w) (hBg:B≠0) :
    Calls Tryz.prog 236 #[.pointer (some ⟨B,0,none⟩),.int .i64 2] w (Got12 w B st):=by
  have h6:=QH B st w h hl hm hBg
  have hw:=QE st hl
  have hb:=fL st
  have ht:xw st=if (yP 2 st).1.e=0 then (yP 2 st).2 else qF:=rfl
  unfold Got12
  rw [ht]
  clear ht
  generalize yP 2 st=q at *
  obtain ⟨s1,u⟩:=q
  dsimp only at *
  refine h6.mono fun e w' ⟨A,c,he,ho,hn,hd⟩=>?_
  by_cases h0:s1.e=0
  · rw [if_pos h0] at he ⊢
    exact ⟨{ u with ga:=A,gc:=c },he,hb,⟨hw.nm,hw.hs,hw.ml,hw.all⟩,vV ho hn,hd⟩
  · rw [if_neg h0] at he ⊢
    exact ⟨qF,he,rfl,⟨Nat.zero_le _,Nat.zero_le _,Nat.zero_le _,fun s hs=>by cases hs⟩,World.ownsRow_nil _ _ _ _,hd⟩

theorem Zr (long:Int):∀ (k:Nat) (st:St) (acc:List ByteArray),(rowGo long k st acc).2.length≤acc.length+k
  | 0,st,acc=>Nat.le_refl _
  | k+1,st,acc=>by
    unfold rowGo
    split
    · exact Nat.zero_le _
    · have:=Zr long k (zj st long).1 (acc++[⟨(zj st long).2.toArray⟩])
      rw [List.length_append] at this
      simp only [List.length_cons,List.length_nil] at this
      omega
theorem VG (st:St) (m l:Int) (hm:m≤1000):(xI st m l).2.length≤1000:=by
  unfold xI
  have h1:=Zr l (zi st m).2 (zi st m).1 []
  have h2:(zi st m).2≤1000:=by
    unfold zi
    split
    · exact Nat.zero_le _
    · dsimp only
      omega
  have h3:([]:List ByteArray).length=0:=rfl
  omega

/-! ### Part by part -/
set_option maxRecDepth 100000 in
theorem Zm (B:Nat) (st:St) (w:World) (h:Rdr w B st) (hl:st.bs.length≤100000) :
    Calls Tryz.prog 170 #[.pointer (some ⟨B,0,none⟩)] w (Void w B (yF st)):=by
  have HN:=z8 (qZ B st w h (by omega))
  obtain ⟨s0,hs0⟩:∃ s0,s0=yF st:=⟨_,rfl⟩
  have HS:Hid (s0=if (zt st 1).2=2 then (zt st 1).1 else zu (zt st 1).1 6):=hs0
  rw [← hs0]
  clear hs0 h hl
  generalize (zt st 1).2=x at *
  generalize (zt st 1).1=s1 at *
  go_enter Tryz.func170,Tryz.ntmps170
  go_wp2_with fail
  with_reducible refine HN.out.mono ?_
  rintro e w1 ⟨rfl,hd⟩
  have HD:=z8 hd
  clear hd HN
  by_cases hx:x=2
  · have hs:=HS.out
    rw [if_pos hx] at hs
    subst hx
    subst hs
    clear HS
    go_wp2
    go_end0
    exact ⟨rfl,HD.out⟩
  · have hs:=HS.out
    rw [if_neg hx] at hs
    have hz:((x:Int) != 2)=true:=by simp; omega
    have HF:=z8 (xk B s1 6 w1 HD.out.rdr)
    rw [← hs] at HF
    clear hs HS
    go_wp2_with fail
    with_reducible refine HF.out.mono ?_
    rintro e w2 ⟨rfl,hd2⟩
    have HD2:=z8 (HD.out.next hd2)
    clear hd2 HF HD
    go_wp2
    go_end0
    exact ⟨rfl,HD2.out⟩

set_option maxRecDepth 100000 in
theorem Ym (B:Nat) (st:St) (w:World) (h:Rdr w B st) (hl:st.bs.length≤100000) :
    Calls Tryz.prog 173 #[.pointer (some ⟨B,0,none⟩)] w fun e w'=>e=.returned (.int .i64 (zV st).2)∧Did w B (zV st).1 w':=by
  have HN:=z8 (ff B st w h (by omega))
  have hx2:(zt st 2).2<65536:=vn st 2
  obtain ⟨c,hc⟩:∃ c,c=zV st:=⟨_,rfl⟩
  have HS:Hid (c=if 12<(zt st 2).2 then (zu (zt st 2).1 7,0) else ((zt st 2).1,(zt st 2).2)):=hc
  rw [← hc]
  clear hc h hl
  generalize (zt st 2).2=x at *
  generalize (zt st 2).1=s1 at *
  obtain ⟨s2,n⟩:=c
  go_enter Tryz.func173,Tryz.ntmps173
  go_wp2_with fail
  with_reducible refine HN.out.mono ?_
  rintro e w1 ⟨rfl,hd⟩
  have HD:=z8 hd
  clear hd HN
  by_cases hx:12<x
  · have hs:=HS.out
    rw [if_pos hx] at hs
    have hz:(x:Int) > 12:=by omega
    obtain ⟨h1,h2⟩:=Prod.mk.inj hs
    have HF:=z8 (xk B s1 7 w1 HD.out.rdr)
    rw [← h1] at HF
    subst h2
    clear hs HS h1
    go_wp2_with fail
    with_reducible refine HF.out.mono ?_
    rintro e w2 ⟨rfl,hd2⟩
    have HD2:=z8 (HD.out.next hd2)
    clear hd2 HF HD
    go_wp2
    go_ret
    exact ⟨rfl,HD2.out⟩
  · have hs:=HS.out
    rw [if_neg hx] at hs
    have hz:¬ (x:Int) > 12:=by omega
    obtain ⟨h1,h2⟩:=Prod.mk.inj hs
    subst h1
    subst h2
    clear hs HS
    go_wp2
    go_ret
    exact ⟨rfl,HD.out⟩

theorem jX {w:World} {B b0:Nat} {st:St} {v:Value} {n:Nat} {xs:List Value} (hr:Rdr w B st) (h:w.ownsRow b0 47 5 v n xs):v.ownBlock≠some B:=by
  obtain ⟨u,hb,_⟩:=hr
  rcases h.2 with ⟨rfl,_⟩ | ⟨g,cap,cur,rfl,_,hg,_⟩
  · simp [Value.ownBlock]
  · intro he
    have:g=B:=by simpa [Value.ownBlock] using he
    subst this
    have:=hb.symm.trans hg
    simp at this
theorem Rdr.beside12 {w w':World} {B b0:Nat} {st:St} {v:Value} {n:Nat} {xs:List Value} (hr:Rdr w B st) (ho:w.ownsRow b0 47 5 v n xs) (ht:zb (fun i=>v.ownBlock=some i) w w'):Rdr w' B st:=by
  have hne:=jX hr ho
  have hB:=hr.lt
  obtain ⟨u,hu,hru⟩:=hr
  refine ⟨u,(ht.block B hB hne).trans hu,?_⟩
  rcases hru with h0 | ⟨g,off,cc,rfl,h1,h2,h3,h4,hbk,h5⟩
  · exact .inl h0
  · have hgn:v.ownBlock≠some g:=by
      obtain ⟨cur,fr,hcur⟩:=hbk
      intro he
      rcases ho.2 with ⟨hv,_⟩ | ⟨g',cap',cur',hv,_,hg',_⟩
      · rw [hv] at he; simp [Value.ownBlock] at he
      · rw [hv] at he
        have:g'=g:=by simpa [Value.ownBlock] using he
        subst this
        have:=hcur.symm.trans hg'
        simp at this
    exact .inr ⟨g,off,cc,rfl,h1,h2,Nat.lt_of_lt_of_le h3 ht.size,h4,hbk.keep ht hgn,fun j hj=>(ht.cell (p:=⟨g,off+j,none⟩) h3 hgn).trans (h5 j hj)⟩
theorem vc {w w':World} {b b0:Nat} {v u:Value} {n m:Nat} {xs ys:List Value} (h:w.ownsRow b 9 1 u m ys) (ho:w.ownsRow b0 47 5 v n xs) (ht:zb (fun i=>v.ownBlock=some i) w w'):w'.ownsRow b 9 1 u m ys:=by
  refine ⟨h.1,?_⟩
  rcases h.2 with h0 | ⟨g,cap,cur,rfl,hb,hg,rest⟩
  · exact .inl h0
  · refine .inr ⟨g,cap,cur,rfl,hb,(ht.block g (Array.getElem?_eq_some_iff.1 hg).1 fun he=>?_).trans hg,rest⟩
    rcases ho.2 with ⟨hv,_⟩ | ⟨g',cap',cur',hv,_,hg',_⟩
    · rw [hv] at he; simp [Value.ownBlock] at he
    · rw [hv] at he
      have:g'=g:=by simpa [Value.ownBlock] using he
      subst this
      have:=hg'.symm.trans hg
      simp at this

structure Yz (b:Nat) (w:World) (v:Value) (n:Nat) (l l2:List Us):Prop where
  same:l2.map zZ=l
  row:w.ownsRow b 47 5 v n (xE l2)
  wide:∀ u∈l2,u.Wide
  txt:∀ u∈l2,w.ownsRow b 9 1 (.slice u.ga u.gs.length u.gc) u.gs.length (zr u.gs)
theorem Yz.turns {S:Nat→Prop} {b n:Nat} {w w':World} {v:Value} {l l2:List Us} (h:Yz b w v n l l2) (ht:zb S w w') (hS:∀ k,b≤k→¬ S k):Yz b w' v n l l2 :=
  ⟨h.same,zY h.row (Nat.le_refl _) ht hS,h.wide,fun u hu=>zY (h.txt u hu) (Nat.le_refl _) ht hS⟩
theorem Yz.ok {b n:Nat} {w:World} {v:Value} {l l2:List Us} (h:Yz b w v n l l2):∀ u∈l2,u.Ok w:=fun u hu=>by
  obtain ⟨f1,f2,f3,f4⟩:=xW (h.txt u hu) rfl
  have hw:=h.wide u hu
  exact ⟨f1,Nat.le_trans hw.nm (by omega),Nat.le_trans hw.hs (by omega),Nat.le_trans hw.ml (by omega),f2,f3,f4,fun s hs=>Nat.le_trans (hw.all s hs) (by omega)⟩
def J3 (w:World) (B:Nat) (n:Nat) (st:St) (l:List Us) (e:Ending) (w':World):Prop :=
  ∃ v l2,e=.returned v∧Yz w.heap.size w' v n l l2∧Did w B st w'

set_option maxRecDepth 100000 in
theorem Yi (B n:Nat) (st:St) (w:World) (h:Rdr w B st) (hl:st.bs.length≤100000) (hn:n≤12) (hm:vm w) (hBg:B≠0) :
    Calls Tryz.prog 172 #[.pointer (some ⟨B,0,none⟩),.int .i64 n] w (J3 w B n (zN n st).1 (zN n st).2):=by
  obtain ⟨i0,hi,hz0,hz1,hz2⟩:=info_parts fm
  have hB:=h.lt
  have HR:=z8 (Did.refl h)
  have HM:Hid (∀ W s,Did w B s W→vm W):=fun W s hd=>by
    obtain ⟨hlt,m,hcm⟩:=hm
    exact ⟨Nat.lt_of_lt_of_le hlt hd.2.size,m,(hd.2.cell (p:=⟨0,0,none⟩) hlt (fun e=>hBg e.symm)).trans hcm⟩
  have HBG:=z8 hBg
  obtain ⟨us,hus⟩:∃ us,us=zN n st:=⟨_,rfl⟩
  rw [← hus]
  have HUS:Hid (∃ acc:List Us,acc.length=0∧st.bs.length≤100000∧us=((zN (n - 0) st).1,acc++(zN (n - 0) st).2)):=⟨[],rfl,hl,hus⟩
  clear hus h hl hm hBg
  go_enter Tryz.func172,Tryz.ntmps172
  go_wp2
  go_loopg [5,7] n (fun gg s5 s7 wr=>∃ (k:Nat) (acc l2:List Us) (s1:St),k≤n∧n - k≤gg∧s7=.int .i64 k∧Hid (acc.length=k∧s1.bs.length≤100000∧us=((zN (n - k) s1).1,acc++(zN (n - k) s1).2))∧Hid (Did w B s1 wr)∧Hid (Yz w.heap.size wr s5 k acc l2))
  case atStart =>
    obtain ⟨acc,h0,h1,h2⟩:=HUS.out
    have:acc=[]:=List.eq_nil_of_length_eq_zero h0
    subst this
    exact ⟨0,[],[],st,Nat.zero_le _,by omega,rfl,⟨rfl,h1,h2⟩,HR.out,rfl,World.ownsRow_nil _ _ _ _,(fun _ h=>nomatch h),(fun _ h=>nomatch h)⟩
  case round =>
    clear HUS HR
    obtain ⟨k,acc,l2,s1,hk,hg,rfl,HAC,HD,HO⟩:=hrel
    by_cases hlt:k<n
    · have hltz:(k:Int)<(n:Int):=by omega
      have hac:=HAC.out
      rw [show n - k=(n - (k+1))+1 by omega] at hac
      have HAC2:Hid ((acc++[xw s1]).length=k+1∧(yP 2 s1).1.bs.length≤100000∧us=((zN (n - (k+1)) (yP 2 s1).1).1,(acc++[xw s1])++(zN (n - (k+1)) (yP 2 s1).1).2)) :=
        ⟨by rw [List.length_append,hac.1]; rfl,Nat.le_trans (fK s1) hac.2.1,by rw [List.append_assoc]; exact hac.2.2⟩
      have HG:=z8 (QI B s1 wr HD.out.1 hac.2.1 (HM.out wr s1 HD.out) HBG.out)
      clear hac HAC
      go_wp2_with fail
      with_reducible refine HG.out.mono ?_
      rintro e w2 ⟨u,rfl,hnu,hwu,htu,hd⟩
      have HD2:=z8 (HD.out.next hd)
      have HO2:Hid (Yz w.heap.size w2 u5 k acc l2):=HO.out.turns hd.2 (fun j hj he=>by have he':j=B:=he; omega)
      have hszw:=HD.out.2.size
      have HTU:=z8 (zx htu hszw)
      have hsz:=HD2.out.2.size
      have HNU:=z8 hnu
      have HWU:=z8 hwu
      have HR2:=z8 HO2.out.row
      clear hd HG HD HO htu hnu hwu
      obtain ⟨nm,hs,ml,dis,ga,gs,gc⟩:=u
      unfold Us.v Us.cells
      dsimp only
      generalize hgl:gs.length=gl at *
      go_wp2_with (first
        | (at_builtin; refine wpList_append_own _ rfl _ _ 57 rfl w.heap.size 47 i0 (.agg #[.string ⟨#[]⟩,.string ⟨#[]⟩,.string ⟨#[]⟩,.bool false,.slice none 0 0]) 5 80 Tryz.underlying57 hi hz0 hz1 hz2 rfl (by decide) _ _ _ rfl (HR2.out.alloc _) ⟨w2.heap.size,0,none⟩ 1 1 [.string nm,.string hs,.string ml,.bool dis,.slice ga gl gc] rfl rfl
            (fun j u hu=>by rw [Addr.add_lit,Nat.zero_add,World.cell?_alloc_at _ _ _ _ rfl]; simpa using hu) (by simp [Value.oneCell']) (by unfold maxLen; omega) (by omega) (by simp; omega) ?_
           intro v' w3 hown' hgrow _
           have HO3:=z8 hown'
           have HG3:=z8 hgrow
           clear hown' hgrow)
        | fail)
      go_roundg (n - (k+1))
      case measure=>omega
      case rel =>
        have ht0:zb (fun i=>u5.ownBlock=some i) w2 w3:=(((zb.refl _ w2).alloc _).grown HG3.out (fun k hk _=>hk))
        refine ⟨k+1,acc++[xw s1],l2++[⟨nm,hs,ml,dis,ga,gs,gc⟩],(yP 2 s1).1,by omega,by omega,by go_num,HAC2,?_,?_⟩
        · exact z8 ⟨HD2.out.1.beside12 HO2.out.row ht0,HD2.out.2.next ht0 (fun i hi he=>by have:=(HO2.out.row.lt i he).1; omega)⟩
        · refine z8 ⟨by rw [List.map_append,HO2.out.same,List.map_singleton,HNU.out],?_,fun x hx=>?_,fun x hx=>?_⟩
          · rw [uB]
            subst hgl
            exact HO3.out
          · rcases List.mem_append.1 hx with hx | hx
            · exact HO2.out.wide x hx
            · rw [List.mem_singleton.1 hx]; exact HWU.out
          · rcases List.mem_append.1 hx with hx | hx
            · exact vc (HO2.out.txt x hx) HO2.out.row ht0
            · rw [List.mem_singleton.1 hx]
              subst hgl
              exact vc HTU.out HO2.out.row ht0
    · have hltz:¬ (k:Int)<(n:Int):=by omega
      obtain rfl:k=n:=by omega
      have hac:=HAC.out
      rw [Nat.sub_self] at hac
      have e1:us.1=s1:=by rw [hac.2.2]; rfl
      have e2:us.2=acc:=by rw [hac.2.2]; exact List.append_nil acc
      have HF:Hid (J3 w B k us.1 us.2 (.returned u5) wr):=⟨u5,l2,rfl,by rw [e2]; exact HO.out,by rw [e1]; exact HD.out⟩
      clear hac e1 e2 HAC HO HD
      go_wp2
      go_ret
      exact HF.out

def Y9 (w:World) (r:Int×List Us×List ByteArray) (e:Ending) (w':World):Prop :=
 (r.1≠0∧e=.returned (.tuple #[.pointer none,.int .i64 r.1])∧Below w.heap.size w w') ∨
 (r.1=0∧∃ D P M Gr A L S k,e=.returned (.tuple #[.pointer (some ⟨D,0,none⟩),.int .i64 0])∧zH w w' D P M Gr A L S∧Yc A L S r.2.1 r.2.2 k∧k≤200)
theorem Yc.nrm12 {A:zW} {L:zq} {S:zw} {l l2:List Us} {G:List ByteArray} {k:Nat} (h:Yc A L S l2 G k) (e:l2.map zZ=l):Yc A L S l G k:=by
 subst e
 unfold Yc at h ⊢
 rw [XF,List.length_map]
 exact h
theorem Qo (A A2:Option Addr) (c c2 n m:Nat) (l l2:List Us) (G:List ByteArray) (w:World) (he:l2.map zZ=l) (hl:n=l.length) (hn:n≤1000) (hr:uz w A l2) (ho:∀ u∈l2,u.Ok w) (hm:m=G.length) (hm1:m≤1000) (hg:RdS w A2 G) (hgs:∀ g∈G,g.size≤9223372036854775807) (h5:vm w) :
  Calls Tryz.prog 41 #[.slice A n c,.slice A2 m c2] w (Of11 l G w):=by
 have hx:yU l2 G=yU l G:=by rw [← he,qt]
 refine (ZA A A2 c c2 n m l2 G w (by rw [hl,← he,List.length_map]) hn hr ho hm hm1 hg hgs h5).mono fun e w' h=>?_
 unfold Of11 at h ⊢
 rw [hx] at h
 rcases h with h | ⟨h0,D,P,M,Gr,A,L,S,k,h1,h2,h3,h4⟩
 ·
  exact .inl h
 ·
  exact .inr ⟨h0,D,P,M,Gr,A,L,S,k,h1,h2,h3.nrm12 he,h4⟩

set_option maxRecDepth 100000 in
theorem V1 (u:Value) (bs:List UInt8) (w:World) (hu:Rd w u bs) (hl:bs.length≤100000) (hm:vm w) :
  Calls Tryz.prog 85 #[u] w (Y9 w (xm bs)):=by
 have HOF:=z8 (Jf u bs w hu (by omega))
 have HM:=z8 hm
 have l1:=Xw ⟨bs,0⟩
 have l0:(⟨bs,0⟩:St).bs.length≤100000:=hl
 have HSC:Hid (∀ W R,Rdr W R ⟨bs,0⟩→Calls Tryz.prog 170 #[.pointer (some ⟨R,0,none⟩)] W (Void W R (yF ⟨bs,0⟩))):=fun W R hr=>Zm R _ W hr l0
 unfold xm
 generalize yF ⟨bs,0⟩=s0 at *
 have l2:=qV s0 6 12
 have z2:=vH s0 6 12
 have HRW:Hid (∀ W R,Rdr W R s0→Calls Tryz.prog 171 #[.pointer (some ⟨R,0,none⟩),.int .i64 6,.int .i64 12] W (Rows6 W R (xI s0 6 12).1 (xI s0 6 12).2)):=fun W R hr=>Zn R s0 6 12 W hr (by have:s0.bs.length≤100000:=Nat.le_trans l1 l0; omega)
 have hgl:(xI s0 6 12).2.length≤1000:=VG s0 6 12 (by omega)
 unfold YI
 generalize xI s0 6 12=g at *
 obtain ⟨s1,G⟩:=g
 dsimp only at *
 have hc:=QT s1
 have l3:=UN s1
 have HCT:Hid (∀ W R,Rdr W R s1→Calls Tryz.prog 173 #[.pointer (some ⟨R,0,none⟩)] W fun e w'=>e=.returned (.int .i64 (zV s1).2)∧Did W R (zV s1).1 w'):=fun W R hr=>Ym R s1 W hr (by omega)
 generalize hcs:zV s1=cs at *
 obtain ⟨s2,n⟩:=cs
 dsimp only at *
 clear hcs
 have hln:=vb n s2
 have HUR:Hid (∀ W R,Rdr W R s2→vm W→R≠0→Calls Tryz.prog 172 #[.pointer (some ⟨R,0,none⟩),.int .i64 n] W (J3 W R n (zN n s2).1 (zN n s2).2)):=fun W R hr hm hR=>Yi R n s2 W hr (by omega) hc hm hR
 generalize hus:zN n s2=us at *
 obtain ⟨s3,l⟩:=us
 dsimp only at *
 clear hus
 have HER:Hid (∀ W R,Rdr W R s3→Calls Tryz.prog 174 #[.pointer (some ⟨R,0,none⟩)] W fun e w'=>e=.returned (.int .i64 s3.e)∧W=w'):=fun W R hr=>qp R s3 W hr
 have HEN:Hid (∀ W R,Rdr W R s3→Calls Tryz.prog 175 #[.pointer (some ⟨R,0,none⟩)] W fun e w'=>e=.returned (.int .i64 (Yu s3))∧W=w'):=fun W R hr=>YU R s3 W hr
 obtain ⟨m,hmg⟩:∃ m,m=G.length:=⟨_,rfl⟩
 have hgz:∀ x∈G,x.size≤9223372036854775807:=fun x hx=>by have:=z2 x hx; omega
 have HNO:Hid (∀ A A2 c c2 l2 W,l2.map zZ=l→uz W A l2→(∀ u∈l2,u.Ok W)→RdS W A2 G→vm W→Calls Tryz.prog 41 #[.slice A n c,.slice A2 m c2] W (Of11 l G W)):=fun A A2 c c2 l2 W he hr ho hg h5=>Qo A A2 c c2 n m l l2 G W he hln.symm (by omega) hr ho hmg (by omega) hg hgz h5
 have HLN:Hid (l.length=n):=hln
 rw [← hmg] at hgl
 have HMG:=z8 hmg
 obtain ⟨out,hout⟩:∃ out,out=uL G (s3,l):=⟨_,rfl⟩
 have HO:Hid (out=if s3.e≠0 then (s3.e,[],[]) else if yU l G≠0 then (yU l G,[],[]) else if Yu s3≠0 then (Yu s3,[],[]) else (0,l,G)):=hout
 rw [← hout]
 obtain ⟨A0,c0,rfl⟩:=hu.shape
 clear hout hu hm hl l0 l1 l2 l3 z2 hgz hln hc hmg
 unfold Of11 at HNO
 generalize yU l G=oe at *
 generalize Yu s3=en at *
 go_enter Tryz.func85,Tryz.ntmps85
 go_wp2_with fail
 with_reducible refine HOF.out.mono ?_
 rintro e w1 ⟨R,hR,rfl,hr,ht⟩
 have hb1:=ht.below (fun _ f=>f.elim)
 have HB1:=z8 hb1
 have HR1:=z8 (Did.refl hr)
 have hRM:R≠0:=by have:=HM.out.1; omega
 have HRM:=z8 hRM
 have HM1:Hid (∀ W s,Did w1 R s W→vm W):=fun W s hd=>by
  obtain ⟨hlt,m,hcm⟩:=HM.out.later HB1.out
  exact ⟨Nat.lt_of_lt_of_le hlt hd.2.size,m,(hd.2.cell (p:=⟨0,0,none⟩) hlt (fun e=>hRM e.symm)).trans hcm⟩
 have HBW:Hid (∀ W s,Did w1 R s W→Below w.heap.size w W):=fun W s hd=>((ht.mono (S':=fun i=>i=R) (fun _ _ f=>f.elim)).next hd.2 (fun _ _ h=>h)).below (fun i hi=>by omega)
 clear hr ht hb1 HOF hRM HM HB1
 go_wp2_with fail
 with_reducible refine (HSC.out w1 R HR1.out.rdr).mono ?_
 rintro e w2 ⟨rfl,hd⟩
 have HR2:=z8 (HR1.out.next hd)
 clear hd HSC HR1
 go_wp2_with fail
 with_reducible refine (HRW.out w2 R HR2.out.rdr).mono ?_
 rintro e w3 ⟨Ag,cg,rfl,hog,hng,hd⟩
 rw [← HMG.out] at hog hng ⊢
 have HR3:=z8 (HR2.out.next hd)
 have hR2:R<w2.heap.size:=HR2.out.rdr.lt
 have HG3:=z8 (vV hog hng)
 clear hd hog hng HRW
 go_wp2_with fail
 with_reducible refine (HCT.out w3 R HR3.out.rdr).mono ?_
 rintro e w4 ⟨rfl,hd⟩
 have HR4:=z8 (HR3.out.next hd)
 have HG4:=z8 (zY HG3.out (Nat.le_refl _) hd.2 (fun j hj he=>by have he':j=R:=he; omega))
 clear hd HCT HR3 HG3 HR2
 go_wp2_with fail
 with_reducible refine (HUR.out w4 R HR4.out.rdr (HM1.out w4 _ HR4.out) HRM.out).mono ?_
 rintro e w5 ⟨v,l2,rfl,hmem,hd⟩
 have HR5:=z8 (HR4.out.next hd)
 have hg5:=zY HG4.out (Nat.zero_le _) hd.2 (fun j hj he=>by have he':j=R:=he; omega)
 have HG5:Hid (RdS w5 Ag G):=(xW hg5 HMG.out).1
 obtain ⟨A,c,rfl⟩:=yD (zx hmem.row (Nat.zero_le _))
 have HU5:Hid (uz w5 A l2):=qa hmem.row (by rw [← HLN.out,← hmem.same,List.length_map])
 have HOK:=z8 hmem.ok
 have HSM:=z8 hmem.same
 clear hd hmem hg5 HUR HR4 HG4 hR2
 go_wp2_with fail
 with_reducible refine (HER.out w5 R HR5.out.rdr).mono ?_
 rintro e w6 ⟨rfl,rfl⟩
 clear HER
 by_cases h0:s3.e=0
 case neg =>
  have hz:(s3.e != 0)=true:=by simpa using h0
  have ho:=HO.out
  rw [if_pos h0] at ho
  have HF:Hid (Y9 w out (.returned (.tuple #[.pointer none,.int .i64 s3.e])) w5):=.inl ⟨by rw [ho]; exact h0,by rw [ho],HBW.out w5 _ HR5.out⟩
  clear ho HO h0
  go_wp2
  go_ret2
  exact HF.out
 have hz:(s3.e != 0)=false:=by simpa using h0
 have ho:=HO.out
 rw [if_neg (by simpa using h0)] at ho
 have HO2:=z8 ho
 have HOU5:=z8 (HNO.out A Ag c cg l2 w5 HSM.out HU5.out HOK.out HG5.out (HM1.out w5 _ HR5.out))
 clear ho HO h0 HNO
 go_wp2_with fail
 with_reducible refine HOU5.out.mono ?_
 rintro e w7 hcase
 clear HOU5
 rcases hcase with ⟨hne,rfl,hb⟩ | ⟨h0,D,P,M,Gr,Aa,L,S,k,rfl,hown,hst,hk⟩
 ·
  have ho:=HO2.out
  rw [if_pos hne] at ho
  have hx1:(oe != 0)=true:=by simpa using hne
  have HF:Hid (Y9 w out (.returned (.tuple #[.pointer none,.int .i64 oe])) w7):=.inl ⟨by rw [ho]; exact hne,by rw [ho],z7 (HBW.out w5 _ HR5.out) hb⟩
  clear ho HO2 hne hb
  go_wp2
  go_ret2
  exact HF.out
 subst h0
 have ho:=HO2.out
 rw [if_neg (by simp)] at ho
 have HO3:=z8 ho
 have HEN7:=z8 (HEN.out w7 R (HR5.out.rdr.still (zb.of_below hown.below _)))
 have HOW:Hid (zH w w7 D P M Gr Aa L S):=hown.base (HBW.out w5 _ HR5.out)
 have HST:=z8 hst
 clear ho HO2 hown hst HEN HU5
 go_wp2_with fail
 with_reducible refine HEN7.out.mono ?_
 rintro e w8 ⟨rfl,rfl⟩
 clear HEN7
 by_cases h0:en=0
 ·
  have hz2:(en != 0)=false:=by simpa using h0
  have ho:=HO3.out
  rw [if_neg (by simpa using h0)] at ho
  have HF:Hid (Y9 w out (.returned (.tuple #[.pointer (some ⟨D,0,none⟩),.int .i64 0])) w7):=.inr ⟨by rw [ho],D,P,M,Gr,Aa,L,S,k,rfl,HOW.out,by rw [ho]; exact HST.out,hk⟩
  clear ho HO3 h0
  go_wp2
  go_ret2
  exact HF.out
 ·
  have hz2:(en != 0)=true:=by simpa using h0
  have ho:=HO3.out
  rw [if_pos h0] at ho
  have HF:Hid (Y9 w out (.returned (.tuple #[.pointer none,.int .i64 en])) w7):=.inl ⟨by rw [ho]; exact h0,by rw [ho],HOW.out.below⟩
  clear ho HO3 h0
  go_wp2
  go_ret2
  exact HF.out

set_option maxRecDepth 100000 in
theorem JN (A:Option Addr) (c n:Nat) (l:List Us) (w:World) (hl:n=l.length) (hn:n≤12) (hr:uz w A l) (ho:∀ u∈l,u.Ok w) (hc:∀ u∈l,yk 2 u=0) :
  Calls Tryz.prog 93 #[.int .i64 2,.slice A n c] w fun e w'=>e=.returned (.string (mk6 (le n 2++l.flatMap (zR 2))))∧Below w.heap.size w w':=by
 have HNM:Hid (∀ W,Calls Tryz.prog 187 #[.int .u64 (n:Int),.int .i64 2] W (Says (le n 2) W)):=fun W=>U3 n 2 W (by omega) (by omega)
 have HR:=z8 hr
 have HL:=z8 hl
 have HO:=z8 ho
 have HC:=z8 hc
 have HB0:=z8 (Below.refl w.heap.size w)
 clear hr hl ho hc
 obtain ⟨out,hout⟩:∃ out,out=(⟨(le n 2++l.flatMap (zR 2)).toArray⟩:ByteArray):=⟨_,rfl⟩
 have HOUT:=z8 hout
 rw [show mk6 (le n 2++l.flatMap (zR 2))=out from hout.symm]
 clear hout
 go_enter Tryz.func93,Tryz.ntmps93
 go_wp2_with fail
 with_reducible refine (HNM.out w).mono ?_
 rintro e w1 ⟨rfl,ht⟩
 have HB1:=z8 (ht.below (fun _ f=>f.elim))
 clear ht HNM HB0
 go_wp2
 go_loopg [5,7,14] n (fun gg s5 _ s14 wr=>∃ (k:Nat) (t:ByteArray),k≤n∧n - k≤gg∧s14=.int .i64 k∧s5=.string t∧Hid (t=⟨(le n 2++(l.take k).flatMap (zR 2)).toArray⟩∧((l.take k).flatMap (zR 2)).length≤1000 * k)∧Hid (Below w.heap.size w wr))
 case atStart=>exact ⟨0,_,Nat.zero_le _,by omega,rfl,rfl,⟨by rw [List.take_zero,List.flatMap_nil,List.append_nil],by simp⟩,HB1.out⟩
 case round =>
  clear HB1
  obtain ⟨k,t,hk,hg,rfl,rfl,HT,HW⟩:=hrel
  by_cases hlt:k<n
  ·
   have hltz:(k:Int)<(n:Int):=by omega
   have hkl:k<l.length:=HL.out ▸ hlt
   obtain ⟨b,off,rfl,hb,hc⟩:=(HR.out.later HW.out) (by intro e; rw [e] at hkl; exact absurd hkl (Nat.not_lt_zero _))
   have c0:wr.cell? ⟨b,off+k * 5,none⟩=some (.string l[k].nm):=hc k hkl 0 _ rfl
   have c1:wr.cell? ⟨b,off+k * 5+1,none⟩=some (.string l[k].hs):=hc k hkl 1 _ rfl
   have c2:wr.cell? ⟨b,off+k * 5+2,none⟩=some (.string l[k].ml):=hc k hkl 2 _ rfl
   have c3:wr.cell? ⟨b,off+k * 5+3,none⟩=some (.bool l[k].dis):=hc k hkl 3 _ rfl
   have c4:wr.cell? ⟨b,off+k * 5+4,none⟩=some (.slice l[k].ga l[k].gs.length l[k].gc):=hc k hkl 4 _ rfl
   have hb1:=z7 HW.out (za (Below.refl wr.heap.size wr) (.cells #[.string l[k].nm,.string l[k].hs,.string l[k].ml,.bool l[k].dis,.slice l[k].ga l[k].gs.length l[k].gc] 47))
   have hch:=HC.out _ (List.getElem_mem hkl)
   have hli:=(vO hch).1
   have HX:Hid (Calls Tryz.prog 189 #[.int .i64 2,.agg #[.string l[k].nm,.string l[k].hs,.string l[k].ml,.bool l[k].dis,.slice l[k].ga l[k].gs.length l[k].gc]] (wr.alloc (.cells #[.string l[k].nm,.string l[k].hs,.string l[k].ml,.bool l[k].dis,.slice l[k].ga l[k].gs.length l[k].gc] 47)) fun e w'=>e=.returned (.string (mk6 (zR 2 l[k])))∧Below (wr.alloc (.cells #[.string l[k].nm,.string l[k].hs,.string l[k].ml,.bool l[k].dis,.slice l[k].ga l[k].gs.length l[k].gc] 47)).heap.size (wr.alloc (.cells #[.string l[k].nm,.string l[k].hs,.string l[k].ml,.bool l[k].dis,.slice l[k].ga l[k].gs.length l[k].gc] 47)) w'):=VE 2 l[k] _ ((HO.out _ (List.getElem_mem hkl)).below hb1) hli
   have HB2:=z8 hb1
   have hub:(zR 2 l[k]).length≤1000:=Vr hli
   obtain ⟨t2,ht2⟩:∃ t2,t2=(⟨(le n 2++(l.take (k+1)).flatMap (zR 2)).toArray⟩:ByteArray):=⟨_,rfl⟩
   have htk:(l.take (k+1)).flatMap (zR 2)=(l.take k).flatMap (zR 2)++zR 2 l[k]:=by
    rw [List.take_succ_eq_append_getElem hkl,List.flatMap_append,List.flatMap_singleton]
   have HA:Hid (∀ W,(Op.stringOp .add t (mk6 (zR 2 l[k]))).run Tryz.prog W=.ok (.string t2) W):=fun W=>by
    have:=uh (P:=Tryz.prog) W (le n 2++(l.take k).flatMap (zR 2)) (zR 2 l[k]) (by have:=HT.out.2; rw [List.length_append,zQ]; omega)
    rw [List.append_assoc,← htk,← ht2] at this
    rw [HT.out.1]
    exact this
   have HT2:Hid (t2=⟨(le n 2++(l.take (k+1)).flatMap (zR 2)).toArray⟩∧((l.take (k+1)).flatMap (zR 2)).length≤1000 * (k+1)):=⟨ht2,by have:=HT.out.2; rw [htk,List.length_append]; omega⟩
   clear hc hb hb1 hch hli hub ht2 htk HT
   generalize mk6 (zR 2 l[k])=ux at *
   generalize l[k].nm=nm at *
   generalize l[k].hs=hs at *
   generalize l[k].ml=ml at *
   generalize l[k].dis=dis at *
   generalize l[k].ga=ga at *
   generalize l[k].gs.length=gl at *
   generalize l[k].gc=gc at *
   go_wp2_with (go_at_call 189; (with_reducible refine HX.out.mono ?_); rintro e w4 ⟨rfl,hb⟩; have HB4:=z8 (z7 HB2.out hb); have ha:=HA.out w4; clear hb)
   go_roundg (n - (k+1))
   case measure=>omega
   case rel=>exact ⟨k+1,t2,by omega,by omega,by go_num,rfl,HT2,HB4⟩
  ·
   have hltz:¬ (k:Int)<(n:Int):=by omega
   obtain rfl:k=n:=by omega
   obtain rfl:t=out:=by
    have:=HT.out.1
    rw [List.take_of_length_le (by have:=HL.out; omega)] at this
    rw [this,HOUT.out]
   clear HT HOUT
   go_wp2
   go_ret
   exact ⟨rfl,HW.out⟩

/-! ### Text -/
def YTx12 (b0:Nat) (A A2:Option Addr) (c c2 n m:Nat) (t1 t2 t3 t4:ByteArray):Nat→Value→World→Prop
 | 0,v,_=>v=.pointer (some ⟨b0,1,none⟩)
 | 1,v,_=>v=.slice A2 m c2
 | 2,v,_=>v=.string t1
 | 3,v,_=>v=.string t2
 | 4,v,_=>v=.pointer (some ⟨b0,0,none⟩)
 | 5,v,_=>v=.slice A n c
 | 6,v,_=>v=.string t3
 | 7,v,_=>v=.string t4
 | _,v,_=>v=.string t4
theorem Xj {b0:Nat} {A A2:Option Addr} {c c2 n m:Nat} {t1 t2 t3 t4:ByteArray} {W W':World} (_hb:Below W.heap.size W W') (j:Nat) (z:Value) (h:YTx12 b0 A A2 c c2 n m t1 t2 t3 t4 j z W):YTx12 b0 A A2 c c2 n m t1 t2 t3 t4 j z W':=by
 match j,h with
 | 0,h=>exact h
 | 1,h=>exact h
 | 2,h=>exact h
 | 3,h=>exact h
 | 4,h=>exact h
 | 5,h=>exact h
 | 6,h=>exact h
 | 7,h=>exact h
 | _+8,h=>exact h

set_option maxRecDepth 100000 in
theorem Xy (A A2:Option Addr) (c c2 n m:Nat) (l:List Us) (G:List ByteArray) (w:World) (hl:n=l.length) (hm:m=G.length) (hr:uz w A l) (ho:∀ u∈l,u.Ok w) (hg:RdS w A2 G) (hmay:FQ l G) :
  Calls Tryz.prog 31 #[.agg #[.slice A n c,.slice A2 m c2]] w fun e w'=>e=.returned (.string (mk6 (fV l G)))∧Below w.heap.size w w':=by
 have hz:=hmay.sizes
 have hb0:=za (Below.refl w.heap.size w) (.cells #[.slice A n c,.slice A2 m c2] ua)
 have hlg:=ZQ hmay
 have HRW:Hid (∀ W,Below (w.alloc (.cells #[.slice A n c,.slice A2 m c2] ua)).heap.size (w.alloc (.cells #[.slice A n c,.slice A2 m c2] ua)) W→Calls Tryz.prog 92 #[.slice A2 m c2] W fun e w'=>e=.returned (.string (mk6 (xR G)))∧Below W.heap.size W w'):=fun W hb=>by
  rw [hm]
  exact (fE A2 c2 G W (hg.below (z7 hb0 hb)) (by have:=hmay.gfew; omega) (fun s hs=>Nat.le_trans (hz s hs) (by decide))).mono fun e w' ⟨he,ht⟩=>⟨he,ht.below (fun _ f=>f.elim)⟩
 have HUS:Hid (∀ W,Below (w.alloc (.cells #[.slice A n c,.slice A2 m c2] ua)).heap.size (w.alloc (.cells #[.slice A n c,.slice A2 m c2] ua)) W→Calls Tryz.prog 93 #[.int .i64 2,.slice A n c] W fun e w'=>e=.returned (.string (mk6 (le n 2++l.flatMap (zR 2))))∧Below W.heap.size W w'):=fun W hb =>
  JN A c n l W hl (by rw [hl]; exact hmay.few) (hr.later (z7 hb0 hb)) (fun u hu=>(ho u hu).below (z7 hb0 hb)) hmay.all
 have hfo:fV l G=[2]++xR G++(le n 2++l.flatMap (zR 2)):=by unfold fV; rw [← hl,List.append_assoc]; rfl
 rw [hfo] at hlg ⊢
 have HA1:Hid (∀ W,(Op.stringOp .add ⟨#[2]⟩ (mk6 (xR G))).run Tryz.prog W=.ok (.string (mk6 ([2]++xR G))) W):=fun W=>uh (P:=Tryz.prog) W [2] (xR G) (by simp only [List.length_append] at hlg ⊢; omega)
 have HA2:Hid (∀ W,(Op.stringOp .add (mk6 ([2]++xR G)) (mk6 (le n 2++l.flatMap (zR 2)))).run Tryz.prog W=.ok (.string (mk6 ([2]++xR G++(le n 2++l.flatMap (zR 2))))) W):=fun W=>uh (P:=Tryz.prog) W ([2]++xR G) (le n 2++l.flatMap (zR 2)) (by simp only [List.length_append] at hlg ⊢; omega)
 have K0:(w.alloc (.cells #[.slice A n c,.slice A2 m c2] ua)).cell? ⟨w.heap.size,0,none⟩=some (.slice A n c):=by rw [World.cell?_alloc_at _ _ _ _ rfl]; rfl
 have K1:(w.alloc (.cells #[.slice A n c,.slice A2 m c2] ua)).cell? ⟨w.heap.size,1,none⟩=some (.slice A2 m c2):=by rw [World.cell?_alloc_at _ _ _ _ rfl]; rfl
 have LT:w.heap.size<(w.alloc (.cells #[.slice A n c,.slice A2 m c2] ua)).heap.size:=by simp
 have HB:Hid (∀ W,Below (w.alloc (.cells #[.slice A n c,.slice A2 m c2] ua)).heap.size (w.alloc (.cells #[.slice A n c,.slice A2 m c2] ua)) W→Below w.heap.size w W):=fun W hb=>z7 hb0 hb
 generalize mk6 ([2]++xR G++(le n 2++l.flatMap (zR 2)))=t4 at *
 generalize mk6 ([2]++xR G)=t2 at *
 generalize mk6 (xR G)=t1 at *
 generalize mk6 (le n 2++l.flatMap (zR 2))=t3 at *
 clear hz hmay hl hm hr ho hg hlg hfo hb0
 go_enter Tryz.func31,Tryz.ntmps31
 go_wp2_with fail
 generalize w.alloc (.cells #[.slice A n c,.slice A2 m c2] ua)=w1 at *
 refine yS (by kernel_rfl) (fun W=>Below w1.heap.size w1 W) (YTx12 w.heap.size A A2 c c2 n m t1 t2 t3 t4) ?F ?hF (by kernel_rfl) (by kernel_rfl) (zy (Below.refl _ _)) ?step ?fin
 case hF =>
  intro x
  simp only [List.map_cons,List.map_nil,xc,Act.put,List.setIfInBounds_toArray,List.set_cons_zero,List.set_cons_succ,Nat.zero_add,Nat.reduceAdd]
  exact rfl
 case step =>
  refine ⟨?_,?_,?_,?_,?_,?_,?_,?_,?_,trivial⟩
  all_goals intro x W hW hdep K hK
  ·
   clear hdep
   go_simp
   exact hK _ _ rfl hW (fun _ _ h=>h)
  ·
   have h0:x 0=_:=hdep 0 rfl
   have k1:=(hW.cell (p:=⟨w.heap.size,1,none⟩) LT).trans K1
   clear hdep
   simp only [h0] at hK
   go_simp
   exact hK _ _ rfl hW (fun _ _ h=>h)
  ·
   have h1:x 1=_:=hdep 1 rfl
   clear hdep
   simp only [h1] at hK
   go_simp
   refine (HRW.out W hW).mono ?_
   rintro e W' ⟨rfl,hb⟩
   exact hK _ _ rfl (z7 hW hb) (fun j z h=>Xj hb j z h)
  ·
   have h2:x 2=_:=hdep 2 rfl
   have ha:=HA1.out W
   clear hdep
   simp only [h2] at hK
   go_simp
   exact hK _ _ rfl hW (fun _ _ h=>h)
  ·
   clear hdep
   go_simp
   exact hK _ _ rfl hW (fun _ _ h=>h)
  ·
   have h4:x 4=_:=hdep 4 rfl
   have k0:=(hW.cell (p:=⟨w.heap.size,0,none⟩) LT).trans K0
   clear hdep
   simp only [h4] at hK
   go_simp
   exact hK _ _ rfl hW (fun _ _ h=>h)
  ·
   have h5:x 5=_:=hdep 5 rfl
   clear hdep
   simp only [h5] at hK
   go_simp
   refine (HUS.out W hW).mono ?_
   rintro e W' ⟨rfl,hb⟩
   exact hK _ _ rfl (z7 hW hb) (fun j z h=>Xj hb j z h)
  ·
   have h3:x 3=_:=hdep 3 rfl
   have h6:x 6=_:=hdep 6 rfl
   have ha:=HA2.out W
   clear hdep
   simp only [h3,h6] at hK
   go_simp
   exact hK _ _ rfl hW (fun _ _ h=>h)
  ·
   have h7:x 7=_:=hdep 7 rfl
   clear hdep
   simp only [h7] at hK
   go_simp
   exact hK _ _ rfl hW (fun _ _ h=>h)
 case fin =>
  intro x W hW hY
  have h8:x 8=.string t4:=hY 8 (by decide)
  have HF:=z8 (HB.out W hW)
  clear hY hW
  rw [h8]
  go_wp2
  go_ret
  exact ⟨rfl,HF.out⟩

theorem Zk:(Tryz.prog.info? ua).map (·.size)=some 2:=by kernel_rfl
def uj (w:World) (r:Int×List Us×List ByteArray) (e:Ending) (w':World):Prop :=
  (∃ A A2 n m c c2,e=.returned (.tuple #[.agg #[.slice A n c,.slice A2 m c2],.int .i64 r.1])∧(r.1=0→∃ l2:List Us,l2.map zZ=r.2.1∧n=l2.length∧uz w' A l2∧(∀ u∈l2,u.Ok w')∧m=r.2.2.length∧RdS w' A2 r.2.2))∧Below w.heap.size w w'
theorem VQ (st:St) (w:World) (hok:Ok st) (hl:st.bs.length≤1000) :
    Calls Tryz.prog 89 #[.agg #[.string ⟨st.bs.toArray⟩,.int .i64 st.e],.int .i64 2] w fun e w'=>∃ u:Us,e=.returned (.tuple #[.agg #[.string ⟨(yP 2 st).1.bs.toArray⟩,.int .i64 (yP 2 st).1.e],.agg #[.string u.nm,.string u.hs,.string u.ml,.bool u.dis,.slice u.ga u.gs.length u.gc]])∧zZ u=xw st∧u.Short∧w'.ownsRow w.heap.size 9 1 (.slice u.ga u.gs.length u.gc) u.gs.length (zr u.gs)∧zb (fun _=>False) w w':=by
  have h6:=rget6_all 2 st w hok hl
  have hw:=Ft 2 st hl
  have hb:=fL st
  have ht:xw st=if (yP 2 st).1.e=0 then (yP 2 st).2 else qF:=rfl
  rw [ht]
  clear ht
  generalize yP 2 st=q at *
  obtain ⟨s1,u⟩:=q
  dsimp only at *
  refine Calls.mono h6 fun e w' ⟨A,c,he,ho,hn,hd⟩=>?_
  by_cases h0:s1.e=0
  · rw [if_pos h0] at he ⊢
    exact ⟨{ u with ga:=A,gc:=c },he,hb,⟨hw.nm,hw.hs,hw.ml,hw.all⟩,vV ho hn,hd⟩
  · rw [if_neg h0] at he ⊢
    exact ⟨qF,he,rfl,⟨Nat.zero_le _,Nat.zero_le _,Nat.zero_le _,fun s hs=>by cases hs⟩,World.ownsRow_nil _ _ _ _,hd⟩
theorem okGet12 {st:St} (h:Ok st):Ok (yP 2 st).1:=by
  have o1:=h.text 65535
  rcases h1:zj st 65535 with ⟨s1,nm⟩
  rw [h1] at o1
  have o2:=o1.text 65535
  rcases h2:zj s1 65535 with ⟨s2,hs⟩
  rw [h2] at o2
  have o3:=o2.text 65535
  rcases h3:zj s2 65535 with ⟨s3,ml⟩
  rw [h3] at o3
  have o4:=o3.truth
  rcases h4:yj s3 with ⟨s4,dis⟩
  rw [h4] at o4
  have o5:=o4.row 65535 65535
  rcases h5:xI s4 65535 65535 with ⟨s5,gs⟩
  rw [h5] at o5
  rw [vf h1 h2 h3 h4 h5]
  exact o5.fail _
theorem Qn {w:World} {b0 n c:Nat} {A:Option Addr} {xs:List Value} (ho:w.ownsRow b0 47 5 (.slice A n c) n xs):n≤c∧c≤9223372036854775807:=by
  rcases ho.2 with ⟨h0,h1⟩ | ⟨g,cap,cur,hv,hb,hg,h1,h2,h3,h4⟩
  · injection h0 with ha hn hc
    subst hn hc
    exact ⟨Nat.le_refl _,Nat.zero_le _⟩
  · injection hv with ha _ hc
    subst ha hc
    have h9:c≤maxLen:=(by first | exact h2 | omega)
    exact ⟨h1,(by simpa [maxLen] using h9)⟩

structure jl (w w2:World) (rs zs:Array Value) (W:World):Prop where
  z:W.heap[w.heap.size]? = some (.cells zs ua (0,0))
  n:W.heap[w.heap.size+1]? = some (.cells #[.slice none 0 0,.slice none 0 0] ua (0,0))
  r:W.heap[w2.heap.size]? = some (.cells rs 117 (0,0))
  lo:w.heap.size+2≤w2.heap.size
  t:zb (fun _=>False) w W
  t2:zb (fun i=>i=w.heap.size) w2 W
section
variable {w w2 W W':World} {rs zs:Array Value} {a b a' b':Value}
theorem jl.apart {S:Nat→Prop} (h:jl w w2 rs zs W) (ht:zb S W W') (hS:∀ i,S i→w2.heap.size+1≤i):jl w w2 rs zs W' :=
  have hlo:=h.lo
  have k:∀ {B:Nat} {o:Obj},W.heap[B]? = some o→B≤w2.heap.size→W'.heap[B]? = some o:=fun hb hB=>(ht.block _ (Array.getElem?_eq_some_iff.1 hb).1 (fun f=>by have:=hS _ f; omega)).trans hb
  ⟨k h.z (by omega),k h.n (by omega),k h.r (by omega),h.lo,h.t.next ht (fun i hi f=>by have:=hS _ f; omega),h.t2.next ht (fun i hi f=>by have:=hS _ f; omega)⟩
theorem jl.still (h:jl w w2 rs zs W) (ht:zb (fun _=>False) W W'):jl w w2 rs zs W':=h.apart ht (fun _ f=>f.elim)
theorem jl.setR (h:jl w w2 #[a,b] zs W) (a' b':Value):jl w w2 #[a',b'] zs ((W.setCell ⟨w2.heap.size,0,none⟩ a').setCell ⟨w2.heap.size,1,none⟩ b'):=by
  have hr:=h.r
  have hlo:=h.lo
  refine ⟨?_,?_,by simp [World.setCell,Array.getElem?_modify,hr],h.lo,(h.t.setCell (p:=⟨w2.heap.size,0,none⟩) (fun hl=>absurd (show w2.heap.size<w.heap.size from hl) (by omega)) _).setCell (p:=⟨w2.heap.size,1,none⟩) (fun hl=>absurd (show w2.heap.size<w.heap.size from hl) (by omega)) _,(h.t2.setCell (p:=⟨w2.heap.size,0,none⟩) (fun hl=>absurd hl (by simp)) _).setCell (p:=⟨w2.heap.size,1,none⟩) (fun hl=>absurd hl (by simp)) _⟩
  · rw [Below.heap_setCell _ _ _ _ (show w.heap.size≠w2.heap.size by omega),Below.heap_setCell _ _ _ _ (show w.heap.size≠w2.heap.size by omega)]
    exact h.z
  · rw [Below.heap_setCell _ _ _ _ (show w.heap.size+1≠w2.heap.size by omega),Below.heap_setCell _ _ _ _ (show w.heap.size+1≠w2.heap.size by omega)]
    exact h.n
theorem jl.setE (h:jl w w2 #[a,b] zs W) (b':Value):jl w w2 #[a,b'] zs (W.setCell ⟨w2.heap.size,1,none⟩ b'):=by
  have hr:=h.r
  have hlo:=h.lo
  refine ⟨?_,?_,by simp [World.setCell,Array.getElem?_modify,hr],h.lo,h.t.setCell (p:=⟨w2.heap.size,1,none⟩) (fun hl=>absurd (show w2.heap.size<w.heap.size from hl) (by omega)) _,h.t2.setCell (p:=⟨w2.heap.size,1,none⟩) (fun hl=>absurd hl (by simp)) _⟩
  · rw [Below.heap_setCell _ _ _ _ (show w.heap.size≠w2.heap.size by omega)]
    exact h.z
  · rw [Below.heap_setCell _ _ _ _ (show w.heap.size+1≠w2.heap.size by omega)]
    exact h.n
theorem jl.setZ (h:jl w w2 rs #[a,b] W) (a' b':Value):jl w w2 rs #[a',b'] ((W.setCell ⟨w.heap.size,0,none⟩ a').setCell ⟨w.heap.size,1,none⟩ b'):=by
  have hz:=h.z
  have hlo:=h.lo
  refine ⟨by simp [World.setCell,Array.getElem?_modify,hz],?_,?_,h.lo,(h.t.setCell (p:=⟨w.heap.size,0,none⟩) (fun hl=>absurd hl (by simp)) _).setCell (p:=⟨w.heap.size,1,none⟩) (fun hl=>absurd hl (by simp)) _,(h.t2.setCell (p:=⟨w.heap.size,0,none⟩) (fun _=>rfl) _).setCell (p:=⟨w.heap.size,1,none⟩) (fun _=>rfl) _⟩
  · rw [Below.heap_setCell _ _ _ _ (show w.heap.size+1≠w.heap.size by omega),Below.heap_setCell _ _ _ _ (show w.heap.size+1≠w.heap.size by omega)]
    exact h.n
  · rw [Below.heap_setCell _ _ _ _ (show w2.heap.size≠w.heap.size by omega),Below.heap_setCell _ _ _ _ (show w2.heap.size≠w.heap.size by omega)]
    exact h.r
theorem jl.zrow {cs:Array Value} (h:jl w w2 rs zs W):jl w w2 rs cs (W.setRow w.heap.size cs):=by
  have hlo:=h.lo
  exact ⟨setRow_heap W _ _ cs _ _ h.z,(setRow_other W _ _ cs (by omega)).trans h.n,(setRow_other W _ _ cs (by omega)).trans h.r,h.lo,h.t.next (S':=fun i=>i=w.heap.size) ⟨rfl,rfl,rfl,by simp,fun k _ hk=>setRow_other W _ k cs hk⟩ (fun i hi he=>by omega),h.t2.next (S':=fun i=>i=w.heap.size) ⟨rfl,rfl,rfl,by simp,fun k _ hk=>setRow_other W _ k cs hk⟩ (fun i hi he=>he)⟩
theorem JO {W0:World} (hz:W0.heap[w.heap.size]? = some (.cells #[.slice none 0 0,.slice none 0 0] ua (0,0))) (hn:W0.heap[w.heap.size+1]? = some (.cells #[.slice none 0 0,.slice none 0 0] ua (0,0))) (ht0:zb (fun _=>False) w W0) (ht:zb (fun _=>False) W0 w2) (a b:Value):jl w w2 #[a,b] #[.slice none 0 0,.slice none 0 0] (w2.alloc (.cells #[a,b] 117)):=by
  have k:∀ {B:Nat} {o:Obj},W0.heap[B]? = some o→w2.heap[B]? = some o:=fun hb=>(ht.block _ (Array.getElem?_eq_some_iff.1 hb).1 (fun f=>f)).trans hb
  have h1:=k hz
  have h2:=k hn
  have hl:=(Array.getElem?_eq_some_iff.1 h2).1
  exact ⟨yl h1,yl h2,yZ rfl,by omega,(ht0.next ht (fun _ _ f=>f)).alloc _,(zb.refl _ _).alloc _⟩
end
def J2 (R:Nat) (E:Int):Nat→Value→World→Prop
  | 0,v,_=>v=.agg #[.slice none 0 0,.slice none 0 0]
  | 1,v,_=>v=.pointer (some ⟨R,1,none⟩)
  | 2,v,_=>v=.int .i64 E
  | 4,v,_=>v=.int .i64 E
  | _,_,_=>True
theorem uw {R:Nat} {E:Int} {W W':World} (j:Nat) (z:Value) (h:J2 R E j z W):J2 R E j z W':=by
  match j,h with
  | 0,h=>exact h
  | 1,h=>exact h
  | 2,h=>exact h
  | 3,_=>trivial
  | 4,h=>exact h
  | _+5,_=>trivial

set_option maxRecDepth 100000 in
theorem Xz (bs:List UInt8) (w:World) (hl:bs.length≤1000) :
    Calls Tryz.prog 29 #[.string ⟨bs.toArray⟩] w (uj w (doc12 bs)):=by
  have hzd:∀ w:World,(zeroValue ua).run Tryz.prog w=.ok (.agg #[.slice none 0 0,.slice none 0 0]) w:=fun w=>by kernel_rfl
  have HB0:Hid (Below w.heap.size w ((w.alloc (.cells #[.slice none 0 0,.slice none 0 0] ua)).alloc (.cells #[.slice none 0 0,.slice none 0 0] ua))):=za (za (Below.refl _ _) _) _
  have z0:((w.alloc (.cells #[.slice none 0 0,.slice none 0 0] ua)).alloc (.cells #[.slice none 0 0,.slice none 0 0] ua)).heap[w.heap.size]? = some (.cells #[.slice none 0 0,.slice none 0 0] ua (0,0)):=yl (yZ rfl)
  have n0:((w.alloc (.cells #[.slice none 0 0,.slice none 0 0] ua)).alloc (.cells #[.slice none 0 0,.slice none 0 0] ua)).heap[w.heap.size+1]? = some (.cells #[.slice none 0 0,.slice none 0 0] ua (0,0)):=yZ (by simp)
  cases bs with
  | nil =>
    have y0:_=some (.slice none 0 0:Value):=zc z0 0
    have y1:_=some (.slice none 0 0:Value):=zc z0 1
    have HF:Hid (uj w (doc12 []) (.returned (.tuple #[.agg #[.slice none 0 0,.slice none 0 0],.int .i64 2])) ((w.alloc (.cells #[.slice none 0 0,.slice none 0 0] ua)).alloc (.cells #[.slice none 0 0,.slice none 0 0] ua))):=⟨⟨none,none,0,0,0,0,rfl,fun h=>by cases h⟩,HB0.out⟩
    clear z0 n0 HB0
    generalize doc12 []=out at *
    show Calls Tryz.prog 29 #[.string ⟨#[]⟩] w (uj w out)
    go_enter Tryz.func29,Tryz.ntmps29
    go_wp2
    refine bodyPost_ret (v:=.tuple #[.agg #[.slice none 0 0,.slice none 0 0],.int .i64 2]) ?_ rfl HF.out
    simp [results,Tryz.results29,go_sem,y0,y1]
  | cons b t =>
    obtain ⟨out,hout⟩:∃ out,out=doc12 (b::t):=⟨_,rfl⟩
    have HD:Hid (out=if b=2 then US ⟨t,0⟩ else (6,[],[])):=hout
    rw [← hout]
    clear hout
    have hx:(⟨(b::t).toArray⟩:ByteArray).extract 1 (t.length+1)=⟨t.toArray⟩:=by
      apply ByteArray.ext
      simp
    have hidx:((⟨(b::t).toArray⟩:ByteArray)[0]'(by show 0<(b::t).toArray.size; simp)).toNat=b.toNat:=rfl
    have lt1:t.length≤999:=by simp at hl; omega
    clear hl
    by_cases hb:b=2
    case neg =>
      have hd:=HD.out
      rw [if_neg hb] at hd
      have hb2:((b.toNat:Int) != 2)=true:=by
        have:b.toNat≠2:=fun h=>hb (UInt8.toNat_inj.1 h)
        simp; omega
      have y0:_=some (.slice none 0 0:Value):=zc z0 0
      have y1:_=some (.slice none 0 0:Value):=zc z0 1
      have HF:Hid (uj w out (.returned (.tuple #[.agg #[.slice none 0 0,.slice none 0 0],.int .i64 6])) ((w.alloc (.cells #[.slice none 0 0,.slice none 0 0] ua)).alloc (.cells #[.slice none 0 0,.slice none 0 0] ua))):=by
        rw [hd]
        exact ⟨⟨none,none,0,0,0,0,rfl,fun h=>by cases h⟩,HB0.out⟩
      clear z0 n0 HB0 hd HD lt1
      go_enter Tryz.func29,Tryz.ntmps29
      go_wp2
      refine bodyPost_ret (v:=.tuple #[.agg #[.slice none 0 0,.slice none 0 0],.int .i64 6]) ?_ rfl HF.out
      simp [results,Tryz.results29,go_sem,y0,y1]
    have hd:=HD.out
    rw [if_pos hb] at hd
    have HD2:=z8 hd
    subst hb
    have hb1:UInt8.toNat 2=2:=rfl
    clear hd HD
    have o0:Ok ⟨t,0⟩:=fun h=>absurd rfl h
    obtain ⟨i0,hi,hz0,hz1,hz2⟩:=info_parts fm
    have okg:Ok (xI ⟨t,0⟩ 6 12).1:=o0.row 6 12
    have lg:=qV ⟨t,0⟩ 6 12
    have zg:=vH ⟨t,0⟩ 6 12
    have fg:=VG ⟨t,0⟩ 6 12 (by omega)
    have HRW:Hid (∀ W,Calls Tryz.prog 87 #[.agg #[.string ⟨t.toArray⟩,.int .i64 0],.int .i64 6,.int .i64 12] W fun e w'=>∃ A c,e=.returned (.tuple #[.agg #[.string ⟨(xI ⟨t,0⟩ 6 12).1.bs.toArray⟩,.int .i64 (xI ⟨t,0⟩ 6 12).1.e],.slice A (xI ⟨t,0⟩ 6 12).2.length c])∧w'.ownsRow 0 9 1 (.slice A (xI ⟨t,0⟩ 6 12).2.length c) (xI ⟨t,0⟩ 6 12).2.length (zr (xI ⟨t,0⟩ 6 12).2)∧(∀ j,Value.ownBlock (.slice A (xI ⟨t,0⟩ 6 12).2.length c)=some j→W.heap.size≤j)∧zb (fun _=>False) W w'):=fun W=>jP ⟨t,0⟩ 6 12 W o0 (by show t.length≤_; omega)
    have hd2:=HD2.out
    unfold US at hd2
    have HD3:=z8 hd2
    clear hd2 HD2
    generalize xI ⟨t,0⟩ 6 12=g at *
    obtain ⟨s1,G⟩:=g
    dsimp only at *
    have HGT:Hid (∀ W,Calls Tryz.prog 88 #[.agg #[.string ⟨s1.bs.toArray⟩,.int .i64 s1.e],.int .i64 2] W fun e w'=>e=.returned (.tuple #[.agg #[.string ⟨(zt s1 2).1.bs.toArray⟩,.int .i64 (zt s1 2).1.e],.int .u64 (zt s1 2).2])∧zb (fun _=>False) W w'):=fun W=>uq s1 2 2 W okg (by omega) rfl (by omega)
    have hlt:(zt s1 2).2<65536:=vn s1 2
    have hl2:=yf s1 2
    have o2:=okg.num 2
    generalize (zt s1 2).1=s2 at *
    generalize (zt s1 2).2=n at *
    have hls2:s2.bs.length≤1000:=by omega
    have HZG:Hid (∀ x∈G,x.size≤1000):=fun x hx=>by have:=zg x hx; omega
    obtain ⟨m,hmg⟩:∃ m,m=G.length:=⟨_,rfl⟩
    rw [← hmg] at HRW fg
    have HMG:=z8 hmg
    clear okg lg zg hl2 lt1 hmg o0
    go_enter Tryz.func29,Tryz.ntmps29
    go_wp2_with fail
    with_reducible refine (HRW.out _).mono ?_
    rintro e w2 ⟨A2,c2,rfl,hog,hng,ht⟩
    have HG1:Hid (jl w w2 #[.string ⟨s1.bs.toArray⟩,.int .i64 s1.e] #[.slice none 0 0,.slice none 0 0] (w2.alloc (.cells #[.string ⟨s1.bs.toArray⟩,.int .i64 s1.e] 117))):=JO z0 n0 (((zb.refl _ _).alloc _).alloc _) ht _ _
    have HOG:Hid (∀ W,zb (fun i=>i=w.heap.size) w2 W→RdS W A2 G):=fun W ht2=>by
      have h1:=zY (b1:=0) (vV hog hng) (Nat.zero_le _) ht2 (fun j hj he=>by have he':j=w.heap.size:=he; simp at hj; omega)
      exact (xW h1 HMG.out).1
    clear hog hng ht HRW z0 n0 HB0
    go_wp2_with fail
    generalize w2.alloc (.cells #[.string ⟨s1.bs.toArray⟩,.int .i64 s1.e] 117)=W1 at *
    with_reducible refine (HGT.out W1).mono ?_
    rintro e w3 ⟨rfl,ht⟩
    have hg:=HG1.out.still ht
    have p0:_=some (.string ⟨s1.bs.toArray⟩:Value):=zc hg.r 0
    have p1:_=some (.int .i64 s1.e:Value):=zc hg.r 1
    have pf:=xB hg.r
    have hg2:=hg.setR (.string ⟨s2.bs.toArray⟩) (.int .i64 s2.e)
    have HG2:=z8 hg2
    have r0:_=some (.string ⟨s2.bs.toArray⟩:Value):=zc hg2.r 0
    have r1:_=some (.int .i64 s2.e:Value):=zc hg2.r 1
    have rf:=xB hg2.r
    clear hg hg2 ht HG1 HGT
    generalize hW2:(w3.setCell ⟨w2.heap.size,0,none⟩ (.string ⟨s2.bs.toArray⟩)).setCell ⟨w2.heap.size,1,none⟩ (.int .i64 s2.e)=W2 at *
    by_cases hz:s2.e=0
    case neg =>
      have hd:=HD3.out
      rw [if_pos hz] at hd
      have hb1:(s2.e == 0)=false:=by simpa using hz
      have hb2:(s2.e != 0)=true:=by simpa using hz
      have HERR:Hid (∀ W,jl w w2 #[.string ⟨s2.bs.toArray⟩,.int .i64 s2.e] #[.slice none 0 0,.slice none 0 0] W→uj w out (.returned (.tuple #[.agg #[.slice none 0 0,.slice none 0 0],.int .i64 s2.e])) W):=fun W h=>by
        rw [hd]
        exact ⟨⟨none,none,0,0,0,0,rfl,fun h=>absurd h hz⟩,h.t.below (fun _ f=>f.elim)⟩
      obtain ⟨t2,e2⟩:=s2
      dsimp only at *
      clear hd HD3 hz o2 hls2 hlt hi hz0 hz1 hz2 HOG HMG HZG fg
      go_wp2_with fail
      clear p0 p1 pf r0 r1 rf hW2
      refine zE (by kernel_rfl) (J2 w2.heap.size e2) (fun _ W=>jl w w2 #[.string ⟨t2.toArray⟩,.int .i64 e2] #[.slice none 0 0,.slice none 0 0] W) ?F1 ?hF1 (by kernel_rfl) (by kernel_rfl) (HG2.out.still ((zb.refl _ _).drew)) ?step1 ?fin1
      case hF1 =>
        intro x
        simp only [List.map_cons,List.map_nil,xc,Act.put,List.setIfInBounds_toArray,List.set_cons_zero,List.set_cons_succ,Nat.zero_add,Nat.reduceAdd]
        exact rfl
      case step1 =>
        refine ⟨?_,?_,?_,?_,?_,trivial⟩
        all_goals intro L x W hL hd hG hdep K hK
        · have n0:W.cell? ⟨w.heap.size+1,0,none⟩=some (.slice none 0 0):=zc hG.n 0
          have n1:W.cell? ⟨w.heap.size+1,1,none⟩=some (.slice none 0 0):=zc hG.n 1
          clear hdep
          go_simp
          exact hK _ _ rfl hG (fun _ _ h=>h)
        · clear hdep
          go_simp
          exact hK _ _ rfl hG (fun _ _ h=>h)
        · have h1:x 1=_:=hdep 1 rfl
          have r1:W.cell? ⟨w2.heap.size,1,none⟩=some (.int .i64 e2):=zc hG.r 1
          clear hdep
          simp only [h1] at hK
          go_simp
          exact hK _ _ rfl hG (fun _ _ h=>h)
        · have h0:x 0=.agg #[.slice none 0 0,.slice none 0 0]:=hdep 0 rfl
          refine zJ (by rfl) ua (.tmp 2) (.tmp 42) rfl w.heap.size rfl _ h0 _ _ hG.z Zk rfl (by simp [Value.oneCell']) ?_
          exact hK _ _ trivial hG.zrow (fun j _ h=>uw j _ h)
        · have h2:x 2=_:=hdep 2 rfl
          clear hdep
          simp only [h2] at hK
          go_simp
          exact hK _ _ rfl hG (fun _ _ h=>h)
      case fin1 =>
        intro L x W8 hall hG hY
        have h4:x 4=.int .i64 e2:=hY 4 (by decide)
        have y0:W8.cell? ⟨w.heap.size,0,none⟩=some (.slice none 0 0):=zc hG.z 0
        have y1:W8.cell? ⟨w.heap.size,1,none⟩=some (.slice none 0 0):=zc hG.z 1
        have HFIN:=z8 (HERR.out W8 hG)
        clear hY hG hall
        rw [h4]
        go_wp2
        refine bodyPost_ret (v:=.tuple #[.agg #[.slice none 0 0,.slice none 0 0],.int .i64 e2]) ?_ rfl HFIN.out
        simp [results,Tryz.results29,go_sem,y0,y1]
    by_cases h12:12<n
    · have hd:=HD3.out
      rw [if_neg (by simpa using hz),if_pos h12] at hd
      have hz12:(n:Int) > 12:=by omega
      obtain ⟨t2,e2⟩:=s2
      dsimp only at *
      subst hz
      have hg3:=HG2.out.setE (.int .i64 7)
      have HG3:=z8 hg3
      have q1:_=some (.int .i64 7:Value):=zc hg3.r 1
      have HERR:Hid (∀ W,jl w w2 #[.string ⟨t2.toArray⟩,.int .i64 7] #[.slice none 0 0,.slice none 0 0] W→uj w out (.returned (.tuple #[.agg #[.slice none 0 0,.slice none 0 0],.int .i64 7])) W):=fun W h=>by
        rw [hd]
        exact ⟨⟨none,none,0,0,0,0,rfl,fun h=>by cases h⟩,h.t.below (fun _ f=>f.elim)⟩
      clear hd HD3 o2 hls2 hlt hi hz0 hz1 hz2 HOG HMG HZG fg hg3
      go_wp2_with fail
      clear p0 p1 pf r0 r1 rf hW2 q1
      refine zE (by kernel_rfl) (J2 w2.heap.size 7) (fun _ W=>jl w w2 #[.string ⟨t2.toArray⟩,.int .i64 7] #[.slice none 0 0,.slice none 0 0] W) ?F2 ?hF2 (by kernel_rfl) (by kernel_rfl) (HG3.out.still ((zb.refl _ _).drew)) ?step2 ?Uz
      case hF2 =>
        intro x
        simp only [List.map_cons,List.map_nil,xc,Act.put,List.setIfInBounds_toArray,List.set_cons_zero,List.set_cons_succ,Nat.zero_add,Nat.reduceAdd]
        exact rfl
      case step2 =>
        refine ⟨?_,?_,?_,?_,?_,trivial⟩
        all_goals intro L x W hL hd hG hdep K hK
        · have n0:W.cell? ⟨w.heap.size+1,0,none⟩=some (.slice none 0 0):=zc hG.n 0
          have n1:W.cell? ⟨w.heap.size+1,1,none⟩=some (.slice none 0 0):=zc hG.n 1
          clear hdep
          go_simp
          exact hK _ _ rfl hG (fun _ _ h=>h)
        · clear hdep
          go_simp
          exact hK _ _ rfl hG (fun _ _ h=>h)
        · have h1:x 1=_:=hdep 1 rfl
          have r1:W.cell? ⟨w2.heap.size,1,none⟩=some (.int .i64 7):=zc hG.r 1
          clear hdep
          simp only [h1] at hK
          go_simp
          exact hK _ _ rfl hG (fun _ _ h=>h)
        · have h0:x 0=.agg #[.slice none 0 0,.slice none 0 0]:=hdep 0 rfl
          refine zJ (by rfl) ua (.tmp 2) (.tmp 42) rfl w.heap.size rfl _ h0 _ _ hG.z Zk rfl (by simp [Value.oneCell']) ?_
          exact hK _ _ trivial hG.zrow (fun j _ h=>uw j _ h)
        · have h2:x 2=_:=hdep 2 rfl
          clear hdep
          simp only [h2] at hK
          go_simp
          exact hK _ _ rfl hG (fun _ _ h=>h)
      case Uz =>
        intro L x W8 hall hG hY
        have h4:x 4=.int .i64 7:=hY 4 (by decide)
        have y0:W8.cell? ⟨w.heap.size,0,none⟩=some (.slice none 0 0):=zc hG.z 0
        have y1:W8.cell? ⟨w.heap.size,1,none⟩=some (.slice none 0 0):=zc hG.z 1
        have HFIN:=z8 (HERR.out W8 hG)
        clear hY hG hall
        rw [h4]
        go_wp2
        refine bodyPost_ret (v:=.tuple #[.agg #[.slice none 0 0,.slice none 0 0],.int .i64 7]) ?_ rfl HFIN.out
        simp [results,Tryz.results29,go_sem,y0,y1]
    have hz12:¬ (n:Int) > 12:=by omega
    have hd:=HD3.out
    rw [if_neg (by simpa using hz),if_neg h12] at hd
    have HUS:Hid (∃ acc:List Us,acc.length=0∧s2.bs.length≤1000∧Ok s2∧zN n s2=((zN (n - 0) s2).1,acc++(zN (n - 0) s2).2)):=⟨[],rfl,hls2,o2,rfl⟩
    obtain ⟨us,hus⟩:∃ us,us=zN n s2:=⟨_,rfl⟩
    rw [← hus] at hd HUS
    have HD4:Hid (out=if us.1.e≠0 then (us.1.e,[],[]) else if yU us.2 G≠0 then (yU us.2 G,[],[]) else if Yu us.1≠0 then (Yu us.1,[],[]) else (0,us.2,G)):=hd
    have HLN:Hid (us.2.length=n):=by rw [hus]; exact vb n s2
    have hn12:n≤12:=by omega
    have hb1:(s2.e == 0)=true:=by simpa using hz
    have hb2:(s2.e != 0)=false:=by simpa using hz
    have HLO:=z8 HG2.out.lo
    clear hus hd HD3 hlt o2 hls2 h12 hz
    go_wp2
    clear p0 p1 pf hW2
    go_loopg [8,9,10,46] n (fun gg s8 _ _ s46 wr=>∃ (k:Nat) (acc l2:List Us) (sk:St),k≤n∧n - k≤gg∧s46=.int .u64 k∧Hid (acc.length=k∧sk.bs.length≤1000∧Ok sk∧us=((zN (n - k) sk).1,acc++(zN (n - k) sk).2))∧Hid (jl w w2 #[.string ⟨sk.bs.toArray⟩,.int .i64 sk.e] #[.slice none 0 0,.slice none 0 0] wr)∧Hid (Yz (w2.heap.size+1) wr s8 k acc l2∧∀ u∈l2,u.Short))
    case atStart =>
      obtain ⟨acc,h0,h1,h2,h3⟩:=HUS.out
      have:acc=[]:=List.eq_nil_of_length_eq_zero h0
      subst this
      exact ⟨0,[],[],s2,Nat.zero_le _,by omega,by go_num,⟨rfl,h1,h2,h3⟩,HG2.out,⟨rfl,World.ownsRow_nil _ _ _ _,(fun _ h=>nomatch h),(fun _ h=>nomatch h)⟩,(fun _ h=>nomatch h)⟩
    case round =>
      clear HUS HG2 r0 r1 rf hb1 hb2
      obtain ⟨k,acc,l2,sk,hk,hg,rfl,HAC,HRG,HO⟩:=hrel
      by_cases hlt:k<n
      · have hltz:(k:Int)<(n:Int):=by omega
        have hac:=HAC.out
        rw [show n - k=(n - (k+1))+1 by omega] at hac
        have HGT:Hid (∀ W,Calls Tryz.prog 89 #[.agg #[.string ⟨sk.bs.toArray⟩,.int .i64 sk.e],.int .i64 2] W fun e w'=>∃ u:Us,e=.returned (.tuple #[.agg #[.string ⟨(yP 2 sk).1.bs.toArray⟩,.int .i64 (yP 2 sk).1.e],.agg #[.string u.nm,.string u.hs,.string u.ml,.bool u.dis,.slice u.ga u.gs.length u.gc]])∧zZ u=xw sk∧u.Short∧w'.ownsRow W.heap.size 9 1 (.slice u.ga u.gs.length u.gc) u.gs.length (zr u.gs)∧zb (fun _=>False) W w'):=fun W=>VQ sk W hac.2.2.1 hac.2.1
        have HAC2:Hid ((acc++[xw sk]).length=k+1∧(yP 2 sk).1.bs.length≤1000∧Ok (yP 2 sk).1∧us=((zN (n - (k+1)) (yP 2 sk).1).1,(acc++[xw sk])++(zN (n - (k+1)) (yP 2 sk).1).2)) :=
          ⟨by rw [List.length_append,hac.1]; rfl,Nat.le_trans (fK sk) hac.2.1,okGet12 hac.2.2.1,by rw [List.append_assoc]; exact hac.2.2.2⟩
        clear hac HAC
        generalize xw sk=tk at *
        generalize (yP 2 sk).1=s4 at *
        have r0:_=some (.string ⟨sk.bs.toArray⟩:Value):=zc HRG.out.r 0
        have r1:_=some (.int .i64 sk.e:Value):=zc HRG.out.r 1
        go_wp2_with fail
        with_reducible refine (HGT.out wr).mono ?_
        rintro e w3 ⟨u,rfl,hnu,hsu,htu,ht⟩
        clear r0 r1
        have HNU:=z8 hnu
        have HSU:=z8 hsu
        have HTU:=z8 htu
        have hRr:w2.heap.size<wr.heap.size:=(Array.getElem?_eq_some_iff.1 HRG.out.r).1
        have hRw3:w2.heap.size<w3.heap.size:=Nat.lt_of_lt_of_le hRr ht.size
        obtain ⟨nm,hs,ml,dis,ga,gs,gc⟩:=u
        dsimp only at *
        clear hnu hsu htu HGT
        generalize hgl:gs.length=gl at *
        have HG3:=z8 ((HRG.out.still ht).still (((zb.refl (fun _=>False) w3).alloc (.cells #[.string ⟨s4.bs.toArray⟩,.int .i64 s4.e] 117)).alloc (.cells #[.string nm,.string hs,.string ml,.bool dis,.slice ga gl gc] 47)))
        have p0:_=some (.string ⟨sk.bs.toArray⟩:Value):=zc HG3.out.r 0
        have p1:_=some (.int .i64 sk.e:Value):=zc HG3.out.r 1
        have pf:=xB HG3.out.r
        have HG4:=z8 (HG3.out.setR (.string ⟨s4.bs.toArray⟩) (.int .i64 s4.e))
        have hu:((((w3.alloc (.cells #[.string ⟨s4.bs.toArray⟩,.int .i64 s4.e] 117)).alloc (.cells #[.string nm,.string hs,.string ml,.bool dis,.slice ga gl gc] 47)).setCell ⟨w2.heap.size,0,none⟩ (.string ⟨s4.bs.toArray⟩)).setCell ⟨w2.heap.size,1,none⟩ (.int .i64 s4.e)).heap[w3.heap.size+1]? = some (.cells #[.string nm,.string hs,.string ml,.bool dis,.slice ga gl gc] 47 (0,0)):=by
          rw [Below.heap_setCell _ _ _ _ (show w3.heap.size+1≠w2.heap.size by omega),Below.heap_setCell _ _ _ _ (show w3.heap.size+1≠w2.heap.size by omega)]
          exact yZ (by simp)
        have k0:_=some (.string nm:Value):=zc hu 0
        have k1:_=some (.string hs:Value):=zc hu 1
        have k2:_=some (.string ml:Value):=zc hu 2
        have k3:_=some (.bool dis:Value):=zc hu 3
        have k4:_=some (.slice ga gl gc:Value):=zc hu 4
        have ht3:zb (fun i=>i=w2.heap.size) w3 ((((w3.alloc (.cells #[.string ⟨s4.bs.toArray⟩,.int .i64 s4.e] 117)).alloc (.cells #[.string nm,.string hs,.string ml,.bool dis,.slice ga gl gc] 47)).setCell ⟨w2.heap.size,0,none⟩ (.string ⟨s4.bs.toArray⟩)).setCell ⟨w2.heap.size,1,none⟩ (.int .i64 s4.e)):=(((((zb.refl (fun i=>i=w2.heap.size) w3).alloc _).alloc _).setCell (p:=⟨w2.heap.size,0,none⟩) (fun _=>rfl) _).setCell (p:=⟨w2.heap.size,1,none⟩) (fun _=>rfl) _)
        have ht4:zb (fun i=>i=w2.heap.size) wr ((((w3.alloc (.cells #[.string ⟨s4.bs.toArray⟩,.int .i64 s4.e] 117)).alloc (.cells #[.string nm,.string hs,.string ml,.bool dis,.slice ga gl gc] 47)).setCell ⟨w2.heap.size,0,none⟩ (.string ⟨s4.bs.toArray⟩)).setCell ⟨w2.heap.size,1,none⟩ (.int .i64 s4.e)):=(ht.mono (S':=fun i=>i=w2.heap.size) (fun _ _ f=>f.elim)).next ht3 (fun _ _ h=>h)
        have HM4:Hid (Yz (w2.heap.size+1) ((((w3.alloc (.cells #[.string ⟨s4.bs.toArray⟩,.int .i64 s4.e] 117)).alloc (.cells #[.string nm,.string hs,.string ml,.bool dis,.slice ga gl gc] 47)).setCell ⟨w2.heap.size,0,none⟩ (.string ⟨s4.bs.toArray⟩)).setCell ⟨w2.heap.size,1,none⟩ (.int .i64 s4.e)) u8 k acc l2):=HO.out.1.turns ht4 (fun j hj he=>by have he':j=w2.heap.size:=he; omega)
        have HO4:=z8 HM4.out.row
        have HT4:Hid (((((w3.alloc (.cells #[.string ⟨s4.bs.toArray⟩,.int .i64 s4.e] 117)).alloc (.cells #[.string nm,.string hs,.string ml,.bool dis,.slice ga gl gc] 47)).setCell ⟨w2.heap.size,0,none⟩ (.string ⟨s4.bs.toArray⟩)).setCell ⟨w2.heap.size,1,none⟩ (.int .i64 s4.e)).ownsRow (w2.heap.size+1) 9 1 (.slice ga gl gc) gl (zr gs)):=zY HTU.out (by omega) ht3 (fun j hj he=>by have he':j=w2.heap.size:=he; omega)
        have HSH:=z8 HO.out.2
        have HSZ:Hid (w2.heap.size+1≤w3.heap.size):=hRw3
        clear hu HO HRG HG3 ht ht3 ht4 HTU hRr hRw3
        go_wp2_with (first
          | (at_builtin; refine wpList_append_own _ rfl _ _ 57 rfl (w2.heap.size+1) 47 i0 (.agg #[.string ⟨#[]⟩,.string ⟨#[]⟩,.string ⟨#[]⟩,.bool false,.slice none 0 0]) 5 80 Tryz.underlying57 hi hz0 hz1 hz2 rfl (by decide) _ _ _ rfl (HO4.out.alloc _) _ 1 1 [.string nm,.string hs,.string ml,.bool dis,.slice ga gl gc] rfl rfl
              (fun j u hu=>by rw [Addr.add_lit,Nat.zero_add,World.cell?_alloc_at _ _ _ _ (by simp)]; simpa using hu) (by simp [Value.oneCell']) (by unfold maxLen; omega) (by omega) (by have:=HSZ.out; simp; omega) ?_
             intro v' w5 hown' hgrow _
             have HO5:=z8 hown'
             have HG5:=z8 hgrow
             clear hown' hgrow)
          | fail)
        go_roundg (n - (k+1))
        case measure=>omega
        case rel =>
          have ht5:zb (fun i=>u8.ownBlock=some i) ((((w3.alloc (.cells #[.string ⟨s4.bs.toArray⟩,.int .i64 s4.e] 117)).alloc (.cells #[.string nm,.string hs,.string ml,.bool dis,.slice ga gl gc] 47)).setCell ⟨w2.heap.size,0,none⟩ (.string ⟨s4.bs.toArray⟩)).setCell ⟨w2.heap.size,1,none⟩ (.int .i64 s4.e)) w5:=(((zb.refl (fun i=>u8.ownBlock=some i) _).alloc _).grown HG5.out (fun k hk _=>hk))
          refine ⟨k+1,acc++[tk],l2++[⟨nm,hs,ml,dis,ga,gs,gc⟩],s4,by omega,by omega,by go_num,HAC2,?_,?_⟩
          · exact z8 (HG4.out.apart ht5 (fun i hi=>(HO4.out.lt i hi).1))
          · refine z8 ⟨⟨by rw [List.map_append,HM4.out.same,List.map_singleton,HNU.out],?_,fun x hx=>?_,fun x hx=>?_⟩,fun x hx=>?_⟩
            · rw [uB]
              subst hgl
              exact HO5.out
            · rcases List.mem_append.1 hx with hx | hx
              · exact HM4.out.wide x hx
              · rw [List.mem_singleton.1 hx]
                have:=HSU.out
                exact ⟨Nat.le_trans this.nm (by decide),Nat.le_trans this.hs (by decide),Nat.le_trans this.ml (by decide),fun s hs=>Nat.le_trans (this.all s hs) (by decide)⟩
            · rcases List.mem_append.1 hx with hx | hx
              · exact vc (HM4.out.txt x hx) HO4.out ht5
              · rw [List.mem_singleton.1 hx]
                subst hgl
                exact vc HT4.out HO4.out ht5
            · rcases List.mem_append.1 hx with hx | hx
              · exact HSH.out x hx
              · rw [List.mem_singleton.1 hx]; exact HSU.out
      · have hltz:¬ (k:Int)<(n:Int):=by omega
        obtain rfl:k=n:=by omega
        have hac:=HAC.out
        rw [Nat.sub_self] at hac
        have e1:us.1=sk:=by rw [hac.2.2.2]; rfl
        have e2:us.2=acc:=by rw [hac.2.2.2]; exact List.append_nil acc
        have hd:=HD4.out
        rw [e1,e2] at hd
        have HD5:=z8 hd
        have HLA:=z8 hac.1
        obtain ⟨A,c,rfl⟩:=yD (zx HO.out.1.row (Nat.zero_le _))
        have hroom:=Qn HO.out.1.row
        clear hac e1 e2 HAC hd HD4 HLN hi hz0 hz1 hz2
        have r0:_=some (.string ⟨sk.bs.toArray⟩:Value):=zc HRG.out.r 0
        have r1:_=some (.int .i64 sk.e:Value):=zc HRG.out.r 1
        have rf:=xB HRG.out.r
        obtain ⟨tb,te⟩:=sk
        dsimp only at *
        by_cases h0:te=0
        case neg =>
          have hd:=HD5.out
          rw [if_pos h0] at hd
          have hz:(te == 0)=false:=by simpa using h0
          have hz':(te != 0)=true:=by simpa using h0
          have HERR:Hid (∀ W,jl w w2 #[.string ⟨tb.toArray⟩,.int .i64 te] #[.slice none 0 0,.slice none 0 0] W→uj w out (.returned (.tuple #[.agg #[.slice none 0 0,.slice none 0 0],.int .i64 te])) W):=fun W h=>by
            rw [hd]
            exact ⟨⟨none,none,0,0,0,0,rfl,fun h=>absurd h h0⟩,h.t.below (fun _ f=>f.elim)⟩
          clear hd HD5 h0 HO hroom HLA HOG HMG HZG
          go_wp2_with fail
          clear r0 r1 rf
          refine zE (by kernel_rfl) (J2 w2.heap.size te) (fun _ W=>jl w w2 #[.string ⟨tb.toArray⟩,.int .i64 te] #[.slice none 0 0,.slice none 0 0] W) ?F3 ?hF3 (by kernel_rfl) (by kernel_rfl) (HRG.out.still ((zb.refl _ _).drew)) ?step3 ?fin3
          case hF3 =>
            intro x
            simp only [List.map_cons,List.map_nil,xc,Act.put,List.setIfInBounds_toArray,List.set_cons_zero,List.set_cons_succ,Nat.zero_add,Nat.reduceAdd]
            exact rfl
          case step3 =>
            refine ⟨?_,?_,?_,?_,?_,trivial⟩
            all_goals intro L x W hL hd hG hdep K hK
            · have n0:W.cell? ⟨w.heap.size+1,0,none⟩=some (.slice none 0 0):=zc hG.n 0
              have n1:W.cell? ⟨w.heap.size+1,1,none⟩=some (.slice none 0 0):=zc hG.n 1
              clear hdep
              go_simp
              exact hK _ _ rfl hG (fun _ _ h=>h)
            · clear hdep
              go_simp
              exact hK _ _ rfl hG (fun _ _ h=>h)
            · have h1:x 1=_:=hdep 1 rfl
              have r1:W.cell? ⟨w2.heap.size,1,none⟩=some (.int .i64 te):=zc hG.r 1
              clear hdep
              simp only [h1] at hK
              go_simp
              exact hK _ _ rfl hG (fun _ _ h=>h)
            · have h0:x 0=.agg #[.slice none 0 0,.slice none 0 0]:=hdep 0 rfl
              refine zJ (by rfl) ua (.tmp 2) (.tmp 78) rfl w.heap.size rfl _ h0 _ _ hG.z Zk rfl (by simp [Value.oneCell']) ?_
              exact hK _ _ trivial hG.zrow (fun j _ h=>uw j _ h)
            · have h2:x 2=_:=hdep 2 rfl
              clear hdep
              simp only [h2] at hK
              go_simp
              exact hK _ _ rfl hG (fun _ _ h=>h)
          case fin3 =>
            intro L x W8 hall hG hY
            have h4:x 4=.int .i64 te:=hY 4 (by decide)
            have y0:W8.cell? ⟨w.heap.size,0,none⟩=some (.slice none 0 0):=zc hG.z 0
            have y1:W8.cell? ⟨w.heap.size,1,none⟩=some (.slice none 0 0):=zc hG.z 1
            have HFIN:=z8 (HERR.out W8 hG)
            clear hY hG hall
            rw [h4]
            go_wp2
            refine bodyPost_ret (v:=.tuple #[.agg #[.slice none 0 0,.slice none 0 0],.int .i64 te]) ?_ rfl HFIN.out
            simp [results,Tryz.results29,go_sem,y0,y1]
        subst h0
        have hd:=HD5.out
        rw [if_neg (by simp)] at hd
        have HD6:=z8 hd
        have hrdu:uz wr A l2:=qa HO.out.1.row (by rw [← HLA.out,← HO.out.1.same,List.length_map])
        have HRO:Hid (Calls Tryz.prog 90 #[.slice A k c,.slice A2 m c2] wr (yi (yU acc G) wr)):=by
          have:=VL A A2 c c2 k m l2 G wr (by rw [← HLA.out,← HO.out.1.same,List.length_map]) (by omega) hroom.1 hroom.2 hrdu HO.out.1.ok (fun u hu=>⟨(HO.out.2 u hu).nm,(HO.out.2 u hu).hs,(HO.out.2 u hu).ml,(HO.out.2 u hu).all⟩) HMG.out fg (HOG.out wr HRG.out.t2) HZG.out
          rwa [show yU l2 G=yU acc G by rw [← HO.out.1.same,qt]] at this
        have HAN:Hid (∀ W,zb (fun i=>i=w.heap.size∨i=w2.heap.size) wr W→zb (fun i=>i=w.heap.size) w2 W→∃ l2:List Us,l2.map zZ=acc∧k=l2.length∧uz W A l2∧(∀ u∈l2,u.Ok W)∧m=G.length∧RdS W A2 G):=fun W h1 h2=>by
          have hm:=HO.out.1.turns h1 (fun j hj he=>by have:=HLO.out; rcases he with he | he <;> omega)
          exact ⟨l2,hm.same,by rw [← HLA.out,← hm.same,List.length_map],qa hm.row (by rw [← HLA.out,← hm.same,List.length_map]),hm.ok,HMG.out,HOG.out W h2⟩
        clear hd HD5 HO hroom hrdu HOG HMG HZG
        generalize yU acc G=oe at *
        go_wp2_with fail
        with_reducible refine HRO.out.mono ?_
        rintro e w3 ⟨rfl,hb3⟩
        have HGA:=z8 (HRG.out.still (zb.of_below hb3 _))
        have HT3:Hid (zb (fun i=>i=w.heap.size∨i=w2.heap.size) wr w3):=zb.of_below hb3 _
        clear r0 r1 rf hb3 HRO
        have p0:_=some (.string ⟨tb.toArray⟩:Value):=zc HGA.out.r 0
        have p1:_=some (.int .i64 0:Value):=zc HGA.out.r 1
        have pf:=xB HGA.out.r
        have hg5:=HGA.out.setE (.int .i64 oe)
        have HG5:=z8 hg5
        have r0:_=some (.string ⟨tb.toArray⟩:Value):=zc hg5.r 0
        have r1:_=some (.int .i64 oe:Value):=zc hg5.r 1
        have rf:=xB hg5.r
        have HT5:Hid (zb (fun i=>i=w.heap.size∨i=w2.heap.size) wr (w3.setCell ⟨w2.heap.size,1,none⟩ (.int .i64 oe))):=HT3.out.setCell (p:=⟨w2.heap.size,1,none⟩) (fun _=>.inr rfl) _
        clear hg5 HGA HT3 HRG
        by_cases h1:oe=0
        case neg =>
          have hd:=HD6.out
          rw [if_pos h1] at hd
          have hz:(oe == 0)=false:=by simpa using h1
          have hz':(oe != 0)=true:=by simpa using h1
          have HERR:Hid (∀ W,jl w w2 #[.string ⟨tb.toArray⟩,.int .i64 oe] #[.slice none 0 0,.slice none 0 0] W→uj w out (.returned (.tuple #[.agg #[.slice none 0 0,.slice none 0 0],.int .i64 oe])) W):=fun W h=>by
            rw [hd]
            exact ⟨⟨none,none,0,0,0,0,rfl,fun h=>absurd h h1⟩,h.t.below (fun _ f=>f.elim)⟩
          clear hd HD6 h1 HAN HT5
          go_wp2_with fail
          clear p0 p1 pf r0 r1 rf
          refine zE (by kernel_rfl) (J2 w2.heap.size oe) (fun _ W=>jl w w2 #[.string ⟨tb.toArray⟩,.int .i64 oe] #[.slice none 0 0,.slice none 0 0] W) ?F4 ?hF4 (by kernel_rfl) (by kernel_rfl) (HG5.out.still ((zb.refl _ _).drew)) ?step4 ?fin4
          case hF4 =>
            intro x
            simp only [List.map_cons,List.map_nil,xc,Act.put,List.setIfInBounds_toArray,List.set_cons_zero,List.set_cons_succ,Nat.zero_add,Nat.reduceAdd]
            exact rfl
          case step4 =>
            refine ⟨?_,?_,?_,?_,?_,trivial⟩
            all_goals intro L x W hL hd hG hdep K hK
            · have n0:W.cell? ⟨w.heap.size+1,0,none⟩=some (.slice none 0 0):=zc hG.n 0
              have n1:W.cell? ⟨w.heap.size+1,1,none⟩=some (.slice none 0 0):=zc hG.n 1
              clear hdep
              go_simp
              exact hK _ _ rfl hG (fun _ _ h=>h)
            · clear hdep
              go_simp
              exact hK _ _ rfl hG (fun _ _ h=>h)
            · have h1:x 1=_:=hdep 1 rfl
              have r1:W.cell? ⟨w2.heap.size,1,none⟩=some (.int .i64 oe):=zc hG.r 1
              clear hdep
              simp only [h1] at hK
              go_simp
              exact hK _ _ rfl hG (fun _ _ h=>h)
            · have h0:x 0=.agg #[.slice none 0 0,.slice none 0 0]:=hdep 0 rfl
              refine zJ (by rfl) ua (.tmp 2) (.tmp 78) rfl w.heap.size rfl _ h0 _ _ hG.z Zk rfl (by simp [Value.oneCell']) ?_
              exact hK _ _ trivial hG.zrow (fun j _ h=>uw j _ h)
            · have h2:x 2=_:=hdep 2 rfl
              clear hdep
              simp only [h2] at hK
              go_simp
              exact hK _ _ rfl hG (fun _ _ h=>h)
          case fin4 =>
            intro L x W8 hall hG hY
            have h4:x 4=.int .i64 oe:=hY 4 (by decide)
            have y0:W8.cell? ⟨w.heap.size,0,none⟩=some (.slice none 0 0):=zc hG.z 0
            have y1:W8.cell? ⟨w.heap.size,1,none⟩=some (.slice none 0 0):=zc hG.z 1
            have HFIN:=z8 (HERR.out W8 hG)
            clear hY hG hall
            rw [h4]
            go_wp2
            refine bodyPost_ret (v:=.tuple #[.agg #[.slice none 0 0,.slice none 0 0],.int .i64 oe]) ?_ rfl HFIN.out
            simp [results,Tryz.results29,go_sem,y0,y1]
        subst h1
        have hd:=HD6.out
        rw [if_neg (by simp)] at hd
        cases tb with
        | cons y ys =>
          have hd2:out=(3,[],[]):=hd
          have hg6:=HG5.out.setE (.int .i64 3)
          have HG6:=z8 hg6
          have q1:_=some (.int .i64 3:Value):=zc hg6.r 1
          have HERR:Hid (∀ W,jl w w2 #[.string ⟨(y::ys).toArray⟩,.int .i64 3] #[.slice none 0 0,.slice none 0 0] W→uj w out (.returned (.tuple #[.agg #[.slice none 0 0,.slice none 0 0],.int .i64 3])) W):=fun W h=>by
            rw [hd2]
            exact ⟨⟨none,none,0,0,0,0,rfl,fun h=>by cases h⟩,h.t.below (fun _ f=>f.elim)⟩
          have hne:((⟨(y::ys).toArray⟩:ByteArray).toList != (⟨#[]⟩:ByteArray).toList)=true:=by simp [ByteArray.toList_eq]
          have hne2:(⟨(y::ys).toArray⟩:ByteArray).toList.isEmpty=false:=by simp [ByteArray.toList_eq]
          clear hd hd2 HD6 HAN HT5 hg6 HG5
          generalize (⟨(y::ys).toArray⟩:ByteArray)=yb at *
          go_wp2_with fail
          clear p0 p1 pf r0 r1 rf q1
          refine zE (by kernel_rfl) (J2 w2.heap.size 3) (fun _ W=>jl w w2 #[.string yb,.int .i64 3] #[.slice none 0 0,.slice none 0 0] W) ?F5 ?hF5 (by kernel_rfl) (by kernel_rfl) (HG6.out.still ((zb.refl _ _).drew)) ?step5 ?fin5
          case hF5 =>
            intro x
            simp only [List.map_cons,List.map_nil,xc,Act.put,List.setIfInBounds_toArray,List.set_cons_zero,List.set_cons_succ,Nat.zero_add,Nat.reduceAdd]
            exact rfl
          case step5 =>
            refine ⟨?_,?_,?_,?_,?_,trivial⟩
            all_goals intro L x W hL hd hG hdep K hK
            · have n0:W.cell? ⟨w.heap.size+1,0,none⟩=some (.slice none 0 0):=zc hG.n 0
              have n1:W.cell? ⟨w.heap.size+1,1,none⟩=some (.slice none 0 0):=zc hG.n 1
              clear hdep
              go_simp
              exact hK _ _ rfl hG (fun _ _ h=>h)
            · clear hdep
              go_simp
              exact hK _ _ rfl hG (fun _ _ h=>h)
            · have h1:x 1=_:=hdep 1 rfl
              have r1:W.cell? ⟨w2.heap.size,1,none⟩=some (.int .i64 3):=zc hG.r 1
              clear hdep
              simp only [h1] at hK
              go_simp
              exact hK _ _ rfl hG (fun _ _ h=>h)
            · have h0:x 0=.agg #[.slice none 0 0,.slice none 0 0]:=hdep 0 rfl
              refine zJ (by rfl) ua (.tmp 2) (.tmp 78) rfl w.heap.size rfl _ h0 _ _ hG.z Zk rfl (by simp [Value.oneCell']) ?_
              exact hK _ _ trivial hG.zrow (fun j _ h=>uw j _ h)
            · have h2:x 2=_:=hdep 2 rfl
              clear hdep
              simp only [h2] at hK
              go_simp
              exact hK _ _ rfl hG (fun _ _ h=>h)
          case fin5 =>
            intro L x W8 hall hG hY
            have h4:x 4=.int .i64 3:=hY 4 (by decide)
            have y0:W8.cell? ⟨w.heap.size,0,none⟩=some (.slice none 0 0):=zc hG.z 0
            have y1:W8.cell? ⟨w.heap.size,1,none⟩=some (.slice none 0 0):=zc hG.z 1
            have HFIN:=z8 (HERR.out W8 hG)
            clear hY hG hall
            rw [h4]
            go_wp2
            refine bodyPost_ret (v:=.tuple #[.agg #[.slice none 0 0,.slice none 0 0],.int .i64 3]) ?_ rfl HFIN.out
            simp [results,Tryz.results29,go_sem,y0,y1]
        | nil =>
          have hd2:out=(0,acc,G):=hd
          have z0:_=some (.slice none 0 0:Value):=zc HG5.out.z 0
          have z1:_=some (.slice none 0 0:Value):=zc HG5.out.z 1
          have zf:=xB HG5.out.z
          have hg7:=HG5.out.setZ (.slice A k c) (.slice A2 m c2)
          have y0:_=some (.slice A k c:Value):=zc hg7.z 0
          have y1:_=some (.slice A2 m c2:Value):=zc hg7.z 1
          have HFIN:Hid (uj w out (.returned (.tuple #[.agg #[.slice A k c,.slice A2 m c2],.int .i64 0])) (((w3.setCell ⟨w2.heap.size,1,none⟩ (.int .i64 0)).setCell ⟨w.heap.size,0,none⟩ (.slice A k c)).setCell ⟨w.heap.size,1,none⟩ (.slice A2 m c2))):=by
            rw [hd2]
            refine ⟨⟨A,A2,k,m,c,c2,rfl,fun _=>HAN.out _ ((HT5.out.setCell (p:=⟨w.heap.size,0,none⟩) (fun _=>.inl rfl) _).setCell (p:=⟨w.heap.size,1,none⟩) (fun _=>.inl rfl) _) hg7.t2⟩,hg7.t.below (fun _ f=>f.elim)⟩
          have hnil:(⟨([]:List UInt8).toArray⟩:ByteArray)=⟨#[]⟩:=rfl
          rw [hnil] at p0 r0
          clear hd hd2 HD6 HAN HT5 hg7 HG5
          go_wp2
          refine bodyPost_ret (v:=.tuple #[.agg #[.slice A k c,.slice A2 m c2],.int .i64 0]) ?_ rfl HFIN.out
          simp [results,Tryz.results29,go_sem,y0,y1]
end Go.Proofs.YthmomkjingcbiaaGreatDoor
namespace Go.Proofs.YthmomkjingcbiaaGreatDoor
open Go.RowKit Go.Maps

def upV13 (h:List UInt8):U11:=⟨h,[],false,[]⟩
def up13 (L:zq):jk:=L.map fun q=>(q.1,upV13 q.2)
structure uM (L:zq):Prop where
 rise:xC L
 few:L.length≤12
 all:∀ q∈L,zm q.1=true∧xo q.2=true
theorem uM.nil:uM []:=⟨List.Pairwise.nil,Nat.zero_le _,fun _ h=>nomatch h⟩

variable {L:zq}
/-! ### rows of both kinds -/

/-! ### deeds -/
theorem seE13 {L:zq} {n h:List UInt8} (e:seE L n h=0):zm n=true∧xo h=true∧xn L n=true:=by
 obtain ⟨e1,e⟩:=xX e
 obtain ⟨e2,e⟩:=xX e
 obtain ⟨e3,_⟩:=xX e
 exact ⟨(qj (by decide)).1 e1,(qj (by decide)).1 e2,(qj (by decide)).1 e3⟩
theorem uM.set (h:uM L) (n s:List UInt8):uM (seL L n s):=by
 unfold seL
 split
 ·
  next e =>
  obtain ⟨h1,h2,h3⟩:=seE13 e
  refine ⟨vU h.rise n s,?_,fun q hq=>?_⟩
  ·
   rw [qq h.rise,if_pos h3]
   exact h.few
  ·
   unfold vB at hq
   rcases ZF.1 hq with rfl | hq
   ·
    exact ⟨h1,h2⟩
   ·
    exact h.all q (xO.1 hq).1
 ·
  exact h

/-! ### what may be -/
theorem chk1_13 {q:List UInt8×List UInt8} (h1:zm q.1=true) (h2:xo q.2=true):yk 1 (zp q)=0:=by
 have b:uQ (zp q)=true:=by
  unfold uQ sameU upU zp
  simp
 unfold yk
 rw [if_pos rfl,b]
 show zD [zD [zA (vo 1) 6,zA (zm (tx7 q.1).data.toList) 10,zA (xo (tx7 q.2).data.toList) 4],zA true 12]=0
 rw [yy,yy,h1,h2]
 decide
theorem chk2_13 {q:List UInt8×List UInt8} (h1:zm q.1=true) (h2:xo q.2=true):yk 2 (zp q)=0:=by
 unfold yk
 rw [if_neg (by decide)]
 show zD [zD [zA (vo 2) 6,zA (zm (tx7 q.1).data.toList) 10,zA (xo (tx7 q.2).data.toList) 4],zA (uG ⟨#[]⟩) 11,zA (decide (([]:List ByteArray).length≤6)) 7,zA (zK []) 10,zA (zB []) 9]=0
 rw [yy,yy,h1,h2]
 decide
theorem uM.chk (h:uM L):∀ q∈L,yk 1 (zp q)=0:=fun q hq=>chk1_13 (h.all q hq).1 (h.all q hq).2
theorem plU13 (L:zq):um (L.map zp)=up13 L:=by
 unfold um up13
 rw [List.map_map]
 refine List.map_congr_left fun q _=>?_
 show ((tx7 q.1).data.toList,(⟨(tx7 q.2).data.toList,[],false,[]⟩:U11))=(q.1,upV13 q.2)
 rw [yy,yy]
 rfl
theorem uM.of (h:uM L):yU (L.map zp) []=0:=by
 have h1:yL (L.map zp)=0:=fl fun u hu=>by
  obtain ⟨q,hq,rfl⟩:=List.mem_map.1 hu
  exact chk2_13 (h.all q hq).1 (h.all q hq).2
 have h2:zB ((L.map zp).map (·.nm))=true:=by
  refine fi ?_
  rw [List.map_map,List.pairwise_map]
  refine List.Pairwise.imp (fun {a b} hab=>?_) h.rise
  show bytesBefore (tx7 a.1).data.toList (tx7 b.1).data.toList=true
  rw [yy,yy]
  exact hab
 have h3:((((L.map zp).length:Nat):Int)≤12):=by have:=h.few; rw [List.length_map]; omega
 have h7:yc [] [] (L.map zp)=0:=by
  refine qX _ _ _ (fun u hu=>?_) ?_
  ·
   obtain ⟨q,_,rfl⟩:=List.mem_map.1 hu
   rfl
  ·
   rw [List.nil_append,List.pairwise_map]
   exact List.Pairwise.imp (fun {a b} _ hne=>absurd rfl hne) h.rise
 unfold yU uF
 rw [h1,h2,decide_eq_true h3,h7]
 rfl
theorem good_of13 (hq:∀ q∈L,yk 1 (zp q)=0) (ho:ofE (L.map zp)=0):uM L:=by
 obtain ⟨_,h2,h3,_⟩:=Jg ho
 rw [Zo] at h2
 rw [List.length_map] at h3
 refine ⟨h2,h3,fun q h=>?_⟩
 obtain ⟨_,a,b⟩:=ql (hq q h)
 unfold zp at a b
 dsimp only at a b
 rw [yy] at a b
 exact ⟨a,b⟩
theorem qY {bs:List UInt8} (h:(vw bs).1=0):uM (vw bs).2:=good_of13 (VR h).1 (VR h).2.1

/-! ### bytes -/
theorem folT_up13 (L:zq):Xf (up13 L) []=fV (L.map zp) []:=by
 have:=Uy (L.map zp) []
 rwa [plU13] at this
def xN (bs:List UInt8):Int×List UInt8 :=
 if yr bs=2 then (if (xm bs).1=0 then (0,bs) else ((xm bs).1,[]))
 else (if (vw bs).1=0 then (0,fV ((vw bs).2.map zp) []) else ((vw bs).1,[]))
theorem fB (l:List Us) (G:List ByteArray):yr (fV l G)=2:=by
 have e:le 2 1=[2]:=by decide
 unfold fV
 rw [e]
 generalize xR G++(le l.length 2++l.flatMap (zR 2))=r
 rfl
theorem jJ {bs:List UInt8} (h:yr bs=2):xN bs=if (xm bs).1=0 then (0,bs) else ((xm bs).1,[]):=by
 unfold xN
 rw [if_pos h]
theorem ZE {bs:List UInt8} (h:yr bs≠2):xN bs=if (vw bs).1=0 then (0,fV ((vw bs).2.map zp) []) else ((vw bs).1,[]):=by
 unfold xN
 rw [if_neg h]
theorem mig_again13 {bs:List UInt8} (h:(xN bs).1=0):xN (xN bs).2=(0,(xN bs).2)∧yr (xN bs).2=2∧(xN bs).2.length≤bs.length+1733:=by
 by_cases h2:yr bs=2
 ·
  have e:=jJ h2
  by_cases h0:(xm bs).1=0
  ·
   rw [if_pos h0] at e
   rw [e]
   exact ⟨e,h2,Nat.le_add_right _ _⟩
  ·
   rw [if_neg h0] at e
   rw [e] at h
   dsimp only at h
   exact absurd h h0
 ·
  have e:=ZE h2
  by_cases h0:(vw bs).1=0
  ·
   rw [if_pos h0] at e
   rw [e]
   have hg:=qY h0
   generalize (vw bs).2=L at *
   have e2:=jJ (fB (L.map zp) [])
   have e3:=JV hg.of
   have e4:=ZQ (may12 hg.of)
   rw [e3,if_pos rfl] at e2
   exact ⟨e2,fB _ _,Nat.le_trans e4 (Nat.le_add_left _ _)⟩
  ·
   rw [if_neg h0] at e
   rw [e] at h
   dsimp only at h
   exact absurd h h0

/-! ### taken down -/
end Go.Proofs.YthmomkjingcbiaaGreatDoor
namespace Go.Proofs.YthmomkjingcbiaaGreatDoor
open Go.RowKit Go.Maps Go.Sort Go.Shelf

def Made13 (w:World) (T:jk) (e:Ending) (w':World):Prop :=
 ∃ D P M G A L S k,e=.returned (.pointer (some ⟨D,0,none⟩))∧zH w w' D P M G A L S∧ya A L S k∧zM A L S=T∧ze S=[]∧k≤200

theorem uZ {w:World} {base g n cap size:Nat} {e:TypeId} {xs:List Value} (h:w.ownsRow base e size (.slice (some ⟨g,0,none⟩) n cap) n xs) (j:Nat) (u:Value) (hu:xs[j]? = some u):(w.setCell ⟨g,j,none⟩ u).ownsRow base e size (.slice (some ⟨g,0,none⟩) n cap) n xs:=by
 have h2:=(h.stored j u).1
 obtain ⟨hj,rfl⟩:=List.getElem?_eq_some_iff.1 hu
 rwa [List.set_getElem_self] at h2
section
variable {w:World} {base g n cap:Nat} {L:zq}
theorem va (k:Nat) (hk:k<L.length) (j:Nat) (hj:j<5):(zT (L.map zp))[k * 5+j]? = (zp L[k]).cells[j]? := by
 rw [Zc _ k j (by rw [List.length_map]; exact hk) hj,List.getElem_map]
theorem UT (h:w.ownsRow base 47 5 (.slice (some ⟨g,0,none⟩) n cap) n (zT (L.map zp))) (hn:n=L.length) (k:Nat) (hk:k<L.length) :
  w.cell? ⟨g,k * 5,none⟩=some (.string (tx7 L[k].1))∧w.cell? ⟨g,k * 5+1,none⟩=some (.string (tx7 L[k].2))∧w.cell? ⟨g,k * 5+2,none⟩=some (.string ⟨#[]⟩)∧w.cell? ⟨g,k * 5+3,none⟩=some (.bool false)∧w.cell? ⟨g,k * 5+4,none⟩=some (.slice none 0 0):=by
 have hc:∀ j,j<5→w.cell? ⟨g,k * 5+j,none⟩=(zp L[k]).cells[j]? := fun j hj=>(h.cellAt (k * 5+j) (by omega)).trans (va k hk j hj)
 exact ⟨hc 0 (by decide),hc 1 (by decide),hc 2 (by decide),hc 3 (by decide),hc 4 (by decide)⟩
theorem FM (h:w.ownsRow base 47 5 (.slice (some ⟨g,0,none⟩) n cap) n (zT (L.map zp))) (k:Nat) (hk:k<L.length) :
  (((((w.setCell ⟨g,k * 5,none⟩ (.string (tx7 L[k].1))).setCell ⟨g,k * 5+1,none⟩ (.string (tx7 L[k].2))).setCell ⟨g,k * 5+2,none⟩ (.string ⟨#[]⟩)).setCell ⟨g,k * 5+3,none⟩ (.bool false)).setCell ⟨g,k * 5+4,none⟩ (.slice none 0 0)).ownsRow base 47 5 (.slice (some ⟨g,0,none⟩) n cap) n (zT (L.map zp)) :=
 uZ (uZ (uZ (uZ (uZ h (k * 5) _ (va k hk 0 (by decide))) (k * 5+1) _ (va k hk 1 (by decide))) (k * 5+2) _ (va k hk 2 (by decide))) (k * 5+3) _ (va k hk 3 (by decide))) (k * 5+4) _ (va k hk 4 (by decide))
end

set_option maxRecDepth 100000 in
theorem Vt (w:World):Calls Tryz.prog 14 #[.pointer none] w fun e w'=>e=.returned (.pointer none)∧w=w':=by
 go_enter Tryz.func14,Tryz.ntmps14
 go_wp2
 go_ret
 exact ⟨rfl,rfl⟩

set_option maxRecDepth 100000 in
theorem JE {w0 w:World} {B:Nat} {L:zq} (h:jm w0 w B L) (hg:uM L) (h5:vm w) :
  Calls Tryz.prog 14 #[.pointer (some ⟨B,0,none⟩)] w (Made13 w (up13 L)):=by
 have HAL:Hid (Calls Tryz.prog 27 #[.pointer (some ⟨B,0,none⟩)] w fun e w'=>∃ v,e=.returned v∧w'.ownsRow w.heap.size 47 5 v L.length (zT (L.map zp))∧Below w.heap.size w w') :=
  h.allu.mono fun e w' ⟨v,he,hu,hb⟩=>⟨v,he,by rw [← Vq]; exact hu,hb⟩
 have hnl:(L.map zp).length=L.length:=List.length_map _
 have HBO:Hid (∀ W,∀ u∈L.map zp,u.Ok W):=fun W u hu=>by
  obtain ⟨q,hq,rfl⟩:=List.mem_map.1 hu
  exact Jz (h.all q hq)
 obtain ⟨n,hn⟩:∃ n,n=L.length:=⟨_,rfl⟩
 have HLN:Hid (n=L.length):=hn
 have hn12:n≤12:=by rw [hn]; exact h.few
 have HOF:Hid (∀ A c W,uz W A (L.map zp)→vm W→Calls Tryz.prog 41 #[.slice A n c,.slice none 0 0] W fun e w'=>∃ D P M G A' L' S k,e=.returned (.tuple #[.pointer (some ⟨D,0,none⟩),.int .i64 0])∧zH W w' D P M G A' L' S∧ya A' L' S k∧zM A' L' S=up13 L∧ze S=[]∧k≤200):=fun A c W hr hm=>by
  refine (ZA A none c 0 n 0 (L.map zp) [] W (by rw [hn]; exact hnl.symm) (by omega) hr (HBO.out W) rfl (by omega) (fun h=>absurd rfl h) (fun _ h=>nomatch h) hm).mono fun e w' hh=>?_
  unfold Of11 at hh
  rcases hh with ⟨h0,_⟩ | ⟨_,D,P,M,Gr,A',L',S,k,he,ho,hs,hk⟩
  ·
   exact absurd hg.of h0
  ·
   exact ⟨D,P,M,Gr,A',L',S,k,he,ho,hs.1.1,by rw [hs.1.2.1,plU13],hs.1.2.2,hk⟩
 have HM:=z8 h5
 rw [← hn] at HAL
 clear h hg h5 hn hnl HBO
 generalize hT:up13 L=T at *
 clear hT
 go_enter Tryz.func14,Tryz.ntmps14
 go_wp2_with fail
 with_reducible refine HAL.out.mono ?_
 rintro e w1 ⟨v,rfl,hu,hb⟩
 obtain ⟨A,c,rfl⟩:=yD (zx hu (Nat.zero_le _))
 have HU1:=z8 hu
 have HB1:=z8 hb
 clear hu hb HAL
 go_wp2
 go_loopg [4,5,14] n (fun gg _ _ s14 wr=>∃ k:Nat,k≤n∧n - k≤gg∧s14=.int .i64 k∧Hid (Below w.heap.size w wr)∧Hid (wr.ownsRow w.heap.size 47 5 (.slice A n c) n (zT (L.map zp))))
 case atStart=>exact ⟨0,Nat.zero_le _,by omega,rfl,HB1.out,HU1.out⟩
 case round =>
  clear HU1 HB1
  obtain ⟨k,hk,hg,rfl,HW,HO⟩:=hrel
  by_cases hlt:k<n
  ·
   have hltz:(k:Int)<(n:Int):=by omega
   have hkl:k<L.length:=HLN.out ▸ hlt
   obtain ⟨g,cap,hv,hgb,_⟩:=HO.out.form (by omega)
   injection hv with hA _ hc
   subst hA hc
   obtain ⟨c0,c1,c2,c3,c4⟩:=UT HO.out HLN.out k hkl
   have hba:=za (Below.refl wr.heap.size wr) (.cells #[.string (tx7 L[k].1),.string (tx7 L[k].2),.string ⟨#[]⟩,.bool false,.slice none 0 0] 47)
   have HUP:Hid (∀ W,Calls Tryz.prog 40 #[.agg #[.string (tx7 L[k].1),.string (tx7 L[k].2),.string ⟨#[]⟩,.bool false,.slice none 0 0]] W fun e w'=>e=.returned (.agg #[.string (tx7 L[k].1),.string (tx7 L[k].2),.string ⟨#[]⟩,.bool false,.slice none 0 0])∧Below W.heap.size W w'):=fun W=>Vs (zp L[k]) W
   have HNX:Hid (∀ W,Below (wr.alloc (.cells #[.string (tx7 L[k].1),.string (tx7 L[k].2),.string ⟨#[]⟩,.bool false,.slice none 0 0] 47)).heap.size (wr.alloc (.cells #[.string (tx7 L[k].1),.string (tx7 L[k].2),.string ⟨#[]⟩,.bool false,.slice none 0 0] 47)) W →
     (∀ j,W.frozen? ⟨g,j,none⟩=false)∧(W.cell? ⟨g,k * 5,none⟩=some (.string (tx7 L[k].1))∧W.cell? ⟨g,k * 5+1,none⟩=some (.string (tx7 L[k].2))∧W.cell? ⟨g,k * 5+2,none⟩=some (.string ⟨#[]⟩)∧W.cell? ⟨g,k * 5+3,none⟩=some (.bool false)∧W.cell? ⟨g,k * 5+4,none⟩=some (.slice none 0 0)) ∧
     Hid (Below w.heap.size w (((((W.setCell ⟨g,k * 5,none⟩ (.string (tx7 L[k].1))).setCell ⟨g,k * 5+1,none⟩ (.string (tx7 L[k].2))).setCell ⟨g,k * 5+2,none⟩ (.string ⟨#[]⟩)).setCell ⟨g,k * 5+3,none⟩ (.bool false)).setCell ⟨g,k * 5+4,none⟩ (.slice none 0 0))) ∧
     Hid ((((((W.setCell ⟨g,k * 5,none⟩ (.string (tx7 L[k].1))).setCell ⟨g,k * 5+1,none⟩ (.string (tx7 L[k].2))).setCell ⟨g,k * 5+2,none⟩ (.string ⟨#[]⟩)).setCell ⟨g,k * 5+3,none⟩ (.bool false)).setCell ⟨g,k * 5+4,none⟩ (.slice none 0 0)).ownsRow w.heap.size 47 5 (.slice (some ⟨g,0,none⟩) n c) n (zT (L.map zp)))):=fun W hb=>by
    have hb2:=z7 hba hb
    have ho2:=zY HO.out (Nat.le_refl _) (zb.of_below hb2 (fun _=>False)) (fun _ _ f=>f)
    have hbw:=z7 HW.out hb2
    exact ⟨fun j=>ho2.frozenAt j,UT ho2 HLN.out k hkl,((((hbw.setCell (p:=⟨g,k * 5,none⟩) hgb _).setCell (p:=⟨g,k * 5+1,none⟩) hgb _).setCell (p:=⟨g,k * 5+2,none⟩) hgb _).setCell (p:=⟨g,k * 5+3,none⟩) hgb _).setCell (p:=⟨g,k * 5+4,none⟩) hgb _,FM ho2 k hkl⟩
   clear hba HO HW
   generalize tx7 L[k].1=nm at *
   generalize tx7 L[k].2=hs at *
   go_wp2_with (go_at_call 40; (with_reducible refine (HUP.out _).mono ?_); rintro e w6 ⟨rfl,h4⟩; obtain ⟨f0,⟨d0,d1,d2,d3,d4⟩,R1,R2⟩:=HNX.out w6 h4; have e0:=f0 (k * 5); have e1:=f0 (k * 5+1); have e2:=f0 (k * 5+2); have e3:=f0 (k * 5+3); have e4:=f0 (k * 5+4); clear f0 h4 HNX HUP)
   go_roundg (n - (k+1))
   case measure=>omega
   case rel=>exact ⟨k+1,by omega,by omega,by go_num,R1,R2⟩
  ·
   have hltz:¬ (k:Int)<(n:Int):=by omega
   obtain rfl:k=n:=by omega
   have HOF1:=z8 (HOF.out A c wr (qr HO.out (by rw [List.length_map]; exact HLN.out)) (HM.out.later HW.out))
   clear HO HOF
   go_wp2_with fail
   with_reducible refine HOF1.out.mono ?_
   rintro e w2 ⟨D,P,M,G,A',L',S,q,rfl,ho,hgd,ht,hnm,hq⟩
   have HF:Hid (Made13 w T (.returned (.pointer (some ⟨D,0,none⟩))) w2):=⟨D,P,M,G,A',L',S,q,rfl,ho.base HW.out,hgd,ht,hnm,hq⟩
   clear ho hgd ht hnm hq HOF1 HW HM
   go_wp2
   go_ret
   exact HF.out
end Go.Proofs.YthmomkjingcbiaaGreatDoor
