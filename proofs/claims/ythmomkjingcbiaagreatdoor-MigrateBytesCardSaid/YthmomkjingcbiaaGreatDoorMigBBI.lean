/-
  The texts that the laws of this seat share, part 9: what the code and the document's own answers tell, walked function by function.
  Conditions: each theorem's own.
-/
import Derived.Test.YthmomkjingcbiaaGreatDoorMigBBH
set_option maxHeartbeats 16000000
namespace Go.Proofs.YthmomkjingcbiaaGreatDoor
open Go.RowKit Go.Maps Go.Sort Go.Shelf

def yL:List Us→Int
 | []=>0
 | u::r=>if yk 2 u=0 then yL r else yk 2 u
def uF (l:List Us):Int:=xz [yL l,zA (zB (l.map (·.nm))) 9,zA (decide ((l.length:Int)≤12)) 7]
theorem X5:∀ (a b:List UInt8),Op.bytesLess a b=decide (Lib.compareBytes a b<0)
 | [],[]=>by decide
 | [],b::bl=>by simp [Op.bytesLess,Lib.compareBytes]
 | a::al,[]=>by simp [Op.bytesLess,Lib.compareBytes]
 | a::al,b::bl=>by
  have ih:=X5 al bl
  unfold Op.bytesLess Lib.compareBytes
  by_cases h1:a<b
  ·
   simp [h1]
  ·
   by_cases h2:b<a
   ·
    have h3:¬ a=b:=fun h=>by subst h; exact h1 h2
    simp [h1,h2,h3]
   ·
    have h3:a=b:=UInt8.le_antisymm (UInt8.not_lt.1 h2) (UInt8.not_lt.1 h1)
    subst h3
    simp [h1] at ih ⊢
    exact ih
theorem Uh (x y:ByteArray):Op.bytesLess x.toList y.toList=zv x y:=by
 unfold zv
 rw [ByteArray.toList_eq,ByteArray.toList_eq,X5]

set_option maxRecDepth 100000 in
theorem VM (A:Option Addr) (c n:Nat) (l:List Us) (w:World) (hl:n=l.length) (hn:n≤1000) (hr:uz w A l) (ho:∀ u∈l,u.Ok w)
  (hf:∀ u∈l,u.nm.size≤1000∧u.hs.size≤1000∧u.ml.size≤1000∧∀ g∈u.gs,g.size≤1000) :
  Calls Tryz.prog 185 #[.slice A n c,.int .i64 2] w (yi (uF l) w):=by
 have HR:=z8 hr
 have HL:=z8 hl
 have HO:=z8 ho
 have HFW:=z8 hf
 clear hr hl ho hf
 obtain ⟨r,hr⟩:∃ r,r=uF l:=⟨_,rfl⟩
 rw [← hr]
 have HRR:=z8 hr
 clear hr
 go_enter Tryz.func185,Tryz.ntmps185
 go_wp2
 go_loopg [6,7,12] n (fun gg _ _ s12 wr=>∃ k:Nat,k≤n∧n - k≤gg∧s12=.int .i64 k∧Hid (Below w.heap.size w wr)∧Hid (yL l=yL (l.drop k)))
 case atStart=>exact ⟨0,Nat.zero_le _,by omega,rfl,Below.refl _ _,rfl⟩
 case round =>
  obtain ⟨k,hk,hg,rfl,HW,A0⟩:=hrel
  by_cases hlt:k<n
  ·
   have hltz:(k:Int)<(n:Int):=by omega
   have hkl:k<l.length:=HL.out ▸ hlt
   obtain ⟨b,off,rfl,hb,hc⟩:=(HR.out.later HW.out) (by intro e; rw [e] at hkl; exact absurd hkl (Nat.not_lt_zero _))
   have c0:wr.cell? ⟨b,off+k * 5,none⟩=some (.string l[k].nm):=hc k hkl 0 _ rfl
   have c1:wr.cell? ⟨b,off+k * 5+1,none⟩=some (.string l[k].hs):=hc k hkl 1 _ rfl
   have c2:wr.cell? ⟨b,off+k * 5+2,none⟩=some (.string l[k].ml):=hc k hkl 2 _ rfl
   have c3:wr.cell? ⟨b,off+k * 5+3,none⟩=some (.bool l[k].dis):=hc k hkl 3 _ rfl
   have c4:wr.cell? ⟨b,off+k * 5+4,none⟩=some (.slice l[k].ga l[k].gs.length l[k].gc):=hc k hkl 4 _ rfl
   have hb1:=z7 HW.out (za (Below.refl wr.heap.size wr) (.cells #[.string l[k].nm,.string l[k].hs,.string l[k].ml,.bool l[k].dis,.slice l[k].ga l[k].gs.length l[k].gc] 47))
   have hfw:=HFW.out _ (List.getElem_mem hkl)
   have HC:Hid (Calls Tryz.prog 184 #[.int .i64 2,.agg #[.string l[k].nm,.string l[k].hs,.string l[k].ml,.bool l[k].dis,.slice l[k].ga l[k].gs.length l[k].gc]] (wr.alloc (.cells #[.string l[k].nm,.string l[k].hs,.string l[k].ml,.bool l[k].dis,.slice l[k].ga l[k].gs.length l[k].gc] 47)) (yi (yk 2 l[k]) (wr.alloc (.cells #[.string l[k].nm,.string l[k].hs,.string l[k].ml,.bool l[k].dis,.slice l[k].ga l[k].gs.length l[k].gc] 47)))):=vx 2 l[k] _ ((HO.out _ (List.getElem_mem hkl)).below hb1) hfw.1 hfw.2.1 hfw.2.2.1 hfw.2.2.2
   have HB1:=z8 hb1
   have hA:yL l=(if yk 2 l[k]=0 then yL (l.drop (k+1)) else yk 2 l[k]):=by
    have:=A0.out
    rw [List.drop_eq_getElem_cons hkl] at this
    exact this
   clear hc hb hb1 A0 hfw
   generalize yk 2 l[k]=x at *
   generalize l[k].nm=nm at *
   generalize l[k].hs=hs at *
   generalize l[k].ml=ml at *
   generalize l[k].dis=dis at *
   generalize l[k].ga=ga at *
   generalize l[k].gs.length=gl at *
   generalize l[k].gc=gc at *
   by_cases h0:x=0
   ·
    rw [if_pos h0] at hA
    have HA:=z8 hA
    subst h0
    clear hA
    go_wp2_with (go_at_call 184; (with_reducible refine HC.out.mono ?_); rintro e w2 ⟨rfl,hb⟩; have HB2:=z8 (z7 HB1.out hb); clear hb)
    go_roundg (n - (k+1))
    case measure=>omega
    case rel=>exact ⟨k+1,by omega,by omega,by go_num,HB2,HA⟩
   ·
    rw [if_neg h0] at hA
    have hrx:r=x:=by
     rw [HRR.out]
     unfold uF xz
     rw [hA,if_neg h0]
    clear hA
    subst hrx
    have hx1:(r != 0)=true:=by simpa using h0
    go_wp2_with (go_at_call 184; (with_reducible refine HC.out.mono ?_); rintro e w2 ⟨rfl,hb⟩; have HB2:=z8 (z7 HB1.out hb); clear hb)
    go_ret
    exact ⟨rfl,HB2.out⟩
  ·
   have hltz:¬ (k:Int)<(n:Int):=by omega
   have hA:yL l=0:=by
    have:=A0.out
    rw [List.drop_eq_nil_of_le (by have:=HL.out; omega)] at this
    exact this
   have HR2:Hid (r=xz [zA (zB (l.map (·.nm))) 9,zA (decide ((l.length:Int)≤12)) 7]):=by
    rw [HRR.out]
    unfold uF
    rw [hA]
    rfl
   clear A0 hA HRR
   go_wp2
   go_loopg [8,9,25] n (fun gg _ _ s25 w9=>∃ k:Nat,k≤n∧n - k≤gg∧s25=.int .i64 k∧Hid (Below w.heap.size w w9)∧Hid (∀ j (h:j+1<l.length),j+1<k→zv l[j].nm l[j+1].nm=true))
   case atStart=>exact ⟨0,Nat.zero_le _,by omega,rfl,HW.out,fun j _ hj=>absurd hj (by omega)⟩
   case round =>
    clear HW hlt hltz hk hg
    obtain ⟨k,hk,hg,rfl,HW,HT⟩:=hrel
    by_cases hlt:k<n
    ·
     have hltz:(k:Int)<(n:Int):=by omega
     have hkl:k<l.length:=HL.out ▸ hlt
     obtain ⟨b,off,rfl,hb,hc⟩:=(HR.out.later HW.out) (by intro e; rw [e] at hkl; exact absurd hkl (Nat.not_lt_zero _))
     have c0:wr.cell? ⟨b,off+k * 5,none⟩=some (.string l[k].nm):=hc k hkl 0 _ rfl
     have c1:wr.cell? ⟨b,off+k * 5+1,none⟩=some (.string l[k].hs):=hc k hkl 1 _ rfl
     have c2:wr.cell? ⟨b,off+k * 5+2,none⟩=some (.string l[k].ml):=hc k hkl 2 _ rfl
     have c3:wr.cell? ⟨b,off+k * 5+3,none⟩=some (.bool l[k].dis):=hc k hkl 3 _ rfl
     have c4:wr.cell? ⟨b,off+k * 5+4,none⟩=some (.slice l[k].ga l[k].gs.length l[k].gc):=hc k hkl 4 _ rfl
     have HB1:=z8 (z7 HW.out (za (Below.refl wr.heap.size wr) (.cells #[.string l[k].nm,.string l[k].hs,.string l[k].ml,.bool l[k].dis,.slice l[k].ga l[k].gs.length l[k].gc] 47)))
     by_cases hk0:k=0
     ·
      have hz0:¬ (k:Int) > 0:=by omega
      have hz0':¬ 0<(k:Int):=by omega
      have hkn:¬ 0<k:=by omega
      have hkd:decide (0<k)=false:=decide_eq_false hkn
      have HY:Hid (∀ j (h:j+1<l.length),j+1<k+1→zv l[j].nm l[j+1].nm=true):=fun j h hj=>absurd hj (by omega)
      clear hc hb HT hk0
      generalize l[k].nm=nm at *
      generalize l[k].hs=hs at *
      generalize l[k].ml=ml at *
      generalize l[k].dis=dis at *
      generalize l[k].ga=ga at *
      generalize l[k].gs.length=gl at *
      generalize l[k].gc=gc at *
      go_wp2_with fail
      have e0:(wr.alloc (.cells #[.string nm,.string hs,.string ml,.bool dis,.slice ga gl gc] 47)).cell? ⟨wr.heap.size,0,none⟩=some (.string nm):=by simp
      generalize wr.alloc (.cells #[.string nm,.string hs,.string ml,.bool dis,.slice ga gl gc] 47)=w9 at *
      go_quiet (fail)
      go_wp2
      go_roundg (n - (k+1))
      case measure=>omega
      case rel=>exact ⟨k+1,by omega,by omega,by go_num,zn HB1.out _,HY⟩
     ·
      have hkl':k - 1<l.length:=by omega
      have hz0:(k:Int) > 0:=by omega
      have hkp:0<k:=by omega
      have hkd:decide (0<k)=true:=decide_eq_true hkp
      have zk:(k:Int) - 1=((k - 1:Nat):Int):=by omega
      have hwr:IntKind.i64.wrap ((k - 1:Nat):Int)=((k - 1:Nat):Int):=IntWalk.i64_in _ (by omega)
      have z1:((k - 1:Nat):Int)<(n:Int):=by omega
      have d0:wr.cell? ⟨b,off+(k - 1) * 5,none⟩=some (.string l[k - 1].nm):=hc (k - 1) hkl' 0 _ rfl
      have d1:=(za (Below.refl wr.heap.size wr) (.cells #[.string l[k].nm,.string l[k].hs,.string l[k].ml,.bool l[k].dis,.slice l[k].ga l[k].gs.length l[k].gc] 47)).cell (p:=⟨b,off+(k - 1) * 5,none⟩) hb |>.trans d0
      have hle:=Uh l[k - 1].nm l[k].nm
      have HX:Hid (zv l[k - 1].nm l[k].nm=true→∀ j (h:j+1<l.length),j+1<k+1→zv l[j].nm l[j+1].nm=true):=fun hq j h hj=>by
       by_cases e:j=k - 1
       ·
        subst e
        have:l[k - 1+1]=l[k]:=by congr 1; omega
        rw [this]; exact hq
       ·
        exact HT.out j h (by omega)
      have HF:Hid (zv l[k - 1].nm l[k].nm=false→r=9):=fun hf=>by
       have:zB (l.map (·.nm))=false:=xJ (l.map (·.nm)) (k - 1) (by simp; omega) (by
        have:l[k - 1+1]=l[k]:=by congr 1; omega
        simp only [List.getElem_map,this]; exact hf)
       rw [HR2.out,this]; rfl
      clear HT hc
      generalize zv l[k - 1].nm l[k].nm=bb at *
      generalize l[k].nm=nm at *
      generalize l[k].hs=hs at *
      generalize l[k].ml=ml at *
      generalize l[k].dis=dis at *
      generalize l[k].ga=ga at *
      generalize l[k].gs.length=gl at *
      generalize l[k].gc=gc at *
      generalize l[k - 1].nm=y at *
      cases bb with
      | true =>
       have HY:=z8 (HX.out rfl)
       clear HX HF
       go_wp2_with fail
       have e0:(wr.alloc (.cells #[.string nm,.string hs,.string ml,.bool dis,.slice ga gl gc] 47)).cell? ⟨wr.heap.size,0,none⟩=some (.string nm):=by simp
       generalize wr.alloc (.cells #[.string nm,.string hs,.string ml,.bool dis,.slice ga gl gc] 47)=w9 at *
       go_quiet (fail)
       go_wp2
       go_roundg (n - (k+1))
       case measure=>omega
       case rel=>exact ⟨k+1,by omega,by omega,by go_num,zn HB1.out _,HY⟩
      | false =>
       have hr:r=9:=HF.out rfl
       subst hr
       clear HX HF HR2
       go_wp2_with fail
       have e0:(wr.alloc (.cells #[.string nm,.string hs,.string ml,.bool dis,.slice ga gl gc] 47)).cell? ⟨wr.heap.size,0,none⟩=some (.string nm):=by simp
       generalize wr.alloc (.cells #[.string nm,.string hs,.string ml,.bool dis,.slice ga gl gc] 47)=w9 at *
       go_quiet (fail)
       go_wp2
       go_ret
       exact ⟨rfl,zn HB1.out _⟩
    ·
     have hltz:¬ (k:Int)<(n:Int):=by omega
     have hri:zB (l.map (·.nm))=true:=xK (l.map (·.nm)) (fun j h=>by
      have h':j+1<l.length:=by simpa using h
      have:=HT.out j h' (by have:=HL.out; omega)
      simpa using this)
     have hr2:=HR2.out
     rw [hri,← HL.out] at hr2
     clear HT HR2 hri
     by_cases h12:n > 12
     ·
      have z12:(n:Int) > 12:=by omega
      have hr7:r=7:=by
       rw [hr2,decide_eq_false (show ¬ (n:Int)≤12 by omega)]; rfl
      clear hr2
      subst hr7
      go_wp2
      go_ret
      exact ⟨rfl,HW.out⟩
     ·
      have z12:¬ (n:Int) > 12:=by omega
      have hr0:r=0:=by
       rw [hr2,decide_eq_true (show (n:Int)≤12 by omega)]; rfl
      clear hr2
      subst hr0
      go_wp2
      go_ret
      exact ⟨rfl,HW.out⟩
end Go.Proofs.YthmomkjingcbiaaGreatDoor
namespace Go.Proofs.YthmomkjingcbiaaGreatDoor
open Go.RowKit Go.Maps

structure U11 where
 hs:List UInt8
 ml:List UInt8
 dis:Bool
 gs:List (List UInt8)
abbrev zW:=yB (List UInt8×Bool)
abbrev jk:=yB U11
def vt (L:zq) (S:zw) (n:List UInt8) (a:List UInt8×Bool):U11:=⟨a.1,xp L n,a.2,ud S n⟩
def zM (A:zW) (L:zq) (S:zw):jk:=A.map fun p=>(p.1,vt L S p.1 p.2)

section
variable {V:Type}
theorem extV11:∀ {a b:yB V},ye a→ye b→(∀ x,x∈a↔x∈b)→a=b
 | [],[],_,_,_=>rfl
 | [],y::s,_,_,h=>absurd ((h y).2 (by simp)) (by simp)
 | x::r,[],_,_,h=>absurd ((h x).1 (by simp)) (by simp)
 | x::r,y::s,ha,hb,h=>by
  obtain ⟨a1,a2⟩:=List.pairwise_cons.1 ha
  obtain ⟨b1,b2⟩:=List.pairwise_cons.1 hb
  have e:x=y:=by
   rcases List.mem_cons.1 ((h x).1 (by simp)) with e | hx
   ·
    exact e
   ·
    rcases List.mem_cons.1 ((h y).2 (by simp)) with e | hy
    ·
     exact e.symm
    ·
     exact absurd (b1 _ hx) (by rw [xu (a1 _ hy)]; exact Bool.noConfusion)
  subst e
  rw [extV11 a2 b2 fun z=>?_]
  constructor
  ·
   intro hz
   rcases List.mem_cons.1 ((h z).1 (by simp [hz])) with e | h'
   ·
    subst e; exact absurd (a1 _ hz) (by rw [zG]; exact Bool.noConfusion)
   ·
    exact h'
  ·
   intro hz
   rcases List.mem_cons.1 ((h z).2 (by simp [hz])) with e | h'
   ·
    subst e; exact absurd (b1 _ hz) (by rw [zG]; exact Bool.noConfusion)
   ·
    exact h'
theorem ext11 {a b:yB V} (ha:ye a) (hb:ye b) (h:∀ k,qz a k=qz b k):a=b :=
 extV11 ha hb fun x=>by rw [← yH (k:=x.1) (v:=x.2) ha,← yH (k:=x.1) (v:=x.2) hb,h]
theorem get_put11 {L:yB V} (hr:ye L) (k:List UInt8) (v:V) (x:List UInt8):qz (xA L k v) x=if x=k then some v else qz L x:=by
 refine Option.ext fun y=>?_
 rw [yH (vg hr k v),yG]
 by_cases e:x=k
 ·
  subst e
  rw [if_pos rfl]
  constructor
  ·
   rintro (h | ⟨_,h⟩)
   ·
    injection h with _ h; rw [h]
   ·
    exact absurd rfl h
  ·
   intro h; injection h with h; rw [h]; exact .inl rfl
 ·
  rw [if_neg e,yH hr]
  constructor
  ·
   rintro (h | ⟨h,_⟩)
   ·
    injection h with h; exact absurd h e
   ·
    exact h
  ·
   intro h; exact .inr ⟨h,e⟩
end

section
variable {A:zW} {L:zq} {S:zw}
theorem fd (A:zW) (L:zq) (S:zw):ze (zM A L S)=ze A:=by
 unfold zM ze; rw [List.map_map]; rfl
theorem jy (A:zW) (L:zq) (S:zw):(zM A L S).length=A.length:=List.length_map _
theorem uk (h:ye A):ye (zM A L S):=qW h (fd A L S)
theorem J9 (A:zW) (L:zq) (S:zw) (k:List UInt8):yW (zM A L S) k=yW A k:=by
 rw [Bool.eq_iff_iff,xy,xy,fd]
theorem jz (h:ye A) (k:List UInt8):qz (zM A L S) k=(qz A k).map (vt L S k):=by
 refine Option.ext fun y=>?_
 rw [yH (uk h)]
 unfold zM
 rw [List.mem_map]
 constructor
 ·
  rintro ⟨p,hp,e⟩
  injection e with e1 e2
  subst e1
  rw [(yH (k:=p.1) (v:=p.2) h).2 hp,← e2]; rfl
 ·
  intro hy
  cases hg:qz A k with
  | none=>rw [hg] at hy; cases hy
  | some a =>
   rw [hg] at hy
   injection hy with hy
   exact ⟨(k,a),(yH h).1 hg,by rw [← hy]⟩

/-! ### addresses -/
theorem V0 (L:zq) (n x:List UInt8):xp (uH L n) x=if x=n then [] else xp L x:=by
 by_cases e:x=n
 ·
  subst e; rw [if_pos rfl]; exact yY (XY L x)
 ·
  rw [if_neg e]
  cases h:xn L x with
  | false=>rw [yY h,yY (by rw [QB e]; exact h)]
  | true =>
   have h1:=ve h
   unfold xp uH
   have:∀ M:zq,((M.filter fun p=>!(p.1 == n)).find? fun p=>p.1 == x)=M.find? fun p=>p.1 == x:=by
    intro M
    induction M with
    | nil=>rfl
    | cons y r ih =>
     by_cases ey:y.1=n
     ·
      have:(y.1 == x)=false:=by simp [ey]; exact fun h=>e h.symm
      rw [List.filter_cons_of_neg (by simp [ey]),ih,List.find?_cons_of_neg (by simp [this])]
     ·
      rw [List.filter_cons_of_pos (by simp [ey])]
      by_cases ex:y.1=x
      ·
       rw [List.find?_cons_of_pos (by simp [ex]),List.find?_cons_of_pos (by simp [ex])]
      ·
       rw [List.find?_cons_of_neg (by simp [ex]),List.find?_cons_of_neg (by simp [ex]),ih]
   rw [this]
theorem XZ (hr:xC L) (n a x:List UInt8):xp (vB L n a) x=if x=n then a else xp L x:=by
 by_cases e:x=n
 ·
  subst e; rw [if_pos rfl,get_put hr]
 ·
  rw [if_neg e]
  cases h:xn L x with
  | true =>
   have h1:=ve h
   exact jf (vU hr n a) (q:=(x,xp L x)) (vd.2 (.inr ⟨h1,e⟩))
  | false =>
   rw [yY h]
   refine yY ?_
   cases h2:xn (vB L n a) x with
   | false=>rfl
   | true =>
    obtain ⟨p,hp,hx⟩:=yX.1 h2
    rcases vd.1 hp with rfl | ⟨hp,_⟩
    ·
     exact absurd hx.symm e
    ·
     rw [yX.2 ⟨p,hp,hx⟩] at h; cases h

/-! ### groups -/
theorem rel11 (hr:ye S):∃ M,qL S (ze S) M :=
 ⟨S.flatMap fun p=>p.2.map fun m=>(p.1,m.1),rfl,fun g n=>by
  rw [vX hr,List.mem_flatMap]
  constructor
  ·
   rintro ⟨p,hp,h⟩
   obtain ⟨m,hm,e⟩:=List.mem_map.1 h
   injection e with e1 e2
   exact ⟨p,hp,e1,vy.2 ⟨m,hm,e2⟩⟩
  ·
   rintro ⟨p,hp,e1,h⟩
   obtain ⟨m,hm,e2⟩:=vy.1 h
   exact ⟨p,hp,List.mem_map.2 ⟨m,hm,by rw [e1,e2]⟩⟩⟩
variable {k:Nat}
theorem in_make (hg:yz S k) {g:List UInt8} (he:qG S g=0) (x n:List UInt8):jM (jd S g) x n=jM S x n:=by
 unfold jd
 rw [if_pos he,Jq hg.rise (X4 he).2.1]
theorem in_join (hg:yz S k) {g n:List UInt8} (he:jL S g n=0) (x m:List UInt8):jM (je S g n) x m=true↔jM S x m=true∨(x=g∧m=n):=by
 obtain ⟨M,hM⟩:=rel11 hg.rise
 rw [← (hM.join hg he).mem,List.mem_append,hM.mem]
 simp

theorem ofT {S':zw} (hr:ye S) (hr':ye S') {n n':List UInt8} (h:∀ g,jM S' g n'=true↔jM S g n=true):ud S' n'=ud S n :=
 uY (jG hr' n') (jG hr n) fun g=>by rw [Z3 hr',Z3 hr,h]
theorem of_make (hg:yz S k) {g:List UInt8} (he:qG S g=0) (n:List UInt8):ud (jd S g) n=ud S n :=
 ofT hg.rise (Ur hg g).rise fun x=>by rw [in_make hg he]
end

structure ya (A:zW) (L:zq) (S:zw) (k:Nat):Prop where
 rise:ye A
 few:A.length≤12
 nm:∀ p∈A,zm p.1=true∧xo p.2.1=true
 mir:∃ M,yo L M
 all:∀ x∈L,May9 x
 has:∀ x∈L,yW A x.1=true
 lfew:L.length≤k
 grp:yz S k
 mem:∀ g n,jM S g n=true→yW A n=true
theorem ya.nil:ya [] [] [] 0:=⟨List.Pairwise.nil,by simp,(fun _ h=>nomatch h),⟨[],yo.nil⟩,(fun _ h=>nomatch h),(fun _ h=>nomatch h),Nat.le_refl _,yz.nil,fun g n h=>by simp [jM,Ua,qz,yW] at h⟩

def smF11 (a b c d:Bool):Int:=if a then (if b then (if c then (if d then 9 else 0) else 8) else 11) else 10

/-! ### of the code -/
def disA (A:zW) (n:List UInt8):Bool:=match qz A n with | some a=>a.2 | none=>false
def hasA (A:zW) (n:List UInt8):List UInt8:=match qz A n with | some a=>a.1 | none=>[]
def qH (m:List UInt8):Bool:=decide (m=[]) || yV m
def fS (A:zW) (L:zq) (n m:List UInt8):Int:=smF11 (zm n) (qH m) (yW A n) (decide (qO L n m=9))
def JJ (A:zW) (L:zq) (n m:List UInt8):zq:=if fS A L n m=0 then VA L n m else L

/-! ### of the document -/
def setU (l:jk) (n:List UInt8) (f:U11→U11):jk:=match qz l n with | some u=>xA l n (f u) | none=>l
def badU (l:jk) (n a:List UInt8):Bool:=l.any fun p=>!(a == []) && (p.2.ml == a) && !(p.1 == n)
def vN (m:List UInt8):List UInt8:=if yV m then zF m else []
def dsmE (l:jk) (n m:List UInt8):Int:=smF11 (zm n) (qH m) (yW l n) (badU l n (vN m))
def dsmL (l:jk) (n m:List UInt8):jk:=if dsmE l n m=0 then setU l n (fun u=>{ u with ml:=vN m }) else l
def dmaE11 (N:List (List UInt8)) (g:List UInt8):Int:=if zm g then (if qg N g then 9 else if 6≤N.length then 7 else 0) else 10
def dmaN11 (N:List (List UInt8)) (g:List UInt8):List (List UInt8):=if dmaE11 N g=0 then JI (N++[g]) else N

section
variable {A:zW} {L:zq} {S:zw} {k:Nat}
theorem ya.free (h:ya A L S k) {n:List UInt8} (hn:yW A n=false):xn L n=false∧xp L n=[]∧ud S n=[]:=by
 have h1:xn L n=false:=by
  cases hh:xn L n with
  | false=>rfl
  | true =>
   obtain ⟨x,hx,e⟩:=yX.1 hh
   have:=h.has x hx
   rw [e,hn] at this; cases this
 refine ⟨h1,yY h1,List.eq_nil_iff_forall_not_mem.2 fun g hg=>?_⟩
 have:=h.mem g n ((Z3 h.grp.rise).1 hg)
 rw [hn] at this; cases this
theorem ya.lrise (h:ya A L S k):xC L:=by obtain ⟨_,h⟩:=h.mir; exact h.rl
theorem J8 (h:ye A) {L':zq} {S':zw} {n:List UInt8} {f:U11→U11} (ho:∀ x,x≠n→xp L' x=xp L x∧ud S' x=ud S x) (hn:∀ a,qz A n=some a→vt L' S' n a=f (vt L S n a)):zM A L' S'=setU (zM A L S) n f:=by
 unfold setU
 rw [jz h]
 cases hh:qz A n with
 | none =>
  refine ext11 (uk h) (uk h) fun x=>?_
  show _=qz (zM A L S) x
  rw [jz h,jz h]
  by_cases e:x=n
  ·
   subst e; rw [hh]; rfl
  ·
   unfold vt; rw [(ho x e).1,(ho x e).2]
 | some a =>
  refine ext11 (uk h) (vg (uk h) n _) fun x=>?_
  show _=qz (xA (zM A L S) n (f (vt L S n a))) x
  rw [jz h,get_put11 (uk h),jz h]
  by_cases e:x=n
  ·
   subst e; rw [if_pos rfl,hh,← hn a hh]; rfl
  ·
   rw [if_neg e]; unfold vt; rw [(ho x e).1,(ho x e).2]

theorem ya.put (h:ya A L S k) {n:List UInt8} {a:List UInt8×Bool} (hn:zm n=true) (ha:xo a.1=true) (hf:(xA A n a).length≤12):ya (xA A n a) L S (k+1):=by
 have hk:∀ x,yW A x=true→yW (xA A n a) x=true:=fun x hx=>jN.2 (.inr hx)
 refine ⟨vg h.rise n a,hf,fun p hp=>?_,h.mir,h.all,fun x hx=>hk _ (h.has x hx),Nat.le_succ_of_le h.lfew,h.grp.mono (Nat.le_succ _),fun g m hm=>hk _ (h.mem g m hm)⟩
 rcases yG.1 hp with rfl | ⟨hp,_⟩
 ·
  exact ⟨hn,ha⟩
 ·
  exact h.nm p hp
theorem ya.mono (h:ya A L S k) {j:Nat} (hj:k≤j):ya A L S j:=⟨h.rise,h.few,h.nm,h.mir,h.all,h.has,Nat.le_trans h.lfew hj,h.grp.mono hj,h.mem⟩

def One11 (A':zW) (L':zq) (S':zw) (l':jk) (N':List (List UInt8)) (k:Nat):Prop:=ya A' L' S' k∧zM A' L' S'=l'∧ze S'=N'
theorem smF_zero {a b c d:Bool} (h:smF11 a b c d=0):a=true∧b=true∧c=true∧d=false:=by revert h; cases a <;> cases b <;> cases c <;> cases d <;> decide

end

section
variable {A:zW} {L:zq} {S:zw} {k:Nat}
theorem Fo {n a:List UInt8} (h:xp L n=a) (ha:a≠[]):(n,a)∈L:=by
 cases hh:xn L n with
 | true=>have:=ve hh; rwa [h] at this
 | false=>rw [yY hh] at h; exact absurd h.symm ha
theorem fold_ne {m:List UInt8} (h:yV m=true):zF m≠[]:=fun e=>by
 have:=fG m
 rw [e,h,mail5_nil] at this; cases this
theorem bad_same (hg:ya A L S k) (n:List UInt8) {a:List UInt8} (ha:a≠[]):badU (zM A L S) n a=Vm L n a:=by
 obtain ⟨M,hM⟩:=hg.mir
 rw [Bool.eq_iff_iff]
 unfold badU Vm
 simp only [List.any_eq_true,Bool.and_eq_true,Bool.not_eq_true',beq_eq_false_iff_ne,beq_iff_eq,decide_eq_true_eq]
 constructor
 ·
  rintro ⟨p,hp,⟨_,h2⟩,h3⟩
  obtain ⟨q,hq,rfl⟩:=List.mem_map.1 hp
  have h4:(q.1,a)∈L:=Fo h2 ha
  exact ⟨jK h4,by rw [hM.own h4]; exact h3⟩
 ·
  rintro ⟨h1,h2⟩
  have h3:=jO h1
  obtain ⟨p,hp,e⟩:=vy.1 (hg.has _ h3)
  refine ⟨_,List.mem_map.2 ⟨p,hp,rfl⟩,⟨ha,?_⟩,?_⟩
  ·
   show xp L p.1=a
   rw [e]; exact jf hg.lrise h3
  ·
   show ¬ p.1=n
   rw [e]; exact h2
theorem sm_same (hg:ya A L S k) (n m:List UInt8):dsmE (zM A L S) n m=fS A L n m:=by
 unfold dsmE fS
 rw [J9]
 cases h1:zm n with
 | false=>rfl
 | true =>
  by_cases hm:m=[]
  ·
   subst hm
   have:badU (zM A L S) n (vN [])=decide (qO L n []=9):=by
    have e1:vN []=[]:=rfl
    rw [e1]
    have e2:qO L n []=0:=by unfold qO; rw [if_pos h1,if_pos rfl]
    rw [e2]
    unfold badU
    rw [List.any_eq_false.2 (fun p _=>by simp)]
    rfl
   rw [this]
  ·
   cases h2:yV m with
   | false =>
    have:qH m=false:=by unfold qH; rw [h2,decide_eq_false hm]; rfl
    rw [this]; rfl
   | true =>
    have e1:vN m=zF m:=by unfold vN; rw [if_pos h2]
    rw [e1,bad_same hg n (fold_ne h2)]
    have:decide (qO L n m=9)=Vm L n (zF m):=by
     unfold qO
     rw [if_pos h1,if_neg hm,if_pos h2]
     cases Vm L n (zF m) <;> rfl
    rw [this]
theorem smE_zero {n m:List UInt8} (h:fS A L n m=0):zm n=true∧qH m=true∧yW A n=true∧qO L n m=0∧(m≠[]→Vm L n (zF m)=false∧yV m=true):=by
 obtain ⟨h1,h2,h3,h4⟩:=smF_zero h
 rw [decide_eq_false_iff_not] at h4
 refine ⟨h1,h2,h3,?_⟩
 unfold qO at h4 ⊢
 rw [if_pos h1] at h4 ⊢
 by_cases hm:m=[]
 ·
  rw [if_pos hm]; exact ⟨rfl,fun h=>absurd hm h⟩
 ·
  have h5:yV m=true:=by unfold qH at h2; rw [decide_eq_false hm,Bool.false_or] at h2; exact h2
  rw [if_neg hm,if_pos h5] at h4 ⊢
  cases hb:Vm L n (zF m) with
  | true=>rw [hb] at h4; exact absurd rfl h4
  | false=>exact ⟨rfl,fun _=>⟨rfl,h5⟩⟩
theorem sm_one (hg:ya A L S k) (n m:List UInt8):One11 A (JJ A L n m) S (dsmL (zM A L S) n m) (ze S) (k+1):=by
 unfold JJ dsmL
 rw [sm_same hg]
 by_cases e:fS A L n m=0
 case neg=>rw [if_neg e,if_neg e]; exact ⟨hg.mono (Nat.le_succ _),rfl,rfl⟩
 rw [if_pos e,if_pos e]
 obtain ⟨h1,h2,h3,h4,h5⟩:=smE_zero e
 unfold VA
 rw [if_pos h4]
 obtain ⟨M,hM⟩:=hg.mir
 have hd:∃ M,yo (uH L n) M:=by
  cases hh:xn L n with
  | true=>exact ⟨_,hM.del hh⟩
  | false=>rw [ut hh]; exact ⟨M,hM⟩
 by_cases hm:m=[]
 ·
  subst hm
  rw [if_pos rfl]
  refine ⟨⟨hg.rise,hg.few,hg.nm,hd,fun x hx=>hg.all x (xO.1 hx).1,fun x hx=>hg.has x (xO.1 hx).1,Nat.le_succ_of_le (Nat.le_trans (List.length_filter_le _ _) hg.lfew),hg.grp.mono (Nat.le_succ _),hg.mem⟩,?_,rfl⟩
  refine J8 hg.rise (fun x hx=>⟨by rw [V0,if_neg hx],rfl⟩) (fun a _=>?_)
  show vt (uH L n) S n a={ vt L S n a with ml:=[] }
  unfold vt
  rw [V0,if_pos rfl]
 ·
  rw [if_neg hm]
  obtain ⟨h6,h7⟩:=h5 hm
  have hput:∃ M,yo (vB L n (zF m)) M:=by
   obtain ⟨M',hM'⟩:=hd
   rw [← put_del hg.lrise]
   exact ⟨_,hM'.put (XY L n) (free9 hM h6)⟩
  refine ⟨⟨hg.rise,hg.few,hg.nm,hput,fun x hx=>?_,fun x hx=>?_,?_,hg.grp.mono (Nat.le_succ _),hg.mem⟩,?_,rfl⟩
  ·
   rcases vd.1 hx with rfl | ⟨hx,_⟩
   ·
    exact May9.of h1 h7
   ·
    exact hg.all x hx
  ·
   rcases vd.1 hx with rfl | ⟨hx,_⟩
   ·
    exact h3
   ·
    exact hg.has x hx
  ·
   rw [qq hg.lrise]
   have:=hg.lfew
   split <;> omega
  ·
   refine J8 hg.rise (fun x hx=>⟨by rw [XZ hg.lrise,if_neg hx],rfl⟩) (fun a _=>?_)
   show vt (vB L n (zF m)) S n a={ vt L S n a with ml:=vN m }
   unfold vt vN
   rw [XZ hg.lrise,if_pos rfl,if_pos h7]


theorem tell_same {S':zw} (h:∀ n,ud S' n=ud S n):zM A L S'=zM A L S:=by
 unfold zM vt
 exact List.map_congr_left fun p _=>by rw [h]
theorem ma_same (g:List UInt8):dmaE11 (ze S) g=qG S g:=by
 obtain h:qg (ze S) g=yW S g:=by rw [Bool.eq_iff_iff,qy,xy]
 unfold dmaE11 qG
 rw [h,yJ]
theorem ma_one (hg:ya A L S k) (g:List UInt8):One11 A L (jd S g) (zM A L S) (dmaN11 (ze S) g) (k+1):=by
 by_cases e:qG S g=0
 case neg =>
  unfold dmaN11 jd
  rw [ma_same,if_neg e,if_neg e]; exact ⟨hg.mono (Nat.le_succ _),rfl,rfl⟩
 refine ⟨⟨hg.rise,hg.few,hg.nm,hg.mir,hg.all,hg.has,Nat.le_succ_of_le hg.lfew,(Ur hg.grp g).mono (Nat.le_succ _),fun x n h=>?_⟩,tell_same (of_make hg.grp e),?_⟩
 ·
  rw [in_make hg.grp e] at h; exact hg.mem x n h
 ·
  obtain ⟨M,hM⟩:=rel11 hg.grp.rise
  have:=(hM.make hg.grp e).names
  unfold dmaN11
  rw [ma_same,if_pos e,this]
end
end Go.Proofs.YthmomkjingcbiaaGreatDoor
namespace Go.Proofs.YthmomkjingcbiaaGreatDoor
open Go.RowKit Go.Maps
set_option linter.unusedSectionVars false

/-! ### accounts -/
def ea11:List UInt8×Bool→DataW Unit:=fun a=>.agg [.lit (.string a.1),.lit (.bool a.2)]
def rdA11:List Value→Option (DataW Unit×List MemPlace)
 | [.string s,.bool b]=>some (.agg [.lit (.string s.data.toList),.lit (.bool b)],[])
 | _=>none
def RA11:Value→Option (DataW Unit×List MemPlace)
 | .agg c=>rdA11 c.toList
 | _=>none
theorem ra11_inv {v:Value} {z:DataW Unit×List MemPlace} (h:RA11 v=some z):∃ s b,v=.agg #[.string s,.bool b]∧z=(ea11 (s.data.toList,b),[]):=by
 unfold RA11 at h
 split at h
 ·
  rename_i c
  unfold rdA11 at h
  split at h
  ·
   rename_i s b hc
   injection h with h
   refine ⟨s,b,?_,h.symm⟩
   have:c=[Value.string s,Value.bool b].toArray:=by rw [← hc]
   rw [this]
  ·
   cases h
 ·
  cases h
theorem ra11_at (s:ByteArray) (b:Bool):RA11 (.agg #[.string s,.bool b])=some (ea11 (s.data.toList,b),[]):=rfl
def yC (w:World) (P:Nat) (A:zW):Prop:=w.ownsMap Tryz.prog 9 RA11 P A.length (vY ea11 A)
theorem yC.of {w:World} {P n:Nat} {A:zW} (h:w.ownsMap Tryz.prog 9 RA11 P n (vY ea11 A)):yC w P A:=by
 have:=vL h
 rwa [uu] at this
theorem yC.kept {w w':World} {P:Nat} {A:zW} (h:yC w P A) (hb:w'.heap[P]? = w.heap[P]?):yC w' P A:=by
 obtain ⟨es,clock,h1,r⟩:=h
 exact ⟨es,clock,hb.trans h1,r⟩
theorem yC.lt {w:World} {P:Nat} {A:zW} (h:yC w P A):P<w.heap.size:=World.ownsMap.lt h
theorem FV (w:World):(zeroValue 147).run Tryz.prog w=.ok (.agg #[.string ⟨#[]⟩,.bool false]) w:=by kernel_rfl
theorem at_acc11 (A:zW) (k:List UInt8):(vY ea11 A).atKey (.string k) (ea11 ([],false))=ea11 (hasA A k,disA A k):=by
 unfold hasA disA
 cases h:qz A k with
 | none=>rw [Vg _ h]
 | some v=>rw [Z5 _ h]
theorem J1 (w:World):yC (w.alloc (.map #[] 0)) w.heap.size [] :=
 yC.of (n:=0) (World.ownsMap_made (H:=Unit) w Tryz.prog 9 RA11)
def av11 (A:zW) (k:List UInt8):Value:=.agg #[.string (yT (hasA A k)),.bool (disA A k)]
section
variable {w:World} {P:Nat} {A:zW}
theorem acc11_v {s:ByteArray} {v:Value} {ps:List MemPlace} (hv:RA11 v=some ((vY ea11 A).atKey (.string s.data.toList) (ea11 ([],false)),ps)):v=av11 A s.data.toList:=by
 obtain ⟨c,b,rfl,hc⟩:=ra11_inv hv
 rw [at_acc11] at hc
 injection hc with hc _
 unfold ea11 at hc
 injection hc with hc
 injection hc with h1 h2
 injection h1 with h1
 injection h1 with h1
 injection h2 with h2 _
 injection h2 with h2
 injection h2 with h2
 have h1':hasA A s.data.toList=c.data.toList:=h1
 have h2':disA A s.data.toList=b:=h2
 unfold av11
 rw [h1',h2',uU]
theorem lookA111 (h:yC w P A) (s:ByteArray) (hs:s.size≤maxLen) :
  (Instr.lookup 102 (.map (some P)) (.string s) false).run Tryz.prog w=.ok (av11 A s.data.toList) w:=by
 obtain ⟨v,ps,hrun,hv⟩:=World.ownsMap.lookup h ue Tryz.underlying102 (FV w) (ra11_at ⟨#[]⟩ false) (Ui s hs)
 rw [hrun,acc11_v hv]
theorem storeA11 (h:yC w P A) (hf:A.length≤1000) (s v:ByteArray) (b:Bool) (hs:s.size≤maxLen) :
  ∃ w',(Instr.mapUpdate 102 (.map (some P)) (.string s) (.agg #[.string v,.bool b])).run Tryz.prog w=.ok () w'∧yC w' P (xA A s.data.toList (v.data.toList,b))∧w.mapTurned w' P:=by
 obtain ⟨w',hrun,hown,ht⟩:=World.ownsMap.store h ue Tryz.underlying102 (Nat.lt_of_le_of_lt hf (by decide)) (Ui s hs) (ra11_at v b)
 rw [V9] at hown
 exact ⟨w',hrun,yC.of hown,ht⟩
theorem dropA11 (h:yC w P A) (s:ByteArray) (hs:s.size≤maxLen) (ty:TypeId) :
  ∃ w',(Builtin.delete_ #[102,9] ty #[.map (some P),.string s]).run Tryz.prog w=.ok (.tuple #[]) w'∧yC w' P (V8 A s.data.toList)∧w.mapTurned w' P:=by
 obtain ⟨w',hrun,hown,ht⟩:=World.ownsMap.drop h ue Tryz.underlying102 (Ui s hs) ty
 rw [datV_del] at hown
 exact ⟨w',hrun,yC.of hown,ht⟩
end

/-! ### the directory -/
def qI (M:Nat) (p q:Option Nat) (i:Nat):Prop:=i=M∨p=some i∨q=some i
def qJ (G:Nat) (pg:Option Nat) (T:zU) (i:Nat):Prop:=i=G∨pg=some i∨∃ x∈T,x.2.1=i
structure uJ (w:World) (D P:Nat) (A:zW) (M:Nat) (p q:Option Nat) (L LM:zq) (G:Nat) (pg:Option Nat) (T:zU):Prop where
 blk:w.heap[D]? = some (.cells #[.map (some P),.pointer (some ⟨M,0,none⟩),.pointer (some ⟨G,0,none⟩)] 108 (0,0))
 acc:yC w P A
 idx:vE w M p q L LM
 grp:yh w G pg T
 sep1:∀ i,qI M p q i→i≠P
 sep2:∀ i,qJ G pg T i→i≠P
 sep3:∀ i,qI M p q i→qJ G pg T i→False

def yq (W w':World):Prop:=∀ (k:Nat) (c:Array Value) (T:TypeId) (fr:Nat×Nat),W.heap[k]? = some (.cells c T fr)→T≠108→T≠164→T≠167→w'.heap[k]? = some (.cells c T fr)
theorem yq.of_below {W w':World} (hb:Below W.heap.size W w'):yq W w':=fun k _ _ _ h _ _ _=>(hb.block k (Array.getElem?_eq_some_iff.1 h).1).trans h
theorem yq.trans {a b c:World} (h:yq a b) (k:yq b c):yq a c:=fun i x T fr hi h1 h2 h3=>k i x T fr (h i x T fr hi h1 h2 h3) h1 h2 h3
theorem yq.refl (w:World):yq w w:=fun _ _ _ _ h _ _ _=>h

section
variable {w w':World} {D P M G:Nat} {A A':zW} {p q pg:Option Nat} {L LM L':zq} {T:zU}
theorem uJ.lt (h:uJ w D P A M p q L LM G pg T):D<w.heap.size:=(Array.getElem?_eq_some_iff.1 h.blk).1
theorem fq {b c:Nat} {x y:Array Value} {X Y:TypeId} {f g:Nat×Nat} (hb:w.heap[b]? = some (.cells x X f)) (hc:w.heap[c]? = some (.cells y Y g)) (hne:X≠Y):b≠c:=fun e=>by
 subst e; rw [hb] at hc; injection hc with hc; injection hc with _ h; exact hne h
theorem Vh {c:Array Value} {X:TypeId} {fr:Nat×Nat} {B:Nat} (h:yC w P A) (hB:w.heap[B]? = some (.cells c X fr)):P≠B:=yu h hB
theorem ZO (h:vE w M p q L LM) {B:Nat} {c:Array Value} {X:TypeId} {fr:Nat×Nat} (hB:w.heap[B]? = some (.cells c X fr)) (hX:X≠164):¬ qI M p q B:=by
 rintro (e | e | e)
 ·
  exact fq hB h.blk hX e
 ·
  exact vW (h.mapp.map B e) hB rfl
 ·
  exact vW (h.mapq.map B e) hB rfl
theorem ZP (h:yh w G pg T) {B:Nat} {c:Array Value} {X:TypeId} {fr:Nat×Nat} (hB:w.heap[B]? = some (.cells c X fr)) (hX:X≠167):¬ qJ G pg T B:=by
 rintro (e | e | ⟨x,hx,e⟩)
 ·
  exact fq hB h.blk hX e
 ·
  exact yu (h.map B e) hB rfl
 ·
  subst e; exact yu (h.sets x hx) hB rfl
theorem fpM_lt (h:vE w M p q L LM) {i:Nat} (hi:qI M p q i):i<w.heap.size:=by
 rcases hi with rfl | e | e
 ·
  exact h.lt
 ·
  exact h.plt i e
 ·
  exact h.qlt i e
theorem fpG_lt (h:yh w G pg T) {i:Nat} (hi:qJ G pg T i):i<w.heap.size:=by
 rcases hi with rfl | e | ⟨x,hx,rfl⟩
 ·
  exact h.lt
 ·
  exact h.mlt i e
 ·
  exact h.slt x hx
theorem vE.turnsF {F:Nat→Prop} (h:vE w M p q L LM) (ht:zb F w w') (hn:∀ i,qI M p q i→¬ F i):vE w' M p q L LM :=
 h.turns ht (hn M (.inl rfl)) (fun b e=>hn b (.inr (.inl e))) (fun b e=>hn b (.inr (.inr e)))
theorem yh.turnsF {F:Nat→Prop} (h:yh w G pg T) (ht:zb F w w') (hn:∀ i,qJ G pg T i→¬ F i):yh w' G pg T :=
 h.turns ht (hn G (.inl rfl)) (fun b e=>hn b (.inr (.inl e))) (fun x hx=>hn _ (.inr (.inr ⟨x,hx,rfl⟩)))
theorem uJ.later (h:uJ w D P A M p q L LM G pg T) (hb:Below w.heap.size w w'):uJ w' D P A M p q L LM G pg T :=
 ⟨(hb.block D h.lt).trans h.blk,h.acc.kept (hb.block P h.acc.lt),h.idx.later hb,h.grp.later hb,h.sep1,h.sep2,h.sep3⟩
theorem uJ.accs (h:uJ w D P A M p q L LM G pg T) (ha:yC w' P A') (ht:zb (fun i=>i=P) w w'):uJ w' D P A' M p q L LM G pg T :=
 ⟨(ht.block D h.lt (fun e=>Vh h.acc h.blk e.symm)).trans h.blk,ha,h.idx.turnsF ht h.sep1,h.grp.turnsF ht h.sep2,h.sep1,h.sep2,h.sep3⟩
theorem Fj (h:uJ w D P A M p q L LM G pg T) (ht:zb (fun i=>i=P) w w'):yq w w':=fun k _ _ _ hk _ _ _ =>
 (ht.block k (Array.getElem?_eq_some_iff.1 hk).1 (fun e=>Vh h.acc hk e.symm)).trans hk
theorem uJ.mails (h:uJ w D P A M p q L LM G pg T) (hg:uy w M p q L' w'):∃ p' q' LM',uJ w' D P A M p' q' L' LM' G pg T∧∀ i,qI M p' q' i→qI M p q i∨w.heap.size≤i:=by
 obtain ⟨p',q',M',hi,hp,hq,ht⟩:=hg
 have hf:∀ i,qI M p' q' i→qI M p q i∨w.heap.size≤i:=by
  rintro i (rfl | e | e)
  ·
   exact .inl (.inl rfl)
  ·
   exact (hp i e).imp (fun h=>.inr (.inl h)) id
  ·
   exact (hq i e).imp (fun h=>.inr (.inr h)) id
 have ht':zb (qI M p q) w w':=ht
 refine ⟨p',q',M',⟨(ht'.block D h.lt (ZO h.idx h.blk (by decide))).trans h.blk,h.acc.kept (ht'.block P h.acc.lt (fun f=>h.sep1 P f rfl)),hi,h.grp.turnsF ht' (fun i g f=>h.sep3 i f g),fun i f=>?_,h.sep2,fun i f g=>?_⟩,hf⟩
 ·
  rcases hf i f with f | f
  ·
   exact h.sep1 i f
  ·
   have:=h.acc.lt; omega
 ·
  rcases hf i f with f | f
  ·
   exact h.sep3 i f g
  ·
   have:=fpG_lt h.grp g; omega
theorem Qv (h:uJ w D P A M p q L LM G pg T) (hg:uy w M p q L' w'):yq w w':=by
 obtain ⟨_,_,_,_,_,_,ht⟩:=hg
 exact fun k c X fr hk _ h2 _=>(zb.block ht k (Array.getElem?_eq_some_iff.1 hk).1 (ZO h.idx hk h2)).trans hk
theorem uJ.grps (h:uJ w D P A M p q L LM G pg T) {S':zw} (hg:yO w G pg T S' w'):∃ pg' T',uJ w' D P A M p q L LM G pg' T'∧zC T'=S'∧∀ i,qJ G pg' T' i→qJ G pg T i∨w.heap.size≤i:=by
 obtain ⟨p',T',hi,hS,hp,hx,ht⟩:=hg
 have hf:∀ i,qJ G p' T' i→qJ G pg T i∨w.heap.size≤i:=by
  rintro i (rfl | e | ⟨x,hxx,rfl⟩)
  ·
   exact .inl (.inl rfl)
  ·
   exact (hp i e).imp (fun h=>.inr (.inl h)) id
  ·
   rcases hx x hxx with ⟨y,hy,e⟩ | h
   ·
    exact .inl (.inr (.inr ⟨y,hy,e⟩))
   ·
    exact .inr h
 have ht':zb (qJ G pg T) w w':=ht
 refine ⟨p',T',⟨(ht'.block D h.lt (ZP h.grp h.blk (by decide))).trans h.blk,h.acc.kept (ht'.block P h.acc.lt (fun f=>h.sep2 P f rfl)),h.idx.turnsF ht' (fun i f g=>h.sep3 i f g),hi,h.sep1,fun i f=>?_,fun i f g=>?_⟩,hS,hf⟩
 ·
  rcases hf i f with f | f
  ·
   exact h.sep2 i f
  ·
   have:=h.acc.lt; omega
 ·
  rcases hf i g with g | g
  ·
   exact h.sep3 i f g
  ·
   have:=fpM_lt h.idx f; omega
theorem Fi (h:uJ w D P A M p q L LM G pg T) {S':zw} (hg:yO w G pg T S' w'):yq w w':=by
 obtain ⟨_,_,_,_,_,_,ht⟩:=hg
 exact fun k c X fr hk _ _ h3=>(zb.block ht k (Array.getElem?_eq_some_iff.1 hk).1 (ZP h.grp hk h3)).trans hk
end

class Fr11 where
 F:Nat→Prop
 ob:Nat→Option Obj
 n:Nat
 lt:∀ i,F i→i<n
 ty:∀ i c T fr,F i→ob i=some (.cells c T fr)→T=108∨T=164∨T=167
instance noFr11:Fr11:=⟨fun _=>False,fun _=>none,0,fun _ h=>h.elim,fun _ _ _ _ h=>h.elim⟩
def Lo11 [Fr11] (w0:World) (i:Nat):Prop:=w0.heap.size≤i∧¬ Fr11.F i
def Fk11 [Fr11] (W:World):Prop:=Fr11.n≤W.heap.size∧∀ i,Fr11.F i→W.heap[i]? = Fr11.ob i
def YA [Fr11] (w0 W:World):Prop:=Below w0.heap.size w0 W∧Fk11 W
section
variable [Fr11] {w0 W W':World}
theorem Fk11.later (h:Fk11 W) (hb:Below W.heap.size W W'):Fk11 W':=⟨Nat.le_trans h.1 hb.size,fun i hi=>(hb.block i (Nat.lt_of_lt_of_le (Fr11.lt i hi) h.1)).trans (h.2 i hi)⟩
theorem Fk11.turn {S:Nat→Prop} (h:Fk11 W) (ht:zb S W W') (hs:∀ i,S i→¬ Fr11.F i):Fk11 W':=⟨Nat.le_trans h.1 ht.size,fun i hi=>(ht.block i (Nat.lt_of_lt_of_le (Fr11.lt i hi) h.1) (fun e=>hs i e hi)).trans (h.2 i hi)⟩
theorem Fk11.not (h:Fk11 W) {i:Nat} {c:Array Value} {T:TypeId} {fr:Nat×Nat} (hi:W.heap[i]? = some (.cells c T fr)) (h1:T≠108) (h2:T≠164) (h3:T≠167):¬ Fr11.F i:=fun f=>by
 rcases Fr11.ty i c T fr f ((h.2 i f).symm.trans hi) with h | h | h
 ·
  exact h1 h
 ·
  exact h2 h
 ·
  exact h3 h
theorem YA.later (h:YA w0 W) (hb:Below W.heap.size W W'):YA w0 W':=⟨z7 h.1 hb,h.2.later hb⟩
theorem YA.turn {S:Nat→Prop} (h:YA w0 W) (ht:zb S W W') (hs:∀ i,S i→Lo11 w0 i):YA w0 W':=⟨h.1.trans (zb.below_at ht h.1.size (fun i e=>(hs i e).1)),h.2.turn ht (fun i e=>(hs i e).2)⟩
theorem YA.new (h:YA w0 W) {i:Nat} (hi:W.heap.size≤i):Lo11 w0 i:=⟨Nat.le_trans h.1.size hi,fun f=>by have:=Fr11.lt i f; have:=h.2.1; omega⟩
end

def zH [Fr11] (w0 W:World) (D P M G:Nat) (A:zW) (L:zq) (S:zw):Prop :=
 ∃ p q LM pg T,uJ W D P A M p q L LM G pg T∧zC T=S∧(∀ i,i=D∨i=P∨qI M p q i∨qJ G pg T i→Lo11 w0 i)∧YA w0 W
def yR [Fr11] (w0 W:World) (D P M G:Nat) (A:zW) (L:zq) (S:zw) (w':World):Prop:=zH w0 w' D P M G A L S∧yq W w'
section
variable [Fr11] {w0 W W':World} {D P M G:Nat} {A A':zW} {L L':zq} {S S':zw}
theorem zH.bel (h:zH w0 W D P M G A L S):YA w0 W:=by obtain ⟨_,_,_,_,_,_,_,_,h⟩:=h; exact h
theorem zH.below (h:zH w0 W D P M G A L S):Below w0.heap.size w0 W:=h.bel.1
theorem zH.later (h:zH w0 W D P M G A L S) (hb:Below W.heap.size W W'):zH w0 W' D P M G A L S:=by
 obtain ⟨p,q,LM,pg,T,hd,hS,h2,h3⟩:=h
 exact ⟨p,q,LM,pg,T,hd.later hb,hS,h2,h3.later hb⟩
theorem zH.still (h:zH w0 W D P M G A L S) (hb:Below W.heap.size W W'):yR w0 W D P M G A L S W':=⟨h.later hb,yq.of_below hb⟩
theorem yR.ahead {W1:World} (hb:Below W.heap.size W W1) (h:yR w0 W1 D P M G A L S W'):yR w0 W D P M G A L S W':=⟨h.1,(yq.of_below hb).trans h.2⟩
theorem yR.next {W1:World} {A1:zW} {L1:zq} {S1:zw} (h1:yR w0 W D P M G A1 L1 S1 W1) (h:yR w0 W1 D P M G A L S W'):yR w0 W D P M G A L S W':=⟨h.1,h1.2.trans h.2⟩
theorem zH.c0 (h:zH w0 W D P M G A L S):W.cell? ⟨D,0,none⟩=some (.map (some P)):=by
 obtain ⟨p,q,LM,pg,T,hd,_⟩:=h
 simp [World.cell?,hd.blk]
theorem zH.c1 (h:zH w0 W D P M G A L S):W.cell? ⟨D,1,none⟩=some (.pointer (some ⟨M,0,none⟩)):=by
 obtain ⟨p,q,LM,pg,T,hd,_⟩:=h
 simp [World.cell?,hd.blk]
theorem zH.c2 (h:zH w0 W D P M G A L S):W.cell? ⟨D,2,none⟩=some (.pointer (some ⟨G,0,none⟩)):=by
 obtain ⟨p,q,LM,pg,T,hd,_⟩:=h
 simp [World.cell?,hd.blk]
theorem zH.look1 (h:zH w0 W D P M G A L S) (s:ByteArray) (hs:s.size≤9223372036854775807) :
  (Instr.lookup 102 (.map (some P)) (.string s) false).run Tryz.prog W=.ok (av11 A s.data.toList) W:=by
 obtain ⟨p,q,LM,pg,T,hd,_⟩:=h
 exact lookA111 hd.acc s (Nat.le_trans hs (by decide))
theorem zH.accs (h:zH w0 W D P M G A L S) (ha:yC W' P A') (ht:W.mapTurned W' P):yR w0 W D P M G A' L S W':=by
 obtain ⟨p,q,LM,pg,T,hd,hS,h2,h3⟩:=h
 have ht':zb (fun i=>i=P) W W':=(zb.refl _ W).grown ht.grown (fun k hk _=>by cases hk; rfl)
 exact ⟨⟨p,q,LM,pg,T,hd.accs ha ht',hS,h2,h3.turn ht' (fun i e=>h2 i (.inr (.inl e)))⟩,Fj hd ht'⟩
theorem zH.store (h:zH w0 W D P M G A L S) (hf:A.length≤1000) (s v:ByteArray) (b:Bool) (hs:s.size≤9223372036854775807) :
  ∃ w',(Instr.mapUpdate 102 (.map (some P)) (.string s) (.agg #[.string v,.bool b])).run Tryz.prog W=.ok () w'∧yR w0 W D P M G (xA A s.data.toList (v.data.toList,b)) L S w':=by
 have h':=h
 obtain ⟨p,q,LM,pg,T,hd,_⟩:=h'
 obtain ⟨w',hrun,ha,ht⟩:=storeA11 hd.acc hf s v b (Nat.le_trans hs (by decide))
 exact ⟨w',hrun,h.accs ha ht⟩
theorem zH.drop (h:zH w0 W D P M G A L S) (s:ByteArray) (hs:s.size≤9223372036854775807) (ty:TypeId) :
  ∃ w',(Builtin.delete_ #[102,9] ty #[.map (some P),.string s]).run Tryz.prog W=.ok (.tuple #[]) w'∧yR w0 W D P M G (V8 A s.data.toList) L S w':=by
 have h':=h
 obtain ⟨p,q,LM,pg,T,hd,_⟩:=h'
 obtain ⟨w',hrun,ha,ht⟩:=dropA11 hd.acc s (Nat.le_trans hs (by decide)) ty
 exact ⟨w',hrun,h.accs ha ht⟩
/-! ### of the addresses -/
theorem zH.mset (h:zH w0 W D P M G A L S) (n m:ByteArray) (hn:n.size≤9223372036854775807) (hm:m.size≤9223372036854775807) (hl:L.length<100) (h5:vm W) :
  Calls Tryz.prog 221 #[.pointer (some ⟨M,0,none⟩),.string n,.string m] W fun e w'=>e=.returned (.int .i64 (qO L n.data.toList m.data.toList))∧yR w0 W D P M G A (VA L n.data.toList m.data.toList) S w':=by
 obtain ⟨p,q,LM,pg,T,hd,hS,h2,h3⟩:=h
 refine (JL M p q L LM n m W hd.idx hn hm hl h5).mono fun e w' ⟨he,hg⟩=>⟨he,?_,Qv hd hg⟩
 obtain ⟨p',q',LM',hd',hf⟩:=hd.mails hg
 obtain ⟨_,_,_,_,_,_,ht⟩:=hg
 refine ⟨p',q',LM',pg,T,hd',hS,fun i hi=>?_,h3.turn ht (fun i e=>h2 i (.inr (.inr (.inl e))))⟩
 rcases hi with e | e | e | e
 ·
  exact h2 i (.inl e)
 ·
  exact h2 i (.inr (.inl e))
 ·
  rcases hf i e with e | e
  ·
   exact h2 i (.inr (.inr (.inl e)))
  ·
   exact h3.new e
 ·
  exact h2 i (.inr (.inr (.inr e)))
theorem zH.mof (h:zH w0 W D P M G A L S) (n:ByteArray) (hn:n.size≤9223372036854775807) :
  Calls Tryz.prog 131 #[.pointer (some ⟨M,0,none⟩),.string n] W fun e w'=>e=.returned (.tuple #[.string (tx7 (xp L n.data.toList)),.bool (xn L n.data.toList)])∧w'=W:=by
 obtain ⟨p,q,LM,pg,T,hd,_⟩:=h
 exact of9_calls M p q L LM n W hd.idx (Nat.le_trans hn (by decide))
/-! ### of the groups -/
theorem zH.goesG (h:zH w0 W D P M G A L S) {p q:Option Nat} {LM:zq} {pg:Option Nat} {T:zU} (hd:uJ W D P A M p q L LM G pg T) (h2:∀ i,i=D∨i=P∨qI M p q i∨qJ G pg T i→Lo11 w0 i) (hg:yO W G pg T S' W'):yR w0 W D P M G A L S' W':=by
 have h3:=h.bel
 refine ⟨?_,Fi hd hg⟩
 obtain ⟨pg',T',hd',hS,hf⟩:=hd.grps hg
 obtain ⟨_,_,_,_,_,_,ht⟩:=hg
 refine ⟨p,q,LM,pg',T',hd',hS,fun i hi=>?_,h3.turn ht (fun i e=>h2 i (.inr (.inr (.inr e))))⟩
 rcases hi with e | e | e | e
 ·
  exact h2 i (.inl e)
 ·
  exact h2 i (.inr (.inl e))
 ·
  exact h2 i (.inr (.inr (.inl e)))
 ·
  rcases hf i e with e | e
  ·
   exact h2 i (.inr (.inr (.inr e)))
  ·
   exact h3.new e
theorem few11 {T:zU} {k:Nat} (hg:yz (zC T) k):T.length≤6:=by have:=hg.few; rwa [Zy] at this
theorem little11 {T:zU} {k:Nat} (hg:yz (zC T) k) (hk:k≤900):∀ x∈T,x.2.2.length≤1000:=fun x hx=>by
 have:=hg.little (x.1,x.2.2) (List.mem_map.2 ⟨x,hx,rfl⟩)
 exact Nat.le_trans this (by omega)
variable {k:Nat}
theorem zH.gmake (h:zH w0 W D P M G A L S) (hk:yz S k) (g:ByteArray) (hg:g.size≤9223372036854775807) :
  Calls Tryz.prog 114 #[.pointer (some ⟨G,0,none⟩),.string g] W fun e w'=>e=.returned (.int .i64 (qG S g.data.toList))∧yR w0 W D P M G A L (jd S g.data.toList) w':=by
 have h':=h
 obtain ⟨p,q,LM,pg,T,hd,rfl,h2,h3⟩:=h'
 exact (Uf G pg T g W hd.grp (few11 hk) hg).mono fun e w' ⟨he,hgo⟩=>⟨he,h.goesG hd h2 hgo⟩
theorem zH.gjoin (h:zH w0 W D P M G A L S) (hk:yz S k) (h9:k≤900) (g n:ByteArray) (hg:g.size≤9223372036854775807) (hn:n.size≤9223372036854775807) :
  Calls Tryz.prog 162 #[.pointer (some ⟨G,0,none⟩),.string g,.string n] W fun e w'=>e=.returned (.int .i64 (jL S g.data.toList n.data.toList))∧yR w0 W D P M G A L (je S g.data.toList n.data.toList) w':=by
 have h':=h
 obtain ⟨p,q,LM,pg,T,hd,rfl,h2,h3⟩:=h'
 exact (Uj G pg T g n W hd.grp (little11 hk h9) hg hn).mono fun e w' ⟨he,hgo⟩=>⟨he,h.goesG hd h2 hgo⟩
theorem zH.gof (h:zH w0 W D P M G A L S) (hk:yz S k) (n:ByteArray) (hn:n.size≤9223372036854775807) :
  Calls Tryz.prog 132 #[.pointer (some ⟨G,0,none⟩),.string n] W (yn (ud S n.data.toList) W):=by
 obtain ⟨p,q,LM,pg,T,hd,rfl,h2,h3⟩:=h
 have hf:=few11 hk
 exact Fa G pg T n W hd.grp (by omega) hn
theorem zH.gall (h:zH w0 W D P M G A L S) (hk:yz S k):Calls Tryz.prog 123 #[.pointer (some ⟨G,0,none⟩)] W (yn (ze S) W):=by
 obtain ⟨p,q,LM,pg,T,hd,rfl,h2,h3⟩:=h
 have hf:=few11 hk
 exact QZ G pg T W hd.grp (by omega)
end
end Go.Proofs.YthmomkjingcbiaaGreatDoor
namespace Go.Proofs.YthmomkjingcbiaaGreatDoor
open Go.RowKit Go.Maps
set_option linter.unusedSectionVars false

set_option maxRecDepth 100000 in
theorem V3 (B n cap:Nat) (es:List Int) (w:World) (hl:n=es.length) (hn:n≤1000) (hc:∀ j (h:j<es.length),w.cell? ⟨B,j,none⟩=some (.int .i64 es[j])) :
  Calls Tryz.prog 51 #[.slice (some ⟨B,0,none⟩) n cap] w fun e w'=>e=.returned (.int .i64 (zD es))∧w'=w:=by
 have HC:=z8 hc
 have HL:=z8 hl
 clear hc hl
 generalize hr:zD es=r
 have HR:=z8 hr
 clear hr
 go_enter Tryz.func51,Tryz.ntmps51
 go_wp2
 go_loopg [4,7] n (fun gg _ s7 wr=>∃ k:Nat,k≤n∧n - k≤gg∧s7=.int .i64 k∧wr=w∧Hid (zD (es.drop k)=r))
 case atStart=>exact ⟨0,Nat.zero_le _,by omega,rfl,rfl,HR⟩
 case round =>
  obtain ⟨k,hk,hg,rfl,rfl,A⟩:=hrel
  by_cases hlt:k<n
  ·
   have hltz:(k:Int)<(n:Int):=by omega
   have hkl:k<es.length:=HL.out ▸ hlt
   have hcell:=HC.out k hkl
   have hA:(if es[k]=0 then zD (es.drop (k+1)) else es[k])=r:=by
    have:=A.out
    rw [List.drop_eq_getElem_cons hkl] at this
    exact this
   generalize es[k]=x at *
   by_cases h0:x=0
   ·
    rw [if_pos h0] at hA
    have HA:=z8 hA
    clear hA A
    subst h0
    go_wp2
    go_roundg (n - (k+1))
    case measure=>omega
    case rel=>exact ⟨k+1,by omega,by omega,by go_num,rfl,HA⟩
   ·
    rw [if_neg h0] at hA
    subst hA
    clear A
    go_wp2
    go_ret
    exact ⟨rfl,rfl⟩
  ·
   have hltz:¬ (k:Int)<(n:Int):=by omega
   have hA:(0:Int)=r:=by
    have:=A.out
    rw [List.drop_eq_nil_of_le (by have:=HL.out; omega)] at this
    exact this
   subst hA
   clear A
   go_wp2
   go_ret
   exact ⟨rfl,rfl⟩

set_option maxRecDepth 100000 in
theorem Yf (b:Bool) (n:Int) (w:World):Calls Tryz.prog 129 #[.bool b,.int .i64 n] w fun e w'=>e=.returned (.int .i64 (zA b n))∧w'=w:=by
 cases b with
 | true =>
  show Calls _ _ _ _ fun e w'=>e=.returned (.int .i64 0)∧w'=w
  go_enter Tryz.func129,Tryz.ntmps129
  go_wp2
  go_ret
  exact ⟨rfl,rfl⟩
 | false =>
  show Calls _ _ _ _ fun e w'=>e=.returned (.int .i64 n)∧w'=w
  go_enter Tryz.func129,Tryz.ntmps129
  go_wp2
  go_ret
  exact ⟨rfl,rfl⟩


theorem fZ.first11 {W:World} {v:Value} {es:List Int} (h:fZ W v es) (hn:es.length≤1000):Calls Tryz.prog 51 #[v] W fun e w'=>e=.returned (.int .i64 (zD es))∧w'=W:=by
 obtain ⟨G,rfl,_,hc⟩:=h
 exact V3 G es.length es.length es W rfl hn hc
theorem Jt (W:World) (es:List Int) (t:TypeId) (hn:es.length≤1000):Calls Tryz.prog 51 #[.slice (some ⟨W.heap.size,0,none⟩) es.length es.length] (W.alloc (.cells (es.map (Value.int .i64)).toArray t)) fun e w'=>e=.returned (.int .i64 (zD es))∧w'=W.alloc (.cells (es.map (Value.int .i64)).toArray t) :=
 (ZT W es t).first11 hn
set_option maxRecDepth 100000 in
theorem ZR (many most:Int) (w:World):Calls Tryz.prog 112 #[.int .i64 many,.int .i64 most] w fun e w'=>e=.returned (.int .i64 (zA (decide (many≤most)) 7))∧w'=w:=by
 have HU:Hid (∀ b W,Calls Tryz.prog 129 #[.bool b,.int .i64 7] W fun e w'=>e=.returned (.int .i64 (zA b 7))∧w'=W):=fun b W=>Yf b 7 W
 by_cases h:many≤most
 ·
  have hd:decide (many≤most)=true:=decide_eq_true h
  rw [hd]
  go_enter Tryz.func112,Tryz.ntmps112
  go_wp2_with fail
  with_reducible refine (HU.out _ _).mono ?_
  rintro e w' ⟨rfl,rfl⟩
  go_wp2
  go_ret
  exact ⟨rfl,rfl⟩
 ·
  have hd:decide (many≤most)=false:=decide_eq_false h
  rw [hd]
  go_enter Tryz.func112,Tryz.ntmps112
  go_wp2_with fail
  with_reducible refine (HU.out _ _).mono ?_
  rintro e w' ⟨rfl,rfl⟩
  go_wp2
  go_ret
  exact ⟨rfl,rfl⟩

section
variable [Fr11] {w0 w:World} {D P M G:Nat} {A:zW} {L:zq} {S:zw}
variable {k:Nat}
set_option maxRecDepth 100000 in
theorem ZB (h:zH w0 w D P M G A L S) (hk:yz S k):Calls Tryz.prog 47 #[.pointer (some ⟨D,0,none⟩)] w (yn (ze S) w):=by
 have c2:=h.c2
 have HF:=z8 (h.gall hk)
 clear h hk
 generalize ze S=s at *
 go_enter Tryz.func47,Tryz.ntmps47
 go_wp2_with fail
 with_reducible refine HF.out.mono ?_
 rintro e w1 ⟨v,rfl,hr⟩
 have HR:=z8 hr
 clear hr HF c2
 go_wp2
 go_ret
 exact ⟨v,rfl,HR.out⟩
end
end Go.Proofs.YthmomkjingcbiaaGreatDoor
namespace Go.Proofs.YthmomkjingcbiaaGreatDoor
open Go.RowKit Go.Maps
set_option linter.unusedSectionVars false

def Xn (W:World) (b:Nat) (s:ByteArray) (d:Bool):Prop:=W.heap[b]? = some (.cells #[.string s,.bool d] 147 (0,0))
section
variable {W W':World} {b:Nat} {s:ByteArray} {d:Bool}
theorem Xn.c0 (h:Xn W b s d):W.cell? ⟨b,0,none⟩=some (.string s):=by simp [World.cell?,show W.heap[b]? = _ from h]
theorem Xn.c1 (h:Xn W b s d):W.cell? ⟨b,1,none⟩=some (.bool d):=by simp [World.cell?,show W.heap[b]? = _ from h]
theorem Xn.f0 (h:Xn W b s d):W.frozen? ⟨b,0,none⟩=false:=by simp [World.frozen?,show W.heap[b]? = _ from h]
theorem Xn.f1 (h:Xn W b s d):W.frozen? ⟨b,1,none⟩=false:=by simp [World.frozen?,show W.heap[b]? = _ from h]
theorem Xn.lt (h:Xn W b s d):b<W.heap.size:=(Array.getElem?_eq_some_iff.1 h).1
theorem Xn.later (h:Xn W b s d) (hb:Below W.heap.size W W'):Xn W' b s d:=(hb.block b h.lt).trans h
theorem JA (W:World) (s:ByteArray) (d:Bool):Xn (W.alloc (.cells #[.string s,.bool d] 147)) W.heap.size s d:=(MapKept.heap_alloc W _).1
theorem Xn.set0 (h:Xn W b s d) (x:ByteArray):Xn (W.setCell ⟨b,0,none⟩ (.string x)) b x d:=by
 have h':W.heap[b]? = some (.cells #[.string s,.bool d] 147 (0,0)):=h
 have hl:=h.lt
 have:=h'
 rw [Array.getElem?_eq_getElem hl] at this
 injection this with this
 show (W.setCell ⟨b,0,none⟩ (.string x)).heap[b]? = _
 simp [World.setCell,hl,Array.getElem_modify,this]
theorem Xn.set1 (h:Xn W b s d) (x:Bool):Xn (W.setCell ⟨b,1,none⟩ (.bool x)) b s x:=by
 have h':W.heap[b]? = some (.cells #[.string s,.bool d] 147 (0,0)):=h
 have hl:=h.lt
 have:=h'
 rw [Array.getElem?_eq_getElem hl] at this
 injection this with this
 show (W.setCell ⟨b,1,none⟩ (.bool x)).heap[b]? = _
 simp [World.setCell,hl,Array.getElem_modify,this]
end

def YPt11 (D P:Nat) (n h:ByteArray) (d:Bool):Nat→Value→Prop
 | 3,v=>v=.map (some P)
 | 4,v=>v=.string n
 | 5,v=>v=.string n
 | 6,v=>v=.agg #[.string h,.bool d]
 | _,v=>v=.pointer (some ⟨D,0,none⟩)
def YPtW11 (D P:Nat) (n h:ByteArray) (d:Bool) (j:Nat) (v:Value) (_:World):Prop:=YPt11 D P n h d j v
section
variable [Fr11] {w0 w:World} {D P M G:Nat} {A:zW} {L:zq} {S:zw}
set_option maxRecDepth 100000 in
theorem Qi (n h:ByteArray) (d:Bool) (ho:zH w0 w D P M G A L S) (hf:A.length≤1000) (hn:n.size≤1000) (hh:h.size≤1000) :
  Calls Tryz.prog 119 #[.pointer (some ⟨D,0,none⟩),.string n,.agg #[.string h,.bool d]] w fun e w'=>e=.returned (.tuple #[])∧yR w0 w D P M G (xA A n.data.toList (h.data.toList,d)) L S w':=by
 have HC:Hid (∀ W,Calls Tryz.prog 153 #[.string n] W fun e w'=>e=.returned (.string n)∧Below W.heap.size W w'):=fun W=>xb n W hn
 have HC1:Hid (∀ W,Calls Tryz.prog 153 #[.string h] W fun e w'=>e=.returned (.string h)∧Below W.heap.size W w'):=fun W=>xb h W hh
 have HO:=z8 ho
 have HST:Hid (∀ W,Below w.heap.size w W→∃ w',(Instr.mapUpdate 102 (.map (some P)) (.string n) (.agg #[.string h,.bool d])).run Tryz.prog W=.ok () w'∧yR w0 w D P M G (xA A n.data.toList (h.data.toList,d)) L S w'):=fun W hb=>by
  obtain ⟨w',h1,h2⟩:=(ho.later hb).store hf n h d (Nat.le_trans hn (by decide))
  exact ⟨w',h1,h2.ahead hb⟩
 have HA:=z8 (JA w h d)
 have HB0:Hid (Below w.heap.size w (w.alloc (.cells #[.string h,.bool d] 147))):=za (Below.refl _ _) _
 clear ho hf hn hh
 go_enter Tryz.func119,Tryz.ntmps119
 go_wp2_with fail
 with_reducible refine (HC1.out _).mono ?_
 rintro e w1 ⟨rfl,hb⟩
 have ha:=HA.out.later hb
 have f0:=ha.f0
 have c0:=ha.c0
 have HA1:=z8 (ha.set0 h)
 have HB1:Hid (Below w.heap.size w (w1.setCell ⟨w.heap.size,0,none⟩ (.string h))):=(z7 HB0.out hb).setCell (p:=⟨w.heap.size,0,none⟩) (Nat.le_refl _) _
 clear hb HA HB0 HC1 ha
 go_wp2_with fail
 generalize w1.setCell ⟨w.heap.size,0,none⟩ (.string h)=w2 at *
 generalize w.heap.size=B5 at HA1
 clear f0 c0
 refine xa (by kernel_rfl) 7 (fun W=>Below w2.heap.size w2 W) (fun W=>yR w0 w D P M G (xA A n.data.toList (h.data.toList,d)) L S W) (YPtW11 D P n h d) (fun _=>True) ?F ?hF (by kernel_rfl) (by kernel_rfl) (by kernel_rfl) (by kernel_rfl) (by decide) (zy (Below.refl _ _)) ?step ?fin
 case hF =>
  intro x
  simp only [List.map_cons,List.map_nil,xc,Act.put,List.setIfInBounds_toArray,List.set_cons_zero,List.set_cons_succ,Nat.zero_add,Nat.reduceAdd]
  exact rfl
 case step =>
  refine ⟨?_,?_,?_,?_,?_,?_,?_,?_,trivial⟩
  ·
   intro x W
   refine ⟨fun _ hW hdep K hK=>?_,(fun h=>absurd h (by decide)),(fun h=>absurd h (by decide))⟩
   clear hdep
   go_simp
   exact hK _ _ rfl hW (fun _ _ h=>h)
  ·
   intro x W
   refine ⟨fun _ hW hdep K hK=>?_,(fun h=>absurd h (by decide)),(fun h=>absurd h (by decide))⟩
   have h0:x 0=_:=hdep 0 rfl
   clear hdep
   simp only [h0] at hK
   go_simp
   exact hK _ _ rfl hW (fun _ _ h=>h)
  ·
   intro x W
   refine ⟨fun _ hW hdep K hK=>?_,(fun h=>absurd h (by decide)),(fun h=>absurd h (by decide))⟩
   have h1:x 1=_:=hdep 1 rfl
   clear hdep
   simp only [h1] at hK
   go_simp
   exact hK _ _ rfl hW (fun _ _ h=>h)
  ·
   intro x W
   refine ⟨fun _ hW hdep K hK=>?_,(fun h=>absurd h (by decide)),(fun h=>absurd h (by decide))⟩
   have h2:x 2=_:=hdep 2 rfl
   have c:=(HO.out.later (z7 HB1.out hW)).c0
   clear hdep
   simp only [h2] at hK
   go_simp
   exact hK _ _ rfl hW (fun _ _ h=>h)
  ·
   intro x W
   refine ⟨fun _ hW hdep K hK=>?_,(fun h=>absurd h (by decide)),(fun h=>absurd h (by decide))⟩
   clear hdep
   go_simp
   exact hK _ _ rfl hW (fun _ _ h=>h)
  ·
   intro x W
   refine ⟨fun _ hW hdep K hK=>?_,(fun h=>absurd h (by decide)),(fun h=>absurd h (by decide))⟩
   have h4:x 4=_:=hdep 4 rfl
   have hc:=HC.out W
   clear hdep
   simp only [h4] at hK
   go_simp
   refine hc.mono ?_
   rintro e W' ⟨rfl,hb⟩
   exact hK _ _ rfl (z7 hW hb) (fun _ _ h=>h)
  ·
   intro x W
   refine ⟨fun _ hW hdep K hK=>?_,(fun h=>absurd h (by decide)),(fun h=>absurd h (by decide))⟩
   have hx:=HA1.out.later hW
   have c0:=hx.c0
   have c1:=hx.c1
   clear hdep
   go_simp
   exact hK _ _ rfl hW (fun _ _ h=>h)
  ·
   intro x W
   refine ⟨(fun h=>absurd h (by decide)),fun _ hW hdep K hK=>?_,(fun h=>absurd h (by decide))⟩
   have h3:x 3=_:=hdep 3 rfl
   have h5:x 5=_:=hdep 5 rfl
   have h6:x 6=_:=hdep 6 rfl
   obtain ⟨w',hrun,hg⟩:=HST.out W (z7 HB1.out hW)
   clear hdep
   simp only [h3,h5,h6] at hK
   go_simp
   exact hK undef _ trivial hg
 case fin =>
  intro x W hW _
  have HF:=z8 hW
  clear hW HST HC HA1 HB1 HO
  go_end0
  exact ⟨rfl,HF.out⟩

def YPm11 (D M:Nat) (n m:ByteArray):Nat→Value→Prop
 | 2,v=>v=.pointer (some ⟨D,1,none⟩)
 | 3,v=>v=.pointer (some ⟨M,0,none⟩)
 | 4,v=>v=.string n
 | 5,v=>v=.string n
 | 6,v=>v=.string m
 | _,v=>v=.pointer (some ⟨D,0,none⟩)
def YPmW11 (D M:Nat) (n m:ByteArray) (j:Nat) (v:Value) (_:World):Prop:=YPm11 D M n m j v
set_option maxRecDepth 100000 in
theorem Zw (n m:ByteArray) (ho:zH w0 w D P M G A L S) (hl:L.length<100) (h5:vm w) (hn:n.size≤1000) (hm:m.size≤9223372036854775807) :
  Calls Tryz.prog 148 #[.pointer (some ⟨D,0,none⟩),.string n,.string m] w fun e w'=>e=.returned (.int .i64 (qO L n.data.toList m.data.toList))∧yR w0 w D P M G A (VA L n.data.toList m.data.toList) S w':=by
 have HC:Hid (∀ W,Calls Tryz.prog 153 #[.string n] W fun e w'=>e=.returned (.string n)∧Below W.heap.size W w'):=fun W=>xb n W hn
 have HO:=z8 ho
 have HST:Hid (∀ W,Below w.heap.size w W→Calls Tryz.prog 221 #[.pointer (some ⟨M,0,none⟩),.string n,.string m] W fun e w'=>e=.returned (.int .i64 (qO L n.data.toList m.data.toList))∧yR w0 w D P M G A (VA L n.data.toList m.data.toList) S w'):=fun W hb =>
  ((ho.later hb).mset n m (Nat.le_trans hn (by decide)) hm hl (h5.later hb)).mono fun e w' ⟨he,hg⟩=>⟨he,hg.ahead hb⟩
 clear ho hl hn hm h5
 generalize qO L n.data.toList m.data.toList=r at *
 generalize VA L n.data.toList m.data.toList=L' at *
 go_enter Tryz.func148,Tryz.ntmps148
 go_wp2_with fail
 refine xa (by kernel_rfl) 7 (fun W=>Below w.heap.size w W) (fun W=>yR w0 w D P M G A L' S W) (YPmW11 D M n m) (fun v=>v=.int .i64 r) ?F ?hF (by kernel_rfl) (by kernel_rfl) (by kernel_rfl) (by kernel_rfl) (by decide) (zy (Below.refl _ _)) ?step ?fin
 case hF =>
  intro x
  simp only [List.map_cons,List.map_nil,xc,Act.put,List.setIfInBounds_toArray,List.set_cons_zero,List.set_cons_succ,Nat.zero_add,Nat.reduceAdd]
  exact rfl
 case step =>
  refine ⟨?_,?_,?_,?_,?_,?_,?_,?_,?_,trivial⟩
  ·
   intro x W
   refine ⟨fun _ hW hdep K hK=>?_,(fun h=>absurd h (by decide)),(fun h=>absurd h (by decide))⟩
   clear hdep
   go_simp
   exact hK _ _ rfl hW (fun _ _ h=>h)
  ·
   intro x W
   refine ⟨fun _ hW hdep K hK=>?_,(fun h=>absurd h (by decide)),(fun h=>absurd h (by decide))⟩
   have h0:x 0=_:=hdep 0 rfl
   clear hdep
   simp only [h0] at hK
   go_simp
   exact hK _ _ rfl hW (fun _ _ h=>h)
  ·
   intro x W
   refine ⟨fun _ hW hdep K hK=>?_,(fun h=>absurd h (by decide)),(fun h=>absurd h (by decide))⟩
   have h1:x 1=_:=hdep 1 rfl
   clear hdep
   simp only [h1] at hK
   go_simp
   exact hK _ _ rfl hW (fun _ _ h=>h)
  ·
   intro x W
   refine ⟨fun _ hW hdep K hK=>?_,(fun h=>absurd h (by decide)),(fun h=>absurd h (by decide))⟩
   have h2:x 2=_:=hdep 2 rfl
   have c:=(HO.out.later hW).c1
   clear hdep
   simp only [h2] at hK
   go_simp
   exact hK _ _ rfl hW (fun _ _ h=>h)
  ·
   intro x W
   refine ⟨fun _ hW hdep K hK=>?_,(fun h=>absurd h (by decide)),(fun h=>absurd h (by decide))⟩
   clear hdep
   go_simp
   exact hK _ _ rfl hW (fun _ _ h=>h)
  ·
   intro x W
   refine ⟨fun _ hW hdep K hK=>?_,(fun h=>absurd h (by decide)),(fun h=>absurd h (by decide))⟩
   have h4:x 4=_:=hdep 4 rfl
   have hc:=HC.out W
   clear hdep
   simp only [h4] at hK
   go_simp
   refine hc.mono ?_
   rintro e W' ⟨rfl,hb⟩
   exact hK _ _ rfl (z7 hW hb) (fun _ _ h=>h)
  ·
   intro x W
   refine ⟨fun _ hW hdep K hK=>?_,(fun h=>absurd h (by decide)),(fun h=>absurd h (by decide))⟩
   clear hdep
   go_simp
   exact hK _ _ rfl hW (fun _ _ h=>h)
  ·
   intro x W
   refine ⟨(fun h=>absurd h (by decide)),fun _ hW hdep K hK=>?_,(fun h=>absurd h (by decide))⟩
   have h3:x 3=_:=hdep 3 rfl
   have h5:x 5=_:=hdep 5 rfl
   have h6:x 6=_:=hdep 6 rfl
   have hc:=HST.out W hW
   clear hdep
   simp only [h3,h5,h6] at hK
   go_simp
   refine hc.mono ?_
   rintro e W' ⟨rfl,hg⟩
   exact hK _ _ rfl hg
  ·
   intro x W
   refine ⟨(fun h=>absurd h (by decide)),(fun h=>absurd h (by decide)),fun _ hW hdep K hK=>?_⟩
   have h7:x 7=_:=hdep 7 rfl (by decide)
   clear hdep
   simp only [h7] at hK
   go_simp
   exact hK _ rfl
 case fin =>
  intro x W hW hZ
  have h8:x 8=.int .i64 r:=hZ 8 (by decide) (by decide)
  have HF:=z8 hW
  clear hW hZ HST HC HO
  rw [h8]
  go_wp2
  go_ret
  exact ⟨rfl,HF.out⟩
end
end Go.Proofs.YthmomkjingcbiaaGreatDoor
namespace Go.Proofs.YthmomkjingcbiaaGreatDoor
open Go.RowKit Go.Maps
set_option linter.unusedSectionVars false

theorem Qr {n:ByteArray} (h:zm n.data.toList=true):n.size≤1000:=jc h
theorem Xb {l:List UInt8} (h:xo l=true):l.length≤1000:=by
 unfold xo at h
 simp only [Bool.and_eq_true,decide_eq_true_eq] at h
 have:=h.1.2
 omega
theorem Qz {n:ByteArray} (h:xo n.data.toList=true):n.size≤1000:=by
 have:=Xb h
 rwa [zh] at this
section
variable [Fr11] {w0 w:World} {D P M G:Nat} {A:zW} {L:zq} {S:zw} {k:Nat}
theorem sm11_eq (n m:List UInt8):(zm n=true∧qH m=true∧yW A n=true→fS A L n m=qO L n m∧JJ A L n m=VA L n m)∧(¬ (zm n=true∧qH m=true∧yW A n=true)→fS A L n m=(if zm n then (if qH m then (if yW A n then 0 else 8) else 11) else 10)∧JJ A L n m=L):=by
 constructor
 ·
  rintro ⟨h1,h2,h3⟩
  have h4:qO L n m=0∨qO L n m=9:=by
   unfold qO
   rw [if_pos h1]
   by_cases hm:m=[]
   ·
    rw [if_pos hm]; exact .inl rfl
   ·
    have h5:yV m=true:=by unfold qH at h2; rw [decide_eq_false hm,Bool.false_or] at h2; exact h2
    rw [if_neg hm,if_pos h5]
    cases Vm L n (zF m)
    ·
     exact .inl rfl
    ·
     exact .inr rfl
  have e1:fS A L n m=qO L n m:=by
   unfold fS smF11
   rw [h1,h2,h3]
   rcases h4 with h | h <;> rw [h] <;> rfl
  refine ⟨e1,?_⟩
  unfold JJ
  rw [e1]
  by_cases h:qO L n m=0
  ·
   rw [if_pos h]
  ·
   rw [if_neg h]; unfold VA; rw [if_neg h]
 ·
  intro hq
  have e1:fS A L n m=(if zm n then (if qH m then (if yW A n then 0 else 8) else 11) else 10):=by
   unfold fS smF11
   revert hq
   cases zm n <;> cases qH m <;> cases yW A n <;> simp
  refine ⟨e1,?_⟩
  unfold JJ
  rw [e1,if_neg]
  revert hq
  cases zm n <;> cases qH m <;> cases yW A n <;> simp
end
end Go.Proofs.YthmomkjingcbiaaGreatDoor
namespace Go.Proofs.YthmomkjingcbiaaGreatDoor
open Go.RowKit Go.Maps Go.Sort Go.Shelf
set_option linter.unusedSectionVars false

theorem QP {V:Type} (e:V→DataW Unit) (L:yB V):strKeys (vY e L)=ze L:=by
 simp only [vY,strKeys,List.map_map]; rfl
section
variable [Fr11] {w0 w:World} {D P M G:Nat} {A:zW} {L:zq} {S:zw} {k:Nat}
set_option maxRecDepth 100000 in
theorem Yq (ho:zH w0 w D P M G A L S) (hr:ye A) (hf:A.length≤12):Calls Tryz.prog 62 #[.pointer (some ⟨D,0,none⟩)] w (yn (ze A) w):=by
 have eg:∀ args w,(callFunc 215 args).run Tryz.prog w=.ok (.enter 215 args) w:=enters_of Tryz.func215 (by kernel_rfl) rfl
 have bl:Below w.heap.size w (w.alloc (.cells #[.map (some P)] 102)):=za (Below.refl _ _) _
 have cS:∃ S:List (List UInt8)→Prop,(∀ ss,S ss→ss.Perm (ze A))∧SeqGives Fence.wide 2 Tryz.prog 215 #[.pointer (some ⟨w.heap.size,0,none⟩)] encStr S A.length (w.alloc (.cells #[.map (some P)] 102)):=by
  have ho':=ho
  obtain ⟨p,q,LM,pg,T,hd,_⟩:=ho'
  have hown:=World.ownsMap.alloc hd.acc (.cells #[.map (some P)] 102)
  have h:=AnyZ.keys_gives (ρ:=Tryz.keys11_ren) { Tryz.keys11 with } Fence.wide 2 trivial rfl (by omega) w.heap.size P _ (vY ea11 A) _ (by simp) (by simp) hown
  rw [uu] at h
  exact ⟨_,fun ss h=>by rw [QP] at h; exact h,h⟩
 obtain ⟨Ss,hS,hseq⟩:=cS
 have HK:Hid (Calls Tryz.prog 140 #[.map (some P)] w fun e w'=>e=.returned (.func (.func 215) #[] #[.pointer (some ⟨w.heap.size,0,none⟩)])∧w'=w.alloc (.cells #[.map (some P)] 102)) :=
  (callsIn_wide (n:=4)).1 (AnyZ.keys_in Tryz.keys11 Fence.wide 4 trivial rfl (some P) w)
 have HSF:=z8 (qN _ _ Ss A.length _ eg (by omega) (fun ss h=>by rw [(hS ss h).length_eq,yJ]; omega) hseq)
 have HSS:Hid (∀ ss,Ss ss→ss.length=A.length∧ss.mergeSort (fun x y=>!(ltOf Lib.compareBytes) y x)=ze A):=fun ss h=>by
  have hp:=hS ss h
  exact ⟨by rw [hp.length_eq,yJ],Vx hr.names hp _ (fun x y=>by rw [lt7])⟩
 have hc:=ho.c0
 have BL:=z8 bl
 clear hseq hS ho bl
 go_enter Tryz.func62,Tryz.ntmps62
 go_wp2_with fail
 with_reducible refine HK.out.mono ?_
 rintro e w1 ⟨rfl,rfl⟩
 go_wp2_with fail
 with_reducible refine HSF.out.mono ?_
 rintro e w2 ⟨v,ss,rfl,hss,hrow,hnil,hb⟩
 obtain ⟨hl,hm⟩:=HSS.out ss hss
 have HF:Hid (yn (ze A) w (.returned v) w2):=by
  rw [hl,hm] at hrow
  refine ⟨v,rfl,?_,z7 BL.out hb⟩
  rw [yJ]
  exact zx hrow (by simp)
 clear hss hrow hnil hb hl hm HSS HSF HK hc BL
 go_wp2
 go_ret
 exact HF.out

theorem zerou11 (w:World):(zeroValue 47).run Tryz.prog w=.ok (.agg #[.string ⟨#[]⟩,.string ⟨#[]⟩,.string ⟨#[]⟩,.bool false,.slice none 0 0]) w:=by kernel_rfl
def Xm (A:zW) (L:zq) (S:zw) (n:ByteArray) (w W:World) (v:Value):Prop :=
 ∃ ga gc,v=.agg #[.string n,.string (yT (hasA A n.data.toList)),.string (yT (xp L n.data.toList)),.bool (disA A n.data.toList),.slice ga (ud S n.data.toList).length gc]∧W.ownsRow w.heap.size 9 1 (.slice ga (ud S n.data.toList).length gc) (ud S n.data.toList).length ((ud S n.data.toList).map encStr)
def Tld11 (b:Nat) (n s m:ByteArray) (d:Bool) (gs:List (List UInt8)) (w W:World):Prop :=
 ∃ ga gc,xq W b (.string n) (.string s) (.string m) (.bool d) (.slice ga gs.length gc)∧W.ownsRow w.heap.size 9 1 (.slice ga gs.length gc) gs.length (gs.map encStr)∧Below w.heap.size w W
def YTl11 (D G b5:Nat) (n s m:ByteArray) (d:Bool) (gs:List (List UInt8)) (w:World):Nat→Value→World→Prop
 | 0,v,_=>v=.string n
 | 1,v,_=>v=.pointer (some ⟨b5,0,none⟩)
 | 2,v,_=>v=.string s
 | 3,v,_=>v=.string m
 | 4,v,_=>v=.pointer (some ⟨b5,1,none⟩)
 | 5,v,_=>v=.bool d
 | 8,v,_=>v=.pointer (some ⟨D,2,none⟩)
 | 9,v,_=>v=.pointer (some ⟨G,0,none⟩)
 | 10,v,_=>v=.string n
 | 11,v,W=>∃ ga gc,v=.slice ga gs.length gc∧W.ownsRow w.heap.size 9 1 (.slice ga gs.length gc) gs.length (gs.map encStr)
 | 12,v,W=>∃ ga gc,v=.agg #[.string n,.string s,.string m,.bool d,.slice ga gs.length gc]∧W.ownsRow w.heap.size 9 1 (.slice ga gs.length gc) gs.length (gs.map encStr)
 | _,v,_=>v=.pointer (some ⟨D,0,none⟩)
theorem zP {w w':World} {b:Nat} {e size n:Nat} {v:Value} {xs:List Value} (h:w.ownsRow b e size v n xs) (hb:Below w.heap.size w w'):w'.ownsRow b e size v n xs:=by
 refine ⟨h.1,?_⟩
 rcases h.2 with hn | ⟨g,cap,cur,e1,h0,hg,hr⟩
 ·
  exact .inl hn
 ·
  exact .inr ⟨g,cap,cur,e1,h0,(hb.block g (Array.getElem?_eq_some_iff.1 hg).1).trans hg,hr⟩
theorem FO {D G b5:Nat} {n s m:ByteArray} {d:Bool} {gs:List (List UInt8)} {w W W':World} (hb:Below W.heap.size W W') (j:Nat) (u:Value) (h:YTl11 D G b5 n s m d gs w j u W):YTl11 D G b5 n s m d gs w j u W':=by
 match j,h with
 | 0,h=>exact h
 | 1,h=>exact h
 | 2,h=>exact h
 | 3,h=>exact h
 | 4,h=>exact h
 | 5,h=>exact h
 | 6,h=>exact h
 | 7,h=>exact h
 | 8,h=>exact h
 | 9,h=>exact h
 | 10,h=>exact h
 | 11,h =>
  obtain ⟨ga,gc,e,hr⟩:=h
  exact ⟨ga,gc,e,zP hr hb⟩
 | 12,h =>
  obtain ⟨ga,gc,e,hr⟩:=h
  exact ⟨ga,gc,e,zP hr hb⟩
 | _+13,h=>exact h
set_option maxRecDepth 100000 in
theorem Vw (n:ByteArray) (ho:zH w0 w D P M G A L S) (hk:yz S k) (hn:n.size≤9223372036854775807) :
  Calls Tryz.prog 54 #[.pointer (some ⟨D,0,none⟩),.string n] w fun e w'=>∃ v,e=.returned v∧Xm A L S n w w' v∧Below w.heap.size w w':=by
 have HO:=z8 ho
 have hz:=FV
 have hzu:=zerou11
 have HLK:Hid (∀ W,Below w.heap.size w W→(Instr.lookup 102 (.map (some P)) (.string n) false).run Tryz.prog W=.ok (.agg #[.string (yT (hasA A n.data.toList)),.bool (disA A n.data.toList)]) W):=fun W hb=>(ho.later hb).look1 n hn
 have HOF:Hid (∀ W,Below w.heap.size w W→Calls Tryz.prog 131 #[.pointer (some ⟨M,0,none⟩),.string n] W fun e w'=>e=.returned (.tuple #[.string (yT (xp L n.data.toList)),.bool (xn L n.data.toList)])∧w'=W):=fun W hb=>(ho.later hb).mof n hn
 have HGO:Hid (∀ W,Below w.heap.size w W→Calls Tryz.prog 132 #[.pointer (some ⟨G,0,none⟩),.string n] W (yn (ud S n.data.toList) W)):=fun W hb=>(ho.later hb).gof hk n hn
 unfold Xm
 clear ho hk hn
 generalize yT (hasA A n.data.toList)=ss at *
 generalize disA A n.data.toList=dd at *
 generalize yT (xp L n.data.toList)=mm at *
 generalize xn L n.data.toList=hm at *
 generalize ud S n.data.toList=gs at *
 have hb1:Below w.heap.size w (w.alloc (.cells #[.string ⟨#[]⟩,.string ⟨#[]⟩,.string ⟨#[]⟩,.bool false,.slice none 0 0] 47)):=za (Below.refl _ _) _
 have hb2:Below w.heap.size w ((w.alloc (.cells #[.string ⟨#[]⟩,.string ⟨#[]⟩,.string ⟨#[]⟩,.bool false,.slice none 0 0] 47)).alloc (.cells #[.string ss,.bool dd] 147)):=za hb1 _
 have hz1:xq (w.alloc (.cells #[.string ⟨#[]⟩,.string ⟨#[]⟩,.string ⟨#[]⟩,.bool false,.slice none 0 0] 47)) w.heap.size (.string ⟨#[]⟩) (.string ⟨#[]⟩) (.string ⟨#[]⟩) (.bool false) (.slice none 0 0):=heap_alloc_new w _
 have HZ:Hid (xq ((w.alloc (.cells #[.string ⟨#[]⟩,.string ⟨#[]⟩,.string ⟨#[]⟩,.bool false,.slice none 0 0] 47)).alloc (.cells #[.string ss,.bool dd] 147)) w.heap.size (.string ⟨#[]⟩) (.string ⟨#[]⟩) (.string ⟨#[]⟩) (.bool false) (.slice none 0 0)):=(Below.heap_alloc _ _ _ (by simp)).trans hz1
 have HA:=z8 (JA (w.alloc (.cells #[.string ⟨#[]⟩,.string ⟨#[]⟩,.string ⟨#[]⟩,.bool false,.slice none 0 0] 47)) ss dd)
 have c0:=(HO.out.later hb1).c0
 have c1:=(HO.out.later hb2).c1
 have hl:=HLK.out _ hb1
 have HOF1:=z8 (HOF.out _ hb2)
 have HB2:=z8 hb2
 clear hb1 hb2 hz1 HOF
 go_enter Tryz.func54,Tryz.ntmps54
 go_wp2_with fail
 with_reducible refine HOF1.out.mono ?_
 rintro e w2 ⟨rfl,hw2⟩
 rw [← hw2] at HZ HA HB2
 have hsz:(w.alloc (.cells #[.string ⟨#[]⟩,.string ⟨#[]⟩,.string ⟨#[]⟩,.bool false,.slice none 0 0] 47)).heap.size=w.heap.size+1:=by simp
 rw [hsz] at HA
 have HLT:=z8 (HA.out.lt)
 clear hw2 hl HOF1 c0 c1 HLK hsz
 go_wp2_with fail
 have HLT2:Hid (w.heap.size<w2.heap.size):=by have:=HLT.out; show _<_; omega
 have HSO:Hid (∀ W,Below w2.heap.size w2 W→∀ ga gc,W.ownsRow w.heap.size 9 1 (.slice ga gs.length gc) gs.length (gs.map encStr)→Tld11 w.heap.size n ss mm dd gs w (set5 W w.heap.size (.string n) (.string ss) (.string mm) (.bool dd) (.slice ga gs.length gc))):=fun W hb ga gc ho=>by
  have hz:xq W w.heap.size (.string ⟨#[]⟩) (.string ⟨#[]⟩) (.string ⟨#[]⟩) (.bool false) (.slice none 0 0):=(hb.block _ HLT2.out).trans HZ.out
  have ht:zb (fun i=>i=w.heap.size) W (set5 W w.heap.size (.string n) (.string ss) (.string mm) (.bool dd) (.slice ga gs.length gc)):=jZ (zb.refl (fun i=>i=w.heap.size) W) w.heap.size (fun _=>rfl) _ _ _ _ _
  have hbw:=z7 HB2.out hb
  refine ⟨ga,gc,hz.set5 _ _ _ _ _,?_,hbw.trans (ht.below_at hbw.size (fun i e=>by omega))⟩
  refine ⟨ho.1,?_⟩
  rcases ho.2 with hn | ⟨g,cap,cur,e1,h0,hg,hr⟩
  ·
   exact .inl hn
  ·
   have hne:g≠w.heap.size:=fun e=>by
    subst e
    rw [show W.heap[w.heap.size]? = _ from hz] at hg
    injection hg with hg
    injection hg with _ h
    exact absurd h (by decide)
   exact .inr ⟨g,cap,cur,e1,h0,(ht.block g (Array.getElem?_eq_some_iff.1 hg).1 hne).trans hg,hr⟩
 refine xa (by kernel_rfl) 13 (fun W=>Below w2.heap.size w2 W) (fun W=>Tld11 w.heap.size n ss mm dd gs w W) (YTl11 D G (w.heap.size+1) n ss mm dd gs w) (fun _=>True) ?F ?hF (by kernel_rfl) (by kernel_rfl) (by kernel_rfl) (by kernel_rfl) (by decide) (zy (Below.refl _ _)) ?step ?fin
 case hF =>
  intro x
  simp only [List.map_cons,List.map_nil,xc,Act.put,List.setIfInBounds_toArray,List.set_cons_zero,List.set_cons_succ,Nat.zero_add,Nat.reduceAdd]
  exact rfl
 case step =>
  refine ⟨?_,?_,?_,?_,?_,?_,?_,?_,?_,?_,?_,?_,?_,?_,trivial⟩
  ·
   intro x W
   refine ⟨fun _ hW hdep K hK=>?_,(fun h=>absurd h (by decide)),(fun h=>absurd h (by decide))⟩
   clear hdep
   go_simp
   exact hK _ _ rfl hW (fun _ _ h=>h)
  ·
   intro x W
   refine ⟨fun _ hW hdep K hK=>?_,(fun h=>absurd h (by decide)),(fun h=>absurd h (by decide))⟩
   clear hdep
   go_simp
   exact hK _ _ rfl hW (fun _ _ h=>h)
  ·
   intro x W
   refine ⟨fun _ hW hdep K hK=>?_,(fun h=>absurd h (by decide)),(fun h=>absurd h (by decide))⟩
   have h1:x 1=_:=hdep 1 rfl
   have hx:=HA.out.later hW
   have c0:=hx.c0
   clear hdep
   simp only [h1] at hK
   go_simp
   exact hK _ _ rfl hW (fun _ _ h=>h)
  ·
   intro x W
   refine ⟨fun _ hW hdep K hK=>?_,(fun h=>absurd h (by decide)),(fun h=>absurd h (by decide))⟩
   clear hdep
   go_simp
   exact hK _ _ rfl hW (fun _ _ h=>h)
  ·
   intro x W
   refine ⟨fun _ hW hdep K hK=>?_,(fun h=>absurd h (by decide)),(fun h=>absurd h (by decide))⟩
   clear hdep
   go_simp
   exact hK _ _ rfl hW (fun _ _ h=>h)
  ·
   intro x W
   refine ⟨fun _ hW hdep K hK=>?_,(fun h=>absurd h (by decide)),(fun h=>absurd h (by decide))⟩
   have h4:x 4=_:=hdep 4 rfl
   have hx:=HA.out.later hW
   have c1:=hx.c1
   clear hdep
   simp only [h4] at hK
   go_simp
   exact hK _ _ rfl hW (fun _ _ h=>h)
  ·
   intro x W
   refine ⟨fun _ hW hdep K hK=>?_,(fun h=>absurd h (by decide)),(fun h=>absurd h (by decide))⟩
   clear hdep
   go_simp
   exact hK _ _ rfl hW (fun _ _ h=>h)
  ·
   intro x W
   refine ⟨fun _ hW hdep K hK=>?_,(fun h=>absurd h (by decide)),(fun h=>absurd h (by decide))⟩
   have h6:x 6=_:=hdep 6 rfl
   clear hdep
   simp only [h6] at hK
   go_simp
   exact hK _ _ rfl hW (fun _ _ h=>h)
  ·
   intro x W
   refine ⟨fun _ hW hdep K hK=>?_,(fun h=>absurd h (by decide)),(fun h=>absurd h (by decide))⟩
   have h7:x 7=_:=hdep 7 rfl
   clear hdep
   simp only [h7] at hK
   go_simp
   exact hK _ _ rfl hW (fun _ _ h=>h)
  ·
   intro x W
   refine ⟨fun _ hW hdep K hK=>?_,(fun h=>absurd h (by decide)),(fun h=>absurd h (by decide))⟩
   have h8:x 8=_:=hdep 8 rfl
   have c:=(HO.out.later (z7 HB2.out hW)).c2
   clear hdep
   simp only [h8] at hK
   go_simp
   exact hK _ _ rfl hW (fun _ _ h=>h)
  ·
   intro x W
   refine ⟨fun _ hW hdep K hK=>?_,(fun h=>absurd h (by decide)),(fun h=>absurd h (by decide))⟩
   clear hdep
   go_simp
   exact hK _ _ rfl hW (fun _ _ h=>h)
  ·
   intro x W
   refine ⟨fun _ hW hdep K hK=>?_,(fun h=>absurd h (by decide)),(fun h=>absurd h (by decide))⟩
   have h9:x 9=_:=hdep 9 rfl
   have h10:x 10=_:=hdep 10 rfl
   have hc:=HGO.out W (z7 HB2.out hW)
   clear hdep
   simp only [h9,h10] at hK
   go_simp
   refine hc.mono ?_
   rintro e W' ⟨v,rfl,hr,hb⟩
   obtain ⟨ga,gc,rfl⟩:=uD hr
   exact hK _ _ ⟨ga,gc,rfl,zx hr (z7 HB2.out hW).size⟩ (z7 hW hb) (fun j u h=>FO hb j u h)
  ·
   intro x W
   refine ⟨fun _ hW hdep K hK=>?_,(fun h=>absurd h (by decide)),(fun h=>absurd h (by decide))⟩
   have h0:x 0=_:=hdep 0 rfl
   have h2:x 2=_:=hdep 2 rfl
   have h3:x 3=_:=hdep 3 rfl
   have h5:x 5=_:=hdep 5 rfl
   have hA:∃ ga gc,x 11=.slice ga gs.length gc∧W.ownsRow w.heap.size 9 1 (.slice ga gs.length gc) gs.length (gs.map encStr):=hdep 11 rfl
   obtain ⟨ga,gc,h11,hr⟩:=hA
   simp only [h11] at hK
   clear hdep
   simp only [h0,h2,h3,h5] at hK
   go_simp
   exact hK _ _ ⟨ga,gc,rfl,hr⟩ hW (fun _ _ h=>h)
  ·
   intro x W
   refine ⟨(fun h=>absurd h (by decide)),fun _ hW hdep K hK=>?_,(fun h=>absurd h (by decide))⟩
   have hA:∃ ga gc,x 12=.agg #[.string n,.string ss,.string mm,.bool dd,.slice ga gs.length gc]∧W.ownsRow w.heap.size 9 1 (.slice ga gs.length gc) gs.length (gs.map encStr):=hdep 12 rfl
   obtain ⟨ga,gc,h12,hr⟩:=hA
   simp only [h12] at hK
   have hz:xq W w.heap.size (.string ⟨#[]⟩) (.string ⟨#[]⟩) (.string ⟨#[]⟩) (.bool false) (.slice none 0 0):=(hW.block _ HLT2.out).trans HZ.out
   have f1:=hz.free
   have q0:=HSO.out W hW ga gc hr
   have r0:_=some (.string ⟨#[]⟩:Value):=hz.at_ 0
   have r1:_=some (.string ⟨#[]⟩:Value):=hz.at_ 1
   have r2:_=some (.string ⟨#[]⟩:Value):=hz.at_ 2
   have r3:_=some (.bool false:Value):=hz.at_ 3
   have r4:_=some (.slice none 0 0:Value):=hz.at_ 4
   clear hz
   clear hdep
   go_simp
   exact hK undef _ trivial q0
 case fin =>
  intro x W hW _
  obtain ⟨ga,gc,hz,hr,hb⟩:=hW
  have HR:=z8 hr
  have HBB:=z8 hb
  have q0:_=some (.string n:Value):=hz.at_ 0
  have q1:_=some (.string ss:Value):=hz.at_ 1
  have q2:_=some (.string mm:Value):=hz.at_ 2
  have q3:_=some (.bool dd:Value):=hz.at_ 3
  have q4:_=some (.slice ga gs.length gc:Value):=hz.at_ 4
  clear hr hb hz HSO HZ HA HB2 HGO HO HLT HLT2
  go_wp2_with fail
  refine bodyPost_ret (v:=.agg #[.string n,.string ss,.string mm,.bool dd,.slice ga gs.length gc]) ?_ rfl ⟨_,rfl,⟨ga,gc,rfl,HR.out⟩,HBB.out⟩
  simp [results,Tryz.results54,go_sem,q0,q1,q2,q3,q4]
end

set_option maxRecDepth 100000 in
theorem U5 (w:World):Calls Tryz.prog 23 #[] w fun e w'=>∃ D P M G,e=.returned (.pointer (some ⟨D,0,none⟩))∧zH w w' D P M G [] [] []:=by
 have HM:Hid (∀ W,Calls Tryz.prog 63 #[] W fun e w'=>e=.returned (.pointer (some ⟨W.heap.size,0,none⟩))∧w'=W.alloc (.cells #[.map none,.map none] 164)):=fun W=>Fc W
 have HG:Hid (∀ W,Calls Tryz.prog 64 #[] W fun e w'=>e=.returned (.pointer (some ⟨W.heap.size,0,none⟩))∧w'=W.alloc (.cells #[.map none] 167)):=fun W=>Qp W
 have hmm:=@run_makeMap Tryz.prog
 have a1:=J1 w
 have hb1:=za (Below.refl w.heap.size w) (.map #[] 0)
 have s1:(w.alloc (.map #[] 0)).heap.size=w.heap.size+1:=by simp
 generalize hw1:w.alloc (.map #[] 0)=w1 at *
 have a2:=idx9_new w1
 have hb2:=za (Below.refl w1.heap.size w1) (.cells #[.map none,.map none] 164)
 have s2:(w1.alloc (.cells #[.map none,.map none] 164)).heap.size=w1.heap.size+1:=by simp
 generalize hw2:w1.alloc (.cells #[.map none,.map none] 164)=w2 at *
 have a3:=grp10_new w2
 have hb3:=za (Below.refl w2.heap.size w2) (.cells #[.map none] 167)
 have s3:(w2.alloc (.cells #[.map none] 167)).heap.size=w2.heap.size+1:=by simp
 generalize hw3:w2.alloc (.cells #[.map none] 167)=w3 at *
 have hb4:=za (Below.refl w3.heap.size w3) (.cells #[.map (some w.heap.size),.pointer (some ⟨w1.heap.size,0,none⟩),.pointer (some ⟨w2.heap.size,0,none⟩)] 108)
 have a4:=heap_alloc_new w3 (.cells #[.map (some w.heap.size),.pointer (some ⟨w1.heap.size,0,none⟩),.pointer (some ⟨w2.heap.size,0,none⟩)] 108)
 have HF:Hid (zH w (w3.alloc (.cells #[.map (some w.heap.size),.pointer (some ⟨w1.heap.size,0,none⟩),.pointer (some ⟨w2.heap.size,0,none⟩)] 108)) w3.heap.size w.heap.size w1.heap.size w2.heap.size [] [] []):=by
  have hb24:=z7 (z7 hb2 hb3) hb4
  have hb34:=z7 hb3 hb4
  refine ⟨none,none,[],none,[],⟨a4,a1.kept (hb24.block _ (by omega)),a2.later hb34,a3.later hb4,?_,?_,?_⟩,rfl,fun i hi=>⟨?_,id⟩,z7 (z7 (z7 hb1 hb2) hb3) hb4,Nat.zero_le _,fun _ h=>h.elim⟩
  ·
   rintro i (rfl | h | h)
   ·
    omega
   ·
    cases h
   ·
    cases h
  ·
   rintro i (rfl | h | ⟨x,h,_⟩)
   ·
    omega
   ·
    cases h
   ·
    cases h
  ·
   rintro i (rfl | h | h) (h' | h' | ⟨x,h',_⟩)
   ·
    omega
   all_goals first | cases h | cases h'
  ·
   revert hi
   rintro (rfl | rfl | h | h)
   ·
    omega
   ·
    omega
   ·
    rcases h with rfl | h | h
    ·
     omega
    ·
     cases h
    ·
     cases h
   ·
    rcases h with rfl | h | ⟨x,h,_⟩
    ·
     omega
    ·
     cases h
    ·
     cases h
 clear a1 a2 a3 a4 hb1 hb2 hb3 hb4 s1 s2 s3
 go_enter Tryz.func23,Tryz.ntmps23
 go_wp2_with fail
 with_reducible refine (HM.out _).mono ?_
 rintro e u2 ⟨rfl,hu2⟩
 go_wp2_with fail
 with_reducible refine (HG.out _).mono ?_
 rintro e u3 ⟨rfl,hu3⟩
 try rw [hw1] at hu2
 try rw [hw2] at hu2
 try subst hu2
 try rw [hw3] at hu3
 subst hu3
 clear HM HG hmm hw1 hw2 hw3
 go_wp2
 go_ret
 exact ⟨_,_,_,_,rfl,HF.out⟩
end Go.Proofs.YthmomkjingcbiaaGreatDoor
namespace Go.Proofs.YthmomkjingcbiaaGreatDoor
open Go.RowKit Go.Maps
set_option linter.unusedSectionVars false

section
variable [Fr11] {w0 w:World} {D P M G:Nat} {A:zW} {L:zq} {S:zw} {k:Nat}

theorem Xm.low {w w1 W:World} {n:ByteArray} {v:Value} (h:Xm A L S n w1 W v) (hb:Below w.heap.size w w1):Xm A L S n w W v:=by
 obtain ⟨ga,gc,e,hr⟩:=h
 exact ⟨ga,gc,e,zx hr hb.size⟩
end
end Go.Proofs.YthmomkjingcbiaaGreatDoor
namespace Go.Proofs.YthmomkjingcbiaaGreatDoor
open Go.RowKit Go.Maps Go.Sort Go.Shelf

structure W11 where
 hs:ByteArray
 ml:ByteArray
 dis:Bool
 ga:Option Addr
 gs:List (List UInt8)
 gc:Nat
def W11.u (x:W11):U11:=⟨x.hs.data.toList,x.ml.data.toList,x.dis,x.gs⟩
def UM (q:List UInt8×W11):List Value:=[.string (yT q.1),.string q.2.hs,.string q.2.ml,.bool q.2.dis,.slice q.2.ga q.2.gs.length q.2.gc]
theorem cu11_at (L:yB W11) (j i:Nat) (hj:j<L.length) (hi:i<5):(L.flatMap UM)[j * 5+i]? = (UM L[j])[i]? := by
 induction L generalizing j with
 | nil=>exact absurd hj (Nat.not_lt_zero _)
 | cons q L ih =>
  rw [List.flatMap_cons]
  cases j with
  | zero =>
   rw [List.getElem?_append_left (by simp [UM]; omega)]
   simp
  | succ j =>
   rw [List.getElem?_append_right (by simp [UM]; omega)]
   have:=ih j (by simpa using hj)
   rw [show (j+1) * 5+i - (UM q).length=j * 5+i by simp [UM]; omega,this]
   simp
theorem fm:(Tryz.prog.info? 47).map (fun i=>(i.zero,i.size,i.bytes))=some (some (.agg #[.string ⟨#[]⟩,.string ⟨#[]⟩,.string ⟨#[]⟩,.bool false,.slice none 0 0]),5,80):=by kernel_rfl

def fX (w:World) (v:Value) (L:yB W11):Prop:=∃ A c,v=.slice A L.length c∧∀ j (h:j<L.length),∃ g,A=some ⟨g,0,none⟩∧∀ i u,(UM L[j])[i]? = some u→w.cell? ⟨g,j * 5+i,none⟩=some u
theorem fX.later {w w':World} {v:Value} {L:yB W11} (h:fX w v L) (hb:Below w.heap.size w w'):fX w' v L:=by
 obtain ⟨A,c,e,hc⟩:=h
 exact ⟨A,c,e,fun j hj=>by obtain ⟨g,e,h⟩:=hc j hj; exact ⟨g,e,fun i u hu=>(hb.cell (p:=⟨g,j * 5+i,none⟩) (World.block_lt_of_cell? w _ (h i u hu))).trans (h i u hu)⟩⟩
theorem fX.of_users {w:World} {base:Nat} {v:Value} {L:yB W11} (h:w.ownsRow base 47 5 v L.length (L.flatMap UM)):fX w v L:=by
 have hs:∃ A c,v=.slice A L.length c:=by
  rcases h.2 with ⟨rfl,h0⟩ | ⟨g,cap,cur,rfl,_⟩
  ·
   exact ⟨none,0,by rw [h0]⟩
  ·
   exact ⟨_,_,rfl⟩
 obtain ⟨A,c,rfl⟩:=hs
 refine ⟨A,c,rfl,fun j hj=>?_⟩
 rcases h.2 with ⟨_,h0⟩ | ⟨g,cap,cur,e1,_⟩
 ·
  omega
 ·
  injection e1 with e1
  subst e1
  refine ⟨g,rfl,fun i u hu=>?_⟩
  have hi:i<5:=(List.getElem?_eq_some_iff.1 hu).1
  have:=World.ownsRow.cells h (g:=g) rfl (j * 5+i) u (by rw [cu11_at L j i hj hi]; exact hu)
  rw [Addr.add_lit,Nat.zero_add] at this
  exact this



def JB (L:yB W11) (w:World) (v:Value):Prop:=w.ownsRow 0 47 5 v L.length (L.flatMap UM)
theorem JB.us {L:yB W11} {w:World} {v:Value} (h:JB L w v):fX w v L:=fX.of_users (base:=0) h
theorem vK {w w':World} {b:Nat} {e size n:Nat} {v:Value} {xs:List Value} (h:w.ownsRow b e size v n xs) (hk:yq w w') (h1:e≠108) (h2:e≠164) (h3:e≠167):w'.ownsRow b e size v n xs:=by
 refine ⟨h.1,?_⟩
 rcases h.2 with hn | ⟨g,cap,cur,e1,h0,hg,hr⟩
 ·
  exact .inl hn
 ·
  exact .inr ⟨g,cap,cur,e1,h0,hk g _ _ _ hg h1 h2 h3,hr⟩
theorem JB.keeps {L:yB W11} {w w':World} {v:Value} (h:JB L w v) (hk:yq w w'):JB L w' v:=vK h hk (by decide) (by decide) (by decide)
theorem JB.later {L:yB W11} {w w':World} {v:Value} (h:JB L w v) (hb:Below w.heap.size w w'):JB L w' v:=h.keeps (yq.of_below hb)
theorem JB.of_own {L:yB W11} {w:World} {b:Nat} {v:Value} (h:w.ownsRow b 47 5 v L.length (L.flatMap UM)):JB L w v:=zx h (Nat.zero_le _)
theorem JB.nil (w:World):JB [] w (.slice none 0 0):=World.ownsRow_nil _ _ _ _
theorem fX.at_ {w:World} {A:Option Addr} {c n:Nat} {L:yB W11} (h:fX w (.slice A n c) L) (k:Nat) (hk:k<L.length) :
  ∃ g,A=some ⟨g,0,none⟩∧w.cell? ⟨g,k * 5,none⟩=some (.string (yT L[k].1))∧w.cell? ⟨g,k * 5+1,none⟩=some (.string L[k].2.hs)∧w.cell? ⟨g,k * 5+2,none⟩=some (.string L[k].2.ml)∧w.cell? ⟨g,k * 5+3,none⟩=some (.bool L[k].2.dis)∧w.cell? ⟨g,k * 5+4,none⟩=some (.slice L[k].2.ga L[k].2.gs.length L[k].2.gc):=by
 obtain ⟨A',c',e,hc⟩:=h
 injection e with e1 e2 e3
 obtain ⟨g,eg,hcell⟩:=hc k hk
 exact ⟨g,by rw [e1,eg],hcell 0 _ rfl,hcell 1 _ rfl,hcell 2 _ rfl,hcell 3 _ rfl,hcell 4 _ rfl⟩
theorem fX.shape {w:World} {v:Value} {L:yB W11} (h:fX w v L):∃ A c,v=.slice A L.length c:=by
 obtain ⟨A,c,e,_⟩:=h
 exact ⟨A,c,e⟩




structure FP (w:World) (B:Nat) (s:ByteArray) (x:W11) (n:Nat):Prop where
 lt:B<w.heap.size
 c0:w.cell? ⟨B,0,none⟩=some (.string s)
 c1:w.cell? ⟨B,1,none⟩=some (.string x.hs)
 c2:w.cell? ⟨B,2,none⟩=some (.string x.ml)
 c3:w.cell? ⟨B,3,none⟩=some (.bool x.dis)
 c4:w.cell? ⟨B,4,none⟩=some (.slice x.ga n x.gc)
theorem FP.of_heap {w W:World} {B n:Nat} {s:ByteArray} {x:W11} (hx:FP w B s x n) (he:W.heap[B]? = w.heap[B]?):FP W B s x n:=by
 have hB:=hx.lt
 have hc:∀ i,W.cell? ⟨B,i,none⟩=w.cell? ⟨B,i,none⟩:=fun i=>World.cell?_of_block he
 refine ⟨?_,(hc 0).trans hx.c0,(hc 1).trans hx.c1,(hc 2).trans hx.c2,(hc 3).trans hx.c3,(hc 4).trans hx.c4⟩
 rw [Array.getElem?_eq_getElem hB] at he
 exact (Array.getElem?_eq_some_iff.1 he).1
theorem FP.below_at {w W:World} {B m:Nat} {s:ByteArray} {x:W11} (hx:FP w B s x m) {n:Nat} (hn:B<n) (hb:Below n w W):FP W B s x m:=hx.of_heap (hb.block B hn)





end Go.Proofs.YthmomkjingcbiaaGreatDoor
namespace Go.Proofs.YthmomkjingcbiaaGreatDoor
open Go.RowKit Go.Maps
set_option linter.unusedSectionVars false

theorem uX {w:World} {b1 b2 s1 s2 n1 n2:Nat} {e1 e2:TypeId} {v1 v2:Value} {xs1 xs2:List Value} (h1:w.ownsRow b1 e1 s1 v1 n1 xs1) (h2:w.ownsRow b2 e2 s2 v2 n2 xs2) (he:e1≠e2):v1.ownBlock=none∨v1.ownBlock≠v2.ownBlock:=by
  rcases h1.2 with ⟨rfl,_⟩ | ⟨g,cap,cur,rfl,_,hg,_⟩
  · exact .inl rfl
  · rcases h2.2 with ⟨rfl,_⟩ | ⟨g2,cap2,cur2,rfl,_,hg2,_⟩
    · exact .inr (by simp [Value.ownBlock])
    · refine .inr fun e=>?_
      have:g=g2:=by simpa [Value.ownBlock] using e
      subst this
      rw [hg] at hg2
      injection hg2 with h
      injection h with _ h
      exact he h

def Vk (b:Nat) (w:World) (R:yB W11):Prop:=∀ p∈R,w.ownsRow b 9 1 (.slice p.2.ga p.2.gs.length p.2.gc) p.2.gs.length (p.2.gs.map encStr)
def YX (R:yB W11):jk:=R.map fun p=>(p.1,p.2.u)
def JC (b:Nat) (R:yB W11) (w:World) (v:Value):Prop:=w.ownsRow b 47 5 v R.length (R.flatMap UM)∧Vk b w R
section
variable {w w':World} {b:Nat} {R:yB W11} {v:Value}
theorem Vk.later (h:Vk b w R) (hb:Below w.heap.size w w'):Vk b w' R:=fun p hp=>zP (h p hp) hb
theorem Vk.keeps (h:Vk b w R) (hk:yq w w'):Vk b w' R:=fun p hp=>vK (h p hp) hk (by decide) (by decide) (by decide)
theorem Vk.low (h:Vk b w R) {a:Nat} (ha:a≤b):Vk a w R:=fun p hp=>zx (h p hp) ha
theorem JC.later (h:JC b R w v) (hb:Below w.heap.size w w'):JC b R w' v:=⟨zP h.1 hb,h.2.later hb⟩
theorem JC.keeps (h:JC b R w v) (hk:yq w w'):JC b R w' v:=⟨vK h.1 hk (by decide) (by decide) (by decide),h.2.keeps hk⟩
theorem JC.low (h:JC b R w v) {a:Nat} (ha:a≤b):JC a R w v:=⟨zx h.1 ha,h.2.low ha⟩
theorem JC.rw (h:JC b R w v):JB R w v:=JB.of_own h.1
theorem JC.nil (b:Nat) (w:World):JC b [] w (.slice none 0 0):=⟨World.ownsRow_nil _ _ _ _,(fun _ h=>nomatch h)⟩
end

section
variable [Fr11] {w0 w:World} {D P M G:Nat} {A:zW} {L:zq} {S:zw} {k:Nat}
set_option maxRecDepth 100000 in
theorem U9 (ho:zH w0 w D P M G A L S) (hg:ya A L S k):Calls Tryz.prog 45 #[.pointer (some ⟨D,0,none⟩)] w fun e w'=>∃ v R,e=.returned v∧JC w.heap.size R w' v∧YX R=zM A L S∧Below w.heap.size w w':=by
  have HN:=z8 (Yq ho hg.rise hg.few)
  have HT:Hid (∀ W n,Below w.heap.size w W→n.size≤9223372036854775807→Calls Tryz.prog 54 #[.pointer (some ⟨D,0,none⟩),.string n] W fun e w'=>∃ v,e=.returned v∧Xm A L S n w w' v∧Below W.heap.size W w'):=fun W n hb hn =>
    (Vw n (ho.later hb) hg.grp hn).mono fun e w' ⟨v,he,ht,hb'⟩=>⟨v,he,ht.low hb,hb'⟩
  have HG:=z8 hg
  have hfew:=hg.few
  clear ho hg
  obtain ⟨i0,hi,hz0,hz1,hz2⟩:=info_parts fm
  obtain ⟨n,hn⟩:∃ n,n=A.length:=⟨_,rfl⟩
  have HLN:Hid (A.length=n):=hn.symm
  rw [← hn] at hfew
  clear hn
  go_enter Tryz.func45,Tryz.ntmps45
  go_wp2_with fail
  with_reducible refine HN.out.mono ?_
  rintro e w1 ⟨v,rfl,hrow,hb⟩
  rw [yJ,HLN.out] at hrow
  have hlen:(ze A).length=n:=by rw [yJ]; exact HLN.out
  obtain ⟨AA,c,rfl⟩:∃ AA c,v=.slice AA n c:=by
    have:=uD (ls:=ze A) (by rw [hlen]; exact hrow)
    rwa [hlen] at this
  have HRW:=z8 hrow
  have HB:=z8 hb
  have HLE:=z8 hlen
  clear hb hrow HN hlen
  go_wp2
  go_loopg [3,5,9] n (fun gg s3 _ s9 wr=>∃ k:Nat,k≤n∧n - k≤gg∧s9=.int .i64 k∧Hid (Below w.heap.size w wr)∧Hid (wr.ownsRow w.heap.size 9 1 (.slice AA n c) n ((ze A).map encStr))∧∃ R:yB W11,R.length=k∧Hid (YX R=(zM A L S).take k)∧Hid (wr.ownsRow w.heap.size 47 5 s3 k (R.flatMap UM))∧Hid (Vk w.heap.size wr R))
  case atStart=>exact ⟨0,Nat.zero_le _,by omega,rfl,HB,HRW,[],rfl,rfl,World.ownsRow_nil _ _ _ _,(fun _ h=>nomatch h)⟩
  case round =>
    obtain ⟨k,hk,hg,rfl,HW,HR2,R,hRl,HPL,HU,HGS⟩:=hrel
    by_cases hlt:k<n
    · have hltz:(k:Int)<(n:Int):=by omega
      have hkl:k<A.length:=by have:=HLN.out; omega
      have hr2:=HR2.out
      have hle:=HLE.out
      obtain ⟨g,cx,e1,hcell⟩:=Ja (ls:=ze A) (by rw [hle]; exact hr2) (zb.refl (fun _=>False) wr) (fun _ _ _ _ _ _ f=>f) (k:=k) (by rw [hle]; exact hlt)
      injection e1 with e1 e2 e3
      subst e1
      subst e3
      clear e2
      have hnm:(ze A)[k]'(by rw [hle]; exact hlt)=A[k].1:=by simp [ze]
      rw [hnm] at hcell
      have hna:A[k]∈A:=List.getElem_mem hkl
      have hsz:(yT A[k].1).size≤9223372036854775807:=by
        rw [jv]
        exact Nat.le_trans (qv (HG.out.nm _ hna).1) (by decide)
      have HTK:=z8 (HT.out wr (yT A[k].1) HW.out hsz)
      have hgk:qz A A[k].1=some A[k].2:=(yH HG.out.rise).2 hna
      have HTE:Hid (vt L S A[k].1 A[k].2=⟨hasA A A[k].1,xp L A[k].1,disA A A[k].1,ud S A[k].1⟩):=by
        show _=_
        unfold vt hasA disA
        rw [hgk]
      have HTT:Hid ((zM A L S).take (k+1)=(zM A L S).take k++[(A[k].1,vt L S A[k].1 A[k].2)]):=by
        have hkt:k<(zM A L S).length:=by rw [jy]; exact hkl
        show _=_
        rw [List.take_succ_eq_append_getElem hkt]
        congr 1
        simp [zM]
      have HNM:Hid ((yT A[k].1).data.toList=A[k].1):=yx _
      generalize hkn:A[k].1=kn at *
      generalize hsn:yT kn=sn at *
      have HSN:=z8 hsn
      clear hnm hr2 hle hsz hna hgk hkn hsn
      go_wp2_with fail
      with_reducible refine HTK.out.mono ?_
      rintro e w2 ⟨v,rfl,⟨ga,gc,rfl,hgr⟩,hb⟩
      rw [HNM.out] at hgr ⊢
      have HGR:=z8 hgr
      have HU2:=z8 (zP HU.out hb)
      have HR3:=z8 (zP HR2.out hb)
      have HGS2:=z8 (HGS.out.later hb)
      have HB2:=z8 (z7 HW.out hb)
      clear hgr hb HTK hcell
      generalize hha:yT (hasA A kn)=sh at *
      have HHA:Hid (sh.data.toList=hasA A kn):=by rw [← hha]; exact yx _
      generalize hhm:yT (xp L kn)=sm at *
      have HHM:Hid (sm.data.toList=xp L kn):=by rw [← hhm]; exact yx _
      clear hha hhm
      generalize hdd:disA A kn=dd at *
      generalize hgs:ud S kn=gs at *
      generalize hgl:gs.length=gl at *
      have HGL:=z8 hgl
      clear hdd hgs hgl
      have hrk:k≤12:=by omega
      go_wp2_with (first
        | (at_builtin; refine wpList_append_own _ rfl _ _ 57 rfl w.heap.size 47 i0 (.agg #[.string ⟨#[]⟩,.string ⟨#[]⟩,.string ⟨#[]⟩,.bool false,.slice none 0 0]) 5 80 Tryz.underlying57 hi hz0 hz1 hz2 rfl (by decide) _ _ _ rfl (HU2.out.alloc _) ⟨w2.heap.size,0,none⟩ 1 1 [.string sn,.string sh,.string sm,.bool dd,.slice ga gl gc] rfl rfl
            (fun j u hu=>by rw [Addr.add_lit,Nat.zero_add,World.cell?_alloc_at _ _ _ _ rfl]; simpa using hu) (by simp [Value.oneCell']) (by unfold maxLen; omega) (by omega) (by have:=HB2.out.size; simp; omega) ?_
           intro v' w3 hown' hgrow _
           have HO:=z8 hown'
           have HGW:=z8 hgrow
           clear hown' hgrow)
        | fail)
      go_roundg (n - (k+1))
      case measure=>omega
      case rel =>
        refine ⟨k+1,by omega,by omega,by go_num,(show Hid _ from ?_),(show Hid _ from ?_),R++[(kn,⟨sh,sm,dd,ga,gs,gc⟩)],by rw [List.length_append,hRl]; rfl,(show Hid _ from ?_),(show Hid _ from ?_),(show Hid _ from ?_)⟩
        · exact (z7 HB2.out (za (Below.refl _ _) _)).grown HGW.out (by have:=HB2.out.size; simp; omega) (fun j hj=>(HU2.out.lt j hj).1)
        · exact (HR3.out.alloc _).kept HGW.out (uX HR3.out HU2.out (by decide))
        · show YX _=_
          rw [HTT.out,HTE.out,← HPL.out]
          unfold YX
          rw [List.map_append]
          show _++[(kn,W11.u ⟨sh,sm,dd,ga,gs,gc⟩)]=_
          unfold W11.u
          rw [HHA.out,HHM.out]
        · rw [List.flatMap_append]
          have ho:=HO.out
          have e:[(kn,(⟨sh,sm,dd,ga,gs,gc⟩:W11))].flatMap UM=[.string sn,.string sh,.string sm,.bool dd,.slice ga gl gc]:=by
            simp [UM,HSN.out,HGL.out]
          rw [e]
          exact ho
        · intro p hp
          rcases List.mem_append.1 hp with hp | hp
          · have h:=HGS2.out p hp
            exact (h.alloc _).kept HGW.out (uX h HU2.out (by decide))
          · obtain rfl:=List.mem_singleton.1 hp
            have h:=HGR.out
            show World.ownsRow _ _ _ _ (.slice ga gs.length gc) gs.length (gs.map encStr)
            rw [HGL.out]
            exact (h.alloc _).kept HGW.out (uX h HU2.out (by decide))
    · have hltz:¬ (k:Int)<(n:Int):=by omega
      obtain rfl:k=n:=by omega
      go_wp2
      go_ret
      have hp:=HPL.out
      have hu:=HU.out
      rw [← hRl] at hu
      rw [List.take_of_length_le (by rw [jy,HLN.out]; exact Nat.le_refl _)] at hp
      exact ⟨_,rfl,R,⟨hu,HGS.out⟩,hp,HW.out⟩
end
end Go.Proofs.YthmomkjingcbiaaGreatDoor
namespace Go.Proofs.YthmomkjingcbiaaGreatDoor
open Go.RowKit Go.Maps

abbrev ua:TypeId:=59
def jp (W:World) (b:Nat) (v1 v2:Value):Prop:=W.heap[b]? = some (.cells #[v1,v2] 59 (0,0))
section
variable {W W':World} {b:Nat} {v1 v2:Value}
theorem jp.c0 (h:jp W b v1 v2):W.cell? ⟨b,0,none⟩=some v1:=by simp [World.cell?,show W.heap[b]? = _ from h]
theorem jp.c1 (h:jp W b v1 v2):W.cell? ⟨b,1,none⟩=some v2:=by simp [World.cell?,show W.heap[b]? = _ from h]
theorem jp.f0 (h:jp W b v1 v2):W.frozen? ⟨b,0,none⟩=false:=by simp [World.frozen?,show W.heap[b]? = _ from h]
theorem jp.f1 (h:jp W b v1 v2):W.frozen? ⟨b,1,none⟩=false:=by simp [World.frozen?,show W.heap[b]? = _ from h]
theorem jp.lt (h:jp W b v1 v2):b<W.heap.size:=(Array.getElem?_eq_some_iff.1 h).1
theorem jp.later (h:jp W b v1 v2) (hb:Below W.heap.size W W'):jp W' b v1 v2:=(hb.block b h.lt).trans h
theorem jp.turns {S:Nat→Prop} (h:jp W b v1 v2) (ht:zb S W W') (hS:¬ S b):jp W' b v1 v2:=(ht.block b h.lt hS).trans h
theorem jp.q11 (h:jp W b v1 v2):W.cell? ⟨b,0,none⟩=some v1∧W.cell? ⟨b,1,none⟩=some v2∧W.frozen? ⟨b,0,none⟩=false∧W.frozen? ⟨b,1,none⟩=false:=⟨h.c0,h.c1,h.f0,h.f1⟩
theorem alloc_at11 {W:World} {o:Obj} {n:Nat} (h:W.heap.size=n):(W.alloc o).heap[n]? = some o:=by
 subst h
 exact (MapKept.heap_alloc W _).1
theorem bx11_new (W:World) (v1 v2:Value):jp (W.alloc (.cells #[v1,v2] 59)) W.heap.size v1 v2:=(MapKept.heap_alloc W _).1
end
def jo (W w':World):Prop:=∀ (k:Nat) (c:Array Value) (T:TypeId) (fr:Nat×Nat),W.heap[k]? = some (.cells c T fr)→T≠ua→w'.heap[k]? = some (.cells c T fr)
theorem jo.trans {a b c:World} (h:jo a b) (k:jo b c):jo a c:=fun i x T fr hi hT=>k i x T fr (h i x T fr hi hT) hT
theorem jo.of_below {W w':World} (hb:Below W.heap.size W w'):jo W w':=fun k _ _ _ h _=>(hb.block k (Array.getElem?_eq_some_iff.1 h).1).trans h
theorem jp.keep {W:World} {b:Nat} {v1 v2:Value} (h:jp W b v1 v2) (i:Nat) (x:Value):jo W (W.setCell ⟨b,i,none⟩ x):=fun k c T fr hk hT=>by
 refine (Below.heap_setCell _ _ _ _ (fun e=>hT ?_)).trans hk
 have e':k=b:=e
 rw [e',show W.heap[b]? = _ from h] at hk
 injection hk with hk
 injection hk with _ hk
 exact hk.symm
theorem jp.set0 {W:World} {b:Nat} {v1 v2:Value} (h:jp W b v1 v2) (x:Value):jp (W.setCell ⟨b,0,none⟩ x) b x v2:=by
 have h':W.heap[b]? = some (.cells #[v1,v2] ua (0,0)):=h
 have hl:=h.lt
 have:=h'
 rw [Array.getElem?_eq_getElem hl] at this
 injection this with this
 show (W.setCell ⟨b,0,none⟩ x).heap[b]? = _
 simp [World.setCell,hl,Array.getElem_modify,this]
theorem jp.set1 {W:World} {b:Nat} {v1 v2:Value} (h:jp W b v1 v2) (x:Value):jp (W.setCell ⟨b,1,none⟩ x) b v1 x:=by
 have h':W.heap[b]? = some (.cells #[v1,v2] ua (0,0)):=h
 have hl:=h.lt
 have:=h'
 rw [Array.getElem?_eq_getElem hl] at this
 injection this with this
 show (W.setCell ⟨b,1,none⟩ x).heap[b]? = _
 simp [World.setCell,hl,Array.getElem_modify,this]
theorem jp.other {W:World} {b c i:Nat} {v1 v2:Value} (h:jp W b v1 v2) (hne:b≠c) (x:Value):jp (W.setCell ⟨c,i,none⟩ x) b v1 v2:=(Below.heap_setCell _ _ _ _ hne).trans h



theorem Vk.put {b:Nat} {w:World} {R:yB W11} (h:Vk b w R) (n:List UInt8) (x:W11) (hx:w.ownsRow b 9 1 (.slice x.ga x.gs.length x.gc) x.gs.length (x.gs.map encStr)):Vk b w (xA R n x):=fun p hp=>by
 rcases yG.1 hp with rfl | ⟨hp,_⟩
 ·
  exact hx
 ·
  exact h p hp
theorem Vk.del {b:Nat} {w:World} {R:yB W11} (h:Vk b w R) (n:List UInt8):Vk b w (V8 R n):=fun p hp=>h p (qw.1 hp).1
theorem Vk.get {b:Nat} {w:World} {R:yB W11} (h:Vk b w R) (hr:ye R) {n:List UInt8} {x:W11} (hx:qz R n=some x):NmR w (.slice x.ga x.gs.length x.gc) x.gs:=zx (h (n,x) ((yH hr).1 hx)) (Nat.zero_le _)

theorem jj {W W':World} {B:Nat} {a b c d e:Value} (h:xq W B a b c d e) (hb:Below W.heap.size W W'):xq W' B a b c d e:=(hb.block B h.lt).trans h



end Go.Proofs.YthmomkjingcbiaaGreatDoor
namespace Go.Proofs.YthmomkjingcbiaaGreatDoor
open Go.RowKit Go.Maps Go.Sort Go.Shelf
set_option linter.unusedVariables false

def xP (G:List ByteArray):List (List UInt8):=G.map (·.data.toList)
set_option maxRecDepth 100000 in
theorem Uo (A:Option Addr) (c n:Nat) (G:List ByteArray) (s:ByteArray) (w:World) (hn:n=G.length) (h12:n≤1000) (hu:RdS w A G) :
  Calls Tryz.prog 160 #[.slice A n c,.string s] w (yt (qg (xP G) s.data.toList) w):=by
 have HA:=z8 hu
 have HL:=z8 hn
 clear hu hn
 obtain ⟨r,hr⟩:∃ r,r=qg (xP G) s.data.toList:=⟨_,rfl⟩
 rw [← hr]
 have HRS:=z8 hr
 clear hr
 go_enter Tryz.func160,Tryz.ntmps160
 go_wp2
 go_loopg [6,9] n (fun gg _ s9 wr=>∃ k:Nat,k≤n∧n - k≤gg∧s9=.int .i64 k∧Hid (Below w.heap.size w wr)∧Hid (∀ j (h:j<G.length),j<k→G[j].data.toList≠s.data.toList))
 case atStart=>exact ⟨0,Nat.zero_le _,by omega,rfl,Below.refl _ _,fun j _ hj=>absurd hj (Nat.not_lt_zero _)⟩
 case round =>
  obtain ⟨k,hk,hg,rfl,HW,A0⟩:=hrel
  by_cases hlt:k<n
  ·
   have hltz:(k:Int)<(n:Int):=by omega
   have hkl:k<G.length:=HL.out ▸ hlt
   obtain ⟨b,off,rfl,hb,hc⟩:=(HA.out.below HW.out) (by intro e; rw [e] at hkl; exact absurd hkl (Nat.not_lt_zero _))
   have x0:=hc k hkl
   clear hc hb
   have HX:Hid (G[k].data.toList≠s.data.toList→∀ j (h:j<G.length),j<k+1→G[j].data.toList≠s.data.toList):=fun hq j h hj=>by
    by_cases e:j=k
    ·
     subst e; exact hq
    ·
     exact A0.out j h (by omega)
   have HGE:Hid (G[k].data.toList=s.data.toList→r=true):=fun he=>HRS.out.trans (qy.2 (List.mem_map.2 ⟨G[k],List.getElem_mem hkl,he⟩))
   clear A0
   generalize G[k]=nm at *
   by_cases he:nm.data.toList=s.data.toList
   ·
    obtain ⟨a1,a2⟩:=eqs10 he
    have hr:=HGE.out he
    clear he HX HGE HRS
    subst hr
    go_wp2
    go_ret
    exact ⟨rfl,HW.out⟩
   ·
    obtain ⟨a1,a2⟩:=nes10 he
    have HY:=z8 (HX.out he)
    clear he HX HGE
    go_wp2
    go_roundg (n - (k+1))
    case measure=>omega
    case rel=>exact ⟨k+1,by omega,by omega,by go_num,HW,HY⟩
  ·
   have hltz:¬ (k:Int)<(n:Int):=by omega
   obtain rfl:k=n:=by omega
   have HGE:Hid (r=false):=HRS.out.trans (Fp.2 fun hm=>by
    obtain ⟨x,hx,e⟩:=List.mem_map.1 hm
    obtain ⟨j,hj,rfl⟩:=List.getElem_of_mem hx
    exact A0.out j hj (by have:=HL.out; omega) e)
   clear A0
   go_wp2
   go_ret
   exact ⟨by rw [HGE.out]; rfl,HW.out⟩

def yQ (G:List ByteArray) (pre:List Us) (u:Us):Int :=
 if u.gs.all (fun g=>qg (xP G) g.data.toList) then (if pre.any (fun v=>!(u.ml.data.toList == []) && (u.ml.data.toList == v.ml.data.toList)) then 9 else 0) else 8
def yc (G:List ByteArray):List Us→List Us→Int
 | _,[]=>0
 | pre,u::r=>if yQ G pre u=0 then yc G (pre++[u]) r else yQ G pre u
def yU (l:List Us) (G:List ByteArray):Int :=
 if uF l=0 then (if zK G then (if zB G then (if G.length≤6 then yc G [] l else 7) else 9) else 10) else uF l
theorem YT {G:List ByteArray} {l:List Us} {k:Nat} (hk:k<l.length):yc G (l.take k) (l.drop k)=if yQ G (l.take k) l[k]=0 then yc G (l.take (k+1)) (l.drop (k+1)) else yQ G (l.take k) l[k]:=by
 rw [List.drop_eq_getElem_cons hk,List.take_succ_eq_append_getElem hk]
 rfl

set_option maxRecDepth 100000 in
theorem VL (A A2:Option Addr) (c c2 n m:Nat) (l:List Us) (G:List ByteArray) (w:World) (hl:n=l.length) (hn:n≤1000) (hcap:n≤c) (hc63:c≤9223372036854775807) (hr:uz w A l) (ho:∀ u∈l,u.Ok w)
  (hf:∀ u∈l,u.nm.size≤1000∧u.hs.size≤1000∧u.ml.size≤1000∧(∀ g∈u.gs,g.size≤1000)) (hm:m=G.length) (hm1:m≤1000) (hg:RdS w A2 G) (hgf:∀ g∈G,g.size≤1000) :
  Calls Tryz.prog 90 #[.slice A n c,.slice A2 m c2] w (yi (yU l G) w):=by
 have hnot:∀ (x:Bool) (w:World),(Op.unary .not (.bool x)).run Tryz.prog w=.ok (.bool (!x)) w:=fun _ _=>rfl
 have HE:=z8 (VM A c n l w hl hn hr ho hf)
 have HNA:Hid (∀ j (hj:j<G.length) W,Calls Tryz.prog 186 #[.string G[j]] W (fQ (zm G[j].data.toList) W)):=fun j hj W=>vI G[j] W (hgf _ (List.getElem_mem hj))
 have HHS:Hid (∀ s W,Below w.heap.size w W→Calls Tryz.prog 160 #[.slice A2 m c2,.string s] W (yt (qg (xP G) s.data.toList) W)):=fun s W hb=>Uo A2 c2 m G s W hm hm1 (hg.below hb)
 have HR:=z8 hr
 have HL:=z8 hl
 have HO:=z8 ho
 have HM:=z8 hm
 have HG:=z8 hg
 clear hr hl ho hf hm hg hgf
 obtain ⟨r,hr⟩:∃ r,r=yU l G:=⟨_,rfl⟩
 rw [← hr]
 have HRR:=z8 hr
 clear hr
 go_enter Tryz.func90,Tryz.ntmps90
 have HRE:Hid (uF l≠0→r=uF l):=fun h=>by rw [HRR.out]; unfold yU; rw [if_neg h]
 have HR0:Hid (uF l=0→r=if zK G then (if zB G then (if G.length≤6 then yc G [] l else 7) else 9) else 10):=fun h=>by rw [HRR.out]; unfold yU; rw [if_pos h]
 clear HRR
 generalize uF l=e0 at *
 go_wp2_with fail
 with_reducible refine HE.out.mono ?_
 rintro e w1 ⟨rfl,hb⟩
 have HB1:=z8 hb
 clear hb HE
 by_cases h0:e0=0
 case neg =>
  have hrr:=HRE.out h0
  have z1:(e0 != 0)=true:=by simpa using h0
  have z2:(e0 == 0)=false:=by simpa using h0
  clear HRE HR0
  subst hrr
  go_wp2
  go_ret
  exact ⟨rfl,HB1.out⟩
 subst h0
 have hr1:=HR0.out rfl
 have HR1:=z8 hr1
 clear HRE HR0 hr1
 go_wp2
 go_loopg [7,23] m (fun gg _ s23 wr=>∃ k:Nat,k≤m∧m - k≤gg∧s23=.int .i64 k∧Hid (Below w.heap.size w wr)∧Hid (∀ j (h:j<G.length),j<k→zm G[j].data.toList=true))
 case atStart=>exact ⟨0,Nat.zero_le _,by omega,rfl,HB1.out,fun j _ hj=>absurd hj (Nat.not_lt_zero _)⟩
 case round =>
  obtain ⟨k,hk,hgg,rfl,HW,A0⟩:=hrel
  by_cases hlt:k<m
  ·
   have hltz:(k:Int)<(m:Int):=by omega
   have hkl:k<G.length:=HM.out ▸ hlt
   obtain ⟨b,off,rfl,hb,hc⟩:=(HG.out.below HW.out) (by intro e; rw [e] at hkl; exact absurd hkl (Nat.not_lt_zero _))
   have x0:=hc k hkl
   clear hc hb
   have HX:Hid (zm G[k].data.toList=true→∀ j (h:j<G.length),j<k+1→zm G[j].data.toList=true):=fun hq j h hj=>by
    by_cases e:j=k
    ·
     subst e; exact hq
    ·
     exact A0.out j h (by omega)
   have HF:Hid (zm G[k].data.toList=false→r=10):=fun hf=>by
    have:zK G=false:=List.all_eq_false.2 ⟨G[k],List.getElem_mem hkl,by rw [hf]; simp⟩
    rw [HR1.out,this]; rfl
   have HNK:=z8 (fun W=>HNA.out k hkl W)
   clear A0
   generalize zm G[k].data.toList=bn at *
   generalize G[k]=nm at *
   cases bn with
   | true =>
    have HY:=z8 (HX.out rfl)
    clear HX HF
    go_wp2_with fail
    with_reducible refine (HNK.out wr).mono ?_
    rintro e w2 ⟨rfl,rfl⟩
    go_wp2
    go_roundg (m - (k+1))
    case measure=>omega
    case rel=>exact ⟨k+1,by omega,by omega,by go_num,HW,HY⟩
   | false =>
    have hrr:=HF.out rfl
    clear HX HF HR1
    subst hrr
    go_wp2_with fail
    with_reducible refine (HNK.out wr).mono ?_
    rintro e w2 ⟨rfl,rfl⟩
    go_wp2
    go_ret
    exact ⟨rfl,HW.out⟩
  ·
   have hltz:¬ (k:Int)<(m:Int):=by omega
   obtain rfl:k=m:=by omega
   have hna:zK G=true:=by
    unfold zK
    rw [List.all_eq_true]
    intro x hx
    obtain ⟨j,hj,rfl⟩:=List.getElem_of_mem hx
    exact A0.out j hj (by have:=HM.out; omega)
   have HR2:Hid (r=if zB G then (if G.length≤6 then yc G [] l else 7) else 9):=by
    show _=_
    rw [HR1.out,hna,if_pos rfl]
   clear A0 HR1 hna HNA
   go_wp2
   go_loopg [8,9,33] k (fun gg _ _ s33 w9=>∃ j:Nat,j≤k∧k - j≤gg∧s33=.int .i64 j∧Hid (Below w.heap.size w w9)∧Hid (∀ i (h:i+1<G.length),i+1<j→zv G[i] G[i+1]=true))
   case atStart=>exact ⟨0,Nat.zero_le _,by omega,rfl,HW.out,fun i _ hi=>absurd hi (by omega)⟩
   case round =>
    clear HW
    obtain ⟨j,hj,hgj,rfl,HW,HT⟩:=hrel
    by_cases hjt:j<k
    ·
     have hjz:(j:Int)<(k:Int):=by omega
     have hjl:j<G.length:=HM.out ▸ hjt
     obtain ⟨b,off,rfl,hb,hc⟩:=(HG.out.below HW.out) (by intro e; rw [e] at hjl; exact absurd hjl (Nat.not_lt_zero _))
     have x0:=hc j hjl
     by_cases hj0:j=0
     ·
      have HY:Hid (∀ i (h:i+1<G.length),i+1<j+1→zv G[i] G[i+1]=true):=fun i h hi=>absurd hi (by omega)
      have hz0:¬ (j:Int) > 0:=by omega
      have hz0':¬ 0<(j:Int):=by omega
      have hkn:¬ 0<j:=by omega
      have hkd:decide (0<j)=false:=decide_eq_false hkn
      clear hc hb HT hj0
      generalize G[j]=nm at *
      go_wp2
      go_roundg (k - (j+1))
      case measure=>omega
      case rel=>exact ⟨j+1,by omega,by omega,by go_num,HW,HY⟩
     ·
      have hjl':j - 1<G.length:=by omega
      have hz0:(j:Int) > 0:=by omega
      have hjp:0<j:=by omega
      have hjd:decide (0<j)=true:=decide_eq_true hjp
      have zk:(j:Int) - 1=((j - 1:Nat):Int):=by omega
      have hwr:IntKind.i64.wrap ((j - 1:Nat):Int)=((j - 1:Nat):Int):=IntWalk.i64_in _ (by omega)
      have z1:((j - 1:Nat):Int)<(k:Int):=by omega
      have d0:=hc (j - 1) hjl'
      have hle:=Uh G[j - 1] G[j]
      have HX:Hid (zv G[j - 1] G[j]=true→∀ i (h:i+1<G.length),i+1<j+1→zv G[i] G[i+1]=true):=fun hq i h hi=>by
       by_cases e:i=j - 1
       ·
        subst e
        have:G[j - 1+1]=G[j]:=by congr 1; omega
        rw [this]; exact hq
       ·
        exact HT.out i h (by omega)
      have HF:Hid (zv G[j - 1] G[j]=false→r=9):=fun hf=>by
       have:zB G=false:=xJ G (j - 1) (by omega) (by
        have:G[j - 1+1]=G[j]:=by congr 1; omega
        rw [this]; exact hf)
       rw [HR2.out,this]; rfl
      clear HT hc
      generalize zv G[j - 1] G[j]=bb at *
      generalize G[j]=nm at *
      generalize G[j - 1]=y at *
      cases bb with
      | true =>
       have HY:=z8 (HX.out rfl)
       clear HX HF
       go_wp2
       go_roundg (k - (j+1))
       case measure=>omega
       case rel=>exact ⟨j+1,by omega,by omega,by go_num,HW,HY⟩
      | false =>
       have hrr:=HF.out rfl
       clear HX HF HR2
       subst hrr
       go_wp2
       go_ret
       exact ⟨rfl,HW.out⟩
    ·
     have hjz:¬ (j:Int)<(k:Int):=by omega
     have hri:zB G=true:=xK G (fun i h=>HT.out i h (by have:=HM.out; omega))
     have HR3:Hid (r=if k≤6 then yc G [] l else 7):=by
      show _=_
      rw [HR2.out,hri,if_pos rfl,← HM.out]
     clear HT HR2 hri
     by_cases h6:k≤6
     case neg =>
      have z6:(k:Int) > 6:=by omega
      have hrr:r=7:=by rw [HR3.out,if_neg h6]
      clear HR3
      subst hrr
      go_wp2
      go_ret
      exact ⟨rfl,HW.out⟩
     have z6:¬ (k:Int) > 6:=by omega
     have HR4:Hid (r=yc G [] l):=by
      show _=_
      rw [HR3.out,if_pos h6]
     clear HR3
     go_wp2
     go_loopg [10,11,13,15,55,63,76] n (fun gg _ _ _ _ s55 _ _ w9=>∃ i:Nat,i≤n∧n - i≤gg∧s55=.int .i64 i∧Hid (Below w.heap.size w w9)∧Hid (r=yc G (l.take i) (l.drop i)))
     case atStart=>exact ⟨0,Nat.zero_le _,by omega,rfl,HW.out,HR4.out⟩
     case round =>
      clear HW HR4
      obtain ⟨i,hi,hgi,rfl,HW,HRI⟩:=hrel
      by_cases hit:i<n
      ·
       have hiz:(i:Int)<(n:Int):=by omega
       have hil:i<l.length:=HL.out ▸ hit
       obtain ⟨b,off,rfl,hb,hc⟩:=(HR.out.later HW.out) (by intro e; rw [e] at hil; exact absurd hil (Nat.not_lt_zero _))
       have c0:wr.cell? ⟨b,off+i * 5,none⟩=some (.string l[i].nm):=hc i hil 0 _ rfl
       have c1:wr.cell? ⟨b,off+i * 5+1,none⟩=some (.string l[i].hs):=hc i hil 1 _ rfl
       have c2:wr.cell? ⟨b,off+i * 5+2,none⟩=some (.string l[i].ml):=hc i hil 2 _ rfl
       have c3:wr.cell? ⟨b,off+i * 5+3,none⟩=some (.bool l[i].dis):=hc i hil 3 _ rfl
       have c4:wr.cell? ⟨b,off+i * 5+4,none⟩=some (.slice l[i].ga l[i].gs.length l[i].gc):=hc i hil 4 _ rfl
       have hb1:=za (Below.refl wr.heap.size wr) (.cells #[.string l[i].nm,.string l[i].hs,.string l[i].ml,.bool l[i].dis,.slice l[i].ga l[i].gs.length l[i].gc] 47)
       have HB2:=z8 (z7 HW.out hb1)
       have HU:Hid (xq (wr.alloc (.cells #[.string l[i].nm,.string l[i].hs,.string l[i].ml,.bool l[i].dis,.slice l[i].ga l[i].gs.length l[i].gc] 47)) wr.heap.size (.string l[i].nm) (.string l[i].hs) (.string l[i].ml) (.bool l[i].dis) (.slice l[i].ga l[i].gs.length l[i].gc)):=heap_alloc_new wr _
       have HRD:Hid (RdS w l[i].ga l[i].gs):=(HO.out _ (List.getElem_mem hil)).rd
       have HGL:Hid (l[i].gs.length≤9223372036854775807):=Nat.le_trans (HO.out _ (List.getElem_mem hil)).len (HO.out _ (List.getElem_mem hil)).cap
       have HST:Hid (r=if yQ G (l.take i) l[i]=0 then yc G (l.take (i+1)) (l.drop (i+1)) else yQ G (l.take i) l[i]):=by
        show _=_
        rw [HRI.out,YT hil]
       have HON:Hid (yQ G (l.take i) l[i]=if l[i].gs.all (fun g=>qg (xP G) g.data.toList) then (if (l.take i).any (fun v=>!(l[i].ml.data.toList == []) && (l[i].ml.data.toList == v.ml.data.toList)) then 9 else 0) else 8):=rfl
       clear hc hb hb1 HRI
       generalize yQ G (l.take i) l[i]=od at *
       generalize l[i].nm=nm at *
       generalize l[i].hs=hs at *
       generalize l[i].ml=ml at *
       generalize l[i].dis=dis at *
       generalize l[i].ga=ga at *
       generalize l[i].gs=gs at *
       generalize l[i].gc=gc at *
       obtain ⟨gl,hgl⟩:∃ x,x=gs.length:=⟨_,rfl⟩
       rw [← hgl] at HU HB2 HGL c4
       have HLG:=z8 hgl
       clear hgl
       have hgl63:=HGL.out
       have u4:_=some (.slice ga gl gc:Value):=HU.out.at_ 4
       go_wp2_with fail
       have HU9:=z8 HU.out
       go_wp2
       generalize wr.alloc (.cells #[.string nm,.string hs,.string ml,.bool dis,.slice ga gl gc] 47)=wa at *
       generalize wr.heap.size=Bu at *
       go_loopg [13,63] gl (fun gg _ s63 wx=>∃ t:Nat,t≤gl∧gl - t≤gg∧s63=.int .i64 t∧Hid (Below wa.heap.size wa wx)∧Hid (∀ x (h:x<gs.length),x<t→qg (xP G) gs[x].data.toList=true))
       case atStart=>exact ⟨0,Nat.zero_le _,by omega,rfl,Below.refl _ _,fun x _ hx=>absurd hx (Nat.not_lt_zero _)⟩
       case round =>
        obtain ⟨t,ht,hgt,rfl,HWX,HT⟩:=hrel
        by_cases htt:t<gl
        ·
         have htz:(t:Int)<(gl:Int):=by omega
         have htl:t<gs.length:=HLG.out ▸ htt
         have HBX:=z8 (z7 HB2.out HWX.out)
         obtain ⟨b2,off2,rfl,hb2,hc2⟩:=(HRD.out.below HBX.out) (by intro e; rw [e] at htl; exact absurd htl (Nat.not_lt_zero _))
         have y0:=hc2 t htl
         have HX:Hid (qg (xP G) gs[t].data.toList=true→∀ x (h:x<gs.length),x<t+1→qg (xP G) gs[x].data.toList=true):=fun hq x h hx=>by
          by_cases e:x=t
          ·
           subst e; exact hq
          ·
           exact HT.out x h (by omega)
         have HF:Hid (qg (xP G) gs[t].data.toList=false→r=8):=fun hf=>by
          have h1:gs.all (fun g=>qg (xP G) g.data.toList)=false:=List.all_eq_false.2 ⟨gs[t],List.getElem_mem htl,by rw [hf]; simp⟩
          have h2:od=8:=by rw [HON.out,h1]; rfl
          rw [HST.out,h2]; rfl
         have HHG:=z8 (HHS.out gs[t] wr HBX.out)
         clear hc2 hb2 HT
         generalize qg (xP G) gs[t].data.toList=bt at *
         generalize gs[t]=gn at *
         cases bt with
         | true =>
          have HY:=z8 (HX.out rfl)
          clear HX HF
          go_wp2_with fail
          with_reducible refine HHG.out.mono ?_
          rintro e w2 ⟨rfl,hb⟩
          have HB5:=z8 (z7 HWX.out hb)
          clear hb
          go_wp2
          go_roundg (gl - (t+1))
          case measure=>omega
          case rel=>exact ⟨t+1,by omega,by omega,by go_num,HB5,HY⟩
         | false =>
          have hrr:=HF.out rfl
          clear HX HF HST HON
          subst hrr
          go_wp2_with fail
          with_reducible refine HHG.out.mono ?_
          rintro e w2 ⟨rfl,hb⟩
          have HB5:=z8 (z7 HBX.out hb)
          clear hb
          go_wp2
          go_ret
          exact ⟨rfl,HB5.out⟩
        ·
         have htz:¬ (t:Int)<(gl:Int):=by omega
         have hal:gs.all (fun g=>qg (xP G) g.data.toList)=true:=by
          rw [List.all_eq_true]
          intro x hx
          obtain ⟨y,hy,rfl⟩:=List.getElem_of_mem hx
          exact HT.out y hy (by have:=HLG.out; omega)
         have HON2:Hid (od=if (l.take i).any (fun v=>!(ml.data.toList == []) && (ml.data.toList == v.ml.data.toList)) then 9 else 0):=by
          show _=_
          rw [HON.out,hal,if_pos rfl]
         have HBX:=z8 (z7 HB2.out HWX.out)
         have HUX:=z8 (jj HU9.out HWX.out)
         have hic:(i:Int)≤(c:Int):=by omega
         clear HT hal HON
         clear HWX HHS HRD
         obtain ⟨wi,hwi⟩:∃ wi,wi=wr:=⟨_,rfl⟩
         subst hwi
         go_wp2
         go_loopg [15,76] i (fun gg _ s76 wx=>∃ q:Nat,q≤i∧i - q≤gg∧s76=.int .i64 q∧Hid (Below wi.heap.size wi wx)∧Hid (∀ x (h:x<l.length),x<q→¬ (ml.data.toList≠[]∧ml.data.toList=l[x].ml.data.toList)))
         case atStart=>exact ⟨0,Nat.zero_le _,by omega,rfl,Below.refl _ _,fun x _ hx=>absurd hx (Nat.not_lt_zero _)⟩
         case round =>
          obtain ⟨q,hq,hgq,rfl,HWQ,HT⟩:=hrel
          by_cases hqt:q<i
          ·
           have hqz:(q:Int)<(i:Int):=by omega
           have hql:q<l.length:=by omega
           obtain ⟨b3,off3,e3,hb3,hc3⟩:=(HR.out.later (z7 HBX.out HWQ.out)) (by intro e; rw [e] at hql; exact absurd hql (Nat.not_lt_zero _))
           injection e3 with e3
           injection e3 with e3 e4
           subst e3 e4
           have d0:wr.cell? ⟨b,off+q * 5,none⟩=some (.string l[q].nm):=hc3 q hql 0 _ rfl
           have d1:wr.cell? ⟨b,off+q * 5+1,none⟩=some (.string l[q].hs):=hc3 q hql 1 _ rfl
           have d2:wr.cell? ⟨b,off+q * 5+2,none⟩=some (.string l[q].ml):=hc3 q hql 2 _ rfl
           have d3:wr.cell? ⟨b,off+q * 5+3,none⟩=some (.bool l[q].dis):=hc3 q hql 3 _ rfl
           have d4:wr.cell? ⟨b,off+q * 5+4,none⟩=some (.slice l[q].ga l[q].gs.length l[q].gc):=hc3 q hql 4 _ rfl
           have hbq:=za (Below.refl wr.heap.size wr) (.cells #[.string l[q].nm,.string l[q].hs,.string l[q].ml,.bool l[q].dis,.slice l[q].ga l[q].gs.length l[q].gc] 47)
           have HBQ:=z8 (z7 HWQ.out hbq)
           have hux:=jj (jj HUX.out HWQ.out) hbq
           have p2:_=some (.string ml:Value):=hux.at_ 2
           have lt1:=hux.lt
           have HX:Hid (¬ (ml.data.toList≠[]∧ml.data.toList=l[q].ml.data.toList)→∀ x (h:x<l.length),x<q+1→¬ (ml.data.toList≠[]∧ml.data.toList=l[x].ml.data.toList)):=fun hz x h hx=>by
            by_cases e:x=q
            ·
             subst e; exact hz
            ·
             exact HT.out x h (by omega)
           have HF:Hid (ml.data.toList≠[]∧ml.data.toList=l[q].ml.data.toList→r=9):=fun hz=>by
            have h1:(l.take i).any (fun v=>!(ml.data.toList == []) && (ml.data.toList == v.ml.data.toList))=true:=by
             rw [List.any_eq_true]
             refine ⟨l[q],List.mem_take_iff_getElem.2 ⟨q,by omega,rfl⟩,?_⟩
             show (!(ml.data.toList == []) && (ml.data.toList == l[q].ml.data.toList))=true
             rw [show (ml.data.toList == [])=false from beq_eq_false_iff_ne.2 hz.1,show (ml.data.toList == l[q].ml.data.toList)=true from beq_iff_eq.2 hz.2]
             rfl
            have h2:od=9:=by rw [HON2.out,if_pos h1]
            rw [HST.out,h2]; rfl
           clear hc3 hb3 hbq hux HT
           generalize l[q].nm=nm2 at *
           generalize l[q].hs=hs2 at *
           generalize l[q].ml=ml2 at *
           generalize l[q].dis=dis2 at *
           generalize l[q].ga=ga2 at *
           generalize l[q].gs.length=gl2 at *
           generalize l[q].gc=gc2 at *
           by_cases hml:ml.data.toList=[]
           ·
            have HY:=z8 (HX.out (fun h=>h.1 hml))
            have f3:ml.toList=[]:=by rw [Lib.toList_data]; exact hml
            have f1:(ml.toList != [])=false:=by simpa using f3
            have f2:(ml.toList == [])=true:=by simpa using f3
            clear hml HX HF
            go_wp2
            go_roundg (i - (q+1))
            case measure=>omega
            case rel=>exact ⟨q+1,by omega,by omega,by go_num,HBQ,HY⟩
           ·
            have f3:¬ ml.toList=[]:=by rw [Lib.toList_data]; exact hml
            have f1:(ml.toList != [])=true:=by simpa using f3
            have f2:(ml.toList == [])=false:=by simpa using f3
            by_cases heq:ml.data.toList=ml2.data.toList
            ·
             have hrr:=HF.out ⟨hml,heq⟩
             have HBF:=z8 (z7 HBX.out HBQ.out)
             have a1:(ml.toList == ml2.toList)=true:=(eqs10 heq).1
             clear hml heq HX HF HST HON2
             subst hrr
             go_wp2
             go_ret
             exact ⟨rfl,HBF.out⟩
            ·
             obtain ⟨a1,a2⟩:=nes10 heq
             have HY:=z8 (HX.out (fun h=>heq h.2))
             clear hml heq HX HF
             go_wp2
             go_roundg (i - (q+1))
             case measure=>omega
             case rel=>exact ⟨q+1,by omega,by omega,by go_num,HBQ,HY⟩
          ·
           have hqz:¬ (q:Int)<(i:Int):=by omega
           obtain rfl:q=i:=by omega
           have hno:(l.take q).any (fun v=>!(ml.data.toList == []) && (ml.data.toList == v.ml.data.toList))=false:=by
            rw [List.any_eq_false]
            intro v hv
            obtain ⟨x,hx,rfl⟩:=List.mem_take_iff_getElem.1 hv
            have:=HT.out x (by omega) (by omega)
            by_cases h1:ml.data.toList=[]
            ·
             rw [show (ml.data.toList == [])=true from beq_iff_eq.2 h1]; simp
            ·
             have h2:¬ ml.data.toList=l[x].ml.data.toList:=fun h=>this ⟨h1,h⟩
             rw [show (ml.data.toList == l[x].ml.data.toList)=false from beq_eq_false_iff_ne.2 h2]; simp
           have hod:od=0:=by
            rw [HON2.out,hno]; rfl
           have HRN:Hid (r=yc G (l.take (q+1)) (l.drop (q+1))):=by
            show _=_
            rw [HST.out,if_pos hod]
           have HBN:=z8 (z7 HBX.out HWQ.out)
           clear HT hno hod HST HON2
           go_wp2
           go_roundg (n - (q+1))
           case measure=>omega
           case rel=>exact ⟨q+1,by omega,by omega,by go_num,HBN,HRN⟩
      ·
       have hiz:¬ (i:Int)<(n:Int):=by omega
       have hrr:r=0:=by
        rw [HRI.out,List.drop_eq_nil_of_le (by have:=HL.out; omega)]; rfl
       clear HRI
       subst hrr
       go_wp2
       go_ret
       exact ⟨rfl,HW.out⟩
end Go.Proofs.YthmomkjingcbiaaGreatDoor
namespace Go.Proofs.YthmomkjingcbiaaGreatDoor
open Go.RowKit Go.Maps Go.Shelf
set_option linter.unusedSectionVars false

def MkA11 (A:zW) (W:World) (v:Value) (F:Nat→Prop):Prop:=∃ b,v=.map (some b)∧yC W b A∧F b
def MkM11 (L:zq) (W:World) (v:Value) (F:Nat→Prop):Prop:=∃ M p q LM,v=.pointer (some ⟨M,0,none⟩)∧vE W M p q L LM∧∀ i,qI M p q i→F i
def MkG11 (S:zw) (W:World) (v:Value) (F:Nat→Prop):Prop:=∃ G pg T,v=.pointer (some ⟨G,0,none⟩)∧yh W G pg T∧zC T=S∧∀ i,qJ G pg T i→F i
def UX (w W:World) (A:zW) (L:zq) (S:zw) (P M G:Nat):Prop :=
 ∃ p q LM pg T,yC W P A∧vE W M p q L LM∧yh W G pg T∧zC T=S∧(∀ i,qI M p q i→i≠P)∧(∀ i,qJ G pg T i→i≠P)∧(∀ i,qI M p q i→qJ G pg T i→False)∧(∀ i,i=P∨qI M p q i∨qJ G pg T i→w.heap.size≤i)
def YCo11 (D P M G:Nat):Nat→Value→Prop
 | 3,v=>v=.map (some P)
 | 7,v=>v=.pointer (some ⟨D,1,none⟩)
 | 8,v=>v=.pointer (some ⟨M,0,none⟩)
 | 12,v=>v=.pointer (some ⟨D,2,none⟩)
 | 13,v=>v=.pointer (some ⟨G,0,none⟩)
 | 4,_=>True
 | 9,_=>True
 | 14,_=>True
 | 15,_=>True
 | 16,_=>True
 | 17,_=>True
 | _,v=>v=.pointer (some ⟨D,0,none⟩)
structure Co11 [Fr11] (w:World) (D P M G:Nat) (A:zW) (L:zq) (S:zw) (E:Nat→Bool) (x:Nat→Value) (W:World):Prop where
 b:Below w.heap.size w W
 y:∀ {j:Nat},E j=true→YCo11 D P M G j (x j)
 f:∃ F4 F9 F14:Nat→Prop,(E 4=true→MkA11 A W (x 4) F4)∧(E 9=true→MkM11 L W (x 9) F9)∧(E 14=true→MkG11 S W (x 14) F14) ∧
  (∀ i,F4 i∨F9 i∨F14 i→w.heap.size≤i∧i<W.heap.size)∧(∀ i,F4 i→F9 i→False)∧(∀ i,F4 i→F14 i→False)∧(∀ i,F9 i→F14 i→False)
 y15:E 15=true→∃ P' M' G',x 15=.agg #[.map (some P'),.pointer (some ⟨M',0,none⟩),.pointer (some ⟨G',0,none⟩)]∧UX w W A L S P' M' G'
 y16:E 16=true→∃ D' P' M' G',x 16=.pointer (some ⟨D',0,none⟩)∧zH w W D' P' M' G' A L S
 y17:E 17=true→∃ D' P' M' G',x 17=.pointer (some ⟨D',0,none⟩)∧zH w W D' P' M' G' A L S

section
variable [Fr11] {w W W':World} {D P M G:Nat} {A:zW} {L:zq} {S:zw} {E:Nat→Bool} {x:Nat→Value}
theorem UX.later {P' M' G':Nat} (h:UX w W A L S P' M' G') (hb:Below W.heap.size W W'):UX w W' A L S P' M' G':=by
 obtain ⟨p,q,LM,pg,T,h1,h2,h3,h4⟩:=h
 exact ⟨p,q,LM,pg,T,h1.kept (hb.block _ h1.lt),h2.later hb,h3.later hb,h4⟩
theorem MkA11.later {v:Value} {F:Nat→Prop} (h:MkA11 A W v F) (hb:Below W.heap.size W W'):MkA11 A W' v F:=by
 obtain ⟨b,e,h1,h2⟩:=h
 exact ⟨b,e,h1.kept (hb.block _ h1.lt),h2⟩
theorem MkM11.later {v:Value} {F:Nat→Prop} (h:MkM11 L W v F) (hb:Below W.heap.size W W'):MkM11 L W' v F:=by
 obtain ⟨M,p,q,LM,e,h1,h2⟩:=h
 exact ⟨M,p,q,LM,e,h1.later hb,h2⟩
theorem MkG11.later {v:Value} {F:Nat→Prop} (h:MkG11 S W v F) (hb:Below W.heap.size W W'):MkG11 S W' v F:=by
 obtain ⟨G,pg,T,e,h1,h2⟩:=h
 exact ⟨G,pg,T,e,h1.later hb,h2⟩
theorem vG {x:Nat→Value} {i:Nat} {v:Value}:upd x i v i=v:=if_pos rfl
theorem xT {x:Nat→Value} {i j:Nat} {v:Value} (h:j≠i):upd x i v j=x j:=if_neg h
theorem xf {E:Nat→Bool} {i j:Nat} (h:j≠i):yK E i j=E j:=if_neg h
theorem Co11.more (h:Co11 w D P M G A L S E x W) (i:Nat) (v:Value) (hb:Below W.heap.size W W') (hy:YCo11 D P M G i v)
  (h4:i=4→MkA11 A W' v (fun j=>W.heap.size≤j∧j<W'.heap.size)) (h9:i=9→MkM11 L W' v (fun j=>W.heap.size≤j∧j<W'.heap.size)) (h14:i=14→MkG11 S W' v (fun j=>W.heap.size≤j∧j<W'.heap.size))
  (h15:i=15→∃ P' M' G',v=.agg #[.map (some P'),.pointer (some ⟨M',0,none⟩),.pointer (some ⟨G',0,none⟩)]∧UX w W' A L S P' M' G') (h16:i=16→∃ D' P' M' G',v=.pointer (some ⟨D',0,none⟩)∧zH w W' D' P' M' G' A L S) (h17:i=17→∃ D' P' M' G',v=.pointer (some ⟨D',0,none⟩)∧zH w W' D' P' M' G' A L S) :
  Co11 w D P M G A L S (yK E i) (upd x i v) W':=by
 refine ⟨z7 h.b hb,fun {j} hd=>?_,?_,fun hd=>?_,fun hd=>?_,fun hd=>?_⟩
 ·
  by_cases e:j=i
  ·
   subst e; rw [vG]; exact hy
  ·
   rw [xT e]; rw [xf e] at hd; exact h.y hd
 ·
  obtain ⟨F4,F9,F14,g4,g9,g14,hr,d1,d2,d3⟩:=h.f
  have hs:=hb.size
  have hw:=h.b.size
  by_cases i4:i=4
  ·
   subst i4
   refine ⟨(fun j=>W.heap.size≤j∧j<W'.heap.size),F9,F14,fun _=>by rw [vG]; exact h4 rfl,fun hd=>?_,fun hd=>?_,?_,?_,?_,d3⟩
   ·
    rw [xT (by decide)]; rw [xf (by decide)] at hd; exact (g9 hd).later hb
   ·
    rw [xT (by decide)]; rw [xf (by decide)] at hd; exact (g14 hd).later hb
   ·
    rintro j (h1 | h1 | h1)
    ·
     omega
    ·
     have:=hr j (.inr (.inl h1)); omega
    ·
     have:=hr j (.inr (.inr h1)); omega
   ·
    intro j h1 h2; have:=hr j (.inr (.inl h2)); omega
   ·
    intro j h1 h2; have:=hr j (.inr (.inr h2)); omega
  ·
   by_cases i9:i=9
   ·
    subst i9
    refine ⟨F4,(fun j=>W.heap.size≤j∧j<W'.heap.size),F14,fun hd=>?_,fun _=>by rw [vG]; exact h9 rfl,fun hd=>?_,?_,?_,d2,?_⟩
    ·
     rw [xT (by decide)]; rw [xf (by decide)] at hd; exact (g4 hd).later hb
    ·
     rw [xT (by decide)]; rw [xf (by decide)] at hd; exact (g14 hd).later hb
    ·
     rintro j (h1 | h1 | h1)
     ·
      have:=hr j (.inl h1); omega
     ·
      omega
     ·
      have:=hr j (.inr (.inr h1)); omega
    ·
     intro j h1 h2; have:=hr j (.inl h1); omega
    ·
     intro j h1 h2; have:=hr j (.inr (.inr h2)); omega
   ·
    by_cases i14:i=14
    ·
     subst i14
     refine ⟨F4,F9,(fun j=>W.heap.size≤j∧j<W'.heap.size),fun hd=>?_,fun hd=>?_,fun _=>by rw [vG]; exact h14 rfl,?_,d1,?_,?_⟩
     ·
      rw [xT (by decide)]; rw [xf (by decide)] at hd; exact (g4 hd).later hb
     ·
      rw [xT (by decide)]; rw [xf (by decide)] at hd; exact (g9 hd).later hb
     ·
      rintro j (h1 | h1 | h1)
      ·
       have:=hr j (.inl h1); omega
      ·
       have:=hr j (.inr (.inl h1)); omega
      ·
       omega
     ·
      intro j h1 h2; have:=hr j (.inl h1); omega
     ·
      intro j h1 h2; have:=hr j (.inr (.inl h1)); omega
    ·
     refine ⟨F4,F9,F14,fun hd=>?_,fun hd=>?_,fun hd=>?_,fun j hj=>⟨(hr j hj).1,Nat.lt_of_lt_of_le (hr j hj).2 hs⟩,d1,d2,d3⟩
     ·
      rw [xT (Ne.symm i4)]; rw [xf (Ne.symm i4)] at hd; exact (g4 hd).later hb
     ·
      rw [xT (Ne.symm i9)]; rw [xf (Ne.symm i9)] at hd; exact (g9 hd).later hb
     ·
      rw [xT (Ne.symm i14)]; rw [xf (Ne.symm i14)] at hd; exact (g14 hd).later hb
 ·
  by_cases e:15=i
  ·
   subst e; rw [vG]; exact h15 rfl
  ·
   rw [xT e]; rw [xf e] at hd; obtain ⟨a,b,c,e1,e2⟩:=h.y15 hd; exact ⟨a,b,c,e1,e2.later hb⟩
 ·
  by_cases e:16=i
  ·
   subst e; rw [vG]; exact h16 rfl
  ·
   rw [xT e]; rw [xf e] at hd; obtain ⟨a,b,c,d,e1,e2⟩:=h.y16 hd; exact ⟨a,b,c,d,e1,e2.later hb⟩
 ·
  by_cases e:17=i
  ·
   subst e; rw [vG]; exact h17 rfl
  ·
   rw [xT e]; rw [xf e] at hd; obtain ⟨a,b,c,d,e1,e2⟩:=h.y17 hd; exact ⟨a,b,c,d,e1,e2.later hb⟩
theorem Co11.quiet (h:Co11 w D P M G A L S E x W) (i:Nat) {v:Value} (hy:YCo11 D P M G i v) (hi:[4,9,14,15,16,17].contains i=false:=by rfl):Co11 w D P M G A L S (yK E i) (upd x i v) W :=
 h.more i v (Below.refl _ _) hy (fun e=>by subst e; cases hi) (fun e=>by subst e; cases hi) (fun e=>by subst e; cases hi) (fun e=>by subst e; cases hi) (fun e=>by subst e; cases hi) (fun e=>by subst e; cases hi)
theorem Co11.start (w:World) (x:Nat→Value):Co11 w D P M G A L S (fun _=>false) x w.drew :=
 ⟨zy (Below.refl _ _),(fun {_} h=>nomatch h),⟨(fun _=>False),(fun _=>False),(fun _=>False),(fun h=>nomatch h),(fun h=>nomatch h),(fun h=>nomatch h),(fun _ h=>by rcases h with h | h | h <;> exact h.elim),(fun _ h _=>h),(fun _ h _=>h),(fun _ h _=>h)⟩,(fun h=>nomatch h),(fun h=>nomatch h),(fun h=>nomatch h)⟩
end

section
variable [Fr11] {w0 w:World} {D P M G:Nat} {A:zW} {L:zq} {S:zw} {k:Nat}
end
end Go.Proofs.YthmomkjingcbiaaGreatDoor
namespace Go.Proofs.YthmomkjingcbiaaGreatDoor
open Go.RowKit Go.Maps

section
variable {L:yB W11} {n h:List UInt8}
end





section
variable {T:jk} {kd:Nat} {a b:List UInt8}
end
end Go.Proofs.YthmomkjingcbiaaGreatDoor
namespace Go.Proofs.YthmomkjingcbiaaGreatDoor
open Go.RowKit Go.Maps
set_option linter.unusedSectionVars false
set_option linter.unusedVariables false

section
variable {W W':World} {b kd:Nat} {x y:ByteArray} {z:Bool}
end
section
variable [Fr11] {w0 W:World} {D P M G:Nat} {A:zW} {L:zq} {S:zw} {k:Nat}












end
end Go.Proofs.YthmomkjingcbiaaGreatDoor
namespace Go.Proofs.YthmomkjingcbiaaGreatDoor
open Go.RowKit Go.Maps Go.Shelf



def FY (q:List UInt8×W11):Us:=⟨yT q.1,q.2.hs,q.2.ml,q.2.dis,q.2.ga,q.2.gs.map yT,q.2.gc⟩
theorem JD (q:List UInt8×W11):(FY q).cells=(UM q).toArray:=by
 unfold FY Us.cells UM
 simp
theorem rd_us11 {w:World} {A:Option Addr} {c n:Nat} {R:yB W11} (h:fX w (.slice A n c) R):n=(R.map FY).length∧uz w A (R.map FY):=by
 obtain ⟨A',c',e,hc⟩:=h
 injection e with e1 e2 e3
 subst e1 e2 e3
 refine ⟨by simp,fun hne=>?_⟩
 have h0:0<R.length:=by
  rcases R with _ | ⟨q,r⟩
  ·
   exact absurd rfl hne
  ·
   exact Nat.succ_pos _
 obtain ⟨g,e,hg⟩:=hc 0 h0
 refine ⟨g,0,e,World.block_lt_of_cell? w _ (hg 0 _ rfl),fun i hi j u hu=>?_⟩
 have hi':i<R.length:=by simpa using hi
 obtain ⟨g',e',hg'⟩:=hc i hi'
 rw [e] at e'
 injection e' with e'
 injection e' with e'
 subst e'
 have hu':(UM R[i])[j]? = some u:=by
  rw [List.getElem_map,JD] at hu
  simpa using hu
 have:=hg' j u hu'
 rwa [Nat.zero_add]
structure Short11 (T:jk):Prop where
 few:T.length≤12
 nm:∀ p∈T,p.1.length≤1000
 hs:∀ p∈T,p.2.hs.length≤1000
 ml:∀ p∈T,p.2.ml.length≤1000
 gs:∀ p∈T,∀ g∈p.2.gs,g.length≤1000
theorem short11 {A:zW} {L:zq} {S:zw} {k:Nat} (hg:ya A L S k):Short11 (zM A L S):=by
 have hq:∀ p∈zM A L S,∃ q∈A,p=(q.1,vt L S q.1 q.2):=fun p hp=>by
  obtain ⟨q,hq,e⟩:=List.mem_map.1 hp
  exact ⟨q,hq,e.symm⟩
 refine ⟨by rw [jy]; exact hg.few,fun p hp=>?_,fun p hp=>?_,fun p hp=>?_,fun p hp g hgg=>?_⟩
 ·
  obtain ⟨q,hq,rfl⟩:=hq p hp
  exact Nat.le_trans (qv (hg.nm q hq).1) (by decide)
 ·
  obtain ⟨q,hq,rfl⟩:=hq p hp
  exact Xb (hg.nm q hq).2
 ·
  obtain ⟨q,hq,rfl⟩:=hq p hp
  show (xp L q.1).length≤1000
  cases hh:xn L q.1 with
  | false=>rw [yY hh]; simp
  | true =>
   have:=hg.all _ (ve hh)
   exact Nat.le_trans (ZI this.2.1) (by decide)
 ·
  obtain ⟨q,hq,rfl⟩:=hq p hp
  have h1:=XK hgg
  obtain ⟨x,hx,rfl⟩:=List.mem_map.1 h1
  exact Nat.le_trans (qv (hg.grp.named x hx)) (by decide)
theorem us11_ok {w:World} {q:List UInt8×W11} (hr:w.ownsRow 0 9 1 (.slice q.2.ga q.2.gs.length q.2.gc) q.2.gs.length (q.2.gs.map encStr)) (h1:q.1.length≤1000) (h2:q.2.hs.size≤1000) (h3:q.2.ml.size≤1000) (h4:∀ g∈q.2.gs,g.length≤1000):(FY q).Ok w:=by
 refine ⟨fun hne=>?_,?_,Nat.le_trans h2 (by decide),Nat.le_trans h3 (by decide),fun hn=>?_,?_,?_,fun s hs=>?_⟩
 ·
  have hn0:0<q.2.gs.length:=by
   rcases hq:q.2.gs with _ | ⟨a,r⟩
   ·
    exact absurd (show (FY q).gs=[] by unfold FY; rw [hq]; rfl) hne
   ·
    exact Nat.succ_pos _
  obtain ⟨g,cx,e,c0⟩:=NmR.at_ (N:=q.2.gs) hr (k:=0) hn0
  injection e with e
  refine ⟨g,0,e,World.block_lt_of_cell? w _ c0,fun j hj=>?_⟩
  have hj':j<q.2.gs.length:=by have:(FY q).gs.length=q.2.gs.length:=List.length_map _; omega
  obtain ⟨g',cx',e',cj⟩:=NmR.at_ (N:=q.2.gs) hr (k:=j) hj'
  injection e' with e'
  rw [e] at e'
  injection e' with e'
  injection e' with e'
  subst e'
  rw [Nat.zero_add,cj]
  have eg:(FY q).gs[j]=yT q.2.gs[j]:=List.getElem_map ..
  rw [eg]
 ·
  show (yT q.1).size≤_
  rw [jv]; exact Nat.le_trans h1 (by decide)
 ·
  rcases hr.2 with ⟨e,_⟩ | ⟨g,cap,cur,e,_⟩
  ·
   injection e
  ·
   injection e with e; rw [show q.2.ga=none from hn] at e; cases e
 ·
  show (q.2.gs.map yT).length≤q.2.gc
  rw [List.length_map]
  rcases hr.2 with ⟨e,h0⟩ | ⟨g,cap,cur,e,_,_,r1,_⟩
  ·
   omega
  ·
   injection e with _ _ e; omega
 ·
  rcases hr.2 with ⟨e,h0⟩ | ⟨g,cap,cur,e,_,_,r1,r2,_⟩
  ·
   injection e with _ _ e; show q.2.gc≤_; omega
  ·
   injection e with _ _ e
   show q.2.gc≤_
   have:=r2
   unfold maxLen at this
   omega
 ·
  obtain ⟨g,hg,rfl⟩:=List.mem_map.1 hs
  rw [jv]; exact Nat.le_trans (h4 g hg) (by decide)

section
variable {w0 w:World} {D P M G:Nat} {A:zW} {L:zq} {S:zw} {k:Nat}
end
end Go.Proofs.YthmomkjingcbiaaGreatDoor
namespace Go.Proofs.YthmomkjingcbiaaGreatDoor
open Go.ChangeShapes Go.WideShapes Go.ChangeAt Go.RowKit Go.Deep

structure ActN where
 kd:Nat
 nm:ByteArray
 hs:ByteArray
 is_:Bool
def ActN.cells (t:ActN):List Value:=[.int .u8 (t.kd:Int),.string t.nm,.string t.hs,.bool t.is_]

section
variable {H:Type} {enc:TypeId×Value→H} {W:World} {base:Nat} {sp:Nat→Bool} {hd:Bool} {fuel:Nat}

end
end Go.Proofs.YthmomkjingcbiaaGreatDoor
namespace Go.Proofs.YthmomkjingcbiaaGreatDoor
open Go.RowKit Go.Maps

def um (l:List Us):jk:=l.map fun u=>(u.nm.data.toList,⟨u.hs.data.toList,u.ml.data.toList,u.dis,xP u.gs⟩)
def vp (S:zw) (n:List UInt8) (T:List ByteArray):zw:=T.foldl (fun S g=>je S g.data.toList n) S
def xZ (r:Nat→Int):Nat→Nat→Int
 | _,0=>0
 | i,m+1=>if r i=0 then xZ r (i+1) m else r i

theorem X7 (S:zw) (n:List UInt8) {T:List ByteArray} {i:Nat} (hi:i<T.length):vp S n (T.take (i+1))=je (vp S n (T.take i)) T[i].data.toList n:=by
 unfold vp
 rw [List.take_succ_eq_append_getElem hi,List.foldl_append]
 rfl
theorem vJ:∀ {ss:List ByteArray},zB ss=true→ss.Pairwise fun a b=>bytesBefore a.data.toList b.data.toList=true
 | [],_=>List.Pairwise.nil
 | [_],_=>by simp
 | a::b::r,h=>by
  unfold zB at h
  rw [Bool.and_eq_true] at h
  have ih:=vJ (ss:=b::r) h.2
  have hab:bytesBefore a.data.toList b.data.toList=true:=by
   have:=h.1
   unfold zv at this
   rwa [vC] at this
  refine List.pairwise_cons.2 ⟨fun x hx=>?_,ih⟩
  rcases List.mem_cons.1 hx with rfl | hx
  ·
   exact hab
  ·
   exact WideShapes.bytes_trans _ _ _ hab ((List.pairwise_cons.1 ih).1 x hx)
theorem bl_rise11 {G:List ByteArray} (h:zB G=true):ui (xP G):=by
 have:=vJ h
 unfold ui xP
 rw [List.pairwise_map]
 exact this
theorem X8 {V:Type} {x:List UInt8×V}:∀ {A:yB V},(∀ y∈A,bytesBefore y.1 x.1=true)→Uk x A=A++[x]
 | [],_=>rfl
 | y::r,h=>by
  unfold Uk
  rw [xu (h y (by simp)),X8 (fun z hz=>h z (by simp [hz]))]
  simp
theorem YW {V:Type} {A:yB V} {n:List UInt8} (a:V) (h:∀ y∈A,bytesBefore y.1 n=true):xA A n a=A++[(n,a)]:=by
 unfold xA
 rw [QO,X8 h]
 refine qx.2 fun hm=>?_
 obtain ⟨y,hy,e⟩:=List.mem_map.1 hm
 exact absurd e (vl (h y hy))

/-! ### groups are joined -/
structure J11 (S0 S:zw) (n:List UInt8) (T:List ByteArray) (k:Nat):Prop where
 names:ze S=ze S0
 good:yz S k
 mem:∀ x m,jM S x m=true↔jM S0 x m=true∨(m=n∧x∈xP T)
theorem Jn {S0 S:zw} {n:List UInt8} {T:List ByteArray} {k i:Nat} (hi:i<T.length) (hJ:J11 S0 S n (T.take i) k) (hn:zm n=true) (h5:zK T=true) (hr:zB T=true) (hf:∀ x,jM S0 x n=false) :
  jL S T[i].data.toList n=if qg (ze S0) T[i].data.toList then 0 else 8:=by
 have e1:yW S T[i].data.toList=qg (ze S0) T[i].data.toList:=by rw [Bool.eq_iff_iff,xy,qy,hJ.names]
 have e0:zm T[i].data.toList=true:=by
  unfold zK at h5
  rw [List.all_eq_true] at h5
  exact h5 _ (List.getElem_mem hi)
 have e2:jM S T[i].data.toList n=false:=by
  rw [Bool.eq_false_iff]
  intro h
  rcases (hJ.mem _ _).1 h with h | ⟨_,h⟩
  ·
   rw [hf] at h; cases h
  ·
   obtain ⟨g,hg,e⟩:=List.mem_map.1 h
   obtain ⟨j,hj,rfl⟩:=List.getElem_of_mem hg
   have hj':j<i:=by rw [List.length_take] at hj; omega
   rw [List.getElem_take] at e
   have:=List.pairwise_iff_getElem.1 (vJ hr) j i (by omega) hi hj'
   exact absurd e (vl this)
 unfold jL xY
 rw [e1,e2,e0]
 have:([n]:List (List UInt8)).all zm=true:=by simp [hn]
 rw [this]
 cases qg (ze S0) T[i].data.toList <;> rfl
theorem XS {S0:zw} {n:List UInt8} {T:List ByteArray} {k:Nat} (hg:yz S0 k) (hn:zm n=true) (h5:zK T=true) (hr:zB T=true) (hf:∀ x,jM S0 x n=false) :
  ∀ i,i≤T.length→(∀ g∈T.take i,qg (ze S0) g.data.toList=true)→J11 S0 (vp S0 n (T.take i)) n (T.take i) (k+i)
 | 0,_,_=>⟨rfl,hg,fun x m=>⟨.inl,fun h=>h.elim id (fun h=>absurd h.2 (by simp [xP]))⟩⟩
 | i+1,hi,hall=>by
  have hlt:i<T.length:=hi
  have e3:T.take (i+1)=T.take i++[T[i]]:=List.take_succ_eq_append_getElem hlt
  have ih:=XS hg hn h5 hr hf i (Nat.le_of_succ_le hi) (fun g h=>hall g (by rw [e3]; exact List.mem_append_left _ h))
  have e:=Jn hlt ih hn h5 hr hf
  rw [hall T[i] (by rw [e3]; exact List.mem_append_right _ (List.mem_singleton.2 rfl)),if_pos rfl] at e
  rw [X7 S0 n hlt]
  refine ⟨by rw [Qw,ih.names],good_join ih.good _ n,fun x m=>?_⟩
  rw [in_join ih.good e,ih.mem]
  have:x∈xP (T.take (i+1))↔x∈xP (T.take i)∨x=T[i].data.toList:=by
   rw [e3]
   unfold xP
   rw [List.map_append,List.mem_append,List.map_cons,List.map_nil,List.mem_singleton]
  rw [this]
  constructor
  ·
   rintro ((h | ⟨h1,h2⟩) | ⟨h1,h2⟩)
   ·
    exact .inl h
   ·
    exact .inr ⟨h1,.inl h2⟩
   ·
    exact .inr ⟨h2,.inr h1⟩
  ·
   rintro (h | ⟨h1,h2 | h2⟩)
   ·
    exact .inl (.inl h)
   ·
    exact .inl (.inr ⟨h1,h2⟩)
   ·
    exact .inr ⟨h2,h1⟩

/-! ### users,one by one -/
def Yc (A:zW) (L:zq) (S:zw) (pre:List Us) (G:List ByteArray) (k:Nat):Prop:=One11 A L S (um pre) (xP G) k∧L.length≤pre.length
theorem plU_names (l:List Us):ze (um l)=xP (l.map (·.nm)):=by unfold ze um xP; rw [List.map_map,List.map_map]; rfl
theorem Yc.below {A:zW} {L:zq} {S:zw} {pre:List Us} {G:List ByteArray} {k:Nat} (h:Yc A L S pre G k) {n:List UInt8} (hup:∀ v∈pre,bytesBefore v.nm.data.toList n=true):∀ y∈A,bytesBefore y.1 n=true:=by
 intro y hy
 have h1:y.1∈ze A:=List.mem_map.2 ⟨y,hy,rfl⟩
 rw [← fd A L S,h.1.2.1,plU_names] at h1
 unfold xP at h1
 rw [List.map_map] at h1
 obtain ⟨v,hv,e⟩:=List.mem_map.1 h1
 rw [← e]
 exact hup v hv
theorem Yc.len {A:zW} {L:zq} {S:zw} {pre:List Us} {G:List ByteArray} {k:Nat} (h:Yc A L S pre G k):A.length=pre.length:=by
 rw [← jy A L S,h.1.2.1]; exact List.length_map _
theorem Yc.free {A:zW} {L:zq} {S:zw} {pre:List Us} {G:List ByteArray} {k:Nat} (h:Yc A L S pre G k) {n:List UInt8} (hup:∀ v∈pre,bytesBefore v.nm.data.toList n=true):yW A n=false:=by
 refine qx.2 fun hm=>?_
 obtain ⟨y,hy,e⟩:=List.mem_map.1 hm
 exact absurd e (vl (h.below hup y hy))
theorem Yc.fresh {A:zW} {L:zq} {S:zw} {pre:List Us} {G:List ByteArray} {k:Nat} (h:Yc A L S pre G k) {n:List UInt8} (hup:∀ v∈pre,bytesBefore v.nm.data.toList n=true) (x:List UInt8):jM S x n=false:=by
 cases hh:jM S x n with
 | false=>rfl
 | true=>have:=h.1.1.mem x n hh; rw [h.free hup] at this; cases this
theorem mail_eq11 {m:ByteArray} (h:uG m=true):vN m.data.toList=m.data.toList∧qH m.data.toList=true:=by
 unfold uG at h
 rw [Bool.or_eq_true,Bool.and_eq_true,decide_eq_true_eq,decide_eq_true_eq] at h
 rcases h with h | ⟨h1,h2⟩
 ·
  have:m.data.toList=[]:=List.length_eq_zero_iff.1 (by rw [zh]; exact h)
  rw [this]
  exact ⟨rfl,by decide⟩
 ·
  refine ⟨?_,by unfold qH; rw [h1,Bool.or_true]⟩
  have h3:(up m.data.toList).data.toList=zF m.data.toList:=by unfold up; rw [if_pos h1]
  unfold vN
  rw [if_pos h1,← h3,h2]
theorem Zf {A:zW} {L L':zq} {S S':zw} (h:∀ p∈A,xp L' p.1=xp L p.1∧ud S' p.1=ud S p.1) (x:List UInt8×(List UInt8×Bool)):zM (A++[x]) L' S'=zM A L S++[(x.1,vt L' S' x.1 x.2)]:=by
 unfold zM
 rw [List.map_append]
 congr 1
 refine List.map_congr_left fun p hp=>?_
 obtain ⟨h1,h2⟩:=h p hp
 unfold vt
 rw [h1,h2]

theorem step11 {A:zW} {L:zq} {S:zw} {pre:List Us} {G:List ByteArray} {k:Nat} (h:Yc A L S pre G k) (u:Us) (hc:yk 2 u=0) (hup:∀ v∈pre,bytesBefore v.nm.data.toList u.nm.data.toList=true) (h12:pre.length<12) (hall:u.gs.all (fun g=>qg (xP G) g.data.toList)=true) :
  qO L u.nm.data.toList u.ml.data.toList=(if pre.any (fun v=>!(u.ml.data.toList == []) && (u.ml.data.toList == v.ml.data.toList)) then 9 else 0) ∧
  (qO L u.nm.data.toList u.ml.data.toList=0→Yc (xA A u.nm.data.toList (u.hs.data.toList,u.dis)) (VA L u.nm.data.toList u.ml.data.toList) (vp S u.nm.data.toList u.gs) (pre++[u]) G (k+8)):=by
 obtain ⟨_,hn,hh⟩:=ql hc
 obtain ⟨hfo,h6,hns,hri⟩:=Ve hc
 obtain ⟨hfm,him⟩:=mail_eq11 hfo
 have hbel:=h.below hup
 have hfree:=h.free hup
 have hfr:=h.fresh hup
 have hlen:=h.len
 obtain ⟨⟨hg,ht,hN⟩,hL⟩:=h
 obtain ⟨f1,f2,f3⟩:=hg.free hfree
 have hJ:=XS hg.grp hn hns hri hfr u.gs.length (Nat.le_refl _) (fun g hg'=>by
  rw [List.take_length] at hg'
  rw [hN]
  exact List.all_eq_true.1 hall g hg')
 rw [List.take_length] at hJ
 generalize hS':vp S u.nm.data.toList u.gs=S' at *
 have hA1:=YW (u.hs.data.toList,u.dis) hbel
 have hg1:=hg.put (a:=(u.hs.data.toList,u.dis)) hn hh (by rw [hA1]; simp; omega)
 generalize hAA:xA A u.nm.data.toList (u.hs.data.toList,u.dis)=A1 at *
 have hin:yW A1 u.nm.data.toList=true:=by rw [← hAA]; exact jN.2 (.inl rfl)
 have hg2:ya A1 L S' (k+7):=⟨hg1.rise,hg1.few,hg1.nm,hg1.mir,hg1.all,hg1.has,Nat.le_trans hg.lfew (by omega),hJ.good.mono (by omega),fun x m hm=>by
  rcases (hJ.mem x m).1 hm with hm | ⟨rfl,_⟩
  ·
   exact hg1.mem x m hm
  ·
   exact hin⟩
 have hof:ud S' u.nm.data.toList=xP u.gs:=uY (jG hJ.good.rise _) (bl_rise11 hri) fun x=>by
  rw [Z3 hJ.good.rise,hJ.mem,hfr]
  simp
 have hof2:∀ m,m≠u.nm.data.toList→ud S' m=ud S m:=fun m hm=>ofT hg.grp.rise hJ.good.rise fun x=>by
  rw [hJ.mem]
  exact ⟨fun h=>h.elim id (fun h=>absurd h.1 hm),.inl⟩
 have hne:∀ p∈A,p.1≠u.nm.data.toList:=fun p hp=>vl (hbel p hp)
 have hsm:=(sm11_eq (A:=A1) (L:=L) u.nm.data.toList u.ml.data.toList).1 ⟨hn,him,hin⟩
 have hone:=sm_one hg2 u.nm.data.toList u.ml.data.toList
 have htl:zM A1 L S'=um pre++[(u.nm.data.toList,⟨u.hs.data.toList,[],u.dis,xP u.gs⟩)]:=by
  rw [hA1,Zf (L:=L) (S:=S) (fun p hp=>⟨rfl,hof2 _ (hne p hp)⟩),ht]
  unfold vt
  rw [hof,f2]
 have hE:fS A1 L u.nm.data.toList u.ml.data.toList=(if pre.any (fun v=>!(u.ml.data.toList == []) && (u.ml.data.toList == v.ml.data.toList)) then 9 else 0):=by
  rw [← sm_same hg2]
  unfold dsmE
  rw [hn,him,J9,hin,hfm,htl]
  have:badU (um pre++[(u.nm.data.toList,⟨u.hs.data.toList,[],u.dis,xP u.gs⟩)]) u.nm.data.toList u.ml.data.toList=pre.any (fun v=>!(u.ml.data.toList == []) && (u.ml.data.toList == v.ml.data.toList)):=by
   unfold badU um
   rw [Bool.eq_iff_iff]
   simp only [List.any_append,List.any_map,List.any_cons,List.any_nil,Bool.or_false,Bool.or_eq_true,List.any_eq_true,Bool.and_eq_true,Bool.not_eq_true',beq_eq_false_iff_ne,beq_iff_eq,Function.comp]
   constructor
   ·
    rintro (⟨v,hv,⟨h1,h2⟩,h3⟩ | ⟨_,h3⟩)
    ·
     exact ⟨v,hv,h1,h2.symm⟩
    ·
     exact absurd rfl h3
   ·
    rintro ⟨v,hv,h1,h2⟩
    exact .inl ⟨v,hv,⟨h1,h2.symm⟩,vl (hup v hv)⟩
  rw [this]
  cases pre.any (fun v=>!(u.ml.data.toList == []) && (u.ml.data.toList == v.ml.data.toList)) <;> rfl
 rw [hsm.1] at hE
 refine ⟨hE,fun h0=>?_⟩
 rw [hsm.2] at hone
 obtain ⟨o1,_,o3⟩:=hone
 refine ⟨⟨o1,?_,?_⟩,?_⟩
 ·
  have hge:∀ x,xp (VA L u.nm.data.toList u.ml.data.toList) x=if x=u.nm.data.toList then u.ml.data.toList else xp L x:=by
   intro x
   unfold VA
   rw [if_pos h0]
   by_cases hm:u.ml.data.toList=[]
   ·
    rw [if_pos hm,V0,hm]
   ·
    rw [if_neg hm,XZ hg.lrise]
    have:zF u.ml.data.toList=u.ml.data.toList:=by
     have hm5:yV u.ml.data.toList=true:=by
      unfold qH at him
      rw [decide_eq_false hm,Bool.false_or] at him
      exact him
     unfold vN at hfm
     rw [if_pos hm5] at hfm
     exact hfm
    rw [this]
  rw [hA1,Zf (L:=L) (S:=S) (fun p hp=>⟨by rw [hge,if_neg (hne p hp)],hof2 _ (hne p hp)⟩),ht]
  unfold vt
  rw [hof,hge,if_pos rfl]
  unfold um
  rw [List.map_append]
  rfl
 ·
  rw [hJ.names,hN]
 ·
  have:(VA L u.nm.data.toList u.ml.data.toList).length≤L.length+1:=by
   unfold VA
   rw [if_pos h0]
   split
   ·
    exact Nat.le_succ_of_le (List.length_filter_le _ _)
   ·
    rw [qq hg.lrise]; split <;> omega
  rw [List.length_append]
  simp
  omega
theorem st_nil11 {S:zw} {G:List ByteArray} {k:Nat} (hg:ya [] [] S k) (hN:ze S=xP G):Yc [] [] S [] G k:=⟨⟨hg,rfl,hN⟩,Nat.le_refl _⟩
theorem Qs {S:zw} {G:List ByteArray} {i:Nat} (hi:i<G.length) (h6:G.length≤6) (h5:zK G=true) (hr:zB G=true) (hg:ya [] [] S i) (hN:ze S=xP (G.take i)) :
  qG S G[i].data.toList=0∧ya [] [] (jd S G[i].data.toList) (i+1)∧ze (jd S G[i].data.toList)=xP (G.take (i+1)):=by
 have e0:zm G[i].data.toList=true:=by
  unfold zK at h5
  rw [List.all_eq_true] at h5
  exact h5 _ (List.getElem_mem hi)
 have hbel:∀ y∈S,bytesBefore y.1 G[i].data.toList=true:=fun y hy=>by
  have h1:y.1∈ze S:=List.mem_map.2 ⟨y,hy,rfl⟩
  rw [hN] at h1
  obtain ⟨g,hg,e⟩:=List.mem_map.1 h1
  obtain ⟨j,hj,rfl⟩:=List.getElem_of_mem hg
  have hj':j<i:=by rw [List.length_take] at hj; omega
  rw [List.getElem_take] at e
  rw [← e]
  exact List.pairwise_iff_getElem.1 (vJ hr) j i (by omega) hi hj'
 have hfree:yW S G[i].data.toList=false:=qx.2 fun hm=>by
  obtain ⟨y,hy,e⟩:=List.mem_map.1 hm
  exact absurd e (vl (hbel y hy))
 have hlen:S.length=i:=by
  have:(ze S).length=S.length:=List.length_map _
  rw [← this,hN]
  unfold xP
  rw [List.length_map,List.length_take]
  omega
 have e:qG S G[i].data.toList=0:=by
  unfold qG
  rw [e0,hfree,if_pos rfl,if_neg (by decide),if_neg (by omega)]
 refine ⟨e,(ma_one hg G[i].data.toList).1,?_⟩
 unfold jd
 rw [if_pos e,YW _ hbel,List.take_succ_eq_append_getElem hi]
 unfold ze xP at *
 rw [List.map_append,List.map_append,hN]
 rfl
theorem Je (G:List ByteArray) (l:List Us):∀ (m i:Nat),i+m=l.length→xZ (fun j=>if hj:j<l.length then yQ G (l.take j) l[j] else 0) i m=yc G (l.take i) (l.drop i)
 | 0,i,h=>by
  rw [List.drop_eq_nil_of_le (by omega)]
  rfl
 | m+1,i,h=>by
  have hi:i<l.length:=by omega
  rw [YT hi]
  unfold xZ
  rw [dif_pos hi,Je G l m (i+1) (by omega)]
end Go.Proofs.YthmomkjingcbiaaGreatDoor
namespace Go.Proofs.YthmomkjingcbiaaGreatDoor
open Go.RowKit Go.Maps Go.Sort Go.Shelf

theorem UG (r:Nat→Int) {k n:Nat} (h:k<n):xZ r k (n - k)=if r k=0 then xZ r (k+1) (n - (k+1)) else r k:=by
 obtain ⟨m,rfl⟩:∃ m,n=k+1+m:=⟨n - (k+1),by omega⟩
 rw [show k+1+m - k=m+1 by omega,show k+1+m - (k+1)=m by omega]
 rfl
set_option maxRecDepth 100000 in
theorem uf (g:Nat) (bd lb:Array Value) (A:Option Addr) (n c:Nat) (ss:List ByteArray) (w:World) (r:Nat→Int) (I:Nat→World→Prop) (J:World→Prop) (hl:n=ss.length) (hn:n≤9223372036854775807)
  (eg:∀ args w,(callFunc g args).run Tryz.prog w=.ok (.enter g args) w) (h0:I 0 w) (hr:∀ i W,I i W→RdS W A ss)
  (hs:∀ i (h:i<ss.length) W,I i W→Calls Tryz.prog g (bd++#[.string ss[i]]++lb) W fun e w'=>e=.returned (.int .i64 (r i))∧(r i=0→I (i+1) w')∧(r i≠0→J w')) :
  Calls Tryz.prog 113 #[.slice A n c,.func (.func g) bd lb] w fun e w'=>e=.returned (.int .i64 (xZ r 0 n))∧(xZ r 0 n=0→I n w')∧(xZ r 0 n≠0→J w'):=by
 have HR:=z8 hr
 have HL:=z8 hl
 have HS:=z8 hs
 have H0:=z8 h0
 clear hr hl hs h0
 obtain ⟨x,hx⟩:∃ x,x=xZ r 0 n:=⟨_,rfl⟩
 rw [← hx]
 have HX:Hid (x=xZ r 0 (n - 0)):=hx
 clear hx
 go_enter Tryz.func113,Tryz.ntmps113
 go_wp2
 go_loopg [6,7,10] n (fun gg _ _ s10 wr=>∃ k:Nat,k≤n∧n - k≤gg∧s10=.int .i64 k∧Hid (I k wr)∧Hid (x=xZ r k (n - k)))
 case atStart=>exact ⟨0,Nat.zero_le _,by omega,rfl,H0,HX⟩
 case round =>
  clear H0 HX
  obtain ⟨k,hk,hg,rfl,HW,HX⟩:=hrel
  by_cases hlt:k<n
  ·
   have hltz:(k:Int)<(n:Int):=by omega
   have hkl:k<ss.length:=HL.out ▸ hlt
   obtain ⟨b,off,rfl,hb,hc⟩:=(HR.out k wr HW.out) (by intro e; rw [e] at hkl; exact absurd hkl (Nat.not_lt_zero _))
   have hcell:=hc k hkl
   have HC:=z8 (HS.out k hkl wr HW.out)
   have hA:=HX.out
   rw [UG r hlt] at hA
   clear hc hb HX
   generalize ss[k]=s at *
   generalize r k=y at *
   by_cases hy:y=0
   ·
    rw [if_pos hy] at hA
    have HA:=z8 hA
    subst hy
    clear hA
    go_wp2_with (go_at_fn g; refine HC.out.mono ?_; rintro e w' ⟨rfl,h1,_⟩; have HW2:=z8 (h1 rfl); clear h1)
    go_roundg (n - (k+1))
    case measure=>omega
    case rel=>exact ⟨k+1,by omega,by omega,by go_num,HW2,HA⟩
   ·
    rw [if_neg hy] at hA
    subst hA
    have hx1:(x != 0)=true:=by simpa using hy
    have HY:=z8 hy
    clear hy
    go_wp2_with (go_at_fn g; refine HC.out.mono ?_; rintro e w' ⟨rfl,_,h2⟩; have HW2:=z8 (h2 HY.out); clear h2)
    go_ret
    exact ⟨rfl,fun h=>absurd h HY.out,fun _=>HW2.out⟩
  ·
   have hltz:¬ (k:Int)<(n:Int):=by omega
   obtain rfl:k=n:=by omega
   have hA:=HX.out
   rw [Nat.sub_self] at hA
   have hA0:x=0:=hA
   subst hA0
   clear hA HX
   go_wp2
   go_ret
   exact ⟨rfl,HW.out⟩
set_option maxRecDepth 100000 in
theorem qR (g:Nat) (bd lb:Array Value) (A:Option Addr) (n c:Nat) (l:List Us) (w:World) (r:Nat→Int) (I:Nat→World→Prop) (J:World→Prop) (hl:n=l.length) (hn:n≤9223372036854775807)
  (eg:∀ args w,(callFunc g args).run Tryz.prog w=.ok (.enter g args) w) (h0:I 0 w) (hr:∀ i W,I i W→uz W A l)
  (ha:∀ i W,I i W→∀ b,I i (W.alloc b)) (hs:∀ i (h:i<l.length) W,I i W→Calls Tryz.prog g (bd++#[l[i].v]++lb) W fun e w'=>e=.returned (.int .i64 (r i))∧(r i=0→I (i+1) w')∧(r i≠0→J w')) :
  Calls Tryz.prog 108 #[.slice A n c,.func (.func g) bd lb] w fun e w'=>e=.returned (.int .i64 (xZ r 0 n))∧(xZ r 0 n=0→I n w')∧(xZ r 0 n≠0→J w'):=by
 have HR:=z8 hr
 have HL:=z8 hl
 have HS:=z8 hs
 have H0:=z8 h0
 have HAL:=z8 ha
 clear hr hl hs h0 ha
 obtain ⟨x,hx⟩:∃ x,x=xZ r 0 n:=⟨_,rfl⟩
 rw [← hx]
 have HX:Hid (x=xZ r 0 (n - 0)):=hx
 clear hx
 go_enter Tryz.func108,Tryz.ntmps108
 go_wp2
 go_loopg [6,7,10] n (fun gg _ _ s10 wr=>∃ k:Nat,k≤n∧n - k≤gg∧s10=.int .i64 k∧Hid (I k wr)∧Hid (x=xZ r k (n - k)))
 case atStart=>exact ⟨0,Nat.zero_le _,by omega,rfl,H0,HX⟩
 case round =>
  clear H0 HX
  obtain ⟨k,hk,hg,rfl,HW,HX⟩:=hrel
  by_cases hlt:k<n
  ·
   have hltz:(k:Int)<(n:Int):=by omega
   have hkl:k<l.length:=HL.out ▸ hlt
   obtain ⟨b,off,rfl,hb,hc⟩:=(HR.out k wr HW.out) (by intro e; rw [e] at hkl; exact absurd hkl (Nat.not_lt_zero _))
   have c0:wr.cell? ⟨b,off+k * 5,none⟩=some (.string l[k].nm):=hc k hkl 0 _ rfl
   have c1:wr.cell? ⟨b,off+k * 5+1,none⟩=some (.string l[k].hs):=hc k hkl 1 _ rfl
   have c2:wr.cell? ⟨b,off+k * 5+2,none⟩=some (.string l[k].ml):=hc k hkl 2 _ rfl
   have c3:wr.cell? ⟨b,off+k * 5+3,none⟩=some (.bool l[k].dis):=hc k hkl 3 _ rfl
   have c4:wr.cell? ⟨b,off+k * 5+4,none⟩=some (.slice l[k].ga l[k].gs.length l[k].gc):=hc k hkl 4 _ rfl
   have HC:Hid (Calls Tryz.prog g (bd++#[.agg #[.string l[k].nm,.string l[k].hs,.string l[k].ml,.bool l[k].dis,.slice l[k].ga l[k].gs.length l[k].gc]]++lb) (wr.alloc (.cells #[.string l[k].nm,.string l[k].hs,.string l[k].ml,.bool l[k].dis,.slice l[k].ga l[k].gs.length l[k].gc] 47)) fun e w'=>e=.returned (.int .i64 (r k))∧(r k=0→I (k+1) w')∧(r k≠0→J w')):=HS.out k hkl _ (HAL.out k wr HW.out _)
   have hA:=HX.out
   rw [UG r hlt] at hA
   clear hc hb HX
   generalize l[k].nm=nm at *
   generalize l[k].hs=hs at *
   generalize l[k].ml=ml at *
   generalize l[k].dis=dis at *
   generalize l[k].ga=ga at *
   generalize l[k].gs.length=gl at *
   generalize l[k].gc=gc at *
   generalize r k=y at *
   by_cases hy:y=0
   ·
    rw [if_pos hy] at hA
    have HA:=z8 hA
    subst hy
    clear hA
    go_wp2_with (go_at_fn g; refine HC.out.mono ?_; rintro e w' ⟨rfl,h1,_⟩; have HW2:=z8 (h1 rfl); clear h1)
    go_roundg (n - (k+1))
    case measure=>omega
    case rel=>exact ⟨k+1,by omega,by omega,by go_num,HW2,HA⟩
   ·
    rw [if_neg hy] at hA
    subst hA
    have hx1:(x != 0)=true:=by simpa using hy
    have HY:=z8 hy
    clear hy
    go_wp2_with (go_at_fn g; refine HC.out.mono ?_; rintro e w' ⟨rfl,_,h2⟩; have HW2:=z8 (h2 HY.out); clear h2)
    go_ret
    exact ⟨rfl,fun h=>absurd h HY.out,fun _=>HW2.out⟩
  ·
   have hltz:¬ (k:Int)<(n:Int):=by omega
   obtain rfl:k=n:=by omega
   have hA:=HX.out
   rw [Nat.sub_self] at hA
   have hA0:x=0:=hA
   subst hA0
   clear hA HX
   go_wp2
   go_ret
   exact ⟨rfl,HW.out⟩
set_option maxRecDepth 100000 in
theorem XP (u:Us) (w:World) (h:u.Ok w) (hm:vm w):Calls Tryz.prog 109 #[.agg #[.string u.nm,.string u.hs,.string u.ml,.bool u.dis,.slice u.ga u.gs.length u.gc]] w (yi (yk 2 u) w):=by
 have hb1:=za (Below.refl w.heap.size w) (.cells #[.string u.nm,.string u.hs,.string u.ml,.bool u.dis,.slice u.ga u.gs.length u.gc] 47)
 have HC:Hid (Calls Tryz.prog 104 #[.int .i64 2,.agg #[.string u.nm,.string u.hs,.string u.ml,.bool u.dis,.slice u.ga u.gs.length u.gc]] (w.alloc (.cells #[.string u.nm,.string u.hs,.string u.ml,.bool u.dis,.slice u.ga u.gs.length u.gc] 47)) (yi (yk 2 u) (w.alloc (.cells #[.string u.nm,.string u.hs,.string u.ml,.bool u.dis,.slice u.ga u.gs.length u.gc] 47)))):=vk 2 u _ (h.below hb1) (hm.later hb1)
 have HB:=z8 hb1
 clear h hm hb1
 generalize yk 2 u=x at *
 obtain ⟨nm,hs,ml,dis,ga,gs,gc⟩:=u
 dsimp only at *
 generalize gs.length=gl at *
 go_enter Tryz.func109,Tryz.ntmps109
 go_wp2_with (go_at_call 104; (with_reducible refine HC.out.mono ?_); rintro e w2 ⟨rfl,hb⟩; have HB2:=z8 (z7 HB.out hb); clear hb)
 go_ret
 exact ⟨rfl,HB2.out⟩
end Go.Proofs.YthmomkjingcbiaaGreatDoor
