/-
  The texts that the laws of this seat share, part 3: what the code and the document's own answers tell, walked function by function.
  Conditions: each theorem's own.
-/
import Derived.Laws.Tables
import Derived.SizedLaws
import Derived.Test.YteegkoicalbkbaaGreatDoorHosOBB
set_option maxHeartbeats 16000000
namespace Go.Proofs.YteegkoicalbkbaaGreatDoor
open Go.RowKit

def zI:List Int→Int
 | []=>0
 | e::l=>if e=0 then zI l else e

set_option maxRecDepth 100000 in
theorem jH (B n cap:Nat) (es:List Int) (w:World) (hl:n=es.length) (hn:n≤1000) (hc:∀ j (h:j<es.length),w.cell? ⟨B,j,none⟩=some (.int .i64 es[j])) :
  Calls Tryz.prog 209 #[.slice (some ⟨B,0,none⟩) n cap] w fun e w'=>e=.returned (.int .i64 (zI es))∧w'=w:=by
 have HC:=za hc
 have HL:=za hl
 clear hc hl
 generalize hr:zI es=r
 have HR:=za hr
 clear hr
 go_enter Tryz.func209,Tryz.ntmps209
 go_wp2
 go_loopg [4,7] n (fun gg _ s7 wr=>∃ k:Nat,k≤n∧n - k≤gg∧s7=.int .i64 k∧wr=w∧Hid (zI (es.drop k)=r))
 case atStart=>exact ⟨0,Nat.zero_le _,by omega,rfl,rfl,HR⟩
 case round =>
  obtain ⟨k,hk,hg,rfl,rfl,A⟩:=hrel
  by_cases hlt:k<n
  ·
   have hltz:(k:Int)<(n:Int):=by omega
   have hkl:k<es.length:=HL.out ▸ hlt
   have hcell:=HC.out k hkl
   have hA:(if es[k]=0 then zI (es.drop (k+1)) else es[k])=r:=by
    have:=A.out
    rw [List.drop_eq_getElem_cons hkl] at this
    exact this
   generalize es[k]=x at *
   by_cases h0:x=0
   ·
    rw [if_pos h0] at hA
    have HA:=za hA
    clear hA A
    subst h0
    go_wp2
    go_roundg (n - (k+1))
    case measure=>omega
    case rel=>exact ⟨k+1,by omega,by omega,by go_num,rfl,HA⟩
   ·
    rw [if_neg h0] at hA
    subst hA
    clear A
    go_wp2
    go_ret
    exact ⟨rfl,rfl⟩
  ·
   have hltz:¬ (k:Int)<(n:Int):=by omega
   have hA:(0:Int)=r:=by
    have:=A.out
    rw [List.drop_eq_nil_of_le (by have:=HL.out; omega)] at this
    exact this
   subst hA
   clear A
   go_wp2
   go_ret
   exact ⟨rfl,rfl⟩

set_option maxRecDepth 100000 in
theorem vQ (b:Bool) (n:Int) (w:World):Calls Tryz.prog 208 #[.bool b,.int .i64 n] w fun e w'=>e=.returned (.int .i64 (zi b n))∧w'=w:=by
 cases b with
 | true =>
  show Calls _ _ _ _ fun e w'=>e=.returned (.int .i64 0)∧w'=w
  go_enter Tryz.func208,Tryz.ntmps208
  go_wp2
  go_ret
  exact ⟨rfl,rfl⟩
 | false =>
  show Calls _ _ _ _ fun e w'=>e=.returned (.int .i64 n)∧w'=w
  go_enter Tryz.func208,Tryz.ntmps208
  go_wp2
  go_ret
  exact ⟨rfl,rfl⟩

def Y9 (s:Int):Bool:=decide (s=1) || decide (s=2)

set_option maxRecDepth 100000 in
theorem Fr (s:Int) (w:World):Calls Tryz.prog 183 #[.int .i64 s] w fun e w'=>e=.returned (.int .i64 (zi (Y9 s) 6))∧w'=w:=by
 have HU:Hid (∀ b,Calls Tryz.prog 208 #[.bool b,.int .i64 6] w fun e w'=>e=.returned (.int .i64 (zi b 6))∧w'=w):=fun b=>vQ b 6 w
 obtain ⟨r,hr⟩:∃ r,r=zi (Y9 s) 6:=⟨_,rfl⟩
 rw [← hr]
 by_cases h1:s=1
 ·
  subst h1
  have HU1:Hid (Calls Tryz.prog 208 #[.bool true,.int .i64 6] w fun e w'=>e=.returned (.int .i64 r)∧w'=w):=by
   have:=HU.out true
   rw [hr]; exact this
  clear HU hr
  go_enter Tryz.func183,Tryz.ntmps183
  go_wp2_with fail
  with_reducible refine HU1.out.mono ?_
  rintro e w1 ⟨rfl,rfl⟩
  go_wp2
  go_ret
  exact ⟨rfl,rfl⟩
 ·
  by_cases h2:s=2
  ·
   subst h2
   have HU1:Hid (Calls Tryz.prog 208 #[.bool true,.int .i64 6] w fun e w'=>e=.returned (.int .i64 r)∧w'=w):=by
    have:=HU.out true
    rw [hr]; exact this
   clear HU hr h1
   go_enter Tryz.func183,Tryz.ntmps183
   go_wp2_with fail
   with_reducible refine HU1.out.mono ?_
   rintro e w1 ⟨rfl,rfl⟩
   go_wp2
   go_ret
   exact ⟨rfl,rfl⟩
  ·
   have HU1:Hid (Calls Tryz.prog 208 #[.bool false,.int .i64 6] w fun e w'=>e=.returned (.int .i64 r)∧w'=w):=by
    have:=HU.out false
    rw [hr]
    have e:Y9 s=false:=by simp [Y9,h1,h2]
    rw [e]; exact this
   clear HU hr
   have d1:(s == 1)=false:=by simpa using h1
   have d2:(s == 2)=false:=by simpa using h2
   go_enter Tryz.func183,Tryz.ntmps183
   go_wp2_with fail
   with_reducible refine HU1.out.mono ?_
   rintro e w1 ⟨rfl,rfl⟩
   go_wp2
   go_ret
   exact ⟨rfl,rfl⟩

set_option maxRecDepth 100000 in
theorem few6_calls (A:Option Addr) (n c:Nat) (w:World):Calls Tryz.prog 213 #[.slice A n c] w fun e w'=>e=.returned (.int .i64 (zi (decide (n≤6)) 7))∧w'=w:=by
 by_cases h:n≤6
 ·
  have HU:=za (vQ true 7 w)
  rw [decide_eq_true h]
  have z:(n:Int)≤6:=by omega
  generalize zi true 7=r at *
  go_enter Tryz.func213,Tryz.ntmps213
  go_wp2_with fail
  with_reducible refine HU.out.mono ?_
  rintro e w1 ⟨rfl,rfl⟩
  go_wp2
  go_ret
  exact ⟨rfl,rfl⟩
 ·
  have HU:=za (vQ false 7 w)
  rw [decide_eq_false h]
  have z:¬ (n:Int)≤6:=by omega
  generalize zi false 7=r at *
  go_enter Tryz.func213,Tryz.ntmps213
  go_wp2_with fail
  with_reducible refine HU.out.mono ?_
  rintro e w1 ⟨rfl,rfl⟩
  go_wp2
  go_ret
  exact ⟨rfl,rfl⟩

theorem RdS.at6 {w:World} {A:Option Addr} {ss:List ByteArray} (h:RdS w A ss) (k:Nat) (hk:k<ss.length) :
  ∃ (b off:Nat),A=some ⟨b,off,none⟩∧w.cell? ⟨b,off+k,none⟩=some (.string ss[k]):=by
 obtain ⟨b,off,rfl,_,hc⟩:=h (by intro e; subst e; simp at hk)
 exact ⟨b,off,rfl,hc k hk⟩
theorem RdS.below {w w':World} {A:Option Addr} {ss:List ByteArray} (h:RdS w A ss) (hb:Below w.heap.size w w'):RdS w' A ss:=h.turns (zg.of_below hb (fun _=>False)) (fun _ _ _ f=>f)

def yx (ss:List ByteArray):Bool:=ss.all fun s=>zh s.data.toList

set_option maxRecDepth 100000 in
theorem Fh (A:Option Addr) (n c:Nat) (ss:List ByteArray) (w:World) (hl:n=ss.length) (hr:RdS w A ss) (hm:n≤9223372036854775807) (hs:∀ s∈ss,s.size≤9223372036854775807) :
  Calls Tryz.prog 214 #[.slice A n c] w (yG (zi (yx ss) 10) w):=by
 have HR:=za hr
 have HL:=za hl
 have HS:=za hs
 clear hr hl hs
 obtain ⟨r,hr⟩:∃ r,r=zi (yx ss) 10:=⟨_,rfl⟩
 rw [← hr]
 have HE:=za hr
 clear hr
 go_enter Tryz.func214,Tryz.ntmps214
 go_wp2
 go_loopg [4,5,8] n (fun gg _ _ s8 wr=>∃ k:Nat,k≤n∧n - k≤gg∧s8=.int .i64 k∧Hid (Below w.heap.size w wr)∧Hid (∀ j (h:j<ss.length),j<k→zh ss[j].data.toList=true))
 case atStart=>exact ⟨0,Nat.zero_le _,by omega,rfl,Below.refl _ _,fun j _ hj=>absurd hj (Nat.not_lt_zero _)⟩
 case round =>
  obtain ⟨k,hk,hg,rfl,HW,A⟩:=hrel
  by_cases hlt:k<n
  ·
   have hltz:(k:Int)<(n:Int):=by omega
   have hkl:k<ss.length:=HL.out ▸ hlt
   obtain ⟨b,off,rfl,hcell⟩:=(HR.out.below HW.out).at6 k hkl
   have HN:=za (zW ss[k] wr (HS.out _ (List.getElem_mem hkl)))
   have HX:Hid (zh ss[k].data.toList=true→∀ j (h:j<ss.length),j<k+1→zh ss[j].data.toList=true):=fun hq j h hj=>by
    by_cases e:j=k
    ·
     subst e; exact hq
    ·
     exact A.out j h (by omega)
   have HF:Hid (zh ss[k].data.toList=false→r=10):=fun hf=>by
    rw [HE.out]
    have:yx ss=false:=List.all_eq_false.2 ⟨ss[k],List.getElem_mem hkl,by rw [hf]; simp⟩
    rw [this]; rfl
   cases hq:zh ss[k].data.toList with
   | true =>
    rw [hq] at HN
    have HY:=za (HX.out hq)
    clear hq HX HF A
    generalize ss[k]=x at *
    have HN2:Hid (Calls Tryz.prog 159 #[.string x] wr (yG 0 wr)):=HN
    clear HN
    go_wp2_with (go_at_call 159; (with_reducible refine HN2.out.mono ?_); rintro e w3 ⟨rfl,hb⟩; have HB3:=za (z7 HW.out hb); clear hb)
    go_roundg (n - (k+1))
    case measure=>omega
    case rel=>exact ⟨k+1,by omega,by omega,by go_num,HB3,HY⟩
   | false =>
    rw [hq] at HN
    have hr10:r=10:=HF.out hq
    subst hr10
    clear hq HX HF A
    generalize ss[k]=x at *
    have HN2:Hid (Calls Tryz.prog 159 #[.string x] wr (yG 10 wr)):=HN
    clear HN
    go_wp2_with (go_at_call 159; (with_reducible refine HN2.out.mono ?_); rintro e w3 ⟨rfl,hb⟩; have HB3:=za (z7 HW.out hb); clear hb)
    go_ret
    exact ⟨rfl,HB3.out⟩
  ·
   have hltz:¬ (k:Int)<(n:Int):=by omega
   obtain rfl:k=n:=by omega
   have hr0:r=0:=by
    rw [HE.out]
    have:yx ss=true:=by
     unfold yx
     rw [List.all_eq_true]
     intro x hx
     obtain ⟨j,hj,rfl⟩:=List.getElem_of_mem hx
     exact A.out j hj (by have:=HL.out; omega)
    rw [this]; rfl
   subst hr0
   clear A
   go_wp2
   go_ret
   exact ⟨rfl,HW.out⟩

def vt (a b:ByteArray):Bool:=decide (Lib.compareBytes a.data.toList b.data.toList<0)
def yh:List ByteArray→Bool
 | []=>true
 | [_]=>true
 | a::b::l=>vt a b && yh (b::l)

theorem Xv:∀ (ss:List ByteArray) (k:Nat) (h:k+1<ss.length),vt ss[k] ss[k+1]=false→yh ss=false
 | [],k,h,_=>by simp at h
 | [_],k,h,_=>by simp at h
 | a::b::l,0,h,hq=>by
  have hq':vt a b=false:=hq
  show (vt a b && yh (b::l))=false
  rw [hq']; rfl
 | a::b::l,k+1,h,hq=>by
  show (vt a b && yh (b::l))=false
  rw [Xv (b::l) k (by simpa using h) hq]
  simp
theorem Xw:∀ (ss:List ByteArray),(∀ k (h:k+1<ss.length),vt ss[k] ss[k+1]=true)→yh ss=true
 | [],_=>rfl
 | [_],_=>rfl
 | a::b::l,hq=>by
  show (vt a b && yh (b::l))=true
  have h0:vt a b=true:=hq 0 (by simp)
  rw [h0,Xw (b::l) (fun k h=>hq (k+1) (by simpa using h))]
  rfl

set_option maxRecDepth 100000 in
theorem Qn (Aa:Option Addr) (n c:Nat) (ss:List ByteArray) (w:World) (hl:n=ss.length) (hr:RdS w Aa ss) (hm:n≤9223372036854775807) :
  Calls Tryz.prog 215 #[.slice Aa n c] w fun e w'=>e=.returned (.int .i64 (zi (yh ss) 9))∧∃ q,w'=w.drewN q:=by
 have HR:=za hr
 have HL:=za hl
 clear hr hl
 obtain ⟨r,hr⟩:∃ r,r=zi (yh ss) 9:=⟨_,rfl⟩
 rw [← hr]
 have HE:=za hr
 clear hr
 go_enter Tryz.func215,Tryz.ntmps215
 go_wp2
 go_loopg [3] n (fun gg s3 wr=>∃ k:Nat,(k≤n∨k=1)∧1≤k∧n - k≤gg∧s3=.int .i64 k∧(∃ q,wr=w.drewN q)∧Hid (∀ j (h:j+1<ss.length),j+1<k→vt ss[j] ss[j+1]=true))
 case atStart=>exact ⟨1,.inr rfl,Nat.le_refl _,by omega,rfl,⟨0,rfl⟩,fun j _ hj=>absurd hj (by omega)⟩
 case round =>
  obtain ⟨k,hk,hk1,hg,rfl,⟨q,hq⟩,A⟩:=hrel
  have HQ:=za hq
  have HW:Hid (RdS wr Aa ss):=by rw [hq]; exact HR.out.below (zJ (Below.refl w.heap.size w) q)
  clear hq
  by_cases hlt:k<n
  ·
   have hltz:(k:Int)<(n:Int):=by omega
   have hkl:k<ss.length:=HL.out ▸ hlt
   have hkl':k - 1<ss.length:=by omega
   obtain ⟨b,off,hA,hcell⟩:=HW.out.at6 k hkl
   obtain ⟨b',off',hA',hcell'⟩:=HW.out.at6 (k - 1) hkl'
   obtain ⟨rfl,rfl⟩:b'=b∧off'=off:=by
    rw [hA] at hA'
    simp at hA'
    exact ⟨hA'.1.symm,hA'.2.symm⟩
   subst hA
   have zk:(k:Int) - 1=((k - 1:Nat):Int):=by omega
   have z1:((k - 1:Nat):Int)<(n:Int):=by omega
   have hcw:∀ i,(wr.drewN i).cell? ⟨b',off'+k,none⟩=some (.string ss[k]):=fun i=>hcell
   have hcw':∀ i,(wr.drewN i).cell? ⟨b',off'+(k - 1),none⟩=some (.string ss[k - 1]):=fun i=>hcell'
   have HX:Hid (vt ss[k - 1] ss[k]=true→∀ j (h:j+1<ss.length),j+1<k+1→vt ss[j] ss[j+1]=true):=fun hq j h hj=>by
    by_cases e:j=k - 1
    ·
     subst e
     have e2:k - 1+1=k:=by omega
     have:ss[k - 1+1]=ss[k]:=by congr 1
     rw [this]; exact hq
    ·
     exact A.out j h (by omega)
   have HF:Hid (vt ss[k - 1] ss[k]=false→r=9):=fun hf=>by
    rw [HE.out]
    have:yh ss=false:=Xv ss (k - 1) (by omega) (by
     have:ss[k - 1+1]=ss[k]:=by congr 1; omega
     rw [this]; exact hf)
    rw [this]; rfl
   have HC:Hid (∀ W,Calls Tryz.prog 188 #[.string ss[k - 1],.string ss[k]] W fun e w'=>e=.returned (.int .i64 (Lib.compareBytes ss[k - 1].data.toList ss[k].data.toList))∧w'=W):=fun W=>jg _ _ W
   have HD:Hid (vt ss[k - 1] ss[k]=decide (Lib.compareBytes ss[k - 1].data.toList ss[k].data.toList<0)):=rfl
   generalize Lib.compareBytes ss[k - 1].data.toList ss[k].data.toList=cm at *
   generalize vt ss[k - 1] ss[k]=q6 at *
   generalize ss[k]=x at *
   generalize ss[k - 1]=y at *
   clear A hcell hcell'
   have hwr:IntKind.i64.wrap ((k - 1:Nat):Int)=((k - 1:Nat):Int):=IntWalk.i64_in _ (by omega)
   by_cases hc:cm<0
   ·
    have hq:q6=true:=by rw [HD.out,decide_eq_true hc]
    have HY:=za (HX.out hq)
    have hcd:decide (cm ≥ 0)=false:=decide_eq_false (by omega)
    have hc2:¬ cm ≥ 0:=by omega
    have hc3:¬ 0≤cm:=by omega
    clear HX HF HD hq
    go_wp2
    go_quiet (first | (go_at_call 188; exact Calls.quiet_of_same (HC.out _)))
    go_wp2
    go_roundg (n - (k+1))
    case measure=>omega
    case rel=>exact ⟨k+1,.inl (by omega),by omega,by omega,by go_num,⟨q+nq,by rw [HQ.out,World.drewN_drewN]⟩,HY⟩
   ·
    have hq:q6=false:=by rw [HD.out,decide_eq_false hc]
    have hr9:r=9:=HF.out hq
    subst hr9
    have hc2:cm ≥ 0:=by omega
    have hc3:0≤cm:=by omega
    clear HX HF HD hq
    go_wp2
    go_quiet (first | (go_at_call 188; exact Calls.quiet_of_same (HC.out _)))
    go_wp2
    go_ret
    exact ⟨rfl,q+nq,by rw [HQ.out,World.drewN_drewN]⟩
  ·
   have hltz:¬ (k:Int)<(n:Int):=by omega
   have hr0:r=0:=by
    rw [HE.out]
    have:yh ss=true:=Xw ss (fun j h=>A.out j h (by have:=HL.out; omega))
    rw [this]; rfl
   subst hr0
   clear A
   go_wp2
   go_ret
   exact ⟨rfl,q,HQ.out⟩

def fj (m:ByteArray):Bool:=decide (m.size=0) || (ve m.data.toList && decide (fJ m.data.toList=m))

theorem jR {s t:ByteArray} (h:s≠t):s.toList≠t.toList:=by
 intro e
 apply h
 rw [ByteArray.toList_eq,ByteArray.toList_eq] at e
 exact ByteArray.ext (Array.toList_inj.1 e)

theorem JD (w:World) (t:TypeId) (x y:Int) (j:Nat) (h:j<[x,y].length):(w.alloc (.cells #[.int .i64 x,.int .i64 y] t)).cell? ⟨w.heap.size,j,none⟩=some (.int .i64 [x,y][j]):=by
 rw [World.cell?_alloc_at _ _ _ _ rfl]
 match j,h with
 | 0,_=>rfl
 | 1,_=>rfl

set_option maxRecDepth 100000 in
theorem J2 (m:ByteArray) (w:World) (hs:m.size≤9223372036854775807) (hm:vY w) :
  Calls Tryz.prog 212 #[.string m] w (yG (zi (fj m) 11) w):=by
 by_cases h0:m.size=0
 ·
  obtain rfl:m=⟨#[]⟩:=by
   obtain ⟨d⟩:=m
   obtain rfl:d=#[]:=Array.eq_empty_of_size_eq_zero h0
   rfl
  show Calls _ _ _ _ (yG 0 w)
  go_enter Tryz.func212,Tryz.ntmps212
  go_wp2
  go_ret
  exact ⟨rfl,Below.refl _ _⟩
 ·
  have hne:¬ m.toList=[]:=fun e=>h0 (by rw [← zx,← ByteArray.toList_eq,e]; rfl)
  have hne2:m.toList.isEmpty=false:=by simpa using hne
  have HM:=za (fa m w hs hm)
  have hf:fj m=(ve m.data.toList && decide (fJ m.data.toList=m)):=by
   unfold fj
   rw [decide_eq_false h0,Bool.false_or]
  rw [hf]
  clear hf hm hs
  generalize ve m.data.toList=b at *
  generalize fJ m.data.toList=t at *
  obtain ⟨r,hr⟩:∃ r,r=zi (b && decide (t=m)) 11:=⟨_,rfl⟩
  rw [← hr]
  have HU:Hid (∀ b w,Calls Tryz.prog 208 #[.bool b,.int .i64 11] w fun e w'=>e=.returned (.int .i64 (zi b 11))∧w'=w):=fun b w=>vQ b 11 w
  have HF:Hid (∀ (x y:Int) (W:World),Calls Tryz.prog 209 #[.slice (some ⟨W.heap.size,0,none⟩) 2 2] (W.alloc (.cells #[.int .i64 x,.int .i64 y] 54)) fun e w'=>e=.returned (.int .i64 (zI [x,y]))∧w'=W.alloc (.cells #[.int .i64 x,.int .i64 y] 54)) :=
   fun x y W=>jH _ 2 2 [x,y] _ rfl (by omega) (JD W _ x y)
  have HR:Hid (∀ c:Bool,c=decide (t=m)→r=zI [zi b 11,zi c 11]):=fun c hc=>by
   rw [hr,hc]
   cases b <;> by_cases h:t=m <;> simp [h,zi,zI]
  clear hr h0
  by_cases h:t=m
  ·
   have hr:=HR.out true (by simp [h])
   have HR2:=za hr
   subst h
   clear hr HR
   go_enter Tryz.func212,Tryz.ntmps212
   go_wp2_with fail
   with_reducible refine HM.out.mono ?_
   rintro e w1 ⟨rfl,hb⟩
   have HB:=za hb
   clear hb HM
   go_wp2_with fail
   with_reducible refine (HU.out true _).mono ?_
   rintro e w2 ⟨rfl,rfl⟩
   generalize zi true 11=e2 at *
   go_wp2_with fail
   with_reducible refine (HF.out (zi b 11) e2 _).mono ?_
   rintro e w3 ⟨rfl,rfl⟩
   have hr:=HR2.out
   rw [← hr]
   clear hr HR2
   go_wp2
   go_ret
   exact ⟨rfl,zb HB.out _⟩
  ·
   have hr:=HR.out false (by simp [h])
   have HR2:=za hr
   have htn:=jR h
   have htn2:(t.toList == m.toList)=false:=by simpa using htn
   clear hr HR h
   go_enter Tryz.func212,Tryz.ntmps212
   go_wp2_with fail
   with_reducible refine HM.out.mono ?_
   rintro e w1 ⟨rfl,hb⟩
   have HB:=za hb
   clear hb HM
   go_wp2_with fail
   with_reducible refine (HU.out false _).mono ?_
   rintro e w2 ⟨rfl,rfl⟩
   generalize zi false 11=e2 at *
   go_wp2_with fail
   with_reducible refine (HF.out (zi b 11) e2 _).mono ?_
   rintro e w3 ⟨rfl,rfl⟩
   have hr:=HR2.out
   rw [← hr]
   clear hr HR2
   go_wp2
   go_ret
   exact ⟨rfl,zb HB.out _⟩

structure Us where
 nm:ByteArray
 hs:ByteArray
 ml:ByteArray
 dis:Bool
 ga:Option Addr
 gs:List ByteArray
 gc:Nat
def Us.cells (u:Us):Array Value:=#[.string u.nm,.string u.hs,.string u.ml,.bool u.dis,.slice u.ga u.gs.length u.gc]
def Us.v (u:Us):Value:=.agg u.cells
structure Us.Ok (w:World) (u:Us):Prop where
 rd:RdS w u.ga u.gs
 nm:u.nm.size≤140737488355328
 hs:u.hs.size≤140737488355328
 ml:u.ml.size≤140737488355328
 nil:u.ga=none→u.gc=0
 len:u.gs.length≤u.gc
 cap:u.gc≤9223372036854775807
 all:∀ s∈u.gs,s.size≤9223372036854775807
theorem Us.Ok.below {w W:World} {u:Us} (h:u.Ok w) (hb:Below w.heap.size w W):u.Ok W:=⟨h.rd.below hb,h.nm,h.hs,h.ml,h.nil,h.len,h.cap,h.all⟩

structure UsAt (w:World) (B:Nat) (u:Us):Prop where
 lt:B<w.heap.size
 c0:w.cell? ⟨B,0,none⟩=some (.string u.nm)
 c1:w.cell? ⟨B,1,none⟩=some (.string u.hs)
 c2:w.cell? ⟨B,2,none⟩=some (.string u.ml)
 c3:w.cell? ⟨B,3,none⟩=some (.bool u.dis)
 c4:w.cell? ⟨B,4,none⟩=some (.slice u.ga u.gs.length u.gc)
theorem UsAt.new (w:World) (u:Us) (t:TypeId):UsAt (w.alloc (.cells #[.string u.nm,.string u.hs,.string u.ml,.bool u.dis,.slice u.ga u.gs.length u.gc] t)) w.heap.size u:=by
 refine ⟨by simp,?_,?_,?_,?_,?_⟩
 all_goals
  rw [World.cell?_alloc_at _ _ _ _ rfl]
  rfl
theorem UsAt.below_at {w W:World} {B:Nat} {u:Us} (h:UsAt w B u) {n:Nat} (hn:B<n) (hb:Below n w W):UsAt W B u :=
 ⟨Nat.lt_of_lt_of_le h.lt hb.size,(hb.cell (p:=⟨B,0,none⟩) hn).trans h.c0,(hb.cell (p:=⟨B,1,none⟩) hn).trans h.c1,(hb.cell (p:=⟨B,2,none⟩) hn).trans h.c2,(hb.cell (p:=⟨B,3,none⟩) hn).trans h.c3,(hb.cell (p:=⟨B,4,none⟩) hn).trans h.c4⟩
theorem UsAt.below {w W:World} {B:Nat} {u:Us} (h:UsAt w B u) (hb:Below w.heap.size w W):UsAt W B u:=h.below_at h.lt hb

theorem JS {w:World} {b off:Nat} {ss:List ByteArray} (h:∀ j (hj:j<ss.length),w.cell? ⟨b,off+j,none⟩=some (.string ss[j])):∀ j,j<ss.length→w.cell? ⟨b,off+j,none⟩=some (.string (ss.getD j ByteArray.empty)):=fun j hj=>by
 rw [h j hj,List.getD_eq_getElem?_getD,List.getElem?_eq_getElem hj]
 rfl

theorem FQ (A A':Option Addr) (n c m c':Nat) (ss ts:List ByteArray) (w:World) (hn:n=ss.length) (hm:m=ts.length) (h1:RdS w A ss) (h2:RdS w A' ts) (hb1:n≤9223372036854775807) (hb2:m≤9223372036854775807) :
  Calls Tryz.prog 47 #[.slice A n c,.slice A' m c'] w fun e w'=>e=.returned (.bool (decide (ss=ts)))∧∃ q,w'=w.drewN q:=by
 subst hn; subst hm
 by_cases hl:ss.length=ts.length
 ·
  by_cases h0:ss=[]
  ·
   subst h0
   have ht:ts=[]:=List.eq_nil_of_length_eq_zero hl.symm
   subst ht
   exact (Tryz.slices_Equal_string_empty A A' c 0 c' w (by omega)).mono fun e w' ⟨he,hw⟩=>⟨by rw [he]; rfl,0,by rw [hw]; rfl⟩
  ·
   have h0':ts≠[]:=fun e=>h0 (List.eq_nil_of_length_eq_zero (by rw [hl,e]; rfl))
   obtain ⟨b,off,rfl,_,hc⟩:=h1 h0
   obtain ⟨b',off',rfl,_,hc'⟩:=h2 h0'
   have:=Tryz.slices_Equal_string b off ss.length c b' off' ts.length c' ss ts w (Nat.le_refl _) (Nat.le_refl _) hb1 hb2 (JS hc) (JS hc')
   rw [List.take_length,List.take_length] at this
   exact this
 ·
  have hd:decide (ss=ts)=false:=decide_eq_false (fun e=>hl (by rw [e]))
  rw [hd]
  exact (Tryz.slices_Equal_string_lens A A' ss.length c ts.length c' w hl).mono fun e w' ⟨he,hw⟩=>⟨he,0,by rw [hw]; rfl⟩

def sameU (a b:Us):Bool:=decide (a.nm=b.nm) && decide (a.hs=b.hs) && decide (a.ml=b.ml) && decide (a.dis=b.dis) && decide (a.gs=b.gs)

set_option maxRecDepth 100000 in
theorem same6_calls (a b:Us) (w:World) (ha:a.Ok w) (hb:b.Ok w):Calls Tryz.prog 230 #[a.v,b.v] w (yL (sameU a b) w):=by
 have HE:Hid (∀ W,Below w.heap.size w W→Calls Tryz.prog 47 #[.slice a.ga a.gs.length a.gc,.slice b.ga b.gs.length b.gc] W fun e w'=>e=.returned (.bool (decide (a.gs=b.gs)))∧∃ q,w'=W.drewN q) :=
  fun W h=>FQ _ _ _ _ _ _ a.gs b.gs W rfl rfl (ha.rd.below h) (hb.rd.below h) (Nat.le_trans ha.len ha.cap) (Nat.le_trans hb.len hb.cap)
 clear ha hb
 unfold sameU Us.v Us.cells
 obtain ⟨nm,hs,ml,dis,ga,gs,gc⟩:=a
 obtain ⟨nm',hs',ml',dis',ga',gs',gc'⟩:=b
 dsimp only at *
 generalize decide (gs=gs')=q5 at *
 generalize gs.length=n at *
 generalize gs'.length=m at *
 obtain ⟨r,hr⟩:∃ r,r=(decide (nm=nm') && decide (hs=hs') && decide (ml=ml') && decide (dis=dis') && q5):=⟨_,rfl⟩
 rw [← hr]
 have HR:=za hr
 clear hr
 by_cases h1:nm=nm'
 ·
  by_cases h2:hs=hs'
  ·
   by_cases h3:ml=ml'
   ·
    by_cases h4:dis=dis'
    ·
     have HR2:Hid (r=q5):=by rw [HR.out]; simp [h1,h2,h3,h4,Hid]
     subst h1; subst h2; subst h3; subst h4
     clear HR
     have h4d:(dis == dis)=true:=by simp
     go_enter Tryz.func230,Tryz.ntmps230
     go_wp2_with fail
     with_reducible refine (HE.out _ (zb (zb (Below.refl _ _) _) _)).mono ?_
     rintro e w1 ⟨rfl,q,rfl⟩
     go_wp2
     go_ret
     exact ⟨by rw [HR2.out]; rfl,zJ (zb (zb (Below.refl _ _) _) _) q⟩
    ·
     have hr:r=false:=by rw [HR.out]; simp [h4]
     subst hr
     subst h1; subst h2; subst h3
     clear HR HE
     have h4d:(dis == dis')=false:=by simpa using h4
     go_enter Tryz.func230,Tryz.ntmps230
     go_wp2
     go_ret
     exact ⟨rfl,zb (zb (Below.refl _ _) _) _⟩
   ·
    have hr:r=false:=by rw [HR.out]; simp [h3]
    subst hr
    subst h1; subst h2
    have hn:=jR h3
    have hn2:(ml.toList == ml'.toList)=false:=by simpa using hn
    clear HR HE h3
    go_enter Tryz.func230,Tryz.ntmps230
    go_wp2
    go_ret
    exact ⟨rfl,zb (zb (Below.refl _ _) _) _⟩
  ·
   have hr:r=false:=by rw [HR.out]; simp [h2]
   subst hr
   subst h1
   have hn:=jR h2
   have hn2:(hs.toList == hs'.toList)=false:=by simpa using hn
   clear HR HE h2
   go_enter Tryz.func230,Tryz.ntmps230
   go_wp2
   go_ret
   exact ⟨rfl,zb (zb (Below.refl _ _) _) _⟩
 ·
  have hr:r=false:=by rw [HR.out]; simp [h1]
  subst hr
  have hn:=jR h1
  have hn2:(nm.toList == nm'.toList)=false:=by simpa using hn
  clear HR HE h1
  go_enter Tryz.func230,Tryz.ntmps230
  go_wp2
  go_ret
  exact ⟨rfl,zb (zb (Below.refl _ _) _) _⟩

def upU (u:Us):Us:=⟨u.nm,u.hs,⟨#[]⟩,false,none,[],0⟩
theorem upU_ok {w:World} {u:Us} (h:u.Ok w) (W:World):(upU u).Ok W:=⟨fun e=>absurd rfl e,h.nm,h.hs,Nat.zero_le _,fun _=>rfl,Nat.zero_le _,Nat.zero_le _,fun s hs=>by cases hs⟩

set_option maxRecDepth 100000 in
theorem JB (u:Us) (w:World):Calls Tryz.prog 181 #[u.v] w fun e w'=>e=.returned (upU u).v∧Below w.heap.size w w':=by
 unfold Us.v Us.cells upU
 obtain ⟨nm,hs,ml,dis,ga,gs,gc⟩:=u
 dsimp only
 generalize gs.length=n
 go_enter Tryz.func181,Tryz.ntmps181
 go_wp2
 refine bodyPost_ret (v:=.agg #[.string nm,.string hs,.string ⟨#[]⟩,.bool false,.slice none 0 0]) (by simp [results,Tryz.results181,go_sem]) rfl ⟨rfl,?_⟩
 exact zb (zb (Below.refl _ _) _) _

def YY (W:World) (v:Value) (es:List Int):Prop :=
 ∃ G,v=.slice (some ⟨G,0,none⟩) es.length es.length∧G<W.heap.size∧∀ j (h:j<es.length),W.cell? ⟨G,j,none⟩=some (.int .i64 es[j])
theorem YY.below {W W':World} {v:Value} {es:List Int} (h:YY W v es) (hb:Below W.heap.size W W'):YY W' v es:=by
 obtain ⟨G,e,hl,hc⟩:=h
 exact ⟨G,e,Nat.lt_of_lt_of_le hl hb.size,fun j hj=>(hb.cell (p:=⟨G,j,none⟩) hl).trans (hc j hj)⟩
theorem V8 (W:World) (es:List Int) (t:TypeId):YY (W.alloc (.cells (es.map (Value.int .i64)).toArray t)) (.slice (some ⟨W.heap.size,0,none⟩) es.length es.length) es:=by
 refine ⟨_,rfl,by simp,fun j hj=>?_⟩
 rw [World.cell?_alloc_at _ _ _ _ rfl]
 simp [hj]
theorem YY.first {W:World} {v:Value} {es:List Int} (h:YY W v es) (hn:es.length≤1000):Calls Tryz.prog 209 #[v] W fun e w'=>e=.returned (.int .i64 (zI es))∧w'=W:=by
 obtain ⟨G,rfl,_,hc⟩:=h
 exact jH G es.length es.length es W rfl hn hc

def fk (u:Us):Bool:=sameU u (upU u)
def YBare (u:Us) (q:Bool) (e:Int):Nat→Value→World→Prop
 | 0,v,_=>v=u.v
 | 1,v,_=>v=u.v
 | 2,v,_=>v=(upU u).v
 | 3,v,_=>v=.bool q
 | 4,v,_=>v=.int .i64 e
 | _,v,_=>v=.int .i64 e
theorem Q2 {u:Us} {q:Bool} {e:Int} {W W':World} (_hb:Below W.heap.size W W') (j:Nat) (z:Value) (h:YBare u q e j z W):YBare u q e j z W':=by
 match j,h with
 | 0,h=>exact h
 | 1,h=>exact h
 | 2,h=>exact h
 | 3,h=>exact h
 | 4,h=>exact h
 | _+5,h=>exact h

set_option maxRecDepth 100000 in
theorem bare6_calls (u:Us) (w:World) (h:u.Ok w):Calls Tryz.prog 211 #[u.v] w (yG (zi (fk u) 12) w):=by
 have HS:Hid (∀ W,Below w.heap.size w W→Calls Tryz.prog 230 #[u.v,(upU u).v] W (yL (fk u) W)):=fun W hb=>same6_calls u (upU u) W (h.below hb) (upU_ok h W)
 have HP:Hid (∀ W,Calls Tryz.prog 181 #[u.v] W fun e w'=>e=.returned (upU u).v∧Below W.heap.size W w'):=fun W=>JB u W
 have HU:Hid (∀ W,Calls Tryz.prog 208 #[.bool (fk u),.int .i64 12] W fun e w'=>e=.returned (.int .i64 (zi (fk u) 12))∧w'=W):=fun W=>vQ (fk u) 12 W
 have hat:=UsAt.new w u 192
 clear h
 generalize zi (fk u) 12=r at *
 generalize fk u=q at *
 have HA:=za hat
 have HB0:=za (zb (Below.refl w.heap.size w) (.cells #[.string u.nm,.string u.hs,.string u.ml,.bool u.dis,.slice u.ga u.gs.length u.gc] 192))
 clear hat
 show Calls _ _ #[.agg #[.string u.nm,.string u.hs,.string u.ml,.bool u.dis,.slice u.ga u.gs.length u.gc]] _ _
 go_enter Tryz.func211,Tryz.ntmps211
 go_wp2_with fail
 generalize w.alloc (.cells #[.string u.nm,.string u.hs,.string u.ml,.bool u.dis,.slice u.ga u.gs.length u.gc] 192)=w1 at *
 refine yg (by kernel_rfl) (fun W=>Below w1.heap.size w1 W) (YBare u q r) ?F ?hF (by kernel_rfl) (by kernel_rfl) (zQ (Below.refl _ _)) ?step ?fin
 case hF =>
  intro x
  simp only [List.map_cons,List.map_nil,xU,Act.put,List.setIfInBounds_toArray,List.set_cons_zero,List.set_cons_succ,Nat.zero_add,Nat.reduceAdd]
  exact rfl
 case step =>
  refine ⟨?_,?_,?_,?_,?_,?_,trivial⟩
  all_goals intro x W hW hdep K hK
  ·
   have hc:=HA.out.below hW
   have c0:=hc.c0
   have c1:=hc.c1
   have c2:=hc.c2
   have c3:=hc.c3
   have c4:=hc.c4
   clear hdep
   go_simp
   exact hK _ _ rfl hW (fun _ _ h=>h)
  ·
   have hc:=HA.out.below hW
   have c0:=hc.c0
   have c1:=hc.c1
   have c2:=hc.c2
   have c3:=hc.c3
   have c4:=hc.c4
   clear hdep
   go_simp
   exact hK _ _ rfl hW (fun _ _ h=>h)
  ·
   have h1:x 1=_:=hdep 1 rfl
   clear hdep
   simp only [h1] at hK
   go_simp
   refine (HP.out W).mono ?_
   rintro e W' ⟨rfl,hb⟩
   exact hK _ _ rfl (z7 hW hb) (fun j u h=>Q2 hb j u h)
  ·
   have h0:x 0=_:=hdep 0 rfl
   have h2:x 2=_:=hdep 2 rfl
   clear hdep
   simp only [h0,h2] at hK
   go_simp
   refine (HS.out W (z7 HB0.out hW)).mono ?_
   rintro e W' ⟨rfl,hb⟩
   exact hK _ _ rfl (z7 hW hb) (fun j u h=>Q2 hb j u h)
  ·
   have h3:x 3=_:=hdep 3 rfl
   clear hdep
   simp only [h3] at hK
   go_simp
   refine (HU.out W).mono ?_
   rintro e W' ⟨rfl,rfl⟩
   exact hK _ _ rfl hW (fun _ _ h=>h)
  ·
   have h4:x 4=_:=hdep 4 rfl
   clear hdep
   simp only [h4] at hK
   go_simp
   exact hK _ _ rfl hW (fun _ _ h=>h)
 case fin =>
  intro x W hW hY
  have h5:x 5=.int .i64 r:=hY 5 (by decide)
  clear hY
  have HF:=za (z7 HB0.out hW)
  clear hW HS HP HU HA HB0
  rw [h5]
  go_wp2
  go_ret
  exact ⟨rfl,HF.out⟩

def YChkA (s:Int) (B:Nat) (u:Us) (e0 e1 e2:Int):Nat→Value→World→Prop
 | 0,v,_=>v=.int .i64 s
 | 1,v,_=>v=.int .i64 e0
 | 2,v,_=>v=.pointer (some ⟨B,0,none⟩)
 | 3,v,_=>v=.string u.nm
 | 4,v,_=>v=.int .i64 e1
 | 5,v,_=>v=.pointer (some ⟨B,1,none⟩)
 | 6,v,_=>v=.string u.hs
 | 7,v,_=>v=.int .i64 e2
 | 8,v,W=>YY W v [e0,e1,e2]
 | 9,v,_=>v=.int .i64 (zI [e0,e1,e2])
 | _,v,_=>v=.int .i64 (zI [e0,e1,e2])
theorem Yl {s:Int} {B:Nat} {u:Us} {e0 e1 e2:Int} {W W':World} (hb:Below W.heap.size W W') (j:Nat) (z:Value) (h:YChkA s B u e0 e1 e2 j z W):YChkA s B u e0 e1 e2 j z W':=by
 match j,h with
 | 0,h=>exact h
 | 1,h=>exact h
 | 2,h=>exact h
 | 3,h=>exact h
 | 4,h=>exact h
 | 5,h=>exact h
 | 6,h=>exact h
 | 7,h=>exact h
 | 8,h=>exact h.below hb
 | 9,h=>exact h
 | _+10,h=>exact h
def YChkB (B:Nat) (u:Us) (e0 e1 e2 e3 e4:Int):Nat→Value→World→Prop
 | 0,v,_=>v=.int .i64 e0
 | 1,v,_=>v=.pointer (some ⟨B,2,none⟩)
 | 2,v,_=>v=.string u.ml
 | 3,v,_=>v=.int .i64 e1
 | 4,v,_=>v=.pointer (some ⟨B,4,none⟩)
 | 5,v,_=>v=.slice u.ga u.gs.length u.gc
 | 6,v,_=>v=.int .i64 e2
 | 7,v,_=>v=.pointer (some ⟨B,4,none⟩)
 | 8,v,_=>v=.slice u.ga u.gs.length u.gc
 | 9,v,_=>v=.int .i64 e3
 | 10,v,_=>v=.pointer (some ⟨B,4,none⟩)
 | 11,v,_=>v=.slice u.ga u.gs.length u.gc
 | 12,v,_=>v=.int .i64 e4
 | 13,v,W=>YY W v [e0,e1,e2,e3,e4]
 | 14,v,_=>v=.int .i64 (zI [e0,e1,e2,e3,e4])
 | _,v,_=>v=.int .i64 (zI [e0,e1,e2,e3,e4])
theorem fg {B:Nat} {u:Us} {e0 e1 e2 e3 e4:Int} {W W':World} (hb:Below W.heap.size W W') (j:Nat) (z:Value) (h:YChkB B u e0 e1 e2 e3 e4 j z W):YChkB B u e0 e1 e2 e3 e4 j z W':=by
 match j,h with
 | 0,h=>exact h
 | 1,h=>exact h
 | 2,h=>exact h
 | 3,h=>exact h
 | 4,h=>exact h
 | 5,h=>exact h
 | 6,h=>exact h
 | 7,h=>exact h
 | 8,h=>exact h
 | 9,h=>exact h
 | 10,h=>exact h
 | 11,h=>exact h
 | 12,h=>exact h
 | 13,h=>exact h.below hb
 | 14,h=>exact h
 | _+15,h=>exact h

def uQ (s:Int) (u:Us):Int :=
 let e:=zI [zi (Y9 s) 6,zi (zh u.nm.data.toList) 10,zi (yj u.hs.data.toList) 4]
 if s=1 then zI [e,zi (fk u) 12] else zI [e,zi (fj u.ml) 11,zi (decide (u.gs.length≤6)) 7,zi (yx u.gs) 10,zi (yh u.gs) 9]

set_option maxRecDepth 100000 in
theorem YE (s:Int) (u:Us) (w:World) (h:u.Ok w) (hm:vY w):Calls Tryz.prog 185 #[.int .i64 s,u.v] w (yG (uQ s u) w):=by
 have HK:Hid (∀ W,Calls Tryz.prog 183 #[.int .i64 s] W fun e w'=>e=.returned (.int .i64 (zi (Y9 s) 6))∧w'=W):=fun W=>Fr s W
 have HN:Hid (∀ W,Calls Tryz.prog 159 #[.string u.nm] W (yG (zi (zh u.nm.data.toList) 10) W)):=fun W=>zW u.nm W (Nat.le_trans h.nm (by omega))
 have HH:Hid (∀ W,Calls Tryz.prog 210 #[.string u.hs] W (yG (zi (yj u.hs.data.toList) 4) W)):=fun W=>fh u.hs W (Nat.le_trans h.hs (by omega))
 have HBR:Hid (∀ W,Below w.heap.size w W→Calls Tryz.prog 211 #[u.v] W (yG (zi (fk u) 12) W)):=fun W hb=>bare6_calls u W (h.below hb)
 have HFO:Hid (∀ W,Below w.heap.size w W→Calls Tryz.prog 212 #[.string u.ml] W (yG (zi (fj u.ml) 11) W)):=fun W hb=>J2 u.ml W (Nat.le_trans h.ml (by omega)) (hm.later hb)
 have HFW:Hid (∀ W,Calls Tryz.prog 213 #[.slice u.ga u.gs.length u.gc] W fun e w'=>e=.returned (.int .i64 (zi (decide (u.gs.length≤6)) 7))∧w'=W):=fun W=>few6_calls u.ga u.gs.length u.gc W
 have HNS:Hid (∀ W,Below w.heap.size w W→Calls Tryz.prog 214 #[.slice u.ga u.gs.length u.gc] W (yG (zi (yx u.gs) 10) W)):=fun W hb=>Fh u.ga u.gs.length u.gc u.gs W rfl (h.rd.below hb) (Nat.le_trans h.len h.cap) h.all
 have HRI:Hid (∀ W,Below w.heap.size w W→Calls Tryz.prog 215 #[.slice u.ga u.gs.length u.gc] W (yG (zi (yh u.gs) 9) W)):=fun W hb =>
  (Qn u.ga u.gs.length u.gc u.gs W rfl (h.rd.below hb) (Nat.le_trans h.len h.cap)).mono fun e w' ⟨he,q,hq⟩=>⟨he,by rw [hq]; exact zJ (Below.refl _ _) q⟩
 have HF2:Hid (∀ (x y:Int) (W:World),Calls Tryz.prog 209 #[.slice (some ⟨W.heap.size,0,none⟩) 2 2] (W.alloc (.cells #[.int .i64 x,.int .i64 y] 54)) fun e w'=>e=.returned (.int .i64 (zI [x,y]))∧w'=W.alloc (.cells #[.int .i64 x,.int .i64 y] 54)) :=
  fun x y W=>jH _ 2 2 [x,y] _ rfl (by omega) (JD W _ x y)
 have hat:=UsAt.new w u 192
 have hb0:=zb (Below.refl w.heap.size w) (.cells #[.string u.nm,.string u.hs,.string u.ml,.bool u.dis,.slice u.ga u.gs.length u.gc] 192)
 clear h hm
 obtain ⟨r,hr⟩:∃ r,r=uQ s u:=⟨_,rfl⟩
 rw [← hr]
 unfold uQ at hr
 have HR:=za hr
 clear hr
 generalize zi (Y9 s) 6=e0 at *
 generalize zi (zh u.nm.data.toList) 10=e1 at *
 generalize zi (yj u.hs.data.toList) 4=e2 at *
 generalize zi (fk u) 12=e3 at *
 generalize zi (fj u.ml) 11=e4 at *
 generalize zi (decide (u.gs.length≤6)) 7=e5 at *
 generalize zi (yx u.gs) 10=e6 at *
 generalize zi (yh u.gs) 9=e7 at *
 have HA:=za hat
 have HB0:=za hb0
 clear hat hb0
 have huv:Hid (u.v=.agg #[.string u.nm,.string u.hs,.string u.ml,.bool u.dis,.slice u.ga u.gs.length u.gc]):=rfl
 rw [huv.out]
 go_enter Tryz.func185,Tryz.ntmps185
 go_wp2_with fail
 generalize w.alloc (.cells #[.string u.nm,.string u.hs,.string u.ml,.bool u.dis,.slice u.ga u.gs.length u.gc] 192)=w1 at *
 refine yg (by kernel_rfl) (fun W=>Below w1.heap.size w1 W) (YChkA s w.heap.size u e0 e1 e2) ?F ?hF (by kernel_rfl) (by kernel_rfl) (zQ (Below.refl _ _)) ?step ?fin
 case hF =>
  intro x
  simp only [List.map_cons,List.map_nil,xU,Act.put,List.setIfInBounds_toArray,List.set_cons_zero,List.set_cons_succ,Nat.zero_add,Nat.reduceAdd]
  exact rfl
 case step =>
  refine ⟨?_,?_,?_,?_,?_,?_,?_,?_,?_,?_,?_,trivial⟩
  all_goals intro x W hW hdep K hK
  ·
   clear hdep
   go_simp
   exact hK _ _ rfl hW (fun _ _ h=>h)
  ·
   have h0:x 0=_:=hdep 0 rfl
   clear hdep
   simp only [h0] at hK
   go_simp
   refine (HK.out W).mono ?_
   rintro e W' ⟨rfl,rfl⟩
   exact hK _ _ rfl hW (fun _ _ h=>h)
  ·
   clear hdep
   go_simp
   exact hK _ _ rfl hW (fun _ _ h=>h)
  ·
   have h2:x 2=_:=hdep 2 rfl
   have c0:=(HA.out.below hW).c0
   clear hdep
   simp only [h2] at hK
   go_simp
   exact hK _ _ rfl hW (fun _ _ h=>h)
  ·
   have h3:x 3=_:=hdep 3 rfl
   clear hdep
   simp only [h3] at hK
   go_simp
   refine (HN.out W).mono ?_
   rintro e W' ⟨rfl,hb⟩
   exact hK _ _ rfl (z7 hW hb) (fun j u h=>Yl hb j u h)
  ·
   clear hdep
   go_simp
   exact hK _ _ rfl hW (fun _ _ h=>h)
  ·
   have h5:x 5=_:=hdep 5 rfl
   have c1:=(HA.out.below hW).c1
   clear hdep
   simp only [h5] at hK
   go_simp
   exact hK _ _ rfl hW (fun _ _ h=>h)
  ·
   have h6:x 6=_:=hdep 6 rfl
   clear hdep
   simp only [h6] at hK
   go_simp
   refine (HH.out W).mono ?_
   rintro e W' ⟨rfl,hb⟩
   exact hK _ _ rfl (z7 hW hb) (fun j u h=>Yl hb j u h)
  ·
   have h1:x 1=_:=hdep 1 rfl
   have h4:x 4=_:=hdep 4 rfl
   have h7:x 7=_:=hdep 7 rfl
   clear hdep
   simp only [h1,h4,h7] at hK
   go_simp
   exact hK _ _ (V8 W [e0,e1,e2] _) (zb hW _) (fun j z h=>Yl (zb (Below.refl _ _) _) j z h)
  ·
   have h8:YY W (x 8) [e0,e1,e2]:=hdep 8 rfl
   clear hdep
   go_simp
   refine (h8.first (by simp)).mono ?_
   rintro e W' ⟨rfl,rfl⟩
   exact hK _ _ rfl hW (fun _ _ h=>h)
  ·
   have h9:x 9=_:=hdep 9 rfl
   clear hdep
   simp only [h9] at hK
   go_simp
   exact hK _ _ rfl hW (fun _ _ h=>h)
 case fin =>
  intro x W hW hY
  have h10:x 10=.int .i64 (zI [e0,e1,e2]):=hY 10 (by decide)
  clear hY
  have HAW:=za (HA.out.below hW)
  have HW:=za (z7 HB0.out hW)
  clear hW HK HN HH HA HB0
  rw [h10]
  clear h10
  generalize zI [e0,e1,e2]=f0 at *
  by_cases h1:s=1
  ·
   have hr:r=zI [f0,e3]:=by rw [HR.out,if_pos h1]
   subst h1
   have HR2:=za hr
   clear hr HR
   have c0:=HAW.out.c0
   have c1:=HAW.out.c1
   have c2:=HAW.out.c2
   have c3:=HAW.out.c3
   have c4:=HAW.out.c4
   have HBW:=HBR.out W HW.out
   rw [huv.out] at HBW
   go_wp2_with fail
   with_reducible refine HBW.mono ?_
   rintro e w2 ⟨rfl,hb⟩
   have HW2:=za (z7 HW.out hb)
   clear hb c0 c1 c2 c3 c4 HBW HBR
   go_wp2_with fail
   with_reducible refine (HF2.out f0 e3 _).mono ?_
   rintro e w3 ⟨rfl,rfl⟩
   have hr:=HR2.out
   rw [← hr]
   clear hr HR2
   go_wp2
   go_ret
   exact ⟨rfl,zb HW2.out _⟩
  ·
   have hr:r=zI [f0,e4,e5,e6,e7]:=by rw [HR.out,if_neg h1]
   have HR2:=za hr
   have h1d:(s == 1)=false:=by simpa using h1
   clear hr HR HBR h1
   go_wp2_with fail
   refine yg (by kernel_rfl) (fun W'=>Below W.heap.size W W') (YChkB w.heap.size u f0 e4 e5 e6 e7) ?F2 ?hF2 (by kernel_rfl) (by kernel_rfl) (zQ (Below.refl _ _)) ?step2 ?fin2
   case hF2 =>
    intro x
    simp only [List.map_cons,List.map_nil,xU,Act.put,List.setIfInBounds_toArray,List.set_cons_zero,List.set_cons_succ,Nat.zero_add,Nat.reduceAdd]
    exact rfl
   case step2 =>
    refine ⟨?_,?_,?_,?_,?_,?_,?_,?_,?_,?_,?_,?_,?_,?_,?_,?_,trivial⟩
    all_goals intro x W hW hdep K hK
    ·
     clear hdep
     go_simp
     exact hK _ _ rfl hW (fun _ _ h=>h)
    ·
     clear hdep
     go_simp
     exact hK _ _ rfl hW (fun _ _ h=>h)
    ·
     have h1:x 1=_:=hdep 1 rfl
     have c2:=(HAW.out.below hW).c2
     clear hdep
     simp only [h1] at hK
     go_simp
     exact hK _ _ rfl hW (fun _ _ h=>h)
    ·
     have h2:x 2=_:=hdep 2 rfl
     clear hdep
     simp only [h2] at hK
     go_simp
     refine (HFO.out W (z7 HW.out hW)).mono ?_
     rintro e W' ⟨rfl,hb⟩
     exact hK _ _ rfl (z7 hW hb) (fun j u h=>fg hb j u h)
    ·
     clear hdep
     go_simp
     exact hK _ _ rfl hW (fun _ _ h=>h)
    ·
     have h4:x 4=_:=hdep 4 rfl
     have c4:=(HAW.out.below hW).c4
     clear hdep
     simp only [h4] at hK
     go_simp
     exact hK _ _ rfl hW (fun _ _ h=>h)
    ·
     have h5:x 5=_:=hdep 5 rfl
     clear hdep
     simp only [h5] at hK
     go_simp
     refine (HFW.out W).mono ?_
     rintro e W' ⟨rfl,rfl⟩
     exact hK _ _ rfl hW (fun _ _ h=>h)
    ·
     clear hdep
     go_simp
     exact hK _ _ rfl hW (fun _ _ h=>h)
    ·
     have h7:x 7=_:=hdep 7 rfl
     have c4:=(HAW.out.below hW).c4
     clear hdep
     simp only [h7] at hK
     go_simp
     exact hK _ _ rfl hW (fun _ _ h=>h)
    ·
     have h8:x 8=_:=hdep 8 rfl
     clear hdep
     simp only [h8] at hK
     go_simp
     refine (HNS.out W (z7 HW.out hW)).mono ?_
     rintro e W' ⟨rfl,hb⟩
     exact hK _ _ rfl (z7 hW hb) (fun j u h=>fg hb j u h)
    ·
     clear hdep
     go_simp
     exact hK _ _ rfl hW (fun _ _ h=>h)
    ·
     have h10:x 10=_:=hdep 10 rfl
     have c4:=(HAW.out.below hW).c4
     clear hdep
     simp only [h10] at hK
     go_simp
     exact hK _ _ rfl hW (fun _ _ h=>h)
    ·
     have h11:x 11=_:=hdep 11 rfl
     clear hdep
     simp only [h11] at hK
     go_simp
     refine (HRI.out W (z7 HW.out hW)).mono ?_
     rintro e W' ⟨rfl,hb⟩
     exact hK _ _ rfl (z7 hW hb) (fun j u h=>fg hb j u h)
    ·
     have h0:x 0=_:=hdep 0 rfl
     have h3:x 3=_:=hdep 3 rfl
     have h6:x 6=_:=hdep 6 rfl
     have h9:x 9=_:=hdep 9 rfl
     have h12:x 12=_:=hdep 12 rfl
     clear hdep
     simp only [h0,h3,h6,h9,h12] at hK
     go_simp
     exact hK _ _ (V8 W [f0,e4,e5,e6,e7] _) (zb hW _) (fun j z h=>fg (zb (Below.refl _ _) _) j z h)
    ·
     have h13:YY W (x 13) [f0,e4,e5,e6,e7]:=hdep 13 rfl
     clear hdep
     go_simp
     refine (h13.first (by simp)).mono ?_
     rintro e W' ⟨rfl,rfl⟩
     exact hK _ _ rfl hW (fun _ _ h=>h)
    ·
     have h14:x 14=_:=hdep 14 rfl
     clear hdep
     simp only [h14] at hK
     go_simp
     exact hK _ _ rfl hW (fun _ _ h=>h)
   case fin2 =>
    intro x W' hW' hY
    have h15:x 15=.int .i64 (zI [f0,e4,e5,e6,e7]):=hY 15 (by decide)
    clear hY
    have HF:=za (z7 HW.out hW')
    clear hW' HW HAW HFO HFW HNS HRI
    rw [h15]
    have hr:=HR2.out
    rw [← hr]
    clear hr HR2 h15
    go_wp2
    go_ret
    exact ⟨rfl,HF.out⟩

def NW6 (w:World) (B:Nat) (bs:List UInt8) (wr:World):Prop :=
 w.heap.size≤B∧(∃ v,Wtr wr B v bs∧∀ k,v.ownBlock=some k→w.heap.size≤k)∧Below w.heap.size w wr
theorem NW6.zero (w:World):NW6 w w.heap.size [] (w.alloc (.cells #[.slice none 0 0] 156)) :=
 ⟨Nat.le_refl _,⟨_,⟨heap_alloc_new w _,World.ownsRow_nil _ _ _ _⟩,fun k hk=>by simp [Value.ownBlock] at hk⟩,zb (Below.refl _ _) _⟩
theorem fy.nw6 {w w1 w2:World} {B:Nat} {v:Value} {bs:List UInt8} (hB:w.heap.size≤B) (hv:∀ k,v.ownBlock=some k→w.heap.size≤k) (ht:Below w.heap.size w w1) (h:fy w1 B v bs w2):NW6 w B bs w2:=by
 obtain ⟨v',hw,ho,ht2⟩:=h
 refine ⟨hB,⟨v',hw,fun k hk=>?_⟩,ht.trans ((ht2.below_at ht.size (fun i hs=>?_)))⟩
 ·
  rcases ho with ho | ⟨k',ho,hk'⟩
  ·
   exact hv k (ho ▸ hk)
  ·
   rw [ho] at hk; injection hk with hk; have:=ht.size; omega
 ·
  rcases hs with hs | hs
  ·
   omega
  ·
   exact hv i hs
theorem Wtr.below {w W:World} {B:Nat} {v:Value} {bs:List UInt8} (h:Wtr w B v bs) (hb:Below w.heap.size w W):Wtr W B v bs:=by
 refine ⟨(hb.block B h.lt).trans h.1,(zg.of_below hb (fun _=>False)).owns h.2 (fun _ _ f=>f)⟩
theorem NW6.below {w w1 w2:World} {B:Nat} {bs:List UInt8} (h:NW6 w B bs w1) (hb:Below w1.heap.size w1 w2):NW6 w B bs w2:=by
 obtain ⟨hB,⟨v,hw,hv⟩,ht⟩:=h
 exact ⟨hB,⟨v,hw.below hb,hv⟩,z7 ht hb⟩

def UsB (w:World) (B:Nat) (u:Us):Prop:=w.heap[B]? = some (.cells #[.string u.nm,.string u.hs,.string u.ml,.bool u.dis,.slice u.ga u.gs.length u.gc] 192 (0,0))
theorem UsB.at_ {w:World} {B:Nat} {u:Us} (h:UsB w B u):UsAt w B u:=by
 refine ⟨(Array.getElem?_eq_some_iff.1 h).1,?_,?_,?_,?_,?_⟩
 all_goals
  rw [cell_of_row w B _ _ _ (0,0) h]
  rfl
theorem UsB.new (w:World) (u:Us):UsB (w.alloc (.cells #[.string u.nm,.string u.hs,.string u.ml,.bool u.dis,.slice u.ga u.gs.length u.gc] 192)) w.heap.size u:=heap_alloc_new w _
theorem UsB.below {w W:World} {B:Nat} {u:Us} (h:UsB w B u) (hb:Below w.heap.size w W):UsB W B u:=(hb.block B (Array.getElem?_eq_some_iff.1 h).1).trans h

def St6 (w:World) (B B5:Nat) (u:Us) (bs:List UInt8) (W:World):Prop:=NW6 w B bs W∧UsB W B5 u
theorem St6.drew {w W:World} {B B5:Nat} {u:Us} {bs:List UInt8} (h:St6 w B B5 u bs W):St6 w B B5 u bs W.drew:=⟨h.1.below (zQ (Below.refl _ _)),h.2⟩
theorem St6.went {w W W':World} {B B5:Nat} {u:Us} {bs bs':List UInt8} {v:Value} (h:St6 w B B5 u bs W) (hw:Wtr W B v bs) (hv:∀ k,v.ownBlock=some k→w.heap.size≤k) (hg:fy W B v bs' W'):St6 w B B5 u bs' W':=by
 obtain ⟨⟨hB,_,hb⟩,hu⟩:=h
 refine ⟨hg.nw6 hB hv hb,?_⟩
 obtain ⟨_,_,_,ht⟩:=hg
 have hlt:=(Array.getElem?_eq_some_iff.1 hu).1
 refine (ht.block B5 hlt ?_).trans hu
 rintro (he | he)
 ·
  subst he
  have:=hw.1.symm.trans hu
  simp at this
 ·
  rcases hw.2.2 with ⟨rfl,_⟩ | ⟨g,cap,cur,rfl,_,hg',_⟩
  ·
   simp [Value.ownBlock] at he
  ·
   have:g=B5:=by simpa [Value.ownBlock] using he
   subst this
   have:=hg'.symm.trans hu
   simp at this
def Goes6 (w:World) (B B5:Nat) (u:Us) (bs:List UInt8) (e:Ending) (W:World):Prop:=e=.returned (.pointer (some ⟨B,0,none⟩))∧St6 w B B5 u bs W
theorem St6.text {w W:World} {B B5:Nat} {u:Us} {bs:List UInt8} (s:ByteArray) (hs:s.size≤65535) (hr:bs.length≤500000) (h:St6 w B B5 u bs W) :
  Calls Tryz.prog 80 #[.pointer (some ⟨B,0,none⟩),.string s] W (Goes6 w B B5 u (bs++xp s)):=by
 obtain ⟨v,hw,hv⟩:=h.1.2.1
 exact (jS B v bs s W hw hs (by omega)).mono fun e W' ⟨he,hg⟩=>⟨he,h.went hw hv hg⟩
theorem St6.truth {w W:World} {B B5:Nat} {u:Us} {bs:List UInt8} (is:Bool) (hr:bs.length≤500000) (h:St6 w B B5 u bs W) :
  Calls Tryz.prog 312 #[.pointer (some ⟨B,0,none⟩),.bool is] W (Goes6 w B B5 u (bs++le is.toNat 1)):=by
 obtain ⟨v,hw,hv⟩:=h.1.2.1
 exact (truth_calls B v bs is W hw (by omega)).mono fun e W' ⟨he,hg⟩=>⟨he,h.went hw hv hg⟩
theorem St6.row {w W:World} {B B5:Nat} {u:Us} {bs:List UInt8} (A:Option Addr) (c:Nat) (ss:List ByteArray) (hA:RdS w A ss) (hc:ss.length≤c) (hm:c≤9223372036854775807) (hl:ss.length≤65535) (hs:∀ s∈ss,s.size≤65535) (hr:bs.length≤500000) (h:St6 w B B5 u bs W) :
  Calls Tryz.prog 179 #[.pointer (some ⟨B,0,none⟩),.slice A ss.length c] W (Goes6 w B B5 u (bs++rowB ss)):=by
 obtain ⟨v,hw,hv⟩:=h.1.2.1
 refine (Xr B v bs A ss.length c ss W hw hc hm (by omega) (hA.below h.1.2.2) (fun hne a ha=>?_) hs (by omega)).mono fun e W' ⟨he,hg⟩=>⟨he,h.went hw hv hg⟩
 obtain ⟨b,off,rfl,hb,_⟩:=hA hne
 injection ha with ha
 subst ha
 have h1:=h.1.1
 rintro (he | he)
 ·
  simp only at he; omega
 ·
  have:=hv _ he; simp only at this; omega

structure Us.Little (u:Us):Prop where
 nm:u.nm.size≤12
 hs:u.hs.size≤12
 ml:u.ml.size≤20
 len:u.gs.length≤6
 all:∀ s∈u.gs,s.size≤12
theorem xH {b:Bool} {n:Int} (hn:n≠0) (h:zi b n=0):b=true:=by
 cases b with
 | true=>rfl
 | false=>exact absurd h hn
theorem yN:∀ {l:List Int},zI l=0→∀ e∈l,e=0
 | [],_,e,h=>by cases h
 | x::l,h,e,he=>by
  unfold zI at h
  by_cases hx:x=0
  ·
   rw [if_pos hx] at h
   rcases List.mem_cons.1 he with rfl | he
   ·
    exact hx
   ·
    exact yN h e he
  ·
   rw [if_neg hx] at h
   exact absurd h hx
theorem jZ {s:ByteArray} (h:zh s.data.toList=true):s.size≤12:=by
 unfold zh uM at h
 simp only [Bool.and_eq_true,decide_eq_true_eq,zx] at h
 exact h.1.1.2.1
theorem UK {s:ByteArray} (h:yj s.data.toList=true):s.size≤12:=by
 unfold yj at h
 simp only [Bool.and_eq_true,decide_eq_true_eq,zx] at h
 exact h.1.2
theorem fold6_size {s:ByteArray} (h:fj s=true):s.size≤20:=by
 unfold fj ve at h
 simp only [Bool.and_eq_true,Bool.or_eq_true,decide_eq_true_eq,zx] at h
 rcases h with h | h
 ·
  omega
 ·
  exact h.1.1.1.1
theorem Vh {s:Int} {u:Us} (h:uQ s u=0):Y9 s=true∧zh u.nm.data.toList=true∧yj u.hs.data.toList=true:=by
 have h0:zI [zi (Y9 s) 6,zi (zh u.nm.data.toList) 10,zi (yj u.hs.data.toList) 4]=0:=by
  unfold uQ at h
  by_cases h1:s=1
  ·
   rw [if_pos h1] at h
   exact yN h _ (by simp)
  ·
   rw [if_neg h1] at h
   exact yN h _ (by simp)
 exact ⟨xH (n:=6) (by decide) (yN h0 _ (by simp)),xH (n:=10) (by decide) (yN h0 _ (by simp)),xH (n:=4) (by decide) (yN h0 _ (by simp))⟩
theorem bare6_eq {u:Us} (h:fk u=true):u.ml=⟨#[]⟩∧u.dis=false∧u.gs=[]:=by
 unfold fk sameU upU at h
 simp only [Bool.and_eq_true,decide_eq_true_eq] at h
 exact ⟨h.1.1.2,h.1.2,h.2⟩
theorem chk6_one {u:Us} (h:uQ 1 u=0):fk u=true:=by
 unfold uQ at h
 rw [if_pos rfl] at h
 exact xH (by decide) (yN h (zi (fk u) 12) (by simp))
theorem Jm {u:Us} (h:uQ 2 u=0):fj u.ml=true∧u.gs.length≤6∧yx u.gs=true∧yh u.gs=true:=by
 unfold uQ at h
 rw [if_neg (by decide)] at h
 refine ⟨xH (by decide) (yN h (zi (fj u.ml) 11) (by simp)),?_,xH (n:=10) (by decide) (yN h (zi (yx u.gs) 10) (by simp)),xH (by decide) (yN h (zi (yh u.gs) 9) (by simp))⟩
 exact of_decide_eq_true (xH (by decide) (yN h (zi (decide (u.gs.length≤6)) 7) (by simp)))
theorem fT {s:Int} {u:Us} (h:uQ s u=0):u.Little∧(s=1∨s=2):=by
 obtain ⟨h1,h2,h3⟩:=Vh h
 have hs:s=1∨s=2:=by simpa [Y9] using h1
 refine ⟨?_,hs⟩
 rcases hs with rfl | rfl
 ·
  obtain ⟨e1,_,e3⟩:=bare6_eq (chk6_one h)
  exact ⟨jZ h2,UK h3,by rw [e1]; exact Nat.zero_le _,by rw [e3]; exact Nat.zero_le _,fun s hs=>by rw [e3] at hs; cases hs⟩
 ·
  obtain ⟨e1,e2,e3,_⟩:=Jm h
  exact ⟨jZ h2,UK h3,fold6_size e1,e2,fun s hs=>jZ (List.all_eq_true.1 e3 s hs)⟩

def ZK (s:Int) (u:Us):List UInt8:=xp u.nm++xp u.hs++(if s=2 then xp u.ml++le u.dis.toNat 1++rowB u.gs else [])
def Put6 (w:World) (B:Nat) (bs:List UInt8) (s:Int) (u:Us) (e:Ending) (w':World):Prop :=
 (uQ s u=0∧e=.returned (.bool true)∧NW6 w B (bs++ZK s u) w')∨(uQ s u≠0∧e=.returned (.bool false)∧NW6 w B bs w')

def YPutA (B B5:Nat) (u:Us):Nat→Value→World→Prop
 | 0,v,_=>v=.pointer (some ⟨B,0,none⟩)
 | 1,v,_=>v=.pointer (some ⟨B5,0,none⟩)
 | 2,v,_=>v=.string u.nm
 | 3,v,_=>v=.pointer (some ⟨B,0,none⟩)
 | 4,v,_=>v=.pointer (some ⟨B5,1,none⟩)
 | 5,v,_=>v=.string u.hs
 | _,v,_=>v=.pointer (some ⟨B,0,none⟩)
theorem Q0 {B B5:Nat} {u:Us} {W W':World} (j:Nat) (z:Value) (h:YPutA B B5 u j z W):YPutA B B5 u j z W':=by
 match j,h with
 | 0,h=>exact h
 | 1,h=>exact h
 | 2,h=>exact h
 | 3,h=>exact h
 | 4,h=>exact h
 | 5,h=>exact h
 | _+6,h=>exact h
def YPutB (B B5:Nat) (u:Us):Nat→Value→World→Prop
 | 0,v,_=>v=.pointer (some ⟨B,0,none⟩)
 | 1,v,_=>v=.pointer (some ⟨B5,2,none⟩)
 | 2,v,_=>v=.string u.ml
 | 3,v,_=>v=.pointer (some ⟨B,0,none⟩)
 | 4,v,_=>v=.pointer (some ⟨B5,3,none⟩)
 | 5,v,_=>v=.bool u.dis
 | 6,v,_=>v=.pointer (some ⟨B,0,none⟩)
 | 7,v,_=>v=.pointer (some ⟨B5,4,none⟩)
 | 8,v,_=>v=.slice u.ga u.gs.length u.gc
 | _,v,_=>v=.pointer (some ⟨B,0,none⟩)
theorem Yi {B B5:Nat} {u:Us} {W W':World} (j:Nat) (z:Value) (h:YPutB B B5 u j z W):YPutB B B5 u j z W':=by
 match j,h with
 | 0,h=>exact h
 | 1,h=>exact h
 | 2,h=>exact h
 | 3,h=>exact h
 | 4,h=>exact h
 | 5,h=>exact h
 | 6,h=>exact h
 | 7,h=>exact h
 | 8,h=>exact h
 | _+9,h=>exact h
def pA6 (bs:List UInt8) (u:Us):Nat→List UInt8
 | 0=>bs
 | 1=>bs++xp u.nm
 | _=>bs++xp u.nm++xp u.hs
def pB6 (bs:List UInt8) (u:Us):Nat→List UInt8
 | 0=>bs
 | 1=>bs++xp u.ml
 | 2=>bs++xp u.ml++le u.dis.toNat 1
 | _=>bs++xp u.ml++le u.dis.toNat 1++rowB u.gs
theorem ju.any {cs:List Nat} {St:Nat→World→Prop} {L:Nat→Bool} {W:World} {p:Prop} (h:ju cs St L W) (hp:∀ m,St m W→p):p:=by
 obtain ⟨m,_,hs,_⟩:=h
 exact hp m hs
theorem ju.last {cs:List Nat} {St:Nat→World→Prop} {L:Nat→Bool} {W:World} (h:ju cs St L W) (hL:∀ r,r<cs.length→L (cs.getD r 0)=true):St cs.length W:=by
 obtain ⟨m,hm,hs,hr⟩:=h
 have:m=cs.length:=by
  by_cases e:m=cs.length
  ·
   exact e
  ·
   have h1:=hr m (by omega)
   rw [hL m (by omega)] at h1
   simp at h1
 rw [← this]
 exact hs

set_option maxRecDepth 100000 in
theorem JU (w:World) (B:Nat) (bs:List UInt8) (s:Int) (u:Us) (W0:World) (hw:NW6 w B bs W0) (h:u.Ok w) (hm:vY w) (hl:bs.length≤100000) :
  Calls Tryz.prog 310 #[.pointer (some ⟨B,0,none⟩),.int .i64 s,u.v] W0 (Put6 w B bs s u):=by
 have HC:Hid (∀ W,Below W0.heap.size W0 W→Calls Tryz.prog 185 #[.int .i64 s,u.v] W (yG (uQ s u) W)):=fun W hb=>YE s u W (h.below (z7 hw.2.2 hb)) (hm.later (z7 hw.2.2 hb))
 have HB0:=za (zb (Below.refl W0.heap.size W0) (.cells #[.string u.nm,.string u.hs,.string u.ml,.bool u.dis,.slice u.ga u.gs.length u.gc] 192))
 have HS0:Hid (St6 w B W0.heap.size u bs (W0.alloc (.cells #[.string u.nm,.string u.hs,.string u.ml,.bool u.dis,.slice u.ga u.gs.length u.gc] 192))):=⟨hw.below HB0.out,UsB.new W0 u⟩
 have HO:=za h
 have huv:Hid (u.v=.agg #[.string u.nm,.string u.hs,.string u.ml,.bool u.dis,.slice u.ga u.gs.length u.gc]):=rfl
 obtain ⟨ck,hck⟩:∃ ck,ck=uQ s u:=⟨_,rfl⟩
 rw [← hck] at HC
 have HCK:=za hck
 have hcall:=HC.out (W0.alloc (.cells #[.string u.nm,.string u.hs,.string u.ml,.bool u.dis,.slice u.ga u.gs.length u.gc] 192)) HB0.out
 rw [huv.out] at hcall ⊢
 have HC1:=za hcall
 clear hw h hm hck hcall HC
 have hat:=HS0.out.2.at_
 have c0:=hat.c0
 have c1:=hat.c1
 have c2:=hat.c2
 have c3:=hat.c3
 have c4:=hat.c4
 clear hat
 go_enter Tryz.func310,Tryz.ntmps310
 go_wp2_with fail
 with_reducible refine HC1.out.mono ?_
 rintro e w2 ⟨rfl,hb⟩
 have HS2:Hid (St6 w B W0.heap.size u bs w2):=⟨HS0.out.1.below hb,HS0.out.2.below hb⟩
 clear hb HC1 HS0 c0 c1 c2 c3 c4
 by_cases h0:ck=0
 ·
  obtain ⟨hli,hs12⟩:=fT (HCK.out.symm.trans h0)
  have hn1:=hli.nm
  have hn2:=hli.hs
  have hn3:=hli.ml
  have htl:∀ t:ByteArray,(xp t).length=t.size+2:=xJ
  have HP:Hid (∀ w',NW6 w B (bs++ZK s u) w'→Put6 w B bs s u (.returned (.bool true)) w'):=fun w' h=>.inl ⟨HCK.out.symm.trans h0,rfl,h⟩
  clear HCK
  subst h0
  have HG0:Hid (ju [3,6] (fun m W=>St6 w B W0.heap.size u (pA6 bs u m) W) (fun _=>false) w2.drew):=ju.start HS2.out.drew
  have HUB:Hid (∀ L W,ju [3,6] (fun m W=>St6 w B W0.heap.size u (pA6 bs u m) W) L W→UsAt W W0.heap.size u):=fun L W hG=>hG.any fun m hs=>hs.2.at_
  have HT0:Hid (∀ W,St6 w B W0.heap.size u (pA6 bs u 0) W→_):=fun W hs=>St6.text u.nm (by omega) (show bs.length≤_ by omega) hs
  have HT1:Hid (∀ W,St6 w B W0.heap.size u (pA6 bs u 1) W→_):=fun W hs=>St6.text u.hs (by omega) (show (bs++xp u.nm).length≤_ by rw [List.length_append,htl]; omega) hs
  go_wp2_with fail
  refine uq (by kernel_rfl) (YPutA B W0.heap.size u) (ju [3,6] (fun m W=>St6 w B W0.heap.size u (pA6 bs u m) W)) ?F ?hF (by kernel_rfl) (by kernel_rfl) HG0.out ?step ?fin
  case hF =>
   intro x
   simp only [List.map_cons,List.map_nil,xU,Act.put,List.setIfInBounds_toArray,List.set_cons_zero,List.set_cons_succ,Nat.zero_add,Nat.reduceAdd]
   exact rfl
  case step =>
   refine ⟨?_,?_,?_,?_,?_,?_,?_,trivial⟩
   all_goals intro L y W hL hd hcl hG hY K hK
   ·
    clear hd hcl hY
    go_simp
    exact hK _ _ rfl (hG.same 0 rfl (fun _ h=>h)) (fun _ _ h=>h)
   ·
    clear hd hcl hY
    go_simp
    exact hK _ _ rfl (hG.same 1 rfl (fun _ h=>h)) (fun _ _ h=>h)
   ·
    have h1:y 1=_:=hY 1 (hd 1 rfl)
    have c:=(HUB.out L W hG).c0
    clear hd hcl hY
    simp only [h1] at hK
    go_simp
    exact hK _ _ rfl (hG.same 2 rfl (fun _ h=>h)) (fun _ _ h=>h)
   ·
    have h0:y 0=_:=hY 0 (hd 0 rfl)
    have h2:y 2=_:=hY 2 (hd 2 rfl)
    have hst:=hG.at_ 0 (by decide) hL (.inl rfl)
    have HNX:=za (fun W' h=>hG.next (W':=W') 0 3 (by decide) rfl hL (.inl rfl) (by decide) h)
    have HCALL:=za (HT0.out W hst)
    clear hst
    clear hd hcl hY
    simp only [h0,h2] at hK
    go_simp
    refine HCALL.out.mono ?_
    rintro e W' ⟨rfl,hst⟩
    exact hK _ _ rfl (HNX.out W' hst) (fun j _ h=>Q0 j _ h)
   ·
    clear hd hcl hY
    go_simp
    exact hK _ _ rfl (hG.same 4 rfl (fun _ h=>h)) (fun _ _ h=>h)
   ·
    have h4:y 4=_:=hY 4 (hd 4 rfl)
    have c:=(HUB.out L W hG).c1
    clear hd hcl hY
    simp only [h4] at hK
    go_simp
    exact hK _ _ rfl (hG.same 5 rfl (fun _ h=>h)) (fun _ _ h=>h)
   ·
    have h3:y 3=_:=hY 3 (hd 3 rfl)
    have h5:y 5=_:=hY 5 (hd 5 rfl)
    have hst:=hG.at_ 1 (by decide) hL (.inr (hd 3 rfl))
    have HNX:=za (fun W' h=>hG.next (W':=W') 1 6 (by decide) rfl hL (.inr (hd 3 rfl)) (by decide) h)
    have HCALL:=za (HT1.out W hst)
    clear hst
    clear hd hcl hY
    simp only [h3,h5] at hK
    go_simp
    refine HCALL.out.mono ?_
    rintro e W' ⟨rfl,hst⟩
    exact hK _ _ rfl (HNX.out W' hst) (fun j _ h=>Q0 j _ h)
  case fin =>
   intro L y W hL hG hY
   have hst:=hG.last (fun r hr=>hL _ (by match r,hr with | 0,_=>decide | 1,_=>decide))
   have HS3:Hid (St6 w B W0.heap.size u (bs++xp u.nm++xp u.hs) W):=hst
   clear hY hG hL hst HT0 HT1 HUB HG0 HS2
   rcases hs12 with rfl | rfl
   ·
    have HP1:Hid (∀ w',NW6 w B (bs++xp u.nm++xp u.hs) w'→Put6 w B bs 1 u (.returned (.bool true)) w'):=fun w' h=>HP.out w' (by
     rw [ZK,if_neg (by decide),List.append_nil,← List.append_assoc]; exact h)
    clear HP
    go_wp2
    go_ret
    exact HP1.out _ HS3.out.1
   ·
    have HP1:Hid (∀ w',NW6 w B (bs++xp u.nm++xp u.hs++xp u.ml++le u.dis.toNat 1++rowB u.gs) w'→Put6 w B bs 2 u (.returned (.bool true)) w'):=fun w' h=>HP.out w' (by
     rw [ZK,if_pos rfl]
     simpa only [List.append_assoc] using h)
    clear HP
    obtain ⟨b2,hb2⟩:∃ b2,b2=bs++xp u.nm++xp u.hs:=⟨_,rfl⟩
    have hl2:b2.length≤200000:=by rw [hb2,List.length_append,List.length_append,htl,htl]; omega
    rw [← hb2] at HS3 HP1
    clear hb2
    have HG0:Hid (ju [3,6,9] (fun m W=>St6 w B W0.heap.size u (pB6 b2 u m) W) (fun _=>false) W.drew):=ju.start HS3.out.drew
    have HUB:Hid (∀ L W,ju [3,6,9] (fun m W=>St6 w B W0.heap.size u (pB6 b2 u m) W) L W→UsAt W W0.heap.size u):=fun L W hG=>hG.any fun m hs=>hs.2.at_
    have HT0:Hid (∀ W,St6 w B W0.heap.size u (pB6 b2 u 0) W→_):=fun W hs=>St6.text u.ml (by omega) (show b2.length≤_ by omega) hs
    have HT1:Hid (∀ W,St6 w B W0.heap.size u (pB6 b2 u 1) W→_):=fun W hs=>St6.truth u.dis (show (b2++xp u.ml).length≤_ by rw [List.length_append,htl]; omega) hs
    have HT2:Hid (∀ W,St6 w B W0.heap.size u (pB6 b2 u 2) W→_):=fun W hs=>St6.row u.ga u.gc u.gs HO.out.rd HO.out.len HO.out.cap (by have:=hli.len; omega) (fun s h=>by have:=hli.all s h; omega) (show (b2++xp u.ml++le u.dis.toNat 1).length≤_ by rw [List.length_append,List.length_append,htl,yi]; omega) hs
    clear HO hli HS3
    go_wp2_with fail
    refine uq (by kernel_rfl) (YPutB B W0.heap.size u) (ju [3,6,9] (fun m W=>St6 w B W0.heap.size u (pB6 b2 u m) W)) ?F2 ?hF2 (by kernel_rfl) (by kernel_rfl) HG0.out ?step2 ?fin2
    case hF2 =>
     intro x
     simp only [List.map_cons,List.map_nil,xU,Act.put,List.setIfInBounds_toArray,List.set_cons_zero,List.set_cons_succ,Nat.zero_add,Nat.reduceAdd]
     exact rfl
    case step2 =>
     refine ⟨?_,?_,?_,?_,?_,?_,?_,?_,?_,?_,trivial⟩
     all_goals intro L y W hL hd hcl hG hY K hK
     ·
      clear hd hcl hY
      go_simp
      exact hK _ _ rfl (hG.same 0 rfl (fun _ h=>h)) (fun _ _ h=>h)
     ·
      clear hd hcl hY
      go_simp
      exact hK _ _ rfl (hG.same 1 rfl (fun _ h=>h)) (fun _ _ h=>h)
     ·
      have h1:y 1=_:=hY 1 (hd 1 rfl)
      have c:=(HUB.out L W hG).c2
      clear hd hcl hY
      simp only [h1] at hK
      go_simp
      exact hK _ _ rfl (hG.same 2 rfl (fun _ h=>h)) (fun _ _ h=>h)
     ·
      have h0:y 0=_:=hY 0 (hd 0 rfl)
      have h2:y 2=_:=hY 2 (hd 2 rfl)
      have hst:=hG.at_ 0 (by decide) hL (.inl rfl)
      have HNX:=za (fun W' h=>hG.next (W':=W') 0 3 (by decide) rfl hL (.inl rfl) (by decide) h)
      have HCALL:=za (HT0.out W hst)
      clear hst
      clear hd hcl hY
      simp only [h0,h2] at hK
      go_simp
      refine HCALL.out.mono ?_
      rintro e W' ⟨rfl,hst⟩
      exact hK _ _ rfl (HNX.out W' hst) (fun j _ h=>Yi j _ h)
     ·
      clear hd hcl hY
      go_simp
      exact hK _ _ rfl (hG.same 4 rfl (fun _ h=>h)) (fun _ _ h=>h)
     ·
      have h4:y 4=_:=hY 4 (hd 4 rfl)
      have c:=(HUB.out L W hG).c3
      clear hd hcl hY
      simp only [h4] at hK
      go_simp
      exact hK _ _ rfl (hG.same 5 rfl (fun _ h=>h)) (fun _ _ h=>h)
     ·
      have h3:y 3=_:=hY 3 (hd 3 rfl)
      have h5:y 5=_:=hY 5 (hd 5 rfl)
      have hst:=hG.at_ 1 (by decide) hL (.inr (hd 3 rfl))
      have HNX:=za (fun W' h=>hG.next (W':=W') 1 6 (by decide) rfl hL (.inr (hd 3 rfl)) (by decide) h)
      have HCALL:=za (HT1.out W hst)
      clear hst
      clear hd hcl hY
      simp only [h3,h5] at hK
      go_simp
      refine HCALL.out.mono ?_
      rintro e W' ⟨rfl,hst⟩
      exact hK _ _ rfl (HNX.out W' hst) (fun j _ h=>Yi j _ h)
     ·
      clear hd hcl hY
      go_simp
      exact hK _ _ rfl (hG.same 7 rfl (fun _ h=>h)) (fun _ _ h=>h)
     ·
      have h7:y 7=_:=hY 7 (hd 7 rfl)
      have c:=(HUB.out L W hG).c4
      clear hd hcl hY
      simp only [h7] at hK
      go_simp
      exact hK _ _ rfl (hG.same 8 rfl (fun _ h=>h)) (fun _ _ h=>h)
     ·
      have h6:y 6=_:=hY 6 (hd 6 rfl)
      have h8:y 8=_:=hY 8 (hd 8 rfl)
      have hst:=hG.at_ 2 (by decide) hL (.inr (hd 6 rfl))
      have HNX:=za (fun W' h=>hG.next (W':=W') 2 9 (by decide) rfl hL (.inr (hd 6 rfl)) (by decide) h)
      have HCALL:=za (HT2.out W hst)
      clear hst
      clear hd hcl hY
      simp only [h6,h8] at hK
      go_simp
      refine HCALL.out.mono ?_
      rintro e W' ⟨rfl,hst⟩
      exact hK _ _ rfl (HNX.out W' hst) (fun j _ h=>Yi j _ h)
    case fin2 =>
     intro L y W hL hG hY
     have hst:=hG.last (fun r hr=>hL _ (by match r,hr with | 0,_=>decide | 1,_=>decide | 2,_=>decide))
     have HS4:Hid (St6 w B W0.heap.size u (b2++xp u.ml++le u.dis.toNat 1++rowB u.gs) W):=hst
     clear hY hG hL hst HT0 HT1 HT2 HUB HG0
     go_wp2
     go_ret
     exact HP1.out _ HS4.out.1
 ·
  have HP:Hid (∀ w',NW6 w B bs w'→Put6 w B bs s u (.returned (.bool false)) w'):=fun w' h=>.inr ⟨fun e=>h0 (HCK.out.trans e),rfl,h⟩
  clear HCK
  have h0d:(ck != 0)=true:=by simpa using h0
  go_wp2
  go_ret
  exact HP.out _ HS2.out.1
theorem put6_calls (w:World) (B:Nat) (bs:List UInt8) (s:Int) (u:Us) (W0:World) (hw:NW6 w B bs W0) (h:u.Ok w) (hm:vY w) (hl:bs.length≤1000) :
  Calls Tryz.prog 310 #[.pointer (some ⟨B,0,none⟩),.int .i64 s,u.v] W0 (Put6 w B bs s u):=JU w B bs s u W0 hw h hm (by omega)

def qJ (w:World) (l:List UInt8) (e:Ending) (w':World):Prop :=
 ∃ v',e=.returned v'∧w'.ownsRow 0 5 1 v' l.length (cellsOf l)∧(∀ k,v'.ownBlock=some k→w.heap.size≤k)∧Below w.heap.size w w'
theorem NW6.bytes {w W:World} {B:Nat} {bs:List UInt8} (h:NW6 w B bs W) (hl:bs.length≤1000000):Calls Tryz.prog 81 #[.pointer (some ⟨B,0,none⟩)] W (qJ W bs):=by
 obtain ⟨v,hw,hv⟩:=h.2.1
 exact (Vk B v bs W hw (by omega)).mono fun e W' ⟨v',he,ho,hb,ht⟩=>⟨v',he,ho,hb,ht.below (fun _ f=>f.elim)⟩


def un (w:World) (B:Nat) (a b c d e:Value):Prop:=w.heap[B]? = some (.cells #[a,b,c,d,e] 192 (0,0))
theorem un.lt {w:World} {B:Nat} {a b c d e:Value} (h:un w B a b c d e):B<w.heap.size:=(Array.getElem?_eq_some_iff.1 h).1
theorem un.at_ {w:World} {B:Nat} {a b c d e:Value} (h:un w B a b c d e) (j:Nat):w.cell? ⟨B,j,none⟩=#[a,b,c,d,e][j]? := cell_of_row w B j _ _ (0,0) h
theorem un.free {w:World} {B:Nat} {a b c d e:Value} (h:un w B a b c d e) (j:Nat):w.frozen? ⟨B,j,none⟩=false:=by
 have h':w.heap[B]? = some (.cells #[a,b,c,d,e] 192 (0,0)):=h
 simp [World.frozen?,h']
theorem un.set4 {w:World} {B:Nat} {a b c d e:Value} (h:un w B a b c d e) (x:Value):un (w.setCell ⟨B,4,none⟩ x) B a b c d x:=by
 have h':w.heap[B]? = some (.cells #[a,b,c,d,e] 192 (0,0)):=h
 simp [un,World.setCell,Array.getElem?_modify,h']
theorem un.other {w:World} {B C j:Nat} {a b c d e:Value} (h:un w B a b c d e) (hne:B≠C) (x:Value):un (w.setCell ⟨C,j,none⟩ x) B a b c d e:=by
 show (w.setCell ⟨C,j,none⟩ x).heap[B]? = _
 rw [Below.heap_setCell _ _ _ _ hne]
 exact h

def set5 (w:World) (B:Nat) (a b c d e:Value):World:=((((w.setCell ⟨B,0,none⟩ a).setCell ⟨B,1,none⟩ b).setCell ⟨B,2,none⟩ c).setCell ⟨B,3,none⟩ d).setCell ⟨B,4,none⟩ e
theorem un.set5 {w:World} {B:Nat} {a b c d e:Value} (h:un w B a b c d e) (a' b' c' d' e':Value):un (set5 w B a' b' c' d' e') B a' b' c' d' e':=by
 have h':w.heap[B]? = some (.cells #[a,b,c,d,e] 192 (0,0)):=h
 simp [un,Go.Proofs.YteegkoicalbkbaaGreatDoor.set5,World.setCell,Array.getElem?_modify,h']
theorem Up {S:Nat→Prop} {a0 w:World} (h:zg S a0 w) (B:Nat) (hB:B<a0.heap.size→S B) (a b c d e:Value):zg S a0 (set5 w B a b c d e) :=
 ((((h.setCell (p:=⟨B,0,none⟩) hB a).setCell (p:=⟨B,1,none⟩) hB b).setCell (p:=⟨B,2,none⟩) hB c).setCell (p:=⟨B,3,none⟩) hB d).setCell (p:=⟨B,4,none⟩) hB e
theorem owns_turns {S:Nat→Prop} {w w':World} {b0 b1:Nat} {e:TypeId} {size n:Nat} {v:Value} {xs:List Value} (ho:w.ownsRow b0 e size v n xs) (h1:b1≤b0) (ht:zg S w w') (hS:∀ k,b0≤k→¬ S k):w'.ownsRow b1 e size v n xs:=by
 refine ⟨ho.1,?_⟩
 rcases ho.2 with h0 | ⟨g,cap,cur,rfl,hb,hg,rest⟩
 ·
  exact .inl h0
 ·
  exact .inr ⟨g,cap,cur,rfl,Nat.le_trans h1 hb,(ht.block g (Array.getElem?_eq_some_iff.1 hg).1 (hS g hb)).trans hg,rest⟩


def Zero5 (w:World) (B:Nat):Prop:=un w B (.string ⟨#[]⟩) (.string ⟨#[]⟩) (.string ⟨#[]⟩) (.bool false) (.slice none 0 0)
structure Gt6 (w:World) (B:Nat) (st:St) (a b c d e:Value) (W:World):Prop where
 rdr:Rdr W B st
 t:zg (fun i=>i=B) w W
 v:un W (w.heap.size+1) a b c d e
 z:Zero5 W w.heap.size

section
variable {w W W':World} {B:Nat} {st st':St} {a b c d e:Value}
theorem Gt6.start (h:Rdr w B st):Gt6 w B st (.string ⟨#[]⟩) (.string ⟨#[]⟩) (.string ⟨#[]⟩) (.bool false) (.slice none 0 0)
  ((w.alloc (.cells #[.string ⟨#[]⟩,.string ⟨#[]⟩,.string ⟨#[]⟩,.bool false,.slice none 0 0] 192)).alloc (.cells #[.string ⟨#[]⟩,.string ⟨#[]⟩,.string ⟨#[]⟩,.bool false,.slice none 0 0] 192)):=by
 have ht:zg (fun _=>False) w ((w.alloc (.cells #[.string ⟨#[]⟩,.string ⟨#[]⟩,.string ⟨#[]⟩,.bool false,.slice none 0 0] 192)).alloc (.cells #[.string ⟨#[]⟩,.string ⟨#[]⟩,.string ⟨#[]⟩,.bool false,.slice none 0 0] 192)):=((zg.refl _ _).alloc _).alloc _
 refine ⟨h.still ht,ht.mono (fun _ _ f=>f.elim),?_,?_⟩
 ·
  have:=heap_alloc_new (w.alloc (.cells #[.string ⟨#[]⟩,.string ⟨#[]⟩,.string ⟨#[]⟩,.bool false,.slice none 0 0] 192)) (.cells #[.string ⟨#[]⟩,.string ⟨#[]⟩,.string ⟨#[]⟩,.bool false,.slice none 0 0] 192)
  simpa [un] using this
 ·
  show _=_
  rw [Below.heap_alloc _ _ _ (by simp)]
  exact heap_alloc_new w _
theorem Gt6.below (h:Gt6 w B st a b c d e W) (hb:Below W.heap.size W W'):Gt6 w B st a b c d e W' :=
 ⟨h.rdr.still (zg.of_below hb _),h.t.next (zg.of_below hb (fun i=>i=B)) (fun _ _ h=>h),(hb.block _ h.v.lt).trans h.v,(hb.block _ (un.lt h.z)).trans h.z⟩
theorem rdr_apart {C j:Nat} (h:Rdr W B st) (hC:un W C a b c d e) (x:Value):Rdr (W.setCell ⟨C,j,none⟩ x) B st:=by
 obtain ⟨u,hu,hr⟩:=h
 have ht:zg (fun i=>i=C) W (W.setCell ⟨C,j,none⟩ x):=(zg.refl (fun i=>i=C) W).setCell (p:=⟨C,j,none⟩) (fun _=>rfl) x
 have hne:B≠C:=fun e=>by
  subst e
  have:=hu.symm.trans hC
  simp at this
 refine ⟨u,(ht.block B (Array.getElem?_eq_some_iff.1 hu).1 hne).trans hu,?_⟩
 rcases hr with h0 | ⟨g,off,cc,rfl,h1,h2,h3,h4,hbk,h5⟩
 ·
  exact .inl h0
 ·
  have hg:g≠C:=fun e=>by
   subst e
   obtain ⟨cur,fr,hcur⟩:=hbk
   have:=hcur.symm.trans hC
   simp at this
  exact .inr ⟨g,off,cc,rfl,h1,h2,Nat.lt_of_lt_of_le h3 ht.size,h4,hbk.keep ht hg,fun j hj=>(ht.cell (p:=⟨g,off+j,none⟩) h3 hg).trans (h5 j hj)⟩
theorem Gt6.store {j:Nat} {x a' b' c' d' e':Value} (h:Gt6 w B st a b c d e W) (hv:un (W.setCell ⟨w.heap.size+1,j,none⟩ x) (w.heap.size+1) a' b' c' d' e'):Gt6 w B st a' b' c' d' e' (W.setCell ⟨w.heap.size+1,j,none⟩ x) :=
 ⟨rdr_apart h.rdr h.v x,h.t.setCell (p:=⟨w.heap.size+1,j,none⟩) (fun hl=>absurd hl (by simp)) x,hv,un.other h.z (by omega) x⟩
theorem un.set0 (h:un w B a b c d e) (x:Value):un (w.setCell ⟨B,0,none⟩ x) B x b c d e:=by
 have h':w.heap[B]? = some (.cells #[a,b,c,d,e] 192 (0,0)):=h
 simp [un,World.setCell,Array.getElem?_modify,h']
theorem un.set1 (h:un w B a b c d e) (x:Value):un (w.setCell ⟨B,1,none⟩ x) B a x c d e:=by
 have h':w.heap[B]? = some (.cells #[a,b,c,d,e] 192 (0,0)):=h
 simp [un,World.setCell,Array.getElem?_modify,h']
theorem un.set2 (h:un w B a b c d e) (x:Value):un (w.setCell ⟨B,2,none⟩ x) B a b x d e:=by
 have h':w.heap[B]? = some (.cells #[a,b,c,d,e] 192 (0,0)):=h
 simp [un,World.setCell,Array.getElem?_modify,h']
theorem un.set3 (h:un w B a b c d e) (x:Value):un (w.setCell ⟨B,3,none⟩ x) B a b c x e:=by
 have h':w.heap[B]? = some (.cells #[a,b,c,d,e] 192 (0,0)):=h
 simp [un,World.setCell,Array.getElem?_modify,h']
end

section
variable {P:Program} {ops:Array Oper} {Q:Exit→Act→World→Prop}
end




theorem owns_facts6 {w:World} {b0 n c:Nat} {A:Option Addr} {gs:List ByteArray} (ho:w.ownsRow b0 9 1 (.slice A n c) n (gs.map Value.string)) (hn:n=gs.length):RdS w A gs∧(A=none→c=0)∧n≤c∧c≤9223372036854775807:=by
 subst hn
 rcases ho.2 with ⟨h0,h1⟩ | ⟨g,cap,cur,hv,hb,hg,h1,h2,h3,h4⟩
 ·
  injection h0 with ha _ hc
  subst ha hc
  have:gs=[]:=List.eq_nil_of_length_eq_zero h1
  subst this
  exact ⟨fun e=>absurd rfl e,fun _=>rfl,Nat.zero_le _,Nat.zero_le _⟩
 ·
  injection hv with ha _ hc
  subst ha hc
  refine ⟨fun _=>⟨g,0,rfl,(Array.getElem?_eq_some_iff.1 hg).1,fun j hj=>?_⟩,(fun h=>nomatch h),h1,by simpa [maxLen] using h2⟩
  have:=ho.cells (g:=g) rfl j (.string gs[j]) (by simp [hj])
  rw [Addr.add_lit,Nat.zero_add] at this
  rw [Nat.zero_add]
  exact this




section
variable {w W W':World} {rs qs ys:Array Value} {vs:Option (Array Value)}
end

section
variable {w W W':World} {ra rb qs ys:Array Value} {vs:Option (Array Value)} {A:Option Addr} {gs:List ByteArray} {c:Nat} {L:Nat→Bool}
end
section
variable {w W W':World} {ra q0 q1 y0 y1:Array Value} {vs:Option (Array Value)} {A:Option Addr} {gs:List ByteArray} {c:Nat} {L:Nat→Bool}
end



structure Parts6 (st s1 s2 s3 s4 s5:St) (nm hs ml:List UInt8) (dis:Bool) (gs:List ByteArray):Prop where
 h1:JG st 65535=(s1,nm)
 h2:JG s1 65535=(s2,hs)
 h3:JG s2 65535=(s3,ml)
 h4:truthS s3=(s4,dis)
 h5:rowS s4 65535 65535=(s5,gs)
 l1:s1.bs.length≤1000
 l2:s2.bs.length≤1000
 l3:s3.bs.length≤1000
 l4:s4.bs.length≤1000
 f1:nm.length≤1000
 f2:hs.length≤1000
 f3:ml.length≤1000
 f5:∀ s∈gs,s.size≤1000


structure Us.Short (u:Us):Prop where
 nm:u.nm.size≤1000
 hs:u.hs.size≤1000
 ml:u.ml.size≤1000
 all:∀ s∈u.gs,s.size≤1000



end Go.Proofs.YteegkoicalbkbaaGreatDoor
namespace Go.Proofs.YteegkoicalbkbaaGreatDoor
open Go.ChangeShapes Go.WideShapes Go.ChangeAt Go.RowKit Go.Deep



section
variable {H:Type} {enc:TypeId×Value→H} {W:World} {base b0:Nat} {sp:Nat→Bool} {hd:Bool} {fuel:Nat}


end
end Go.Proofs.YteegkoicalbkbaaGreatDoor
namespace Go.Proofs.YteegkoicalbkbaaGreatDoor
open Go.RowKit

end Go.Proofs.YteegkoicalbkbaaGreatDoor
