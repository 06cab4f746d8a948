/-
  The texts that the laws of this seat share, part 3: what the code and the document's own answers tell, walked function by function.
  Conditions: each theorem's own.
-/
import Derived.Test.YthmomkjingcbiaaGreatDoorMigBBB
set_option maxHeartbeats 16000000
namespace Go.Proofs.YthmomkjingcbiaaGreatDoor
open Go.RowKit

def zD:List Int→Int
 | []=>0
 | e::l=>if e=0 then zD l else e

set_option maxRecDepth 100000 in
theorem qi (B n cap:Nat) (es:List Int) (w:World) (hl:n=es.length) (hn:n≤1000) (hc:∀ j (h:j<es.length),w.cell? ⟨B,j,none⟩=some (.int .i64 es[j])) :
  Calls Tryz.prog 193 #[.slice (some ⟨B,0,none⟩) n cap] w fun e w'=>e=.returned (.int .i64 (zD es))∧w'=w:=by
 have HC:=z8 hc
 have HL:=z8 hl
 clear hc hl
 generalize hr:zD es=r
 have HR:=z8 hr
 clear hr
 go_enter Tryz.func193,Tryz.ntmps193
 go_wp2
 go_loopg [4,7] n (fun gg _ s7 wr=>∃ k:Nat,k≤n∧n - k≤gg∧s7=.int .i64 k∧wr=w∧Hid (zD (es.drop k)=r))
 case atStart=>exact ⟨0,Nat.zero_le _,by omega,rfl,rfl,HR⟩
 case round =>
  obtain ⟨k,hk,hg,rfl,rfl,A⟩:=hrel
  by_cases hlt:k<n
  ·
   have hltz:(k:Int)<(n:Int):=by omega
   have hkl:k<es.length:=HL.out ▸ hlt
   have hcell:=HC.out k hkl
   have hA:(if es[k]=0 then zD (es.drop (k+1)) else es[k])=r:=by
    have:=A.out
    rw [List.drop_eq_getElem_cons hkl] at this
    exact this
   generalize es[k]=x at *
   by_cases h0:x=0
   ·
    rw [if_pos h0] at hA
    have HA:=z8 hA
    clear hA A
    subst h0
    go_wp2
    go_roundg (n - (k+1))
    case measure=>omega
    case rel=>exact ⟨k+1,by omega,by omega,by go_num,rfl,HA⟩
   ·
    rw [if_neg h0] at hA
    subst hA
    clear A
    go_wp2
    go_ret
    exact ⟨rfl,rfl⟩
  ·
   have hltz:¬ (k:Int)<(n:Int):=by omega
   have hA:(0:Int)=r:=by
    have:=A.out
    rw [List.drop_eq_nil_of_le (by have:=HL.out; omega)] at this
    exact this
   subst hA
   clear A
   go_wp2
   go_ret
   exact ⟨rfl,rfl⟩

set_option maxRecDepth 100000 in
theorem xD (b:Bool) (n:Int) (w:World):Calls Tryz.prog 239 #[.bool b,.int .i64 n] w fun e w'=>e=.returned (.int .i64 (zA b n))∧w'=w:=by
 cases b with
 | true =>
  show Calls _ _ _ _ fun e w'=>e=.returned (.int .i64 0)∧w'=w
  go_enter Tryz.func239,Tryz.ntmps239
  go_wp2
  go_ret
  exact ⟨rfl,rfl⟩
 | false =>
  show Calls _ _ _ _ fun e w'=>e=.returned (.int .i64 n)∧w'=w
  go_enter Tryz.func239,Tryz.ntmps239
  go_wp2
  go_ret
  exact ⟨rfl,rfl⟩

def vo (s:Int):Bool:=decide (s=1) || decide (s=2)

set_option maxRecDepth 100000 in
theorem qc (s:Int) (w:World):Calls Tryz.prog 194 #[.int .i64 s] w fun e w'=>e=.returned (.int .i64 (zA (vo s) 6))∧w'=w:=by
 have HU:Hid (∀ b,Calls Tryz.prog 239 #[.bool b,.int .i64 6] w fun e w'=>e=.returned (.int .i64 (zA b 6))∧w'=w):=fun b=>xD b 6 w
 obtain ⟨r,hr⟩:∃ r,r=zA (vo s) 6:=⟨_,rfl⟩
 rw [← hr]
 by_cases h1:s=1
 ·
  subst h1
  have HU1:Hid (Calls Tryz.prog 239 #[.bool true,.int .i64 6] w fun e w'=>e=.returned (.int .i64 r)∧w'=w):=by
   have:=HU.out true
   rw [hr]; exact this
  clear HU hr
  go_enter Tryz.func194,Tryz.ntmps194
  go_wp2_with fail
  with_reducible refine HU1.out.mono ?_
  rintro e w1 ⟨rfl,rfl⟩
  go_wp2
  go_ret
  exact ⟨rfl,rfl⟩
 ·
  by_cases h2:s=2
  ·
   subst h2
   have HU1:Hid (Calls Tryz.prog 239 #[.bool true,.int .i64 6] w fun e w'=>e=.returned (.int .i64 r)∧w'=w):=by
    have:=HU.out true
    rw [hr]; exact this
   clear HU hr h1
   go_enter Tryz.func194,Tryz.ntmps194
   go_wp2_with fail
   with_reducible refine HU1.out.mono ?_
   rintro e w1 ⟨rfl,rfl⟩
   go_wp2
   go_ret
   exact ⟨rfl,rfl⟩
  ·
   have HU1:Hid (Calls Tryz.prog 239 #[.bool false,.int .i64 6] w fun e w'=>e=.returned (.int .i64 r)∧w'=w):=by
    have:=HU.out false
    rw [hr]
    have e:vo s=false:=by simp [vo,h1,h2]
    rw [e]; exact this
   clear HU hr
   have d1:(s == 1)=false:=by simpa using h1
   have d2:(s == 2)=false:=by simpa using h2
   go_enter Tryz.func194,Tryz.ntmps194
   go_wp2_with fail
   with_reducible refine HU1.out.mono ?_
   rintro e w1 ⟨rfl,rfl⟩
   go_wp2
   go_ret
   exact ⟨rfl,rfl⟩

set_option maxRecDepth 100000 in
theorem FA (A:Option Addr) (n c:Nat) (w:World):Calls Tryz.prog 197 #[.slice A n c] w fun e w'=>e=.returned (.int .i64 (zA (decide (n≤6)) 7))∧w'=w:=by
 by_cases h:n≤6
 ·
  have HU:=z8 (xD true 7 w)
  rw [decide_eq_true h]
  have z:(n:Int)≤6:=by omega
  generalize zA true 7=r at *
  go_enter Tryz.func197,Tryz.ntmps197
  go_wp2_with fail
  with_reducible refine HU.out.mono ?_
  rintro e w1 ⟨rfl,rfl⟩
  go_wp2
  go_ret
  exact ⟨rfl,rfl⟩
 ·
  have HU:=z8 (xD false 7 w)
  rw [decide_eq_false h]
  have z:¬ (n:Int)≤6:=by omega
  generalize zA false 7=r at *
  go_enter Tryz.func197,Tryz.ntmps197
  go_wp2_with fail
  with_reducible refine HU.out.mono ?_
  rintro e w1 ⟨rfl,rfl⟩
  go_wp2
  go_ret
  exact ⟨rfl,rfl⟩

theorem RdS.at6 {w:World} {A:Option Addr} {ss:List ByteArray} (h:RdS w A ss) (k:Nat) (hk:k<ss.length) :
  ∃ (b off:Nat),A=some ⟨b,off,none⟩∧w.cell? ⟨b,off+k,none⟩=some (.string ss[k]):=by
 obtain ⟨b,off,rfl,_,hc⟩:=h (by intro e; subst e; simp at hk)
 exact ⟨b,off,rfl,hc k hk⟩
theorem RdS.below {w w':World} {A:Option Addr} {ss:List ByteArray} (h:RdS w A ss) (hb:Below w.heap.size w w'):RdS w' A ss:=h.turns (zb.of_below hb (fun _=>False)) (fun _ _ _ f=>f)

def zK (ss:List ByteArray):Bool:=ss.all fun s=>zm s.data.toList

set_option maxRecDepth 100000 in
theorem U8 (A:Option Addr) (n c:Nat) (ss:List ByteArray) (w:World) (hl:n=ss.length) (hr:RdS w A ss) (hm:n≤9223372036854775807) (hs:∀ s∈ss,s.size≤9223372036854775807) :
  Calls Tryz.prog 198 #[.slice A n c] w (yi (zA (zK ss) 10) w):=by
 have HR:=z8 hr
 have HL:=z8 hl
 have HS:=z8 hs
 clear hr hl hs
 obtain ⟨r,hr⟩:∃ r,r=zA (zK ss) 10:=⟨_,rfl⟩
 rw [← hr]
 have HE:=z8 hr
 clear hr
 go_enter Tryz.func198,Tryz.ntmps198
 go_wp2
 go_loopg [4,5,8] n (fun gg _ _ s8 wr=>∃ k:Nat,k≤n∧n - k≤gg∧s8=.int .i64 k∧Hid (Below w.heap.size w wr)∧Hid (∀ j (h:j<ss.length),j<k→zm ss[j].data.toList=true))
 case atStart=>exact ⟨0,Nat.zero_le _,by omega,rfl,Below.refl _ _,fun j _ hj=>absurd hj (Nat.not_lt_zero _)⟩
 case round =>
  obtain ⟨k,hk,hg,rfl,HW,A⟩:=hrel
  by_cases hlt:k<n
  ·
   have hltz:(k:Int)<(n:Int):=by omega
   have hkl:k<ss.length:=HL.out ▸ hlt
   obtain ⟨b,off,rfl,hcell⟩:=(HR.out.below HW.out).at6 k hkl
   have HN:=z8 (vD ss[k] wr (HS.out _ (List.getElem_mem hkl)))
   have HX:Hid (zm ss[k].data.toList=true→∀ j (h:j<ss.length),j<k+1→zm ss[j].data.toList=true):=fun hq j h hj=>by
    by_cases e:j=k
    ·
     subst e; exact hq
    ·
     exact A.out j h (by omega)
   have HF:Hid (zm ss[k].data.toList=false→r=10):=fun hf=>by
    rw [HE.out]
    have:zK ss=false:=List.all_eq_false.2 ⟨ss[k],List.getElem_mem hkl,by rw [hf]; simp⟩
    rw [this]; rfl
   cases hq:zm ss[k].data.toList with
   | true =>
    rw [hq] at HN
    have HY:=z8 (HX.out hq)
    clear hq HX HF A
    generalize ss[k]=x at *
    have HN2:Hid (Calls Tryz.prog 52 #[.string x] wr (yi 0 wr)):=HN
    clear HN
    go_wp2_with (go_at_call 52; (with_reducible refine HN2.out.mono ?_); rintro e w3 ⟨rfl,hb⟩; have HB3:=z8 (z7 HW.out hb); clear hb)
    go_roundg (n - (k+1))
    case measure=>omega
    case rel=>exact ⟨k+1,by omega,by omega,by go_num,HB3,HY⟩
   | false =>
    rw [hq] at HN
    have hr10:r=10:=HF.out hq
    subst hr10
    clear hq HX HF A
    generalize ss[k]=x at *
    have HN2:Hid (Calls Tryz.prog 52 #[.string x] wr (yi 10 wr)):=HN
    clear HN
    go_wp2_with (go_at_call 52; (with_reducible refine HN2.out.mono ?_); rintro e w3 ⟨rfl,hb⟩; have HB3:=z8 (z7 HW.out hb); clear hb)
    go_ret
    exact ⟨rfl,HB3.out⟩
  ·
   have hltz:¬ (k:Int)<(n:Int):=by omega
   obtain rfl:k=n:=by omega
   have hr0:r=0:=by
    rw [HE.out]
    have:zK ss=true:=by
     unfold zK
     rw [List.all_eq_true]
     intro x hx
     obtain ⟨j,hj,rfl⟩:=List.getElem_of_mem hx
     exact A.out j hj (by have:=HL.out; omega)
    rw [this]; rfl
   subst hr0
   clear A
   go_wp2
   go_ret
   exact ⟨rfl,HW.out⟩

def zv (a b:ByteArray):Bool:=decide (Lib.compareBytes a.data.toList b.data.toList<0)
def zB:List ByteArray→Bool
 | []=>true
 | [_]=>true
 | a::b::l=>zv a b && zB (b::l)

theorem xJ:∀ (ss:List ByteArray) (k:Nat) (h:k+1<ss.length),zv ss[k] ss[k+1]=false→zB ss=false
 | [],k,h,_=>by simp at h
 | [_],k,h,_=>by simp at h
 | a::b::l,0,h,hq=>by
  have hq':zv a b=false:=hq
  show (zv a b && zB (b::l))=false
  rw [hq']; rfl
 | a::b::l,k+1,h,hq=>by
  show (zv a b && zB (b::l))=false
  rw [xJ (b::l) k (by simpa using h) hq]
  simp
theorem xK:∀ (ss:List ByteArray),(∀ k (h:k+1<ss.length),zv ss[k] ss[k+1]=true)→zB ss=true
 | [],_=>rfl
 | [_],_=>rfl
 | a::b::l,hq=>by
  show (zv a b && zB (b::l))=true
  have h0:zv a b=true:=hq 0 (by simp)
  rw [h0,xK (b::l) (fun k h=>hq (k+1) (by simpa using h))]
  rfl

set_option maxRecDepth 100000 in
theorem XB (Aa:Option Addr) (n c:Nat) (ss:List ByteArray) (w:World) (hl:n=ss.length) (hr:RdS w Aa ss) (hm:n≤9223372036854775807) :
  Calls Tryz.prog 199 #[.slice Aa n c] w fun e w'=>e=.returned (.int .i64 (zA (zB ss) 9))∧∃ q,w'=w.drewN q:=by
 have HR:=z8 hr
 have HL:=z8 hl
 clear hr hl
 obtain ⟨r,hr⟩:∃ r,r=zA (zB ss) 9:=⟨_,rfl⟩
 rw [← hr]
 have HE:=z8 hr
 clear hr
 go_enter Tryz.func199,Tryz.ntmps199
 go_wp2
 go_loopg [3] n (fun gg s3 wr=>∃ k:Nat,(k≤n∨k=1)∧1≤k∧n - k≤gg∧s3=.int .i64 k∧(∃ q,wr=w.drewN q)∧Hid (∀ j (h:j+1<ss.length),j+1<k→zv ss[j] ss[j+1]=true))
 case atStart=>exact ⟨1,.inr rfl,Nat.le_refl _,by omega,rfl,⟨0,rfl⟩,fun j _ hj=>absurd hj (by omega)⟩
 case round =>
  obtain ⟨k,hk,hk1,hg,rfl,⟨q,hq⟩,A⟩:=hrel
  have HQ:=z8 hq
  have HW:Hid (RdS wr Aa ss):=by rw [hq]; exact HR.out.below (zn (Below.refl w.heap.size w) q)
  clear hq
  by_cases hlt:k<n
  ·
   have hltz:(k:Int)<(n:Int):=by omega
   have hkl:k<ss.length:=HL.out ▸ hlt
   have hkl':k - 1<ss.length:=by omega
   obtain ⟨b,off,hA,hcell⟩:=HW.out.at6 k hkl
   obtain ⟨b',off',hA',hcell'⟩:=HW.out.at6 (k - 1) hkl'
   obtain ⟨rfl,rfl⟩:b'=b∧off'=off:=by
    rw [hA] at hA'
    simp at hA'
    exact ⟨hA'.1.symm,hA'.2.symm⟩
   subst hA
   have zk:(k:Int) - 1=((k - 1:Nat):Int):=by omega
   have z1:((k - 1:Nat):Int)<(n:Int):=by omega
   have hcw:∀ i,(wr.drewN i).cell? ⟨b',off'+k,none⟩=some (.string ss[k]):=fun i=>hcell
   have hcw':∀ i,(wr.drewN i).cell? ⟨b',off'+(k - 1),none⟩=some (.string ss[k - 1]):=fun i=>hcell'
   have HX:Hid (zv ss[k - 1] ss[k]=true→∀ j (h:j+1<ss.length),j+1<k+1→zv ss[j] ss[j+1]=true):=fun hq j h hj=>by
    by_cases e:j=k - 1
    ·
     subst e
     have e2:k - 1+1=k:=by omega
     have:ss[k - 1+1]=ss[k]:=by congr 1
     rw [this]; exact hq
    ·
     exact A.out j h (by omega)
   have HF:Hid (zv ss[k - 1] ss[k]=false→r=9):=fun hf=>by
    rw [HE.out]
    have:zB ss=false:=xJ ss (k - 1) (by omega) (by
     have:ss[k - 1+1]=ss[k]:=by congr 1; omega
     rw [this]; exact hf)
    rw [this]; rfl
   have HC:Hid (∀ W,Calls Tryz.prog 138 #[.string ss[k - 1],.string ss[k]] W fun e w'=>e=.returned (.int .i64 (Lib.compareBytes ss[k - 1].data.toList ss[k].data.toList))∧w'=W):=fun W=>vz _ _ W
   have HD:Hid (zv ss[k - 1] ss[k]=decide (Lib.compareBytes ss[k - 1].data.toList ss[k].data.toList<0)):=rfl
   generalize Lib.compareBytes ss[k - 1].data.toList ss[k].data.toList=cm at *
   generalize zv ss[k - 1] ss[k]=q6 at *
   generalize ss[k]=x at *
   generalize ss[k - 1]=y at *
   clear A hcell hcell'
   have hwr:IntKind.i64.wrap ((k - 1:Nat):Int)=((k - 1:Nat):Int):=IntWalk.i64_in _ (by omega)
   by_cases hc:cm<0
   ·
    have hq:q6=true:=by rw [HD.out,decide_eq_true hc]
    have HY:=z8 (HX.out hq)
    have hcd:decide (cm ≥ 0)=false:=decide_eq_false (by omega)
    have hc2:¬ cm ≥ 0:=by omega
    have hc3:¬ 0≤cm:=by omega
    clear HX HF HD hq
    go_wp2
    go_quiet (first | (go_at_call 138; exact Calls.quiet_of_same (HC.out _)))
    go_wp2
    go_roundg (n - (k+1))
    case measure=>omega
    case rel=>exact ⟨k+1,.inl (by omega),by omega,by omega,by go_num,⟨q+nq,by rw [HQ.out,World.drewN_drewN]⟩,HY⟩
   ·
    have hq:q6=false:=by rw [HD.out,decide_eq_false hc]
    have hr9:r=9:=HF.out hq
    subst hr9
    have hc2:cm ≥ 0:=by omega
    have hc3:0≤cm:=by omega
    clear HX HF HD hq
    go_wp2
    go_quiet (first | (go_at_call 138; exact Calls.quiet_of_same (HC.out _)))
    go_wp2
    go_ret
    exact ⟨rfl,q+nq,by rw [HQ.out,World.drewN_drewN]⟩
  ·
   have hltz:¬ (k:Int)<(n:Int):=by omega
   have hr0:r=0:=by
    rw [HE.out]
    have:zB ss=true:=xK ss (fun j h=>A.out j h (by have:=HL.out; omega))
    rw [this]; rfl
   subst hr0
   clear A
   go_wp2
   go_ret
   exact ⟨rfl,q,HQ.out⟩

def uG (m:ByteArray):Bool:=decide (m.size=0) || (yV m.data.toList && decide (up m.data.toList=m))

theorem xU {s t:ByteArray} (h:s≠t):s.toList≠t.toList:=by
 intro e
 apply h
 rw [ByteArray.toList_eq,ByteArray.toList_eq] at e
 exact ByteArray.ext (Array.toList_inj.1 e)

theorem Vu (w:World) (t:TypeId) (x y:Int) (j:Nat) (h:j<[x,y].length):(w.alloc (.cells #[.int .i64 x,.int .i64 y] t)).cell? ⟨w.heap.size,j,none⟩=some (.int .i64 [x,y][j]):=by
 rw [World.cell?_alloc_at _ _ _ _ rfl]
 match j,h with
 | 0,_=>rfl
 | 1,_=>rfl

set_option maxRecDepth 100000 in
theorem V2 (m:ByteArray) (w:World) (hs:m.size≤9223372036854775807) (hm:vm w) :
  Calls Tryz.prog 196 #[.string m] w (yi (zA (uG m) 11) w):=by
 by_cases h0:m.size=0
 ·
  obtain rfl:m=⟨#[]⟩:=by
   obtain ⟨d⟩:=m
   obtain rfl:d=#[]:=Array.eq_empty_of_size_eq_zero h0
   rfl
  show Calls _ _ _ _ (yi 0 w)
  go_enter Tryz.func196,Tryz.ntmps196
  go_wp2
  go_ret
  exact ⟨rfl,Below.refl _ _⟩
 ·
  have hne:¬ m.toList=[]:=fun e=>h0 (by rw [← zh,← ByteArray.toList_eq,e]; rfl)
  have hne2:m.toList.isEmpty=false:=by simpa using hne
  have HM:=z8 (X3 m w hs hm)
  have hf:uG m=(yV m.data.toList && decide (up m.data.toList=m)):=by
   unfold uG
   rw [decide_eq_false h0,Bool.false_or]
  rw [hf]
  clear hf hm hs
  generalize yV m.data.toList=b at *
  generalize up m.data.toList=t at *
  obtain ⟨r,hr⟩:∃ r,r=zA (b && decide (t=m)) 11:=⟨_,rfl⟩
  rw [← hr]
  have HU:Hid (∀ b w,Calls Tryz.prog 239 #[.bool b,.int .i64 11] w fun e w'=>e=.returned (.int .i64 (zA b 11))∧w'=w):=fun b w=>xD b 11 w
  have HF:Hid (∀ (x y:Int) (W:World),Calls Tryz.prog 193 #[.slice (some ⟨W.heap.size,0,none⟩) 2 2] (W.alloc (.cells #[.int .i64 x,.int .i64 y] 24)) fun e w'=>e=.returned (.int .i64 (zD [x,y]))∧w'=W.alloc (.cells #[.int .i64 x,.int .i64 y] 24)) :=
   fun x y W=>qi _ 2 2 [x,y] _ rfl (by omega) (Vu W _ x y)
  have HR:Hid (∀ c:Bool,c=decide (t=m)→r=zD [zA b 11,zA c 11]):=fun c hc=>by
   rw [hr,hc]
   cases b <;> by_cases h:t=m <;> simp [h,zA,zD]
  clear hr h0
  by_cases h:t=m
  ·
   have hr:=HR.out true (by simp [h])
   have HR2:=z8 hr
   subst h
   clear hr HR
   go_enter Tryz.func196,Tryz.ntmps196
   go_wp2_with fail
   with_reducible refine HM.out.mono ?_
   rintro e w1 ⟨rfl,hb⟩
   have HB:=z8 hb
   clear hb HM
   go_wp2_with fail
   with_reducible refine (HU.out true _).mono ?_
   rintro e w2 ⟨rfl,rfl⟩
   generalize zA true 11=e2 at *
   go_wp2_with fail
   with_reducible refine (HF.out (zA b 11) e2 _).mono ?_
   rintro e w3 ⟨rfl,rfl⟩
   have hr:=HR2.out
   rw [← hr]
   clear hr HR2
   go_wp2
   go_ret
   exact ⟨rfl,za HB.out _⟩
  ·
   have hr:=HR.out false (by simp [h])
   have HR2:=z8 hr
   have htn:=xU h
   have htn2:(t.toList == m.toList)=false:=by simpa using htn
   clear hr HR h
   go_enter Tryz.func196,Tryz.ntmps196
   go_wp2_with fail
   with_reducible refine HM.out.mono ?_
   rintro e w1 ⟨rfl,hb⟩
   have HB:=z8 hb
   clear hb HM
   go_wp2_with fail
   with_reducible refine (HU.out false _).mono ?_
   rintro e w2 ⟨rfl,rfl⟩
   generalize zA false 11=e2 at *
   go_wp2_with fail
   with_reducible refine (HF.out (zA b 11) e2 _).mono ?_
   rintro e w3 ⟨rfl,rfl⟩
   have hr:=HR2.out
   rw [← hr]
   clear hr HR2
   go_wp2
   go_ret
   exact ⟨rfl,za HB.out _⟩

structure Us where
 nm:ByteArray
 hs:ByteArray
 ml:ByteArray
 dis:Bool
 ga:Option Addr
 gs:List ByteArray
 gc:Nat
def Us.cells (u:Us):Array Value:=#[.string u.nm,.string u.hs,.string u.ml,.bool u.dis,.slice u.ga u.gs.length u.gc]
def Us.v (u:Us):Value:=.agg u.cells
structure Us.Ok (w:World) (u:Us):Prop where
 rd:RdS w u.ga u.gs
 nm:u.nm.size≤140737488355328
 hs:u.hs.size≤140737488355328
 ml:u.ml.size≤140737488355328
 nil:u.ga=none→u.gc=0
 len:u.gs.length≤u.gc
 cap:u.gc≤9223372036854775807
 all:∀ s∈u.gs,s.size≤9223372036854775807
theorem Us.Ok.below {w W:World} {u:Us} (h:u.Ok w) (hb:Below w.heap.size w W):u.Ok W:=⟨h.rd.below hb,h.nm,h.hs,h.ml,h.nil,h.len,h.cap,h.all⟩

structure Q1 (w:World) (B:Nat) (u:Us):Prop where
 lt:B<w.heap.size
 c0:w.cell? ⟨B,0,none⟩=some (.string u.nm)
 c1:w.cell? ⟨B,1,none⟩=some (.string u.hs)
 c2:w.cell? ⟨B,2,none⟩=some (.string u.ml)
 c3:w.cell? ⟨B,3,none⟩=some (.bool u.dis)
 c4:w.cell? ⟨B,4,none⟩=some (.slice u.ga u.gs.length u.gc)
theorem Q1.new (w:World) (u:Us) (t:TypeId):Q1 (w.alloc (.cells #[.string u.nm,.string u.hs,.string u.ml,.bool u.dis,.slice u.ga u.gs.length u.gc] t)) w.heap.size u:=by
 refine ⟨by simp,?_,?_,?_,?_,?_⟩
 all_goals
  rw [World.cell?_alloc_at _ _ _ _ rfl]
  rfl
theorem Q1.below_at {w W:World} {B:Nat} {u:Us} (h:Q1 w B u) {n:Nat} (hn:B<n) (hb:Below n w W):Q1 W B u :=
 ⟨Nat.lt_of_lt_of_le h.lt hb.size,(hb.cell (p:=⟨B,0,none⟩) hn).trans h.c0,(hb.cell (p:=⟨B,1,none⟩) hn).trans h.c1,(hb.cell (p:=⟨B,2,none⟩) hn).trans h.c2,(hb.cell (p:=⟨B,3,none⟩) hn).trans h.c3,(hb.cell (p:=⟨B,4,none⟩) hn).trans h.c4⟩
theorem Q1.below {w W:World} {B:Nat} {u:Us} (h:Q1 w B u) (hb:Below w.heap.size w W):Q1 W B u:=h.below_at h.lt hb

theorem VS {w:World} {b off:Nat} {ss:List ByteArray} (h:∀ j (hj:j<ss.length),w.cell? ⟨b,off+j,none⟩=some (.string ss[j])):∀ j,j<ss.length→w.cell? ⟨b,off+j,none⟩=some (.string (ss.getD j ByteArray.empty)):=fun j hj=>by
 rw [h j hj,List.getD_eq_getElem?_getD,List.getElem?_eq_getElem hj]
 rfl

theorem UH (A A':Option Addr) (n c m c':Nat) (ss ts:List ByteArray) (w:World) (hn:n=ss.length) (hm:m=ts.length) (h1:RdS w A ss) (h2:RdS w A' ts) (hb1:n≤9223372036854775807) (hb2:m≤9223372036854775807) :
  Calls Tryz.prog 258 #[.slice A n c,.slice A' m c'] w fun e w'=>e=.returned (.bool (decide (ss=ts)))∧∃ q,w'=w.drewN q:=by
 subst hn; subst hm
 by_cases hl:ss.length=ts.length
 ·
  by_cases h0:ss=[]
  ·
   subst h0
   have ht:ts=[]:=List.eq_nil_of_length_eq_zero hl.symm
   subst ht
   exact (Tryz.slices_Equal_string_empty A A' c 0 c' w (by omega)).mono fun e w' ⟨he,hw⟩=>⟨by rw [he]; rfl,0,by rw [hw]; rfl⟩
  ·
   have h0':ts≠[]:=fun e=>h0 (List.eq_nil_of_length_eq_zero (by rw [hl,e]; rfl))
   obtain ⟨b,off,rfl,_,hc⟩:=h1 h0
   obtain ⟨b',off',rfl,_,hc'⟩:=h2 h0'
   have:=Tryz.slices_Equal_string b off ss.length c b' off' ts.length c' ss ts w (Nat.le_refl _) (Nat.le_refl _) hb1 hb2 (VS hc) (VS hc')
   rw [List.take_length,List.take_length] at this
   exact this
 ·
  have hd:decide (ss=ts)=false:=decide_eq_false (fun e=>hl (by rw [e]))
  rw [hd]
  exact (Tryz.slices_Equal_string_lens A A' ss.length c ts.length c' w hl).mono fun e w' ⟨he,hw⟩=>⟨he,0,by rw [hw]; rfl⟩

def sameU (a b:Us):Bool:=decide (a.nm=b.nm) && decide (a.hs=b.hs) && decide (a.ml=b.ml) && decide (a.dis=b.dis) && decide (a.gs=b.gs)

set_option maxRecDepth 100000 in
theorem Q9 (a b:Us) (w:World) (ha:a.Ok w) (hb:b.Ok w):Calls Tryz.prog 240 #[a.v,b.v] w (yt (sameU a b) w):=by
 have HE:Hid (∀ W,Below w.heap.size w W→Calls Tryz.prog 258 #[.slice a.ga a.gs.length a.gc,.slice b.ga b.gs.length b.gc] W fun e w'=>e=.returned (.bool (decide (a.gs=b.gs)))∧∃ q,w'=W.drewN q) :=
  fun W h=>UH _ _ _ _ _ _ a.gs b.gs W rfl rfl (ha.rd.below h) (hb.rd.below h) (Nat.le_trans ha.len ha.cap) (Nat.le_trans hb.len hb.cap)
 clear ha hb
 unfold sameU Us.v Us.cells
 obtain ⟨nm,hs,ml,dis,ga,gs,gc⟩:=a
 obtain ⟨nm',hs',ml',dis',ga',gs',gc'⟩:=b
 dsimp only at *
 generalize decide (gs=gs')=q5 at *
 generalize gs.length=n at *
 generalize gs'.length=m at *
 obtain ⟨r,hr⟩:∃ r,r=(decide (nm=nm') && decide (hs=hs') && decide (ml=ml') && decide (dis=dis') && q5):=⟨_,rfl⟩
 rw [← hr]
 have HR:=z8 hr
 clear hr
 by_cases h1:nm=nm'
 ·
  by_cases h2:hs=hs'
  ·
   by_cases h3:ml=ml'
   ·
    by_cases h4:dis=dis'
    ·
     have HR2:Hid (r=q5):=by rw [HR.out]; simp [h1,h2,h3,h4,Hid]
     subst h1; subst h2; subst h3; subst h4
     clear HR
     have h4d:(dis == dis)=true:=by simp
     go_enter Tryz.func240,Tryz.ntmps240
     go_wp2_with fail
     with_reducible refine (HE.out _ (za (za (Below.refl _ _) _) _)).mono ?_
     rintro e w1 ⟨rfl,q,rfl⟩
     go_wp2
     go_ret
     exact ⟨by rw [HR2.out]; rfl,zn (za (za (Below.refl _ _) _) _) q⟩
    ·
     have hr:r=false:=by rw [HR.out]; simp [h4]
     subst hr
     subst h1; subst h2; subst h3
     clear HR HE
     have h4d:(dis == dis')=false:=by simpa using h4
     go_enter Tryz.func240,Tryz.ntmps240
     go_wp2
     go_ret
     exact ⟨rfl,za (za (Below.refl _ _) _) _⟩
   ·
    have hr:r=false:=by rw [HR.out]; simp [h3]
    subst hr
    subst h1; subst h2
    have hn:=xU h3
    have hn2:(ml.toList == ml'.toList)=false:=by simpa using hn
    clear HR HE h3
    go_enter Tryz.func240,Tryz.ntmps240
    go_wp2
    go_ret
    exact ⟨rfl,za (za (Below.refl _ _) _) _⟩
  ·
   have hr:r=false:=by rw [HR.out]; simp [h2]
   subst hr
   subst h1
   have hn:=xU h2
   have hn2:(hs.toList == hs'.toList)=false:=by simpa using hn
   clear HR HE h2
   go_enter Tryz.func240,Tryz.ntmps240
   go_wp2
   go_ret
   exact ⟨rfl,za (za (Below.refl _ _) _) _⟩
 ·
  have hr:r=false:=by rw [HR.out]; simp [h1]
  subst hr
  have hn:=xU h1
  have hn2:(nm.toList == nm'.toList)=false:=by simpa using hn
  clear HR HE h1
  go_enter Tryz.func240,Tryz.ntmps240
  go_wp2
  go_ret
  exact ⟨rfl,za (za (Below.refl _ _) _) _⟩

def upU (u:Us):Us:=⟨u.nm,u.hs,⟨#[]⟩,false,none,[],0⟩
theorem upU_ok {w:World} {u:Us} (h:u.Ok w) (W:World):(upU u).Ok W:=⟨fun e=>absurd rfl e,h.nm,h.hs,Nat.zero_le _,fun _=>rfl,Nat.zero_le _,Nat.zero_le _,fun s hs=>by cases hs⟩

set_option maxRecDepth 100000 in
theorem Vs (u:Us) (w:World):Calls Tryz.prog 40 #[u.v] w fun e w'=>e=.returned (upU u).v∧Below w.heap.size w w':=by
 unfold Us.v Us.cells upU
 obtain ⟨nm,hs,ml,dis,ga,gs,gc⟩:=u
 dsimp only
 generalize gs.length=n
 go_enter Tryz.func40,Tryz.ntmps40
 go_wp2
 refine bodyPost_ret (v:=.agg #[.string nm,.string hs,.string ⟨#[]⟩,.bool false,.slice none 0 0]) (by simp [results,Tryz.results40,go_sem]) rfl ⟨rfl,?_⟩
 exact za (za (Below.refl _ _) _) _

def fZ (W:World) (v:Value) (es:List Int):Prop :=
 ∃ G,v=.slice (some ⟨G,0,none⟩) es.length es.length∧G<W.heap.size∧∀ j (h:j<es.length),W.cell? ⟨G,j,none⟩=some (.int .i64 es[j])
theorem fZ.below {W W':World} {v:Value} {es:List Int} (h:fZ W v es) (hb:Below W.heap.size W W'):fZ W' v es:=by
 obtain ⟨G,e,hl,hc⟩:=h
 exact ⟨G,e,Nat.lt_of_lt_of_le hl hb.size,fun j hj=>(hb.cell (p:=⟨G,j,none⟩) hl).trans (hc j hj)⟩
theorem ZT (W:World) (es:List Int) (t:TypeId):fZ (W.alloc (.cells (es.map (Value.int .i64)).toArray t)) (.slice (some ⟨W.heap.size,0,none⟩) es.length es.length) es:=by
 refine ⟨_,rfl,by simp,fun j hj=>?_⟩
 rw [World.cell?_alloc_at _ _ _ _ rfl]
 simp [hj]
theorem fZ.first {W:World} {v:Value} {es:List Int} (h:fZ W v es) (hn:es.length≤1000):Calls Tryz.prog 193 #[v] W fun e w'=>e=.returned (.int .i64 (zD es))∧w'=W:=by
 obtain ⟨G,rfl,_,hc⟩:=h
 exact qi G es.length es.length es W rfl hn hc

def uQ (u:Us):Bool:=sameU u (upU u)
def YBare (u:Us) (q:Bool) (e:Int):Nat→Value→World→Prop
 | 0,v,_=>v=u.v
 | 1,v,_=>v=u.v
 | 2,v,_=>v=(upU u).v
 | 3,v,_=>v=.bool q
 | 4,v,_=>v=.int .i64 e
 | _,v,_=>v=.int .i64 e
theorem Xl {u:Us} {q:Bool} {e:Int} {W W':World} (_hb:Below W.heap.size W W') (j:Nat) (z:Value) (h:YBare u q e j z W):YBare u q e j z W':=by
 match j,h with
 | 0,h=>exact h
 | 1,h=>exact h
 | 2,h=>exact h
 | 3,h=>exact h
 | 4,h=>exact h
 | _+5,h=>exact h

set_option maxRecDepth 100000 in
theorem QX (u:Us) (w:World) (h:u.Ok w):Calls Tryz.prog 195 #[u.v] w (yi (zA (uQ u) 12) w):=by
 have HS:Hid (∀ W,Below w.heap.size w W→Calls Tryz.prog 240 #[u.v,(upU u).v] W (yt (uQ u) W)):=fun W hb=>Q9 u (upU u) W (h.below hb) (upU_ok h W)
 have HP:Hid (∀ W,Calls Tryz.prog 40 #[u.v] W fun e w'=>e=.returned (upU u).v∧Below W.heap.size W w'):=fun W=>Vs u W
 have HU:Hid (∀ W,Calls Tryz.prog 239 #[.bool (uQ u),.int .i64 12] W fun e w'=>e=.returned (.int .i64 (zA (uQ u) 12))∧w'=W):=fun W=>xD (uQ u) 12 W
 have hat:=Q1.new w u 47
 clear h
 generalize zA (uQ u) 12=r at *
 generalize uQ u=q at *
 have HA:=z8 hat
 have HB0:=z8 (za (Below.refl w.heap.size w) (.cells #[.string u.nm,.string u.hs,.string u.ml,.bool u.dis,.slice u.ga u.gs.length u.gc] 47))
 clear hat
 show Calls _ _ #[.agg #[.string u.nm,.string u.hs,.string u.ml,.bool u.dis,.slice u.ga u.gs.length u.gc]] _ _
 go_enter Tryz.func195,Tryz.ntmps195
 go_wp2_with fail
 generalize w.alloc (.cells #[.string u.nm,.string u.hs,.string u.ml,.bool u.dis,.slice u.ga u.gs.length u.gc] 47)=w1 at *
 refine yS (by kernel_rfl) (fun W=>Below w1.heap.size w1 W) (YBare u q r) ?F ?hF (by kernel_rfl) (by kernel_rfl) (zy (Below.refl _ _)) ?step ?fin
 case hF =>
  intro x
  simp only [List.map_cons,List.map_nil,xc,Act.put,List.setIfInBounds_toArray,List.set_cons_zero,List.set_cons_succ,Nat.zero_add,Nat.reduceAdd]
  exact rfl
 case step =>
  refine ⟨?_,?_,?_,?_,?_,?_,trivial⟩
  all_goals intro x W hW hdep K hK
  ·
   have hc:=HA.out.below hW
   have c0:=hc.c0
   have c1:=hc.c1
   have c2:=hc.c2
   have c3:=hc.c3
   have c4:=hc.c4
   clear hdep
   go_simp
   exact hK _ _ rfl hW (fun _ _ h=>h)
  ·
   have hc:=HA.out.below hW
   have c0:=hc.c0
   have c1:=hc.c1
   have c2:=hc.c2
   have c3:=hc.c3
   have c4:=hc.c4
   clear hdep
   go_simp
   exact hK _ _ rfl hW (fun _ _ h=>h)
  ·
   have h1:x 1=_:=hdep 1 rfl
   clear hdep
   simp only [h1] at hK
   go_simp
   refine (HP.out W).mono ?_
   rintro e W' ⟨rfl,hb⟩
   exact hK _ _ rfl (z7 hW hb) (fun j u h=>Xl hb j u h)
  ·
   have h0:x 0=_:=hdep 0 rfl
   have h2:x 2=_:=hdep 2 rfl
   clear hdep
   simp only [h0,h2] at hK
   go_simp
   refine (HS.out W (z7 HB0.out hW)).mono ?_
   rintro e W' ⟨rfl,hb⟩
   exact hK _ _ rfl (z7 hW hb) (fun j u h=>Xl hb j u h)
  ·
   have h3:x 3=_:=hdep 3 rfl
   clear hdep
   simp only [h3] at hK
   go_simp
   refine (HU.out W).mono ?_
   rintro e W' ⟨rfl,rfl⟩
   exact hK _ _ rfl hW (fun _ _ h=>h)
  ·
   have h4:x 4=_:=hdep 4 rfl
   clear hdep
   simp only [h4] at hK
   go_simp
   exact hK _ _ rfl hW (fun _ _ h=>h)
 case fin =>
  intro x W hW hY
  have h5:x 5=.int .i64 r:=hY 5 (by decide)
  clear hY
  have HF:=z8 (z7 HB0.out hW)
  clear hW HS HP HU HA HB0
  rw [h5]
  go_wp2
  go_ret
  exact ⟨rfl,HF.out⟩

def YChkA (s:Int) (B:Nat) (u:Us) (e0 e1 e2:Int):Nat→Value→World→Prop
 | 0,v,_=>v=.int .i64 s
 | 1,v,_=>v=.int .i64 e0
 | 2,v,_=>v=.pointer (some ⟨B,0,none⟩)
 | 3,v,_=>v=.string u.nm
 | 4,v,_=>v=.int .i64 e1
 | 5,v,_=>v=.pointer (some ⟨B,1,none⟩)
 | 6,v,_=>v=.string u.hs
 | 7,v,_=>v=.int .i64 e2
 | 8,v,W=>fZ W v [e0,e1,e2]
 | 9,v,_=>v=.int .i64 (zD [e0,e1,e2])
 | _,v,_=>v=.int .i64 (zD [e0,e1,e2])
theorem fw {s:Int} {B:Nat} {u:Us} {e0 e1 e2:Int} {W W':World} (hb:Below W.heap.size W W') (j:Nat) (z:Value) (h:YChkA s B u e0 e1 e2 j z W):YChkA s B u e0 e1 e2 j z W':=by
 match j,h with
 | 0,h=>exact h
 | 1,h=>exact h
 | 2,h=>exact h
 | 3,h=>exact h
 | 4,h=>exact h
 | 5,h=>exact h
 | 6,h=>exact h
 | 7,h=>exact h
 | 8,h=>exact h.below hb
 | 9,h=>exact h
 | _+10,h=>exact h
def YChkB (B:Nat) (u:Us) (e0 e1 e2 e3 e4:Int):Nat→Value→World→Prop
 | 0,v,_=>v=.int .i64 e0
 | 1,v,_=>v=.pointer (some ⟨B,2,none⟩)
 | 2,v,_=>v=.string u.ml
 | 3,v,_=>v=.int .i64 e1
 | 4,v,_=>v=.pointer (some ⟨B,4,none⟩)
 | 5,v,_=>v=.slice u.ga u.gs.length u.gc
 | 6,v,_=>v=.int .i64 e2
 | 7,v,_=>v=.pointer (some ⟨B,4,none⟩)
 | 8,v,_=>v=.slice u.ga u.gs.length u.gc
 | 9,v,_=>v=.int .i64 e3
 | 10,v,_=>v=.pointer (some ⟨B,4,none⟩)
 | 11,v,_=>v=.slice u.ga u.gs.length u.gc
 | 12,v,_=>v=.int .i64 e4
 | 13,v,W=>fZ W v [e0,e1,e2,e3,e4]
 | 14,v,_=>v=.int .i64 (zD [e0,e1,e2,e3,e4])
 | _,v,_=>v=.int .i64 (zD [e0,e1,e2,e3,e4])
theorem qC {B:Nat} {u:Us} {e0 e1 e2 e3 e4:Int} {W W':World} (hb:Below W.heap.size W W') (j:Nat) (z:Value) (h:YChkB B u e0 e1 e2 e3 e4 j z W):YChkB B u e0 e1 e2 e3 e4 j z W':=by
 match j,h with
 | 0,h=>exact h
 | 1,h=>exact h
 | 2,h=>exact h
 | 3,h=>exact h
 | 4,h=>exact h
 | 5,h=>exact h
 | 6,h=>exact h
 | 7,h=>exact h
 | 8,h=>exact h
 | 9,h=>exact h
 | 10,h=>exact h
 | 11,h=>exact h
 | 12,h=>exact h
 | 13,h=>exact h.below hb
 | 14,h=>exact h
 | _+15,h=>exact h

def yk (s:Int) (u:Us):Int :=
 let e:=zD [zA (vo s) 6,zA (zm u.nm.data.toList) 10,zA (xo u.hs.data.toList) 4]
 if s=1 then zD [e,zA (uQ u) 12] else zD [e,zA (uG u.ml) 11,zA (decide (u.gs.length≤6)) 7,zA (zK u.gs) 10,zA (zB u.gs) 9]

set_option maxRecDepth 100000 in
theorem vk (s:Int) (u:Us) (w:World) (h:u.Ok w) (hm:vm w):Calls Tryz.prog 104 #[.int .i64 s,u.v] w (yi (yk s u) w):=by
 have HK:Hid (∀ W,Calls Tryz.prog 194 #[.int .i64 s] W fun e w'=>e=.returned (.int .i64 (zA (vo s) 6))∧w'=W):=fun W=>qc s W
 have HN:Hid (∀ W,Calls Tryz.prog 52 #[.string u.nm] W (yi (zA (zm u.nm.data.toList) 10) W)):=fun W=>vD u.nm W (Nat.le_trans h.nm (by omega))
 have HH:Hid (∀ W,Calls Tryz.prog 116 #[.string u.hs] W (yi (zA (xo u.hs.data.toList) 4) W)):=fun W=>FR u.hs W (Nat.le_trans h.hs (by omega))
 have HBR:Hid (∀ W,Below w.heap.size w W→Calls Tryz.prog 195 #[u.v] W (yi (zA (uQ u) 12) W)):=fun W hb=>QX u W (h.below hb)
 have HFO:Hid (∀ W,Below w.heap.size w W→Calls Tryz.prog 196 #[.string u.ml] W (yi (zA (uG u.ml) 11) W)):=fun W hb=>V2 u.ml W (Nat.le_trans h.ml (by omega)) (hm.later hb)
 have HFW:Hid (∀ W,Calls Tryz.prog 197 #[.slice u.ga u.gs.length u.gc] W fun e w'=>e=.returned (.int .i64 (zA (decide (u.gs.length≤6)) 7))∧w'=W):=fun W=>FA u.ga u.gs.length u.gc W
 have HNS:Hid (∀ W,Below w.heap.size w W→Calls Tryz.prog 198 #[.slice u.ga u.gs.length u.gc] W (yi (zA (zK u.gs) 10) W)):=fun W hb=>U8 u.ga u.gs.length u.gc u.gs W rfl (h.rd.below hb) (Nat.le_trans h.len h.cap) h.all
 have HRI:Hid (∀ W,Below w.heap.size w W→Calls Tryz.prog 199 #[.slice u.ga u.gs.length u.gc] W (yi (zA (zB u.gs) 9) W)):=fun W hb =>
  (XB u.ga u.gs.length u.gc u.gs W rfl (h.rd.below hb) (Nat.le_trans h.len h.cap)).mono fun e w' ⟨he,q,hq⟩=>⟨he,by rw [hq]; exact zn (Below.refl _ _) q⟩
 have HF2:Hid (∀ (x y:Int) (W:World),Calls Tryz.prog 193 #[.slice (some ⟨W.heap.size,0,none⟩) 2 2] (W.alloc (.cells #[.int .i64 x,.int .i64 y] 24)) fun e w'=>e=.returned (.int .i64 (zD [x,y]))∧w'=W.alloc (.cells #[.int .i64 x,.int .i64 y] 24)) :=
  fun x y W=>qi _ 2 2 [x,y] _ rfl (by omega) (Vu W _ x y)
 have hat:=Q1.new w u 47
 have hb0:=za (Below.refl w.heap.size w) (.cells #[.string u.nm,.string u.hs,.string u.ml,.bool u.dis,.slice u.ga u.gs.length u.gc] 47)
 clear h hm
 obtain ⟨r,hr⟩:∃ r,r=yk s u:=⟨_,rfl⟩
 rw [← hr]
 unfold yk at hr
 have HR:=z8 hr
 clear hr
 generalize zA (vo s) 6=e0 at *
 generalize zA (zm u.nm.data.toList) 10=e1 at *
 generalize zA (xo u.hs.data.toList) 4=e2 at *
 generalize zA (uQ u) 12=e3 at *
 generalize zA (uG u.ml) 11=e4 at *
 generalize zA (decide (u.gs.length≤6)) 7=e5 at *
 generalize zA (zK u.gs) 10=e6 at *
 generalize zA (zB u.gs) 9=e7 at *
 have HA:=z8 hat
 have HB0:=z8 hb0
 clear hat hb0
 have huv:Hid (u.v=.agg #[.string u.nm,.string u.hs,.string u.ml,.bool u.dis,.slice u.ga u.gs.length u.gc]):=rfl
 rw [huv.out]
 go_enter Tryz.func104,Tryz.ntmps104
 go_wp2_with fail
 generalize w.alloc (.cells #[.string u.nm,.string u.hs,.string u.ml,.bool u.dis,.slice u.ga u.gs.length u.gc] 47)=w1 at *
 refine yS (by kernel_rfl) (fun W=>Below w1.heap.size w1 W) (YChkA s w.heap.size u e0 e1 e2) ?F ?hF (by kernel_rfl) (by kernel_rfl) (zy (Below.refl _ _)) ?step ?fin
 case hF =>
  intro x
  simp only [List.map_cons,List.map_nil,xc,Act.put,List.setIfInBounds_toArray,List.set_cons_zero,List.set_cons_succ,Nat.zero_add,Nat.reduceAdd]
  exact rfl
 case step =>
  refine ⟨?_,?_,?_,?_,?_,?_,?_,?_,?_,?_,?_,trivial⟩
  all_goals intro x W hW hdep K hK
  ·
   clear hdep
   go_simp
   exact hK _ _ rfl hW (fun _ _ h=>h)
  ·
   have h0:x 0=_:=hdep 0 rfl
   clear hdep
   simp only [h0] at hK
   go_simp
   refine (HK.out W).mono ?_
   rintro e W' ⟨rfl,rfl⟩
   exact hK _ _ rfl hW (fun _ _ h=>h)
  ·
   clear hdep
   go_simp
   exact hK _ _ rfl hW (fun _ _ h=>h)
  ·
   have h2:x 2=_:=hdep 2 rfl
   have c0:=(HA.out.below hW).c0
   clear hdep
   simp only [h2] at hK
   go_simp
   exact hK _ _ rfl hW (fun _ _ h=>h)
  ·
   have h3:x 3=_:=hdep 3 rfl
   clear hdep
   simp only [h3] at hK
   go_simp
   refine (HN.out W).mono ?_
   rintro e W' ⟨rfl,hb⟩
   exact hK _ _ rfl (z7 hW hb) (fun j u h=>fw hb j u h)
  ·
   clear hdep
   go_simp
   exact hK _ _ rfl hW (fun _ _ h=>h)
  ·
   have h5:x 5=_:=hdep 5 rfl
   have c1:=(HA.out.below hW).c1
   clear hdep
   simp only [h5] at hK
   go_simp
   exact hK _ _ rfl hW (fun _ _ h=>h)
  ·
   have h6:x 6=_:=hdep 6 rfl
   clear hdep
   simp only [h6] at hK
   go_simp
   refine (HH.out W).mono ?_
   rintro e W' ⟨rfl,hb⟩
   exact hK _ _ rfl (z7 hW hb) (fun j u h=>fw hb j u h)
  ·
   have h1:x 1=_:=hdep 1 rfl
   have h4:x 4=_:=hdep 4 rfl
   have h7:x 7=_:=hdep 7 rfl
   clear hdep
   simp only [h1,h4,h7] at hK
   go_simp
   exact hK _ _ (ZT W [e0,e1,e2] _) (za hW _) (fun j z h=>fw (za (Below.refl _ _) _) j z h)
  ·
   have h8:fZ W (x 8) [e0,e1,e2]:=hdep 8 rfl
   clear hdep
   go_simp
   refine (h8.first (by simp)).mono ?_
   rintro e W' ⟨rfl,rfl⟩
   exact hK _ _ rfl hW (fun _ _ h=>h)
  ·
   have h9:x 9=_:=hdep 9 rfl
   clear hdep
   simp only [h9] at hK
   go_simp
   exact hK _ _ rfl hW (fun _ _ h=>h)
 case fin =>
  intro x W hW hY
  have h10:x 10=.int .i64 (zD [e0,e1,e2]):=hY 10 (by decide)
  clear hY
  have HAW:=z8 (HA.out.below hW)
  have HW:=z8 (z7 HB0.out hW)
  clear hW HK HN HH HA HB0
  rw [h10]
  clear h10
  generalize zD [e0,e1,e2]=f0 at *
  by_cases h1:s=1
  ·
   have hr:r=zD [f0,e3]:=by rw [HR.out,if_pos h1]
   subst h1
   have HR2:=z8 hr
   clear hr HR
   have c0:=HAW.out.c0
   have c1:=HAW.out.c1
   have c2:=HAW.out.c2
   have c3:=HAW.out.c3
   have c4:=HAW.out.c4
   have HBW:=HBR.out W HW.out
   rw [huv.out] at HBW
   go_wp2_with fail
   with_reducible refine HBW.mono ?_
   rintro e w2 ⟨rfl,hb⟩
   have HW2:=z8 (z7 HW.out hb)
   clear hb c0 c1 c2 c3 c4 HBW HBR
   go_wp2_with fail
   with_reducible refine (HF2.out f0 e3 _).mono ?_
   rintro e w3 ⟨rfl,rfl⟩
   have hr:=HR2.out
   rw [← hr]
   clear hr HR2
   go_wp2
   go_ret
   exact ⟨rfl,za HW2.out _⟩
  ·
   have hr:r=zD [f0,e4,e5,e6,e7]:=by rw [HR.out,if_neg h1]
   have HR2:=z8 hr
   have h1d:(s == 1)=false:=by simpa using h1
   clear hr HR HBR h1
   go_wp2_with fail
   refine yS (by kernel_rfl) (fun W'=>Below W.heap.size W W') (YChkB w.heap.size u f0 e4 e5 e6 e7) ?F2 ?hF2 (by kernel_rfl) (by kernel_rfl) (zy (Below.refl _ _)) ?step2 ?Uz
   case hF2 =>
    intro x
    simp only [List.map_cons,List.map_nil,xc,Act.put,List.setIfInBounds_toArray,List.set_cons_zero,List.set_cons_succ,Nat.zero_add,Nat.reduceAdd]
    exact rfl
   case step2 =>
    refine ⟨?_,?_,?_,?_,?_,?_,?_,?_,?_,?_,?_,?_,?_,?_,?_,?_,trivial⟩
    all_goals intro x W hW hdep K hK
    ·
     clear hdep
     go_simp
     exact hK _ _ rfl hW (fun _ _ h=>h)
    ·
     clear hdep
     go_simp
     exact hK _ _ rfl hW (fun _ _ h=>h)
    ·
     have h1:x 1=_:=hdep 1 rfl
     have c2:=(HAW.out.below hW).c2
     clear hdep
     simp only [h1] at hK
     go_simp
     exact hK _ _ rfl hW (fun _ _ h=>h)
    ·
     have h2:x 2=_:=hdep 2 rfl
     clear hdep
     simp only [h2] at hK
     go_simp
     refine (HFO.out W (z7 HW.out hW)).mono ?_
     rintro e W' ⟨rfl,hb⟩
     exact hK _ _ rfl (z7 hW hb) (fun j u h=>qC hb j u h)
    ·
     clear hdep
     go_simp
     exact hK _ _ rfl hW (fun _ _ h=>h)
    ·
     have h4:x 4=_:=hdep 4 rfl
     have c4:=(HAW.out.below hW).c4
     clear hdep
     simp only [h4] at hK
     go_simp
     exact hK _ _ rfl hW (fun _ _ h=>h)
    ·
     have h5:x 5=_:=hdep 5 rfl
     clear hdep
     simp only [h5] at hK
     go_simp
     refine (HFW.out W).mono ?_
     rintro e W' ⟨rfl,rfl⟩
     exact hK _ _ rfl hW (fun _ _ h=>h)
    ·
     clear hdep
     go_simp
     exact hK _ _ rfl hW (fun _ _ h=>h)
    ·
     have h7:x 7=_:=hdep 7 rfl
     have c4:=(HAW.out.below hW).c4
     clear hdep
     simp only [h7] at hK
     go_simp
     exact hK _ _ rfl hW (fun _ _ h=>h)
    ·
     have h8:x 8=_:=hdep 8 rfl
     clear hdep
     simp only [h8] at hK
     go_simp
     refine (HNS.out W (z7 HW.out hW)).mono ?_
     rintro e W' ⟨rfl,hb⟩
     exact hK _ _ rfl (z7 hW hb) (fun j u h=>qC hb j u h)
    ·
     clear hdep
     go_simp
     exact hK _ _ rfl hW (fun _ _ h=>h)
    ·
     have h10:x 10=_:=hdep 10 rfl
     have c4:=(HAW.out.below hW).c4
     clear hdep
     simp only [h10] at hK
     go_simp
     exact hK _ _ rfl hW (fun _ _ h=>h)
    ·
     have h11:x 11=_:=hdep 11 rfl
     clear hdep
     simp only [h11] at hK
     go_simp
     refine (HRI.out W (z7 HW.out hW)).mono ?_
     rintro e W' ⟨rfl,hb⟩
     exact hK _ _ rfl (z7 hW hb) (fun j u h=>qC hb j u h)
    ·
     have h0:x 0=_:=hdep 0 rfl
     have h3:x 3=_:=hdep 3 rfl
     have h6:x 6=_:=hdep 6 rfl
     have h9:x 9=_:=hdep 9 rfl
     have h12:x 12=_:=hdep 12 rfl
     clear hdep
     simp only [h0,h3,h6,h9,h12] at hK
     go_simp
     exact hK _ _ (ZT W [f0,e4,e5,e6,e7] _) (za hW _) (fun j z h=>qC (za (Below.refl _ _) _) j z h)
    ·
     have h13:fZ W (x 13) [f0,e4,e5,e6,e7]:=hdep 13 rfl
     clear hdep
     go_simp
     refine (h13.first (by simp)).mono ?_
     rintro e W' ⟨rfl,rfl⟩
     exact hK _ _ rfl hW (fun _ _ h=>h)
    ·
     have h14:x 14=_:=hdep 14 rfl
     clear hdep
     simp only [h14] at hK
     go_simp
     exact hK _ _ rfl hW (fun _ _ h=>h)
   case Uz =>
    intro x W' hW' hY
    have h15:x 15=.int .i64 (zD [f0,e4,e5,e6,e7]):=hY 15 (by decide)
    clear hY
    have HF:=z8 (z7 HW.out hW')
    clear hW' HW HAW HFO HFW HNS HRI
    rw [h15]
    have hr:=HR2.out
    rw [← hr]
    clear hr HR2 h15
    go_wp2
    go_ret
    exact ⟨rfl,HF.out⟩

def NW6 (w:World) (B:Nat) (bs:List UInt8) (wr:World):Prop :=
 w.heap.size≤B∧(∃ v,Wtr wr B v bs∧∀ k,v.ownBlock=some k→w.heap.size≤k)∧Below w.heap.size w wr
theorem NW6.zero (w:World):NW6 w w.heap.size [] (w.alloc (.cells #[.slice none 0 0] 82)) :=
 ⟨Nat.le_refl _,⟨_,⟨heap_alloc_new w _,World.ownsRow_nil _ _ _ _⟩,fun k hk=>by simp [Value.ownBlock] at hk⟩,za (Below.refl _ _) _⟩
theorem jW.nw6 {w w1 w2:World} {B:Nat} {v:Value} {bs:List UInt8} (hB:w.heap.size≤B) (hv:∀ k,v.ownBlock=some k→w.heap.size≤k) (ht:Below w.heap.size w w1) (h:jW w1 B v bs w2):NW6 w B bs w2:=by
 obtain ⟨v',hw,ho,ht2⟩:=h
 refine ⟨hB,⟨v',hw,fun k hk=>?_⟩,ht.trans ((ht2.below_at ht.size (fun i hs=>?_)))⟩
 ·
  rcases ho with ho | ⟨k',ho,hk'⟩
  ·
   exact hv k (ho ▸ hk)
  ·
   rw [ho] at hk; injection hk with hk; have:=ht.size; omega
 ·
  rcases hs with hs | hs
  ·
   omega
  ·
   exact hv i hs
theorem Wtr.below {w W:World} {B:Nat} {v:Value} {bs:List UInt8} (h:Wtr w B v bs) (hb:Below w.heap.size w W):Wtr W B v bs:=by
 refine ⟨(hb.block B h.lt).trans h.1,(zb.of_below hb (fun _=>False)).owns h.2 (fun _ _ f=>f)⟩
theorem NW6.below {w w1 w2:World} {B:Nat} {bs:List UInt8} (h:NW6 w B bs w1) (hb:Below w1.heap.size w1 w2):NW6 w B bs w2:=by
 obtain ⟨hB,⟨v,hw,hv⟩,ht⟩:=h
 exact ⟨hB,⟨v,hw.below hb,hv⟩,z7 ht hb⟩

def UsB (w:World) (B:Nat) (u:Us):Prop:=w.heap[B]? = some (.cells #[.string u.nm,.string u.hs,.string u.ml,.bool u.dis,.slice u.ga u.gs.length u.gc] 47 (0,0))
theorem UsB.at_ {w:World} {B:Nat} {u:Us} (h:UsB w B u):Q1 w B u:=by
 refine ⟨(Array.getElem?_eq_some_iff.1 h).1,?_,?_,?_,?_,?_⟩
 all_goals
  rw [cell_of_row w B _ _ _ (0,0) h]
  rfl
theorem UsB.new (w:World) (u:Us):UsB (w.alloc (.cells #[.string u.nm,.string u.hs,.string u.ml,.bool u.dis,.slice u.ga u.gs.length u.gc] 47)) w.heap.size u:=heap_alloc_new w _
theorem UsB.below {w W:World} {B:Nat} {u:Us} (h:UsB w B u) (hb:Below w.heap.size w W):UsB W B u:=(hb.block B (Array.getElem?_eq_some_iff.1 h).1).trans h

def St6 (w:World) (B B5:Nat) (u:Us) (bs:List UInt8) (W:World):Prop:=NW6 w B bs W∧UsB W B5 u
theorem St6.drew {w W:World} {B B5:Nat} {u:Us} {bs:List UInt8} (h:St6 w B B5 u bs W):St6 w B B5 u bs W.drew:=⟨h.1.below (zy (Below.refl _ _)),h.2⟩
theorem St6.went {w W W':World} {B B5:Nat} {u:Us} {bs bs':List UInt8} {v:Value} (h:St6 w B B5 u bs W) (hw:Wtr W B v bs) (hv:∀ k,v.ownBlock=some k→w.heap.size≤k) (hg:jW W B v bs' W'):St6 w B B5 u bs' W':=by
 obtain ⟨⟨hB,_,hb⟩,hu⟩:=h
 refine ⟨hg.nw6 hB hv hb,?_⟩
 obtain ⟨_,_,_,ht⟩:=hg
 have hlt:=(Array.getElem?_eq_some_iff.1 hu).1
 refine (ht.block B5 hlt ?_).trans hu
 rintro (he | he)
 ·
  subst he
  have:=hw.1.symm.trans hu
  simp at this
 ·
  rcases hw.2.2 with ⟨rfl,_⟩ | ⟨g,cap,cur,rfl,_,hg',_⟩
  ·
   simp [Value.ownBlock] at he
  ·
   have:g=B5:=by simpa [Value.ownBlock] using he
   subst this
   have:=hg'.symm.trans hu
   simp at this
def Goes6 (w:World) (B B5:Nat) (u:Us) (bs:List UInt8) (e:Ending) (W:World):Prop:=e=.returned (.pointer (some ⟨B,0,none⟩))∧St6 w B B5 u bs W
theorem St6.text {w W:World} {B B5:Nat} {u:Us} {bs:List UInt8} (s:ByteArray) (hs:s.size≤65535) (hr:bs.length≤500000) (h:St6 w B B5 u bs W) :
  Calls Tryz.prog 105 #[.pointer (some ⟨B,0,none⟩),.string s] W (Goes6 w B B5 u (bs++zo s)):=by
 obtain ⟨v,hw,hv⟩:=h.1.2.1
 exact (fc B v bs s W hw hs (by omega)).mono fun e W' ⟨he,hg⟩=>⟨he,h.went hw hv hg⟩
theorem St6.truth {w W:World} {B B5:Nat} {u:Us} {bs:List UInt8} (is:Bool) (hr:bs.length≤500000) (h:St6 w B B5 u bs W) :
  Calls Tryz.prog 106 #[.pointer (some ⟨B,0,none⟩),.bool is] W (Goes6 w B B5 u (bs++le is.toNat 1)):=by
 obtain ⟨v,hw,hv⟩:=h.1.2.1
 exact (Q5 B v bs is W hw (by omega)).mono fun e W' ⟨he,hg⟩=>⟨he,h.went hw hv hg⟩
theorem St6.row {w W:World} {B B5:Nat} {u:Us} {bs:List UInt8} (A:Option Addr) (c:Nat) (ss:List ByteArray) (hA:RdS w A ss) (hc:ss.length≤c) (hm:c≤9223372036854775807) (hl:ss.length≤65535) (hs:∀ s∈ss,s.size≤65535) (hr:bs.length≤500000) (h:St6 w B B5 u bs W) :
  Calls Tryz.prog 46 #[.pointer (some ⟨B,0,none⟩),.slice A ss.length c] W (Goes6 w B B5 u (bs++xR ss)):=by
 obtain ⟨v,hw,hv⟩:=h.1.2.1
 refine (VH B v bs A ss.length c ss W hw hc hm (by omega) (hA.below h.1.2.2) (fun hne a ha=>?_) hs (by omega)).mono fun e W' ⟨he,hg⟩=>⟨he,h.went hw hv hg⟩
 obtain ⟨b,off,rfl,hb,_⟩:=hA hne
 injection ha with ha
 subst ha
 have h1:=h.1.1
 rintro (he | he)
 ·
  simp only at he; omega
 ·
  have:=hv _ he; simp only at this; omega

structure Us.Little (u:Us):Prop where
 nm:u.nm.size≤12
 hs:u.hs.size≤12
 ml:u.ml.size≤20
 len:u.gs.length≤6
 all:∀ s∈u.gs,s.size≤12
theorem yN {b:Bool} {n:Int} (hn:n≠0) (h:zA b n=0):b=true:=by
 cases b with
 | true=>rfl
 | false=>exact absurd h hn
theorem ym:∀ {l:List Int},zD l=0→∀ e∈l,e=0
 | [],_,e,h=>by cases h
 | x::l,h,e,he=>by
  unfold zD at h
  by_cases hx:x=0
  ·
   rw [if_pos hx] at h
   rcases List.mem_cons.1 he with rfl | he
   ·
    exact hx
   ·
    exact ym h e he
  ·
   rw [if_neg hx] at h
   exact absurd h hx
theorem qu {s:ByteArray} (h:zm s.data.toList=true):s.size≤12:=by
 unfold zm Zx at h
 simp only [Bool.and_eq_true,decide_eq_true_eq,zh] at h
 exact h.1.1.2.1
theorem Xa {s:ByteArray} (h:xo s.data.toList=true):s.size≤12:=by
 unfold xo at h
 simp only [Bool.and_eq_true,decide_eq_true_eq,zh] at h
 exact h.1.2
theorem Fx {s:ByteArray} (h:uG s=true):s.size≤20:=by
 unfold uG yV at h
 simp only [Bool.and_eq_true,Bool.or_eq_true,decide_eq_true_eq,zh] at h
 rcases h with h | h
 ·
  omega
 ·
  exact h.1.1.1.1
theorem ql {s:Int} {u:Us} (h:yk s u=0):vo s=true∧zm u.nm.data.toList=true∧xo u.hs.data.toList=true:=by
 have h0:zD [zA (vo s) 6,zA (zm u.nm.data.toList) 10,zA (xo u.hs.data.toList) 4]=0:=by
  unfold yk at h
  by_cases h1:s=1
  ·
   rw [if_pos h1] at h
   exact ym h _ (by simp)
  ·
   rw [if_neg h1] at h
   exact ym h _ (by simp)
 exact ⟨yN (n:=6) (by decide) (ym h0 _ (by simp)),yN (n:=10) (by decide) (ym h0 _ (by simp)),yN (n:=4) (by decide) (ym h0 _ (by simp))⟩
theorem bare6_eq {u:Us} (h:uQ u=true):u.ml=⟨#[]⟩∧u.dis=false∧u.gs=[]:=by
 unfold uQ sameU upU at h
 simp only [Bool.and_eq_true,decide_eq_true_eq] at h
 exact ⟨h.1.1.2,h.1.2,h.2⟩
theorem chk6_one {u:Us} (h:yk 1 u=0):uQ u=true:=by
 unfold yk at h
 rw [if_pos rfl] at h
 exact yN (by decide) (ym h (zA (uQ u) 12) (by simp))
theorem Ve {u:Us} (h:yk 2 u=0):uG u.ml=true∧u.gs.length≤6∧zK u.gs=true∧zB u.gs=true:=by
 unfold yk at h
 rw [if_neg (by decide)] at h
 refine ⟨yN (by decide) (ym h (zA (uG u.ml) 11) (by simp)),?_,yN (n:=10) (by decide) (ym h (zA (zK u.gs) 10) (by simp)),yN (by decide) (ym h (zA (zB u.gs) 9) (by simp))⟩
 exact of_decide_eq_true (yN (by decide) (ym h (zA (decide (u.gs.length≤6)) 7) (by simp)))
theorem vO {s:Int} {u:Us} (h:yk s u=0):u.Little∧(s=1∨s=2):=by
 obtain ⟨h1,h2,h3⟩:=ql h
 have hs:s=1∨s=2:=by simpa [vo] using h1
 refine ⟨?_,hs⟩
 rcases hs with rfl | rfl
 ·
  obtain ⟨e1,_,e3⟩:=bare6_eq (chk6_one h)
  exact ⟨qu h2,Xa h3,by rw [e1]; exact Nat.zero_le _,by rw [e3]; exact Nat.zero_le _,fun s hs=>by rw [e3] at hs; cases hs⟩
 ·
  obtain ⟨e1,e2,e3,_⟩:=Ve h
  exact ⟨qu h2,Xa h3,Fx e1,e2,fun s hs=>qu (List.all_eq_true.1 e3 s hs)⟩

def zR (s:Int) (u:Us):List UInt8:=zo u.nm++zo u.hs++(if s=2 then zo u.ml++le u.dis.toNat 1++xR u.gs else [])
def Put6 (w:World) (B:Nat) (bs:List UInt8) (s:Int) (u:Us) (e:Ending) (w':World):Prop :=
 (yk s u=0∧e=.returned (.bool true)∧NW6 w B (bs++zR s u) w')∨(yk s u≠0∧e=.returned (.bool false)∧NW6 w B bs w')

def YPutA (B B5:Nat) (u:Us):Nat→Value→World→Prop
 | 0,v,_=>v=.pointer (some ⟨B,0,none⟩)
 | 1,v,_=>v=.pointer (some ⟨B5,0,none⟩)
 | 2,v,_=>v=.string u.nm
 | 3,v,_=>v=.pointer (some ⟨B,0,none⟩)
 | 4,v,_=>v=.pointer (some ⟨B5,1,none⟩)
 | 5,v,_=>v=.string u.hs
 | _,v,_=>v=.pointer (some ⟨B,0,none⟩)
theorem Xk {B B5:Nat} {u:Us} {W W':World} (j:Nat) (z:Value) (h:YPutA B B5 u j z W):YPutA B B5 u j z W':=by
 match j,h with
 | 0,h=>exact h
 | 1,h=>exact h
 | 2,h=>exact h
 | 3,h=>exact h
 | 4,h=>exact h
 | 5,h=>exact h
 | _+6,h=>exact h
def YPutB (B B5:Nat) (u:Us):Nat→Value→World→Prop
 | 0,v,_=>v=.pointer (some ⟨B,0,none⟩)
 | 1,v,_=>v=.pointer (some ⟨B5,2,none⟩)
 | 2,v,_=>v=.string u.ml
 | 3,v,_=>v=.pointer (some ⟨B,0,none⟩)
 | 4,v,_=>v=.pointer (some ⟨B5,3,none⟩)
 | 5,v,_=>v=.bool u.dis
 | 6,v,_=>v=.pointer (some ⟨B,0,none⟩)
 | 7,v,_=>v=.pointer (some ⟨B5,4,none⟩)
 | 8,v,_=>v=.slice u.ga u.gs.length u.gc
 | _,v,_=>v=.pointer (some ⟨B,0,none⟩)
theorem ft {B B5:Nat} {u:Us} {W W':World} (j:Nat) (z:Value) (h:YPutB B B5 u j z W):YPutB B B5 u j z W':=by
 match j,h with
 | 0,h=>exact h
 | 1,h=>exact h
 | 2,h=>exact h
 | 3,h=>exact h
 | 4,h=>exact h
 | 5,h=>exact h
 | 6,h=>exact h
 | 7,h=>exact h
 | 8,h=>exact h
 | _+9,h=>exact h
def pA6 (bs:List UInt8) (u:Us):Nat→List UInt8
 | 0=>bs
 | 1=>bs++zo u.nm
 | _=>bs++zo u.nm++zo u.hs
def pB6 (bs:List UInt8) (u:Us):Nat→List UInt8
 | 0=>bs
 | 1=>bs++zo u.ml
 | 2=>bs++zo u.ml++le u.dis.toNat 1
 | _=>bs++zo u.ml++le u.dis.toNat 1++xR u.gs
theorem jq.any {cs:List Nat} {St:Nat→World→Prop} {L:Nat→Bool} {W:World} {p:Prop} (h:jq cs St L W) (hp:∀ m,St m W→p):p:=by
 obtain ⟨m,_,hs,_⟩:=h
 exact hp m hs
theorem jq.last {cs:List Nat} {St:Nat→World→Prop} {L:Nat→Bool} {W:World} (h:jq cs St L W) (hL:∀ r,r<cs.length→L (cs.getD r 0)=true):St cs.length W:=by
 obtain ⟨m,hm,hs,hr⟩:=h
 have:m=cs.length:=by
  by_cases e:m=cs.length
  ·
   exact e
  ·
   have h1:=hr m (by omega)
   rw [hL m (by omega)] at h1
   simp at h1
 rw [← this]
 exact hs

set_option maxRecDepth 100000 in
theorem put6_wide (w:World) (B:Nat) (bs:List UInt8) (s:Int) (u:Us) (W0:World) (hw:NW6 w B bs W0) (h:u.Ok w) (hm:vm w) (hl:bs.length≤100000) :
  Calls Tryz.prog 38 #[.pointer (some ⟨B,0,none⟩),.int .i64 s,u.v] W0 (Put6 w B bs s u):=by
 have HC:Hid (∀ W,Below W0.heap.size W0 W→Calls Tryz.prog 104 #[.int .i64 s,u.v] W (yi (yk s u) W)):=fun W hb=>vk s u W (h.below (z7 hw.2.2 hb)) (hm.later (z7 hw.2.2 hb))
 have HB0:=z8 (za (Below.refl W0.heap.size W0) (.cells #[.string u.nm,.string u.hs,.string u.ml,.bool u.dis,.slice u.ga u.gs.length u.gc] 47))
 have HS0:Hid (St6 w B W0.heap.size u bs (W0.alloc (.cells #[.string u.nm,.string u.hs,.string u.ml,.bool u.dis,.slice u.ga u.gs.length u.gc] 47))):=⟨hw.below HB0.out,UsB.new W0 u⟩
 have HO:=z8 h
 have huv:Hid (u.v=.agg #[.string u.nm,.string u.hs,.string u.ml,.bool u.dis,.slice u.ga u.gs.length u.gc]):=rfl
 obtain ⟨ck,hck⟩:∃ ck,ck=yk s u:=⟨_,rfl⟩
 rw [← hck] at HC
 have HCK:=z8 hck
 have hcall:=HC.out (W0.alloc (.cells #[.string u.nm,.string u.hs,.string u.ml,.bool u.dis,.slice u.ga u.gs.length u.gc] 47)) HB0.out
 rw [huv.out] at hcall ⊢
 have HC1:=z8 hcall
 clear hw h hm hck hcall HC
 have hat:=HS0.out.2.at_
 have c0:=hat.c0
 have c1:=hat.c1
 have c2:=hat.c2
 have c3:=hat.c3
 have c4:=hat.c4
 clear hat
 go_enter Tryz.func38,Tryz.ntmps38
 go_wp2_with fail
 with_reducible refine HC1.out.mono ?_
 rintro e w2 ⟨rfl,hb⟩
 have HS2:Hid (St6 w B W0.heap.size u bs w2):=⟨HS0.out.1.below hb,HS0.out.2.below hb⟩
 clear hb HC1 HS0 c0 c1 c2 c3 c4
 by_cases h0:ck=0
 ·
  obtain ⟨hli,hs12⟩:=vO (HCK.out.symm.trans h0)
  have hn1:=hli.nm
  have hn2:=hli.hs
  have hn3:=hli.ml
  have htl:∀ t:ByteArray,(zo t).length=t.size+2:=yE
  have HP:Hid (∀ w',NW6 w B (bs++zR s u) w'→Put6 w B bs s u (.returned (.bool true)) w'):=fun w' h=>.inl ⟨HCK.out.symm.trans h0,rfl,h⟩
  clear HCK
  subst h0
  have HG0:Hid (jq [3,6] (fun m W=>St6 w B W0.heap.size u (pA6 bs u m) W) (fun _=>false) w2.drew):=jq.start HS2.out.drew
  have HUB:Hid (∀ L W,jq [3,6] (fun m W=>St6 w B W0.heap.size u (pA6 bs u m) W) L W→Q1 W W0.heap.size u):=fun L W hG=>hG.any fun m hs=>hs.2.at_
  have HT0:Hid (∀ W,St6 w B W0.heap.size u (pA6 bs u 0) W→_):=fun W hs=>St6.text u.nm (by omega) (show bs.length≤_ by omega) hs
  have HT1:Hid (∀ W,St6 w B W0.heap.size u (pA6 bs u 1) W→_):=fun W hs=>St6.text u.hs (by omega) (show (bs++zo u.nm).length≤_ by rw [List.length_append,htl]; omega) hs
  go_wp2_with fail
  refine uR (by kernel_rfl) (YPutA B W0.heap.size u) (jq [3,6] (fun m W=>St6 w B W0.heap.size u (pA6 bs u m) W)) ?F ?hF (by kernel_rfl) (by kernel_rfl) HG0.out ?step ?fin
  case hF =>
   intro x
   simp only [List.map_cons,List.map_nil,xc,Act.put,List.setIfInBounds_toArray,List.set_cons_zero,List.set_cons_succ,Nat.zero_add,Nat.reduceAdd]
   exact rfl
  case step =>
   refine ⟨?_,?_,?_,?_,?_,?_,?_,trivial⟩
   all_goals intro L y W hL hd hcl hG hY K hK
   ·
    clear hd hcl hY
    go_simp
    exact hK _ _ rfl (hG.same 0 rfl (fun _ h=>h)) (fun _ _ h=>h)
   ·
    clear hd hcl hY
    go_simp
    exact hK _ _ rfl (hG.same 1 rfl (fun _ h=>h)) (fun _ _ h=>h)
   ·
    have h1:y 1=_:=hY 1 (hd 1 rfl)
    have c:=(HUB.out L W hG).c0
    clear hd hcl hY
    simp only [h1] at hK
    go_simp
    exact hK _ _ rfl (hG.same 2 rfl (fun _ h=>h)) (fun _ _ h=>h)
   ·
    have h0:y 0=_:=hY 0 (hd 0 rfl)
    have h2:y 2=_:=hY 2 (hd 2 rfl)
    have hst:=hG.at_ 0 (by decide) hL (.inl rfl)
    have HNX:=z8 (fun W' h=>hG.next (W':=W') 0 3 (by decide) rfl hL (.inl rfl) (by decide) h)
    have HCALL:=z8 (HT0.out W hst)
    clear hst
    clear hd hcl hY
    simp only [h0,h2] at hK
    go_simp
    refine HCALL.out.mono ?_
    rintro e W' ⟨rfl,hst⟩
    exact hK _ _ rfl (HNX.out W' hst) (fun j _ h=>Xk j _ h)
   ·
    clear hd hcl hY
    go_simp
    exact hK _ _ rfl (hG.same 4 rfl (fun _ h=>h)) (fun _ _ h=>h)
   ·
    have h4:y 4=_:=hY 4 (hd 4 rfl)
    have c:=(HUB.out L W hG).c1
    clear hd hcl hY
    simp only [h4] at hK
    go_simp
    exact hK _ _ rfl (hG.same 5 rfl (fun _ h=>h)) (fun _ _ h=>h)
   ·
    have h3:y 3=_:=hY 3 (hd 3 rfl)
    have h5:y 5=_:=hY 5 (hd 5 rfl)
    have hst:=hG.at_ 1 (by decide) hL (.inr (hd 3 rfl))
    have HNX:=z8 (fun W' h=>hG.next (W':=W') 1 6 (by decide) rfl hL (.inr (hd 3 rfl)) (by decide) h)
    have HCALL:=z8 (HT1.out W hst)
    clear hst
    clear hd hcl hY
    simp only [h3,h5] at hK
    go_simp
    refine HCALL.out.mono ?_
    rintro e W' ⟨rfl,hst⟩
    exact hK _ _ rfl (HNX.out W' hst) (fun j _ h=>Xk j _ h)
  case fin =>
   intro L y W hL hG hY
   have hst:=hG.last (fun r hr=>hL _ (by match r,hr with | 0,_=>decide | 1,_=>decide))
   have HS3:Hid (St6 w B W0.heap.size u (bs++zo u.nm++zo u.hs) W):=hst
   clear hY hG hL hst HT0 HT1 HUB HG0 HS2
   rcases hs12 with rfl | rfl
   ·
    have HP1:Hid (∀ w',NW6 w B (bs++zo u.nm++zo u.hs) w'→Put6 w B bs 1 u (.returned (.bool true)) w'):=fun w' h=>HP.out w' (by
     rw [zR,if_neg (by decide),List.append_nil,← List.append_assoc]; exact h)
    clear HP
    go_wp2
    go_ret
    exact HP1.out _ HS3.out.1
   ·
    have HP1:Hid (∀ w',NW6 w B (bs++zo u.nm++zo u.hs++zo u.ml++le u.dis.toNat 1++xR u.gs) w'→Put6 w B bs 2 u (.returned (.bool true)) w'):=fun w' h=>HP.out w' (by
     rw [zR,if_pos rfl]
     simpa only [List.append_assoc] using h)
    clear HP
    obtain ⟨b2,hb2⟩:∃ b2,b2=bs++zo u.nm++zo u.hs:=⟨_,rfl⟩
    have hl2:b2.length≤200000:=by rw [hb2,List.length_append,List.length_append,htl,htl]; omega
    rw [← hb2] at HS3 HP1
    clear hb2
    have HG0:Hid (jq [3,6,9] (fun m W=>St6 w B W0.heap.size u (pB6 b2 u m) W) (fun _=>false) W.drew):=jq.start HS3.out.drew
    have HUB:Hid (∀ L W,jq [3,6,9] (fun m W=>St6 w B W0.heap.size u (pB6 b2 u m) W) L W→Q1 W W0.heap.size u):=fun L W hG=>hG.any fun m hs=>hs.2.at_
    have HT0:Hid (∀ W,St6 w B W0.heap.size u (pB6 b2 u 0) W→_):=fun W hs=>St6.text u.ml (by omega) (show b2.length≤_ by omega) hs
    have HT1:Hid (∀ W,St6 w B W0.heap.size u (pB6 b2 u 1) W→_):=fun W hs=>St6.truth u.dis (show (b2++zo u.ml).length≤_ by rw [List.length_append,htl]; omega) hs
    have HT2:Hid (∀ W,St6 w B W0.heap.size u (pB6 b2 u 2) W→_):=fun W hs=>St6.row u.ga u.gc u.gs HO.out.rd HO.out.len HO.out.cap (by have:=hli.len; omega) (fun s h=>by have:=hli.all s h; omega) (show (b2++zo u.ml++le u.dis.toNat 1).length≤_ by rw [List.length_append,List.length_append,htl,zQ]; omega) hs
    clear HO hli HS3
    go_wp2_with fail
    refine uR (by kernel_rfl) (YPutB B W0.heap.size u) (jq [3,6,9] (fun m W=>St6 w B W0.heap.size u (pB6 b2 u m) W)) ?F2 ?hF2 (by kernel_rfl) (by kernel_rfl) HG0.out ?step2 ?Uz
    case hF2 =>
     intro x
     simp only [List.map_cons,List.map_nil,xc,Act.put,List.setIfInBounds_toArray,List.set_cons_zero,List.set_cons_succ,Nat.zero_add,Nat.reduceAdd]
     exact rfl
    case step2 =>
     refine ⟨?_,?_,?_,?_,?_,?_,?_,?_,?_,?_,trivial⟩
     all_goals intro L y W hL hd hcl hG hY K hK
     ·
      clear hd hcl hY
      go_simp
      exact hK _ _ rfl (hG.same 0 rfl (fun _ h=>h)) (fun _ _ h=>h)
     ·
      clear hd hcl hY
      go_simp
      exact hK _ _ rfl (hG.same 1 rfl (fun _ h=>h)) (fun _ _ h=>h)
     ·
      have h1:y 1=_:=hY 1 (hd 1 rfl)
      have c:=(HUB.out L W hG).c2
      clear hd hcl hY
      simp only [h1] at hK
      go_simp
      exact hK _ _ rfl (hG.same 2 rfl (fun _ h=>h)) (fun _ _ h=>h)
     ·
      have h0:y 0=_:=hY 0 (hd 0 rfl)
      have h2:y 2=_:=hY 2 (hd 2 rfl)
      have hst:=hG.at_ 0 (by decide) hL (.inl rfl)
      have HNX:=z8 (fun W' h=>hG.next (W':=W') 0 3 (by decide) rfl hL (.inl rfl) (by decide) h)
      have HCALL:=z8 (HT0.out W hst)
      clear hst
      clear hd hcl hY
      simp only [h0,h2] at hK
      go_simp
      refine HCALL.out.mono ?_
      rintro e W' ⟨rfl,hst⟩
      exact hK _ _ rfl (HNX.out W' hst) (fun j _ h=>ft j _ h)
     ·
      clear hd hcl hY
      go_simp
      exact hK _ _ rfl (hG.same 4 rfl (fun _ h=>h)) (fun _ _ h=>h)
     ·
      have h4:y 4=_:=hY 4 (hd 4 rfl)
      have c:=(HUB.out L W hG).c3
      clear hd hcl hY
      simp only [h4] at hK
      go_simp
      exact hK _ _ rfl (hG.same 5 rfl (fun _ h=>h)) (fun _ _ h=>h)
     ·
      have h3:y 3=_:=hY 3 (hd 3 rfl)
      have h5:y 5=_:=hY 5 (hd 5 rfl)
      have hst:=hG.at_ 1 (by decide) hL (.inr (hd 3 rfl))
      have HNX:=z8 (fun W' h=>hG.next (W':=W') 1 6 (by decide) rfl hL (.inr (hd 3 rfl)) (by decide) h)
      have HCALL:=z8 (HT1.out W hst)
      clear hst
      clear hd hcl hY
      simp only [h3,h5] at hK
      go_simp
      refine HCALL.out.mono ?_
      rintro e W' ⟨rfl,hst⟩
      exact hK _ _ rfl (HNX.out W' hst) (fun j _ h=>ft j _ h)
     ·
      clear hd hcl hY
      go_simp
      exact hK _ _ rfl (hG.same 7 rfl (fun _ h=>h)) (fun _ _ h=>h)
     ·
      have h7:y 7=_:=hY 7 (hd 7 rfl)
      have c:=(HUB.out L W hG).c4
      clear hd hcl hY
      simp only [h7] at hK
      go_simp
      exact hK _ _ rfl (hG.same 8 rfl (fun _ h=>h)) (fun _ _ h=>h)
     ·
      have h6:y 6=_:=hY 6 (hd 6 rfl)
      have h8:y 8=_:=hY 8 (hd 8 rfl)
      have hst:=hG.at_ 2 (by decide) hL (.inr (hd 6 rfl))
      have HNX:=z8 (fun W' h=>hG.next (W':=W') 2 9 (by decide) rfl hL (.inr (hd 6 rfl)) (by decide) h)
      have HCALL:=z8 (HT2.out W hst)
      clear hst
      clear hd hcl hY
      simp only [h6,h8] at hK
      go_simp
      refine HCALL.out.mono ?_
      rintro e W' ⟨rfl,hst⟩
      exact hK _ _ rfl (HNX.out W' hst) (fun j _ h=>ft j _ h)
    case Uz =>
     intro L y W hL hG hY
     have hst:=hG.last (fun r hr=>hL _ (by match r,hr with | 0,_=>decide | 1,_=>decide | 2,_=>decide))
     have HS4:Hid (St6 w B W0.heap.size u (b2++zo u.ml++le u.dis.toNat 1++xR u.gs) W):=hst
     clear hY hG hL hst HT0 HT1 HT2 HUB HG0
     go_wp2
     go_ret
     exact HP1.out _ HS4.out.1
 ·
  have HP:Hid (∀ w',NW6 w B bs w'→Put6 w B bs s u (.returned (.bool false)) w'):=fun w' h=>.inr ⟨fun e=>h0 (HCK.out.trans e),rfl,h⟩
  clear HCK
  have h0d:(ck != 0)=true:=by simpa using h0
  go_wp2
  go_ret
  exact HP.out _ HS2.out.1

def Told6 (w:World) (l:List UInt8) (e:Ending) (w':World):Prop :=
 ∃ v',e=.returned v'∧w'.ownsRow 0 5 1 v' l.length (cellsOf l)∧(∀ k,v'.ownBlock=some k→w.heap.size≤k)∧Below w.heap.size w w'
theorem NW6.bytes {w W:World} {B:Nat} {bs:List UInt8} (h:NW6 w B bs W) (hl:bs.length≤1000000):Calls Tryz.prog 39 #[.pointer (some ⟨B,0,none⟩)] W (Told6 W bs):=by
 obtain ⟨v,hw,hv⟩:=h.2.1
 exact (QW B v bs W hw (by omega)).mono fun e W' ⟨v',he,ho,hb,ht⟩=>⟨v',he,ho,hb,ht.below (fun _ f=>f.elim)⟩

def xq (w:World) (B:Nat) (a b c d e:Value):Prop:=w.heap[B]? = some (.cells #[a,b,c,d,e] 47 (0,0))
theorem xq.lt {w:World} {B:Nat} {a b c d e:Value} (h:xq w B a b c d e):B<w.heap.size:=(Array.getElem?_eq_some_iff.1 h).1
theorem xq.at_ {w:World} {B:Nat} {a b c d e:Value} (h:xq w B a b c d e) (j:Nat):w.cell? ⟨B,j,none⟩=#[a,b,c,d,e][j]? := cell_of_row w B j _ _ (0,0) h
theorem xq.free {w:World} {B:Nat} {a b c d e:Value} (h:xq w B a b c d e) (j:Nat):w.frozen? ⟨B,j,none⟩=false:=by
 have h':w.heap[B]? = some (.cells #[a,b,c,d,e] 47 (0,0)):=h
 simp [World.frozen?,h']
theorem xq.set4 {w:World} {B:Nat} {a b c d e:Value} (h:xq w B a b c d e) (x:Value):xq (w.setCell ⟨B,4,none⟩ x) B a b c d x:=by
 have h':w.heap[B]? = some (.cells #[a,b,c,d,e] 47 (0,0)):=h
 simp [xq,World.setCell,Array.getElem?_modify,h']
theorem xq.other {w:World} {B C j:Nat} {a b c d e:Value} (h:xq w B a b c d e) (hne:B≠C) (x:Value):xq (w.setCell ⟨C,j,none⟩ x) B a b c d e:=by
 show (w.setCell ⟨C,j,none⟩ x).heap[B]? = _
 rw [Below.heap_setCell _ _ _ _ hne]
 exact h

def set5 (w:World) (B:Nat) (a b c d e:Value):World:=((((w.setCell ⟨B,0,none⟩ a).setCell ⟨B,1,none⟩ b).setCell ⟨B,2,none⟩ c).setCell ⟨B,3,none⟩ d).setCell ⟨B,4,none⟩ e
theorem xq.set5 {w:World} {B:Nat} {a b c d e:Value} (h:xq w B a b c d e) (a' b' c' d' e':Value):xq (set5 w B a' b' c' d' e') B a' b' c' d' e':=by
 have h':w.heap[B]? = some (.cells #[a,b,c,d,e] 47 (0,0)):=h
 simp [xq,Go.Proofs.YthmomkjingcbiaaGreatDoor.set5,World.setCell,Array.getElem?_modify,h']
theorem jZ {S:Nat→Prop} {a0 w:World} (h:zb S a0 w) (B:Nat) (hB:B<a0.heap.size→S B) (a b c d e:Value):zb S a0 (set5 w B a b c d e) :=
 ((((h.setCell (p:=⟨B,0,none⟩) hB a).setCell (p:=⟨B,1,none⟩) hB b).setCell (p:=⟨B,2,none⟩) hB c).setCell (p:=⟨B,3,none⟩) hB d).setCell (p:=⟨B,4,none⟩) hB e
theorem zY {S:Nat→Prop} {w w':World} {b0 b1:Nat} {e:TypeId} {size n:Nat} {v:Value} {xs:List Value} (ho:w.ownsRow b0 e size v n xs) (h1:b1≤b0) (ht:zb S w w') (hS:∀ k,b0≤k→¬ S k):w'.ownsRow b1 e size v n xs:=by
 refine ⟨ho.1,?_⟩
 rcases ho.2 with h0 | ⟨g,cap,cur,rfl,hb,hg,rest⟩
 ·
  exact .inl h0
 ·
  exact .inr ⟨g,cap,cur,rfl,Nat.le_trans h1 hb,(ht.block g (Array.getElem?_eq_some_iff.1 hg).1 (hS g hb)).trans hg,rest⟩

def Rows6 (w:World) (B:Nat) (st:St) (ss:List ByteArray) (e:Ending) (w':World):Prop:=∃ A c,e=.returned (.slice A ss.length c)∧w'.ownsRow 0 9 1 (.slice A ss.length c) ss.length (ss.map Value.string)∧(∀ j,Value.ownBlock (.slice A ss.length c)=some j→w.heap.size≤j)∧Did w B st w'

set_option maxRecDepth 100000 in
theorem Zn (B:Nat) (st:St) (most long:Int) (w:World) (h:Rdr w B st) (hl:st.bs.length≤1099511627776) :
  Calls Tryz.prog 171 #[.pointer (some ⟨B,0,none⟩),.int .i64 most,.int .i64 long] w (Rows6 w B (xI st most long).1 (xI st most long).2):=by
 obtain ⟨i0,hi,hz0,hz1,hz2⟩:=info_parts Jp
 have HN:=z8 (jB B st most w h hl)
 have hll:=xx st most
 have hlt:=X6 st most
 have HR:Hid (rowGo long (zi st most).2 (zi st most).1 []=xI st most long):=rfl
 generalize xI st most long=res at *
 generalize (zi st most).2=n at *
 generalize (zi st most).1=s0 at *
 have hl0:s0.bs.length≤1099511627776:=by omega
 clear h hl hll
 go_enter Tryz.func171,Tryz.ntmps171
 go_wp2_with fail
 with_reducible refine HN.out.mono ?_
 rintro e w1 ⟨rfl,hd⟩
 have HD:=z8 hd
 clear hd HN
 go_wp2
 go_loopw [7,12] (fun l i wr=>∃ (k:Nat) (s1:St) (ss:List ByteArray) (A:Option Addr) (c:Nat),k≤n∧i=.int .i64 k∧l=.slice A ss.length c∧ss.length=k∧wr.ownsRow 0 9 1 (.slice A ss.length c) ss.length (zr ss)∧(∀ j,Value.ownBlock (.slice A ss.length c)=some j→w.heap.size≤j)∧Did w B s1 wr∧s1.bs.length≤1099511627776∧rowGo long (n - k) s1 ss=res) (fun _ i _=>n - (intOf i).toNat)
 case atStart=>exact ⟨0,s0,[],none,0,Nat.zero_le _,rfl,rfl,rfl,World.ownsRow_nil _ _ _ _,by simp [Value.ownBlock],HD.out,hl0,HR.out⟩
 case round =>
  obtain ⟨k,s1,ss,A,c,hk,rfl,rfl,hsl,hown,hnew,hdid,hsb,hgo⟩:=hrel
  clear HD HR hl0
  by_cases hltk:k<n
  ·
   rw [show n - k=(n - (k+1))+1 by omega] at hgo
   have hne:=jF hdid.rdr hown
   have HTX:=z8 (xV B s1 long wr hdid.rdr hsb)
   have htl:=zI s1 long
   have hge:w.heap.size≤wr.heap.size:=hdid.2.size
   unfold rowGo at hgo
   generalize hs2:(zj s1 long).1=s2 at *
   generalize (zj s1 long).2=tx at *
   have hsz:s2.bs.length≤1099511627776:=by omega
   have HOW:=z8 hown
   have HNEW:=z8 hnew
   have HDID:=z8 hdid
   have HNE:=z8 hne
   have HGO:=z8 hgo
   have HSL:=z8 hsl
   clear hown hnew hdid hne hgo hs2 htl hsb hsl
   go_wp2_with fail
   with_reducible refine HTX.out.mono ?_
   rintro e w2 ⟨rfl,hd2⟩
   obtain ⟨v2,hb2,hrd2⟩:=hd2.rdr
   have c1:w2.cell? ⟨B,1,none⟩=some (.int .i64 s2.e):=by rw [cell_of_row w2 B 1 _ _ (0,0) hb2]; rfl
   have HD2:=z8 (HDID.out.next hd2)
   have HO2:=z8 (hd2.2.owns HOW.out (fun j hj he=>HNE.out (by rw [hj,he])))
   have hge2:w.heap.size≤w2.heap.size:=Nat.le_trans hge hd2.2.size
   clear hb2 hrd2 hd2 HTX HOW HDID
   by_cases he:s2.e=0
   ·
    have hgo:=HGO.out
    rw [if_neg (by simpa using he)] at hgo
    have HG2:=z8 hgo
    have d1:(s2.e != 0)=false:=by simpa using he
    have hsrc:Src Tryz.prog 1 45 (.slice (some ⟨w2.heap.size,0,none⟩) 1 1) 1 (zr [⟨tx.toArray⟩]) (w2.alloc (.cells #[.string ⟨tx.toArray⟩] 9)) :=
     Src.ofSlice _ Tryz.underlying45 _ 1 1 _ rfl (cell_one_new _ _ _) (by intro u hu; simp [zr] at hu; subst hu; rfl)
    have HSRC:=z8 hsrc
    clear hgo hsrc he HGO
    have hsn:ss.length≤65536:=by have:=HSL.out; omega
    go_wp2_with (at_builtin; refine xe _ rfl (.tmp 22) (.tmp 24) 45 45 (by rfl) 9 i0 _ 1 16 Tryz.underlying45 hi hz0 hz1 hz2 rfl (.slice A ss.length c) ss.length (zr ss) (by rfl) (HO2.out.alloc _) (.slice (some ⟨w2.heap.size,0,none⟩) 1 1) 1 (zr [⟨tx.toArray⟩]) (by rfl) HSRC.out (by simp only [maxLen]; omega) (by omega) ?_; intro A3 c3 w3 ho3 hg3 ha3)
    have R3:w3.ownsRow 0 9 1 (.slice A3 (ss++[ByteArray.mk tx.toArray]).length c3) (ss++[ByteArray.mk tx.toArray]).length (zr (ss++[ByteArray.mk tx.toArray])):=by
     have e1:(ss++[ByteArray.mk tx.toArray]).length=ss.length+1:=by simp
     rw [e1]
     simpa [zr] using ho3
    have N3:∀ j,Value.ownBlock (.slice A3 (ss++[ByteArray.mk tx.toArray]).length c3)=some j→w.heap.size≤j:=by
     intro j hj
     have hj':Value.ownBlock (.slice A3 (ss.length+1) c3)=some j:=by simpa [Value.ownBlock] using hj
     rcases ha3 with h3 | h3
     ·
      exact HNEW.out j (h3 ▸ hj')
     ·
      rw [h3] at hj'
      injection hj' with hj'
      simp at hj'
      omega
    have D3:Did w B s2 w3:=by
     have hB:B<w2.heap.size:=HD2.out.rdr.lt
     have ht:zb (fun i=>Value.ownBlock (.slice A ss.length c)=some i) w2 w3:=(((zb.refl _ w2).alloc _).grown hg3 (fun k hk _=>hk))
     refine ⟨?_,HD2.out.2.next ht (fun i hi he=>by have:=HNEW.out i he; omega)⟩
     obtain ⟨u,hu,hru⟩:=HD2.out.rdr
     refine ⟨u,(ht.block B hB HNE.out).trans hu,?_⟩
     rcases hru with h0 | ⟨g,off,cc,rfl,h1,h2,h3,h4,hbk,h5⟩
     ·
      exact .inl h0
     ·
      have hgn:Value.ownBlock (.slice A ss.length c)≠some g:=by
       obtain ⟨cur,fr,hcur⟩:=hbk
       intro he
       rcases HO2.out.2 with ⟨hv,_⟩ | ⟨g',cap',cur',hv,_,hg',_⟩
       ·
        rw [hv] at he; simp [Value.ownBlock] at he
       ·
        rw [hv] at he
        have:g'=g:=by simpa [Value.ownBlock] using he
        subst this
        have:=hcur.symm.trans hg'
        simp at this
      exact .inr ⟨g,off,cc,rfl,h1,h2,Nat.lt_of_lt_of_le h3 ht.size,h4,hbk.keep ht hgn,fun j hj=>(ht.cell (p:=⟨g,off+j,none⟩) h3 hgn).trans (h5 j hj)⟩
    have HR3:=z8 R3
    have HN3:=z8 N3
    have HD3:=z8 D3
    clear ho3 hg3 ha3 R3 N3 D3
    go_wp2
    go_roundw
    case rel=>exact ⟨k+1,s2,ss++[⟨tx.toArray⟩],A3,c3,by omega,by go_num,by simp,by simp [HSL.out],HR3.out,HN3.out,HD3.out,hsz,HG2.out⟩
    case measure=>simp [intOf]; omega
   ·
    have hgo:=HGO.out
    rw [if_pos (by simpa using he)] at hgo
    have HG2:=z8 hgo
    have d1:(s2.e != 0)=true:=by simpa using he
    clear hgo he HGO
    go_wp2
    go_ret
    refine ⟨none,0,?_,?_,?_,?_⟩
    ·
     rw [← HG2.out]; rfl
    ·
     rw [← HG2.out]; exact World.ownsRow_nil _ _ _ _
    ·
     intro j hj; simp [Value.ownBlock] at hj
    ·
     rw [← HG2.out]; exact HD2.out
  ·
   obtain rfl:k=n:=by omega
   rw [Nat.sub_self] at hgo
   have HGO:Hid ((s1,ss)=res):=hgo
   have HOW:=z8 hown
   have HDID:=z8 hdid
   have HNR:=z8 hnew
   clear hgo hown hdid hnew
   go_wp2
   go_ret
   rw [← HGO.out]
   exact ⟨A,c,rfl,HOW.out,HNR.out,HDID.out⟩

def Zero5 (w:World) (B:Nat):Prop:=xq w B (.string ⟨#[]⟩) (.string ⟨#[]⟩) (.string ⟨#[]⟩) (.bool false) (.slice none 0 0)
structure Gt6 (w:World) (B:Nat) (st:St) (a b c d e:Value) (W:World):Prop where
 rdr:Rdr W B st
 t:zb (fun i=>i=B) w W
 v:xq W (w.heap.size+1) a b c d e
 z:Zero5 W w.heap.size

section
variable {w W W':World} {B:Nat} {st st':St} {a b c d e:Value}
theorem Gt6.start (h:Rdr w B st):Gt6 w B st (.string ⟨#[]⟩) (.string ⟨#[]⟩) (.string ⟨#[]⟩) (.bool false) (.slice none 0 0)
  ((w.alloc (.cells #[.string ⟨#[]⟩,.string ⟨#[]⟩,.string ⟨#[]⟩,.bool false,.slice none 0 0] 47)).alloc (.cells #[.string ⟨#[]⟩,.string ⟨#[]⟩,.string ⟨#[]⟩,.bool false,.slice none 0 0] 47)):=by
 have ht:zb (fun _=>False) w ((w.alloc (.cells #[.string ⟨#[]⟩,.string ⟨#[]⟩,.string ⟨#[]⟩,.bool false,.slice none 0 0] 47)).alloc (.cells #[.string ⟨#[]⟩,.string ⟨#[]⟩,.string ⟨#[]⟩,.bool false,.slice none 0 0] 47)):=((zb.refl _ _).alloc _).alloc _
 refine ⟨h.still ht,ht.mono (fun _ _ f=>f.elim),?_,?_⟩
 ·
  have:=heap_alloc_new (w.alloc (.cells #[.string ⟨#[]⟩,.string ⟨#[]⟩,.string ⟨#[]⟩,.bool false,.slice none 0 0] 47)) (.cells #[.string ⟨#[]⟩,.string ⟨#[]⟩,.string ⟨#[]⟩,.bool false,.slice none 0 0] 47)
  simpa [xq] using this
 ·
  show _=_
  rw [Below.heap_alloc _ _ _ (by simp)]
  exact heap_alloc_new w _
theorem Gt6.did (hB:B<w.heap.size) (h:Gt6 w B st a b c d e W) (hd:Did W B st' W'):Gt6 w B st' a b c d e W' :=
 ⟨hd.1,h.t.next hd.2 (fun _ _ h=>h),(hd.2.block _ h.v.lt (by omega)).trans h.v,(hd.2.block _ (xq.lt h.z) (by omega)).trans h.z⟩
theorem Gt6.below (h:Gt6 w B st a b c d e W) (hb:Below W.heap.size W W'):Gt6 w B st a b c d e W' :=
 ⟨h.rdr.still (zb.of_below hb _),h.t.next (zb.of_below hb (fun i=>i=B)) (fun _ _ h=>h),(hb.block _ h.v.lt).trans h.v,(hb.block _ (xq.lt h.z)).trans h.z⟩
theorem ul {C j:Nat} (h:Rdr W B st) (hC:xq W C a b c d e) (x:Value):Rdr (W.setCell ⟨C,j,none⟩ x) B st:=by
 obtain ⟨u,hu,hr⟩:=h
 have ht:zb (fun i=>i=C) W (W.setCell ⟨C,j,none⟩ x):=(zb.refl (fun i=>i=C) W).setCell (p:=⟨C,j,none⟩) (fun _=>rfl) x
 have hne:B≠C:=fun e=>by
  subst e
  have:=hu.symm.trans hC
  simp at this
 refine ⟨u,(ht.block B (Array.getElem?_eq_some_iff.1 hu).1 hne).trans hu,?_⟩
 rcases hr with h0 | ⟨g,off,cc,rfl,h1,h2,h3,h4,hbk,h5⟩
 ·
  exact .inl h0
 ·
  have hg:g≠C:=fun e=>by
   subst e
   obtain ⟨cur,fr,hcur⟩:=hbk
   have:=hcur.symm.trans hC
   simp at this
  exact .inr ⟨g,off,cc,rfl,h1,h2,Nat.lt_of_lt_of_le h3 ht.size,h4,hbk.keep ht hg,fun j hj=>(ht.cell (p:=⟨g,off+j,none⟩) h3 hg).trans (h5 j hj)⟩
theorem Gt6.store {j:Nat} {x a' b' c' d' e':Value} (h:Gt6 w B st a b c d e W) (hv:xq (W.setCell ⟨w.heap.size+1,j,none⟩ x) (w.heap.size+1) a' b' c' d' e'):Gt6 w B st a' b' c' d' e' (W.setCell ⟨w.heap.size+1,j,none⟩ x) :=
 ⟨ul h.rdr h.v x,h.t.setCell (p:=⟨w.heap.size+1,j,none⟩) (fun hl=>absurd hl (by simp)) x,hv,xq.other h.z (by omega) x⟩
theorem xq.set0 (h:xq w B a b c d e) (x:Value):xq (w.setCell ⟨B,0,none⟩ x) B x b c d e:=by
 have h':w.heap[B]? = some (.cells #[a,b,c,d,e] 47 (0,0)):=h
 simp [xq,World.setCell,Array.getElem?_modify,h']
theorem xq.set1 (h:xq w B a b c d e) (x:Value):xq (w.setCell ⟨B,1,none⟩ x) B a x c d e:=by
 have h':w.heap[B]? = some (.cells #[a,b,c,d,e] 47 (0,0)):=h
 simp [xq,World.setCell,Array.getElem?_modify,h']
theorem xq.set2 (h:xq w B a b c d e) (x:Value):xq (w.setCell ⟨B,2,none⟩ x) B a b x d e:=by
 have h':w.heap[B]? = some (.cells #[a,b,c,d,e] 47 (0,0)):=h
 simp [xq,World.setCell,Array.getElem?_modify,h']
theorem xq.set3 (h:xq w B a b c d e) (x:Value):xq (w.setCell ⟨B,3,none⟩ x) B a b c x e:=by
 have h':w.heap[B]? = some (.cells #[a,b,c,d,e] 47 (0,0)):=h
 simp [xq,World.setCell,Array.getElem?_modify,h']
end
theorem Gt6.answer {w W:World} {B:Nat} {st:St} {a b c d e:Value} (h:Gt6 w B st a b c d e W) (a' b' c' d' e':Value) :
  Rdr (set5 W w.heap.size a' b' c' d' e') B st∧zb (fun i=>i=B) w (set5 W w.heap.size a' b' c' d' e')∧xq (set5 W w.heap.size a' b' c' d' e') w.heap.size a' b' c' d' e':=by
 refine ⟨?_,jZ h.t w.heap.size (fun hl=>absurd hl (by omega)) _ _ _ _ _,xq.set5 h.z _ _ _ _ _⟩
 have h0:=ul (j:=0) h.rdr h.z a'
 have z0:=xq.set0 h.z a'
 have h1:=ul (j:=1) h0 z0 b'
 have z1:=z0.set1 b'
 have h2:=ul (j:=2) h1 z1 c'
 have z2:=z1.set2 c'
 have h3:=ul (j:=3) h2 z2 d'
 have z3:=z2.set3 d'
 exact ul (j:=4) h3 z3 e'

section
variable {P:Program} {ops:Array Oper} {Q:Exit→Act→World→Prop}
theorem Xo {id:Nat} {w:World} {a:Act} (hm:P.follows .mixedOrders=true) (R:World→Prop) (Y:Nat→Value→World→Prop) (k:Nat) (y:Value) (F:(Nat→Value)→Act) (hF:∀ x,xc (ops.toList.map (·.dst)) x 0 a=F x)
  (hap:uv (ops.toList.map (·.dst))=true) (hback:(ops.toList.zipIdx.all fun p=>p.1.after.all fun e=>!(Region.binds .any e) || decide (e.on<p.2))=true) (hR:R w.drew)
  (hy:VX a (((ops.toList.map (·.dst))[k]?).getD none)=y)
  (hk:((List.range k).all fun d=>(ops.toList[k]?.map fun o=>o.after.toList.any fun e=>Region.binds .any e && e.on == d).getD false)=true)
  (step:Q2 (fun i o=>∀ (x:Nat→Value) (w:World),R w→(i<k→x k=y)→(∀ j,(o.after.toList.any fun e=>Region.binds .any e && e.on == j)=true→Y j (x j) w) →
   ∀ K:Act→World→Prop,(∀ v w',Y i v w'→R w'→(∀ j u,Y j u w→Y j u w')→K ((F x).put o.dst v) w') →
    if Region.wanted o (yielded ops (F x).tmps)=true then Oper.wp P o (F x) w K Q else K ((F x).put o.dst undef) w) ops.toList 0)
  (fin:∀ (x:Nat→Value) (w:World),R w→(∀ j,j<ops.size→Y j (x j) w)→Q .normal (F x) w):(Code.region id ops true).wp P Q a w:=by
 refine wp_region_any hm ?_
 have hb:∀ (i:Nat) (o:Oper),ops[i]? = some o→∀ e∈o.after,Region.binds .any e=true→e.on<i:=by
  intro i o ho e he hbd
  have hin:(o,i)∈ops.toList.zipIdx:=by
   rw [List.mem_zipIdx_iff_getElem?]
   simpa using ho
  have:=List.all_eq_true.1 hback _ hin
  have:=Array.all_eq_true_iff_forall_mem.1 this e he
  rw [hbd] at this
  simpa using this
 have h0:(fun j=>(Array.replicate ops.size false).getD j false)=fun _=>false:=by
  funext j
  by_cases h:j<ops.size <;> simp [Array.getD_eq_getD_getElem?,h]
 have hkd:∀ o,ops[k]? = some o→∀ d,d<k→(o.after.toList.any fun e=>Region.binds .any e && e.on == d)=true:=by
  intro o ho d hd
  have:=List.all_eq_true.1 hk d (List.mem_range.2 hd)
  have ho':ops.toList[k]? = some o:=by simpa using ho
  rw [ho'] at this
  exact this
 have:=Vn (P:=P) (md:=.any) (Q:=Q) a (fun L x W=>R W∧(∀ j,L j=true→Y j (x j) W)∧(L k=false→x k=y)∧(L k=true→∀ j,j<k→L j=true)) hap hb (fun i o ho L x w h1 h2 h3 K hK=>by
   obtain ⟨hr,hY,hx,hc⟩:=h3
   have hs:=step.at_ i o (by simpa using ho)
   rw [Nat.zero_add] at hs
   rw [hF] at hK ⊢
   refine hs x w hr (fun hik=>hx ?_) (fun j hj=>hY j (h2 j hj)) K (fun v w' hv hr' hkeep=>hK v w' ⟨hr',fun j hj=>?_,fun hl=>?_,fun hl j hj=>?_⟩)
   ·
    cases hLk:L k with
    | false=>rfl
    | true=>rw [hc hLk i hik] at h1; cases h1
   ·
    by_cases e:j=i
    ·
     subst e
     rw [show upd x j v j=v from if_pos rfl]
     exact hv
    ·
     rw [show upd x i v j=x j from if_neg e]
     rw [show yK L i j=L j from if_neg e] at hj
     exact hkeep j _ (hY j hj)
   ·
    by_cases e:k=i
    ·
     rw [show yK L i k=true from if_pos e] at hl; cases hl
    ·
     rw [show yK L i k=L k from if_neg e] at hl
     rw [show upd x i v k=x k from if_neg e]
     exact hx hl
   ·
    by_cases ej:j=i
    ·
     exact if_pos ej
    ·
     rw [show yK L i j=L j from if_neg ej]
     by_cases e:k=i
     ·
      subst e
      exact h2 j (hkd o ho j hj)
     ·
      rw [show yK L i k=L k from if_neg e] at hl
      exact hc hl j hj) (fun L x w h1 h2=>by rw [hF]; exact fin x w h2.1 (fun j hj=>h2.2.1 j (h1 j hj))) ops.size (Array.replicate ops.size false) (fun i=>VX a (((ops.toList.map (·.dst))[i]?).getD none)) w.drew (by simp) (by simp)
   (by rw [h0]; exact ⟨hR,fun _ h=>by (cases h),fun _=>hy,fun h=>by (cases h)⟩)
 rw [XE (fun i d hd=>by rw [Nat.zero_add,hd]; rfl)] at this
 exact this
end

def YTxA (B:Nat) (u:Us) (t1 t2 t3:ByteArray):Nat→Value→World→Prop
 | 0,v,_=>v=.pointer (some ⟨B,0,none⟩)
 | 1,v,_=>v=.string u.nm
 | 2,v,_=>v=.string t1
 | 3,v,_=>v=.pointer (some ⟨B,1,none⟩)
 | 4,v,_=>v=.string u.hs
 | 5,v,_=>v=.string t2
 | 6,v,_=>v=.string t3
 | _,v,_=>v=.string t3
theorem UU {B:Nat} {u:Us} {t1 t2 t3:ByteArray} {W W':World} (j:Nat) (z:Value) (h:YTxA B u t1 t2 t3 j z W):YTxA B u t1 t2 t3 j z W':=by
 match j,h with
 | 0,h=>exact h
 | 1,h=>exact h
 | 2,h=>exact h
 | 3,h=>exact h
 | 4,h=>exact h
 | 5,h=>exact h
 | 6,h=>exact h
 | _+7,h=>exact h
def YTxB (B:Nat) (u:Us) (t3 t4 t5 t6 t7 t8 t9:ByteArray):Nat→Value→World→Prop
 | 0,v,_=>v=.string t3
 | 1,v,_=>v=.pointer (some ⟨B,2,none⟩)
 | 2,v,_=>v=.string u.ml
 | 3,v,_=>v=.string t4
 | 4,v,_=>v=.string t5
 | 5,v,_=>v=.pointer (some ⟨B,3,none⟩)
 | 6,v,_=>v=.bool u.dis
 | 7,v,_=>v=.string t6
 | 8,v,_=>v=.string t7
 | 9,v,_=>v=.pointer (some ⟨B,4,none⟩)
 | 10,v,_=>v=.slice u.ga u.gs.length u.gc
 | 11,v,_=>v=.string t8
 | 12,v,_=>v=.string t9
 | _,v,_=>v=.string t9
theorem Y5 {B:Nat} {u:Us} {t3 t4 t5 t6 t7 t8 t9:ByteArray} {W W':World} (j:Nat) (z:Value) (h:YTxB B u t3 t4 t5 t6 t7 t8 t9 j z W):YTxB B u t3 t4 t5 t6 t7 t8 t9 j z W':=by
 match j,h with
 | 0,h=>exact h
 | 1,h=>exact h
 | 2,h=>exact h
 | 3,h=>exact h
 | 4,h=>exact h
 | 5,h=>exact h
 | 6,h=>exact h
 | 7,h=>exact h
 | 8,h=>exact h
 | 9,h=>exact h
 | 10,h=>exact h
 | 11,h=>exact h
 | 12,h=>exact h
 | _+13,h=>exact h
def mk6 (l:List UInt8):ByteArray:=⟨l.toArray⟩
theorem Zs (u:Us) (h:u.Little):(xR u.gs).length≤100:=by
 have:∀ (gs:List ByteArray),(∀ s∈gs,s.size≤12)→(zL gs).length≤14 * gs.length:=fun gs=>by
  induction gs with
  | nil=>intro _; simp [zL]
  | cons g gs ih =>
   intro hs
   have h1:=ih (fun s h=>hs s (List.mem_cons_of_mem _ h))
   have h2:=hs g (List.mem_cons_self ..)
   have h3:(zL (g::gs)).length=(zo g).length+(zL gs).length:=by simp [zL]
   rw [h3,yE,List.length_cons]
   omega
 have h1:=this u.gs h.all
 have h2:=h.len
 rw [xR,List.length_append,zQ]
 omega

set_option maxRecDepth 100000 in
theorem VE (s:Int) (u:Us) (w:World) (h:u.Ok w) (hl:u.Little) :
  Calls Tryz.prog 189 #[.int .i64 s,u.v] w fun e w'=>e=.returned (.string (mk6 (zR s u)))∧Below w.heap.size w w':=by
 have n1:=hl.nm
 have n2:=hl.hs
 have n3:=hl.ml
 have n4:=Zs u hl
 have htl:∀ t:ByteArray,(zo t).length=t.size+2:=yE
 have HT:Hid (∀ (t:ByteArray) W,t.size≤20→Calls Tryz.prog 188 #[.string t] W fun e w'=>e=.returned (.string (mk6 (zo t)))∧zb (fun _=>False) W w'):=fun t W ht=>jD t W (by omega)
 have HTR:Hid (∀ W,Calls Tryz.prog 238 #[.bool u.dis] W fun e w'=>e=.returned (.string (mk6 (le u.dis.toNat 1)))∧zb (fun _=>False) W w'):=fun W=>Yl u.dis W
 have HRO:Hid (∀ W,Below w.heap.size w W→Calls Tryz.prog 92 #[.slice u.ga u.gs.length u.gc] W fun e w'=>e=.returned (.string (mk6 (xR u.gs)))∧zb (fun _=>False) W w'):=fun W hb=>fE u.ga u.gc u.gs W (h.rd.below hb) (by have:=hl.len; omega) (fun s hs=>by have:=hl.all s hs; omega)
 have HA1:Hid (∀ W,(Op.stringOp .add (mk6 (zo u.nm)) (mk6 (zo u.hs))).run Tryz.prog W=.ok (.string (mk6 (zo u.nm++zo u.hs))) W):=fun W=>uh W _ _ (by rw [htl,htl]; omega)
 have HA2:Hid (∀ W,(Op.stringOp .add (mk6 (zo u.nm++zo u.hs)) (mk6 (zo u.ml))).run Tryz.prog W=.ok (.string (mk6 (zo u.nm++zo u.hs++zo u.ml))) W):=fun W=>uh W _ _ (by simp only [List.length_append,htl]; omega)
 have HA3:Hid (∀ W,(Op.stringOp .add (mk6 (zo u.nm++zo u.hs++zo u.ml)) (mk6 (le u.dis.toNat 1))).run Tryz.prog W=.ok (.string (mk6 (zo u.nm++zo u.hs++zo u.ml++le u.dis.toNat 1))) W):=fun W=>uh W _ _ (by simp only [List.length_append,htl,zQ]; omega)
 have HA4:Hid (∀ W,(Op.stringOp .add (mk6 (zo u.nm++zo u.hs++zo u.ml++le u.dis.toNat 1)) (mk6 (xR u.gs))).run Tryz.prog W=.ok (.string (mk6 (zo u.nm++zo u.hs++zo u.ml++le u.dis.toNat 1++xR u.gs))) W):=fun W=>uh W _ _ (by simp only [List.length_append,htl,zQ]; omega)
 have HU:Hid (zR s u=if s=2 then zo u.nm++zo u.hs++zo u.ml++le u.dis.toNat 1++xR u.gs else zo u.nm++zo u.hs):=by
  show _=_
  unfold zR
  split
  ·
   simp only [List.append_assoc]
  ·
   rw [List.append_nil]
 obtain ⟨rt,hrt⟩:∃ rt,rt=mk6 (zR s u):=⟨_,rfl⟩
 rw [← hrt]
 have HRT:Hid (rt=if s=2 then mk6 (zo u.nm++zo u.hs++zo u.ml++le u.dis.toNat 1++xR u.gs) else mk6 (zo u.nm++zo u.hs)):=by
  show _=_
  rw [hrt,HU.out]
  split <;> rfl
 have HTN:=z8 (fun W=>HT.out u.nm W (by omega))
 have HTH:=z8 (fun W=>HT.out u.hs W (by omega))
 have HTM:=z8 (fun W=>HT.out u.ml W (by omega))
 have HB0:=z8 (za (Below.refl w.heap.size w) (.cells #[.string u.nm,.string u.hs,.string u.ml,.bool u.dis,.slice u.ga u.gs.length u.gc] 47))
 have HA:=z8 (Q1.new w u 47)
 clear h hl hrt HU htl n1 n2 n3 n4 HT
 generalize mk6 (zo u.nm++zo u.hs++zo u.ml++le u.dis.toNat 1++xR u.gs)=t9 at *
 generalize mk6 (zo u.nm++zo u.hs++zo u.ml++le u.dis.toNat 1)=t7 at *
 generalize mk6 (zo u.nm++zo u.hs++zo u.ml)=t5 at *
 generalize mk6 (zo u.nm++zo u.hs)=t3 at *
 generalize mk6 (zo u.nm)=t1 at *
 generalize mk6 (zo u.hs)=t2 at *
 generalize mk6 (zo u.ml)=t4 at *
 generalize mk6 (le u.dis.toNat 1)=t6 at *
 generalize mk6 (xR u.gs)=t8 at *
 show Calls _ _ #[.int .i64 s,.agg #[.string u.nm,.string u.hs,.string u.ml,.bool u.dis,.slice u.ga u.gs.length u.gc]] _ _
 go_enter Tryz.func189,Tryz.ntmps189
 go_wp2_with fail
 generalize w.alloc (.cells #[.string u.nm,.string u.hs,.string u.ml,.bool u.dis,.slice u.ga u.gs.length u.gc] 47)=w1 at *
 refine yS (by kernel_rfl) (fun W=>Below w1.heap.size w1 W) (YTxA w.heap.size u t1 t2 t3) ?F ?hF (by kernel_rfl) (by kernel_rfl) (zy (Below.refl _ _)) ?step ?fin
 case hF =>
  intro x
  simp only [List.map_cons,List.map_nil,xc,Act.put,List.setIfInBounds_toArray,List.set_cons_zero,List.set_cons_succ,Nat.zero_add,Nat.reduceAdd]
  exact rfl
 case step =>
  refine ⟨?_,?_,?_,?_,?_,?_,?_,?_,trivial⟩
  all_goals intro x W hW hdep K hK
  ·
   clear hdep
   go_simp
   exact hK _ _ rfl hW (fun _ _ h=>h)
  ·
   have h0:x 0=_:=hdep 0 rfl
   have c:=(HA.out.below hW).c0
   clear hdep
   simp only [h0] at hK
   go_simp
   exact hK _ _ rfl hW (fun _ _ h=>h)
  ·
   have h1:x 1=_:=hdep 1 rfl
   clear hdep
   simp only [h1] at hK
   go_simp
   refine (HTN.out W).mono ?_
   rintro e W' ⟨rfl,ht⟩
   have hb:=ht.below (fun _ f=>f.elim)
   exact hK _ _ rfl (z7 hW hb) (fun j z h=>UU j z h)
  ·
   clear hdep
   go_simp
   exact hK _ _ rfl hW (fun _ _ h=>h)
  ·
   have h3:x 3=_:=hdep 3 rfl
   have c:=(HA.out.below hW).c1
   clear hdep
   simp only [h3] at hK
   go_simp
   exact hK _ _ rfl hW (fun _ _ h=>h)
  ·
   have h4:x 4=_:=hdep 4 rfl
   clear hdep
   simp only [h4] at hK
   go_simp
   refine (HTH.out W).mono ?_
   rintro e W' ⟨rfl,ht⟩
   have hb:=ht.below (fun _ f=>f.elim)
   exact hK _ _ rfl (z7 hW hb) (fun j z h=>UU j z h)
  ·
   have h2:x 2=_:=hdep 2 rfl
   have h5:x 5=_:=hdep 5 rfl
   have ha:=HA1.out W
   clear hdep
   simp only [h2,h5] at hK
   go_simp
   exact hK _ _ rfl hW (fun _ _ h=>h)
  ·
   have h6:x 6=_:=hdep 6 rfl
   clear hdep
   simp only [h6] at hK
   go_simp
   exact hK _ _ rfl hW (fun _ _ h=>h)
 case fin =>
  intro x W hW hY
  have h7:x 7=.string t3:=hY 7 (by decide)
  clear hY
  rw [h7]
  clear h7
  have HB2:=z8 (z7 HB0.out hW)
  have HA5:=z8 (HA.out.below hW)
  clear hW HB0 HA
  have HB0:=HB2
  have HA:=HA5
  clear HB2 HA5
  by_cases h2:s=2
  ·
   have hrt:rt=t9:=by rw [HRT.out,if_pos h2]
   subst hrt
   subst h2
   clear HRT
   go_wp2_with fail
   refine Xo (by kernel_rfl) (fun W'=>Below W.heap.size W W') (YTxB w.heap.size u t3 t4 t5 t6 t7 t8 rt) 13 (.string t3) ?F2 ?hF2 (by kernel_rfl) (by kernel_rfl) (zy (Below.refl _ _)) rfl (by kernel_rfl) ?step2 ?Uz
   case hF2 =>
    intro x
    simp only [List.map_cons,List.map_nil,xc,Act.put,List.setIfInBounds_toArray,List.set_cons_zero,List.set_cons_succ,Nat.zero_add,Nat.reduceAdd]
    exact rfl
   case step2 =>
    refine ⟨?_,?_,?_,?_,?_,?_,?_,?_,?_,?_,?_,?_,?_,?_,trivial⟩
    all_goals intro x W hW hown hdep K hK
    ·
     have h13:x 13=_:=hown (by decide)
     clear hown
     clear hdep
     simp only [h13] at hK
     go_simp
     exact hK _ _ rfl hW (fun _ _ h=>h)
    ·
     clear hown
     clear hdep
     go_simp
     exact hK _ _ rfl hW (fun _ _ h=>h)
    ·
     have h1:x 1=_:=hdep 1 rfl
     clear hown
     have c:=(HA.out.below hW).c2
     clear hdep
     simp only [h1] at hK
     go_simp
     exact hK _ _ rfl hW (fun _ _ h=>h)
    ·
     have h2:x 2=_:=hdep 2 rfl
     clear hown
     clear hdep
     simp only [h2] at hK
     go_simp
     refine (HTM.out W).mono ?_
     rintro e W' ⟨rfl,ht⟩
     have hb:=ht.below (fun _ f=>f.elim)
     exact hK _ _ rfl (z7 hW hb) (fun j z h=>Y5 j z h)
    ·
     have h0:x 0=_:=hdep 0 rfl
     have h3:x 3=_:=hdep 3 rfl
     clear hown
     have ha:=HA2.out W
     clear hdep
     simp only [h0,h3] at hK
     go_simp
     exact hK _ _ rfl hW (fun _ _ h=>h)
    ·
     clear hown
     clear hdep
     go_simp
     exact hK _ _ rfl hW (fun _ _ h=>h)
    ·
     have h5:x 5=_:=hdep 5 rfl
     clear hown
     have c:=(HA.out.below hW).c3
     clear hdep
     simp only [h5] at hK
     go_simp
     exact hK _ _ rfl hW (fun _ _ h=>h)
    ·
     have h6:x 6=_:=hdep 6 rfl
     clear hown
     clear hdep
     simp only [h6] at hK
     go_simp
     refine (HTR.out W).mono ?_
     rintro e W' ⟨rfl,ht⟩
     have hb:=ht.below (fun _ f=>f.elim)
     exact hK _ _ rfl (z7 hW hb) (fun j z h=>Y5 j z h)
    ·
     have h4:x 4=_:=hdep 4 rfl
     have h7:x 7=_:=hdep 7 rfl
     clear hown
     have ha:=HA3.out W
     clear hdep
     simp only [h4,h7] at hK
     go_simp
     exact hK _ _ rfl hW (fun _ _ h=>h)
    ·
     clear hown
     clear hdep
     go_simp
     exact hK _ _ rfl hW (fun _ _ h=>h)
    ·
     have h9:x 9=_:=hdep 9 rfl
     clear hown
     have c:=(HA.out.below hW).c4
     clear hdep
     simp only [h9] at hK
     go_simp
     exact hK _ _ rfl hW (fun _ _ h=>h)
    ·
     have h10:x 10=_:=hdep 10 rfl
     clear hown
     clear hdep
     simp only [h10] at hK
     go_simp
     refine (HRO.out W (z7 HB0.out hW)).mono ?_
     rintro e W' ⟨rfl,ht⟩
     have hb:=ht.below (fun _ f=>f.elim)
     exact hK _ _ rfl (z7 hW hb) (fun j z h=>Y5 j z h)
    ·
     have h8:x 8=_:=hdep 8 rfl
     have h11:x 11=_:=hdep 11 rfl
     clear hown
     have ha:=HA4.out W
     clear hdep
     simp only [h8,h11] at hK
     go_simp
     exact hK _ _ rfl hW (fun _ _ h=>h)
    ·
     have h12:x 12=_:=hdep 12 rfl
     clear hown
     clear hdep
     simp only [h12] at hK
     go_simp
     exact hK _ _ rfl hW (fun _ _ h=>h)
   case Uz =>
    intro x W hW hY
    have h13:x 13=.string rt:=hY 13 (by decide)
    clear hY
    have HF:=z8 (z7 HB0.out hW)
    clear hW
    rw [h13]
    go_wp2
    go_ret
    exact ⟨rfl,HF.out⟩
  ·
   have hrt:rt=t3:=by rw [HRT.out,if_neg h2]
   subst hrt
   have h2d:(s == 2)=false:=by simpa using h2
   clear HRT
   go_wp2
   go_ret
   exact ⟨rfl,HB0.out⟩

def qF:Us:=⟨⟨#[]⟩,⟨#[]⟩,⟨#[]⟩,false,none,[],0⟩
def Got6 (w:World) (B:Nat) (st:St) (u:Us) (e:Ending) (w':World):Prop:=∃ A c,e=.returned (if st.e=0 then ({ u with ga:=A,gc:=c }:Us) else qF).v∧w'.ownsRow 0 9 1 (.slice A u.gs.length c) u.gs.length (u.gs.map Value.string)∧(∀ j,Value.ownBlock (.slice A u.gs.length c)=some j→w.heap.size≤j)∧Did w B st w'
def Got61 (w:World) (B:Nat) (st:St) (u:Us) (e:Ending) (w':World):Prop:=e=.returned (if st.e=0 then u else qF).v∧Did w B st w'
def fF (nm hs:List UInt8):Us:=⟨mk6 nm,mk6 hs,⟨#[]⟩,false,none,[],0⟩

set_option maxRecDepth 100000 in
theorem get61_one (B:Nat) (st:St) (w:World) (h:Rdr w B st) (hl:st.bs.length≤1000000) (hm:vm w) (hBg:B≠0) (nm hs:List UInt8) (s1 s2 s3:St) (h1:zj st 65535=(s1,nm)) (h2:zj s1 65535=(s2,hs)) (h3:zu s2 (yk 1 (fF nm hs))=s3)
  (hn:nm.length≤1000000) (hh:hs.length≤1000000) :
  Calls Tryz.prog 236 #[.pointer (some ⟨B,0,none⟩),.int .i64 1] w (Got61 w B s3 (fF nm hs)):=by
 have hB:=h.lt
 have HK:Hid (∀ W,Calls Tryz.prog 194 #[.int .i64 1] W fun e w'=>e=.returned (.int .i64 0)∧w'=W):=fun W=>qc 1 W
 have HT1:Hid (∀ W,Rdr W B st→Calls Tryz.prog 235 #[.pointer (some ⟨B,0,none⟩),.int .i64 65535] W fun e w'=>e=.returned (.string (mk6 nm))∧Did W B s1 w'):=fun W hr=>by
  have:=xV B st 65535 W hr (by omega)
  rw [h1] at this
  exact this
 have hl1:s1.bs.length≤1000000:=by have:=zI st 65535; rw [h1] at this; simp only at this; omega
 have HT2:Hid (∀ W,Rdr W B s1→Calls Tryz.prog 235 #[.pointer (some ⟨B,0,none⟩),.int .i64 65535] W fun e w'=>e=.returned (.string (mk6 hs))∧Did W B s2 w'):=fun W hr=>by
  have:=xV B s1 65535 W hr (by omega)
  rw [h2] at this
  exact this
 have HCK:Hid (∀ W,zb (fun i=>i=B) w W→Calls Tryz.prog 104 #[.int .i64 1,.agg #[.string (mk6 nm),.string (mk6 hs),.string ⟨#[]⟩,.bool false,.slice none 0 0]] W (yi (yk 1 (fF nm hs)) W)):=fun W ht=>by
  refine vk 1 (fF nm hs) W ⟨fun e=>absurd rfl e,?_,?_,Nat.zero_le _,fun _=>rfl,Nat.zero_le _,Nat.zero_le _,fun s hs=>by cases hs⟩ ?_
  ·
   show nm.toArray.size≤_; rw [List.size_toArray]; omega
  ·
   show hs.toArray.size≤_; rw [List.size_toArray]; omega
  ·
   obtain ⟨hlt,m,hcm⟩:=hm
   exact ⟨Nat.lt_of_lt_of_le hlt ht.size,m,(ht.cell (p:=⟨0,0,none⟩) hlt (fun e=>hBg e.symm)).trans hcm⟩
 have HFL:Hid (∀ W,Rdr W B s2→Calls Tryz.prog 233 #[.pointer (some ⟨B,0,none⟩),.int .i64 (yk 1 (fF nm hs))] W (Void W B s3)):=fun W hr=>by
  have:=xk B s2 (yk 1 (fF nm hs)) W hr
  rw [h3] at this
  exact this
 have HER:Hid (∀ W,Rdr W B s3→Calls Tryz.prog 174 #[.pointer (some ⟨B,0,none⟩)] W fun e w'=>e=.returned (.int .i64 s3.e)∧W=w'):=fun W hr=>qp B s3 W hr
 have HG0:=z8 (Gt6.start h)
 have HB:=z8 hB
 have HU:Hid ((fF nm hs).v=.agg #[.string (mk6 nm),.string (mk6 hs),.string ⟨#[]⟩,.bool false,.slice none 0 0]):=rfl
 generalize yk 1 (fF nm hs)=ck at *
 clear h hl hm h1 h2 h3 hn hh hl1 hBg hB
 unfold mk6 at *
 generalize (⟨nm.toArray⟩:ByteArray)=x1 at *
 generalize (⟨hs.toArray⟩:ByteArray)=x2 at *
 go_enter Tryz.func236,Tryz.ntmps236
 go_wp2_with fail
 with_reducible refine (HK.out _).mono ?_
 rintro e w1 ⟨rfl,rfl⟩
 go_wp2_with fail
 generalize (w.alloc (.cells #[.string ⟨#[]⟩,.string ⟨#[]⟩,.string ⟨#[]⟩,.bool false,.slice none 0 0] 47)).alloc (.cells #[.string ⟨#[]⟩,.string ⟨#[]⟩,.string ⟨#[]⟩,.bool false,.slice none 0 0] 47)=W1 at *
 with_reducible refine (HT1.out W1 HG0.out.rdr).mono ?_
 rintro e w2 ⟨rfl,hd⟩
 have hg:=Gt6.did HB.out HG0.out hd
 have k0:_=some (.string ⟨#[]⟩:Value):=hg.v.at_ 0
 have hfr:=hg.v.free
 have HG1:=z8 (hg.store (hg.v.set0 (.string x1)))
 clear hg hd HG0 HT1
 go_wp2_with fail
 generalize w2.setCell ⟨w.heap.size+1,0,none⟩ (.string x1)=W2 at *
 with_reducible refine (HT2.out W2 HG1.out.rdr).mono ?_
 rintro e w3 ⟨rfl,hd⟩
 have hg:=Gt6.did HB.out HG1.out hd
 clear k0 hfr
 have k1:_=some (.string ⟨#[]⟩:Value):=hg.v.at_ 1
 have hfr:=hg.v.free
 have hg2:=hg.store (hg.v.set1 (.string x2))
 have HG2:=z8 hg2
 have q0:_=some (.string x1:Value):=hg2.v.at_ 0
 have q1:_=some (.string x2:Value):=hg2.v.at_ 1
 have q2:_=some (.string ⟨#[]⟩:Value):=hg2.v.at_ 2
 have q3:_=some (.bool false:Value):=hg2.v.at_ 3
 have q4:_=some (.slice none 0 0:Value):=hg2.v.at_ 4
 clear hg hg2 hd HG1 HT2
 go_wp2_with fail
 generalize w3.setCell ⟨w.heap.size+1,1,none⟩ (.string x2)=W3 at *
 with_reducible refine (HCK.out W3 HG2.out.t).mono ?_
 rintro e w4 ⟨rfl,hb⟩
 have HG3:=z8 (HG2.out.below hb)
 clear hb HG2 HCK k1 hfr q0 q1 q2 q3 q4
 go_wp2_with fail
 with_reducible refine (HFL.out w4 HG3.out.rdr).mono ?_
 rintro e w5 ⟨rfl,hd⟩
 have HG4:=z8 (Gt6.did HB.out HG3.out hd)
 clear hd HG3 HFL
 go_wp2_with fail
 with_reducible refine (HER.out w5 HG4.out.rdr).mono ?_
 rintro e w6 ⟨rfl,rfl⟩
 have k0:_=some (.string x1:Value):=HG4.out.v.at_ 0
 have k1:_=some (.string x2:Value):=HG4.out.v.at_ 1
 have k2:_=some (.string ⟨#[]⟩:Value):=HG4.out.v.at_ 2
 have k3:_=some (.bool false:Value):=HG4.out.v.at_ 3
 have k4:_=some (.slice none 0 0:Value):=HG4.out.v.at_ 4
 have z0:_=some (.string ⟨#[]⟩:Value):=xq.at_ HG4.out.z 0
 have z1:_=some (.string ⟨#[]⟩:Value):=xq.at_ HG4.out.z 1
 have z2:_=some (.string ⟨#[]⟩:Value):=xq.at_ HG4.out.z 2
 have z3:_=some (.bool false:Value):=xq.at_ HG4.out.z 3
 have z4:_=some (.slice none 0 0:Value):=xq.at_ HG4.out.z 4
 have hfz:=xq.free HG4.out.z
 by_cases h0:s3.e=0
 ·
  have h0d:(s3.e != 0)=false:=by simpa using h0
  have hans:=HG4.out.answer (.string x1) (.string x2) (.string ⟨#[]⟩) (.bool false) (.slice none 0 0)
  have HANS:=z8 hans
  have HP:Hid (∀ w',Did w B s3 w'→Got61 w B s3 (fF nm hs) (.returned (.agg #[.string x1,.string x2,.string ⟨#[]⟩,.bool false,.slice none 0 0])) w'):=fun w' hd=>⟨by rw [if_pos h0]; exact congrArg _ HU.out.symm,hd⟩
  clear hans HU
  go_wp2
  have r0:_=some (.string x1:Value):=HANS.out.2.2.at_ 0
  have r1:_=some (.string x2:Value):=HANS.out.2.2.at_ 1
  have r2:_=some (.string ⟨#[]⟩:Value):=HANS.out.2.2.at_ 2
  have r3:_=some (.bool false:Value):=HANS.out.2.2.at_ 3
  have r4:_=some (.slice none 0 0:Value):=HANS.out.2.2.at_ 4
  have hfin:=HP.out _ ⟨HANS.out.1,HANS.out.2.1⟩
  unfold set5 at r0 r1 r2 r3 r4 hfin
  refine bodyPost_ret (v:=.agg #[.string x1,.string x2,.string ⟨#[]⟩,.bool false,.slice none 0 0]) ?_ rfl hfin
  simp [results,Tryz.results236,go_sem,r0,r1,r2,r3,r4]
 ·
  have h0d:(s3.e != 0)=true:=by simpa using h0
  have hans:=HG4.out.answer (.string ⟨#[]⟩) (.string ⟨#[]⟩) (.string ⟨#[]⟩) (.bool false) (.slice none 0 0)
  have HANS:=z8 hans
  have HP:Hid (∀ w',Did w B s3 w'→Got61 w B s3 (fF nm hs) (.returned (.agg #[.string ⟨#[]⟩,.string ⟨#[]⟩,.string ⟨#[]⟩,.bool false,.slice none 0 0])) w'):=fun w' hd=>⟨by rw [if_neg h0]; rfl,hd⟩
  clear hans HU
  go_wp2
  have r0:_=some (.string ⟨#[]⟩:Value):=HANS.out.2.2.at_ 0
  have r1:_=some (.string ⟨#[]⟩:Value):=HANS.out.2.2.at_ 1
  have r2:_=some (.string ⟨#[]⟩:Value):=HANS.out.2.2.at_ 2
  have r3:_=some (.bool false:Value):=HANS.out.2.2.at_ 3
  have r4:_=some (.slice none 0 0:Value):=HANS.out.2.2.at_ 4
  have hfin:=HP.out _ ⟨HANS.out.1,HANS.out.2.1⟩
  unfold set5 at r0 r1 r2 r3 r4 hfin
  refine bodyPost_ret (v:=.agg #[.string ⟨#[]⟩,.string ⟨#[]⟩,.string ⟨#[]⟩,.bool false,.slice none 0 0]) ?_ rfl hfin
  simp [results,Tryz.results236,go_sem,r0,r1,r2,r3,r4]

theorem xW {w:World} {b0 n c:Nat} {A:Option Addr} {gs:List ByteArray} (ho:w.ownsRow b0 9 1 (.slice A n c) n (gs.map Value.string)) (hn:n=gs.length):RdS w A gs∧(A=none→c=0)∧n≤c∧c≤9223372036854775807:=by
 subst hn
 rcases ho.2 with ⟨h0,h1⟩ | ⟨g,cap,cur,hv,hb,hg,h1,h2,h3,h4⟩
 ·
  injection h0 with ha _ hc
  subst ha hc
  have:gs=[]:=List.eq_nil_of_length_eq_zero h1
  subst this
  exact ⟨fun e=>absurd rfl e,fun _=>rfl,Nat.zero_le _,Nat.zero_le _⟩
 ·
  injection hv with ha _ hc
  subst ha hc
  refine ⟨fun _=>⟨g,0,rfl,(Array.getElem?_eq_some_iff.1 hg).1,fun j hj=>?_⟩,(fun h=>nomatch h),h1,by simpa [maxLen] using h2⟩
  have:=ho.cells (g:=g) rfl j (.string gs[j]) (by simp [hj])
  rw [Addr.add_lit,Nat.zero_add] at this
  rw [Nat.zero_add]
  exact this
def fz (nm hs ml:List UInt8) (dis:Bool) (gs:List ByteArray):Us:=⟨mk6 nm,mk6 hs,mk6 ml,dis,none,gs,0⟩

set_option maxRecDepth 100000 in
theorem get6_two (B:Nat) (st:St) (w:World) (h:Rdr w B st) (hl:st.bs.length≤1000000) (hm:vm w) (hBg:B≠0) (nm hs ml:List UInt8) (dis:Bool) (gs:List ByteArray) (s1 s2 s3 s4 s5 s6:St)
  (h1:zj st 65535=(s1,nm)) (h2:zj s1 65535=(s2,hs)) (h3:zj s2 65535=(s3,ml)) (h4:yj s3=(s4,dis)) (h5:xI s4 65535 65535=(s5,gs)) (h6:zu s5 (yk 2 (fz nm hs ml dis gs))=s6)
  (l1:s1.bs.length≤1000000) (l2:s2.bs.length≤1000000) (l3:s3.bs.length≤1000000) (l4:s4.bs.length≤1000000)
  (hn:nm.length≤1000000) (hh:hs.length≤1000000) (hml:ml.length≤1000000) (hgs:∀ s∈gs,s.size≤1000000) :
  Calls Tryz.prog 236 #[.pointer (some ⟨B,0,none⟩),.int .i64 2] w (Got6 w B s6 (fz nm hs ml dis gs)):=by
 have hB:=h.lt
 have HK:Hid (∀ W,Calls Tryz.prog 194 #[.int .i64 2] W fun e w'=>e=.returned (.int .i64 0)∧w'=W):=fun W=>qc 2 W
 have HT1:Hid (∀ W,Rdr W B st→Calls Tryz.prog 235 #[.pointer (some ⟨B,0,none⟩),.int .i64 65535] W fun e w'=>e=.returned (.string (mk6 nm))∧Did W B s1 w'):=fun W hr=>by
  have:=xV B st 65535 W hr (by omega)
  rw [h1] at this
  exact this
 have HT2:Hid (∀ W,Rdr W B s1→Calls Tryz.prog 235 #[.pointer (some ⟨B,0,none⟩),.int .i64 65535] W fun e w'=>e=.returned (.string (mk6 hs))∧Did W B s2 w'):=fun W hr=>by
  have:=xV B s1 65535 W hr (by omega)
  rw [h2] at this
  exact this
 have HT3:Hid (∀ W,Rdr W B s2→Calls Tryz.prog 235 #[.pointer (some ⟨B,0,none⟩),.int .i64 65535] W fun e w'=>e=.returned (.string (mk6 ml))∧Did W B s3 w'):=fun W hr=>by
  have:=xV B s2 65535 W hr (by omega)
  rw [h3] at this
  exact this
 have HT4:Hid (∀ W,Rdr W B s3→Calls Tryz.prog 257 #[.pointer (some ⟨B,0,none⟩)] W fun e w'=>e=.returned (.bool dis)∧Did W B s4 w'):=fun W hr=>by
  have:=VD B s3 W hr (by omega)
  rw [h4] at this
  exact this
 have HT5:Hid (∀ W,Rdr W B s4→Calls Tryz.prog 171 #[.pointer (some ⟨B,0,none⟩),.int .i64 65535,.int .i64 65535] W (Rows6 W B s5 gs)):=fun W hr=>by
  have:=Zn B s4 65535 65535 W hr (by omega)
  rw [h5] at this
  exact this
 have HCK:Hid (∀ W A c,zb (fun i=>i=B) w W→W.ownsRow 0 9 1 (.slice A gs.length c) gs.length (gs.map Value.string)→Calls Tryz.prog 104 #[.int .i64 2,.agg #[.string (mk6 nm),.string (mk6 hs),.string (mk6 ml),.bool dis,.slice A gs.length c]] W (yi (yk 2 (fz nm hs ml dis gs)) W)):=fun W A c ht ho=>by
  obtain ⟨o1,o2,o3,o4⟩:=xW ho rfl
  refine vk 2 ⟨mk6 nm,mk6 hs,mk6 ml,dis,A,gs,c⟩ W ⟨o1,?_,?_,?_,o2,o3,o4,fun s hs=>Nat.le_trans (hgs s hs) (by omega)⟩ ?_
  ·
   show nm.toArray.size≤_; rw [List.size_toArray]; omega
  ·
   show hs.toArray.size≤_; rw [List.size_toArray]; omega
  ·
   show ml.toArray.size≤_; rw [List.size_toArray]; omega
  ·
   obtain ⟨hlt,m,hcm⟩:=hm
   exact ⟨Nat.lt_of_lt_of_le hlt ht.size,m,(ht.cell (p:=⟨0,0,none⟩) hlt (fun e=>hBg e.symm)).trans hcm⟩
 have HFL:Hid (∀ W,Rdr W B s5→Calls Tryz.prog 233 #[.pointer (some ⟨B,0,none⟩),.int .i64 (yk 2 (fz nm hs ml dis gs))] W (Void W B s6)):=fun W hr=>by
  have:=xk B s5 (yk 2 (fz nm hs ml dis gs)) W hr
  rw [h6] at this
  exact this
 have HER:Hid (∀ W,Rdr W B s6→Calls Tryz.prog 174 #[.pointer (some ⟨B,0,none⟩)] W fun e w'=>e=.returned (.int .i64 s6.e)∧W=w'):=fun W hr=>qp B s6 W hr
 have HG0:=z8 (Gt6.start h)
 have HB:=z8 hB
 have HU:Hid (∀ A c,({ fz nm hs ml dis gs with ga:=A,gc:=c }:Us).v=.agg #[.string (mk6 nm),.string (mk6 hs),.string (mk6 ml),.bool dis,.slice A gs.length c]):=fun _ _=>rfl
 generalize yk 2 (fz nm hs ml dis gs)=ck at *
 clear h hl hm h1 h2 h3 h4 h5 h6 l1 l2 l3 l4 hn hh hml hgs hBg hB
 have HGS:Hid ((fz nm hs ml dis gs).gs=gs):=rfl
 obtain ⟨u,hu⟩:∃ u,u=fz nm hs ml dis gs:=⟨_,rfl⟩
 rw [← hu] at HU HGS ⊢
 clear hu
 unfold mk6 at *
 generalize (⟨nm.toArray⟩:ByteArray)=x1 at *
 generalize (⟨hs.toArray⟩:ByteArray)=x2 at *
 generalize (⟨ml.toArray⟩:ByteArray)=x3 at *
 go_enter Tryz.func236,Tryz.ntmps236
 go_wp2_with fail
 with_reducible refine (HK.out _).mono ?_
 rintro e w1 ⟨rfl,rfl⟩
 go_wp2_with fail
 generalize (w.alloc (.cells #[.string ⟨#[]⟩,.string ⟨#[]⟩,.string ⟨#[]⟩,.bool false,.slice none 0 0] 47)).alloc (.cells #[.string ⟨#[]⟩,.string ⟨#[]⟩,.string ⟨#[]⟩,.bool false,.slice none 0 0] 47)=W1 at *
 with_reducible refine (HT1.out W1 HG0.out.rdr).mono ?_
 rintro e w2 ⟨rfl,hd⟩
 have hg:=Gt6.did HB.out HG0.out hd
 have k0:_=some (.string ⟨#[]⟩:Value):=hg.v.at_ 0
 have hfr:=hg.v.free
 have HG1:=z8 (hg.store (hg.v.set0 (.string x1)))
 clear hg hd HG0 HT1
 go_wp2_with fail
 generalize w2.setCell ⟨w.heap.size+1,0,none⟩ (.string x1)=W2 at *
 with_reducible refine (HT2.out W2 HG1.out.rdr).mono ?_
 rintro e w3 ⟨rfl,hd⟩
 have hg:=Gt6.did HB.out HG1.out hd
 clear k0 hfr
 have k1:_=some (.string ⟨#[]⟩:Value):=hg.v.at_ 1
 have hfr:=hg.v.free
 have HG2:=z8 (hg.store (hg.v.set1 (.string x2)))
 clear hg hd HG1 HT2
 go_wp2_with fail
 generalize w3.setCell ⟨w.heap.size+1,1,none⟩ (.string x2)=W3 at *
 with_reducible refine (HT3.out W3 HG2.out.rdr).mono ?_
 rintro e w4 ⟨rfl,hd⟩
 have hg:=Gt6.did HB.out HG2.out hd
 clear k1 hfr
 have k2:_=some (.string ⟨#[]⟩:Value):=hg.v.at_ 2
 have hfr:=hg.v.free
 have HG3:=z8 (hg.store (hg.v.set2 (.string x3)))
 clear hg hd HG2 HT3
 go_wp2_with fail
 generalize w4.setCell ⟨w.heap.size+1,2,none⟩ (.string x3)=W4 at *
 with_reducible refine (HT4.out W4 HG3.out.rdr).mono ?_
 rintro e w5 ⟨rfl,hd⟩
 have hg:=Gt6.did HB.out HG3.out hd
 clear k2 hfr
 have k3:_=some (.bool false:Value):=hg.v.at_ 3
 have hfr:=hg.v.free
 have HG4:=z8 (hg.store (hg.v.set3 (.bool dis)))
 clear hg hd HG3 HT4
 go_wp2_with fail
 generalize w5.setCell ⟨w.heap.size+1,3,none⟩ (.bool dis)=W5 at *
 with_reducible refine (HT5.out W5 HG4.out.rdr).mono ?_
 rintro e w6 ⟨A,c,rfl,ho,hnw,hd⟩
 have hsz5:w.heap.size+1<W5.heap.size:=HG4.out.v.lt
 have hg:=Gt6.did HB.out HG4.out hd
 clear k3 hfr
 have k4:_=some (.slice none 0 0:Value):=hg.v.at_ 4
 have hfr:=hg.v.free
 have HNW:Hid (∀ j,Value.ownBlock (.slice A gs.length c)=some j→w.heap.size+2≤j):=fun j hj=>by have:=hnw j hj; omega
 have HO1:Hid ((w6.setCell ⟨w.heap.size+1,4,none⟩ (.slice A gs.length c)).ownsRow 0 9 1 (.slice A gs.length c) gs.length (gs.map Value.string)) :=
  ((zb.refl (fun i=>i=w.heap.size+1) w6).setCell (p:=⟨w.heap.size+1,4,none⟩) (fun _=>rfl) _).owns ho (fun j hj he=>by have:=HNW.out j hj; omega)
 have hg2:=hg.store (hg.v.set4 (.slice A gs.length c))
 have HG5:=z8 hg2
 have q0:_=some (.string x1:Value):=hg2.v.at_ 0
 have q1:_=some (.string x2:Value):=hg2.v.at_ 1
 have q2:_=some (.string x3:Value):=hg2.v.at_ 2
 have q3:_=some (.bool dis:Value):=hg2.v.at_ 3
 have q4:_=some (.slice A gs.length c:Value):=hg2.v.at_ 4
 clear hg hg2 hd HG4 HT5 ho hnw hsz5
 go_wp2_with fail
 generalize w6.setCell ⟨w.heap.size+1,4,none⟩ (.slice A gs.length c)=W6 at *
 with_reducible refine (HCK.out W6 A c HG5.out.t HO1.out).mono ?_
 rintro e w7 ⟨rfl,hb⟩
 have HG6:=z8 (HG5.out.below hb)
 have HO2:=z8 ((zb.of_below hb (fun _=>False)).owns HO1.out (fun _ _ f=>f))
 clear hb HG5 HO1 HCK k4 hfr q0 q1 q2 q3 q4
 go_wp2_with fail
 with_reducible refine (HFL.out w7 HG6.out.rdr).mono ?_
 rintro e w8 ⟨rfl,hd⟩
 have HO3:=z8 (hd.2.owns HO2.out (fun j hj he=>jF HG6.out.rdr HO2.out (by rw [hj,he])))
 have HG7:=z8 (Gt6.did HB.out HG6.out hd)
 clear hd HG6 HFL HO2
 go_wp2_with fail
 with_reducible refine (HER.out w8 HG7.out.rdr).mono ?_
 rintro e w9 ⟨rfl,rfl⟩
 have k0:_=some (.string x1:Value):=HG7.out.v.at_ 0
 have k1:_=some (.string x2:Value):=HG7.out.v.at_ 1
 have k2:_=some (.string x3:Value):=HG7.out.v.at_ 2
 have k3:_=some (.bool dis:Value):=HG7.out.v.at_ 3
 have k4:_=some (.slice A gs.length c:Value):=HG7.out.v.at_ 4
 have z0:_=some (.string ⟨#[]⟩:Value):=xq.at_ HG7.out.z 0
 have z1:_=some (.string ⟨#[]⟩:Value):=xq.at_ HG7.out.z 1
 have z2:_=some (.string ⟨#[]⟩:Value):=xq.at_ HG7.out.z 2
 have z3:_=some (.bool false:Value):=xq.at_ HG7.out.z 3
 have z4:_=some (.slice none 0 0:Value):=xq.at_ HG7.out.z 4
 have hfz:=xq.free HG7.out.z
 have HOW:Hid (∀ a' b' c' d' e',(set5 w8 w.heap.size a' b' c' d' e').ownsRow 0 9 1 (.slice A gs.length c) gs.length (gs.map Value.string)):=fun a' b' c' d' e' =>
  (jZ (zb.refl (fun i=>i=w.heap.size) w8) w.heap.size (fun _=>rfl) a' b' c' d' e').owns HO3.out (fun j hj he=>by have:=HNW.out j hj; omega)
 by_cases h0:s6.e=0
 ·
  have h0d:(s6.e != 0)=false:=by simpa using h0
  have hans:=HG7.out.answer (.string x1) (.string x2) (.string x3) (.bool dis) (.slice A gs.length c)
  have HANS:=z8 hans
  have HP:Hid (∀ w',w'.ownsRow 0 9 1 (.slice A gs.length c) gs.length (gs.map Value.string)→Did w B s6 w'→Got6 w B s6 u (.returned (.agg #[.string x1,.string x2,.string x3,.bool dis,.slice A gs.length c])) w'):=fun w' ho hd=>by
   refine ⟨A,c,by rw [if_pos h0]; exact congrArg _ (HU.out A c).symm,?_,?_,hd⟩
   ·
    rw [HGS.out]; exact ho
   ·
    rw [HGS.out]; exact fun j hj=>by have:=HNW.out j hj; omega
  clear hans HU
  go_wp2
  have r0:_=some (.string x1:Value):=HANS.out.2.2.at_ 0
  have r1:_=some (.string x2:Value):=HANS.out.2.2.at_ 1
  have r2:_=some (.string x3:Value):=HANS.out.2.2.at_ 2
  have r3:_=some (.bool dis:Value):=HANS.out.2.2.at_ 3
  have r4:_=some (.slice A gs.length c:Value):=HANS.out.2.2.at_ 4
  have hfin:=HP.out _ (HOW.out _ _ _ _ _) ⟨HANS.out.1,HANS.out.2.1⟩
  unfold set5 at r0 r1 r2 r3 r4 hfin
  refine bodyPost_ret (v:=.agg #[.string x1,.string x2,.string x3,.bool dis,.slice A gs.length c]) ?_ rfl hfin
  simp [results,Tryz.results236,go_sem,r0,r1,r2,r3,r4]
 ·
  have h0d:(s6.e != 0)=true:=by simpa using h0
  have hans:=HG7.out.answer (.string ⟨#[]⟩) (.string ⟨#[]⟩) (.string ⟨#[]⟩) (.bool false) (.slice none 0 0)
  have HANS:=z8 hans
  have HP:Hid (∀ w',w'.ownsRow 0 9 1 (.slice A gs.length c) gs.length (gs.map Value.string)→Did w B s6 w'→Got6 w B s6 u (.returned (.agg #[.string ⟨#[]⟩,.string ⟨#[]⟩,.string ⟨#[]⟩,.bool false,.slice none 0 0])) w'):=fun w' ho hd=>by
   refine ⟨A,c,by rw [if_neg h0]; rfl,?_,?_,hd⟩
   ·
    rw [HGS.out]; exact ho
   ·
    rw [HGS.out]; exact fun j hj=>by have:=HNW.out j hj; omega
  clear hans HU
  go_wp2
  have r0:_=some (.string ⟨#[]⟩:Value):=HANS.out.2.2.at_ 0
  have r1:_=some (.string ⟨#[]⟩:Value):=HANS.out.2.2.at_ 1
  have r2:_=some (.string ⟨#[]⟩:Value):=HANS.out.2.2.at_ 2
  have r3:_=some (.bool false:Value):=HANS.out.2.2.at_ 3
  have r4:_=some (.slice none 0 0:Value):=HANS.out.2.2.at_ 4
  have hfin:=HP.out _ (HOW.out _ _ _ _ _) ⟨HANS.out.1,HANS.out.2.1⟩
  unfold set5 at r0 r1 r2 r3 r4 hfin
  refine bodyPost_ret (v:=.agg #[.string ⟨#[]⟩,.string ⟨#[]⟩,.string ⟨#[]⟩,.bool false,.slice none 0 0]) ?_ rfl hfin
  simp [results,Tryz.results236,go_sem,r0,r1,r2,r3,r4]

theorem Jl:∀ (a b:List UInt8),(Op.bytesLess b a || b == a)=!decide (Lib.compareBytes a b<0)
 | [],[]=>by decide
 | [],b::bl=>by simp [Op.bytesLess,Lib.compareBytes]
 | a::al,[]=>by simp [Op.bytesLess,Lib.compareBytes]
 | a::al,b::bl=>by
  have ih:=Jl al bl
  unfold Op.bytesLess Lib.compareBytes
  by_cases h1:a<b
  ·
   have h2:¬ b<a:=fun h=>absurd (UInt8.lt_trans h1 h) (UInt8.lt_irrefl _)
   have h3:¬ b=a:=fun h=>by subst h; exact UInt8.lt_irrefl _ h1
   simp [h1,h2,h3]
  ·
   by_cases h2:b<a
   ·
    simp [h1,h2]
   ·
    have h3:a=b:=UInt8.le_antisymm (UInt8.not_lt.1 h2) (UInt8.not_lt.1 h1)
    subst h3
    simp [h1] at ih ⊢
    exact ih
theorem leq6_eq (x y:ByteArray):(Op.bytesLess x.toList y.toList || x.toList == y.toList)=!zv y x:=by
 have h:=Jl y.data.toList x.data.toList
 unfold zv
 rw [← h,← ByteArray.toList_eq,← ByteArray.toList_eq]
theorem YC {s t:ByteArray} (h:s.toList=t.toList):s=t:=by
 rw [ByteArray.toList_eq,ByteArray.toList_eq] at h
 exact ByteArray.ext (Array.toList_inj.1 h)

set_option maxRecDepth 100000 in
theorem vx (s:Int) (u:Us) (w:World) (h:u.Ok w) (h1:u.nm.size≤1000) (h2:u.hs.size≤1000) (h3:u.ml.size≤1000) (h4:∀ g∈u.gs,g.size≤1000) :
  Calls Tryz.prog 184 #[.int .i64 s,u.v] w (yi (yk s u) w):=by
 have hnot:∀ (x:Bool) (w:World),(Op.unary .not (.bool x)).run Tryz.prog w=.ok (.bool (!x)) w:=fun _ _=>rfl
 have HB1:=z8 (za (Below.refl w.heap.size w) (.cells u.cells 47))
 have HA1:Hid (Q1 (w.alloc (.cells u.cells 47)) w.heap.size u):=Q1.new w u _
 have HRD:=z8 (h.rd.below HB1.out)
 have HN:Hid (∀ W,Calls Tryz.prog 186 #[.string u.nm] W (fQ (zm u.nm.data.toList) W)):=fun W=>vI u.nm W h1
 have HH:Hid (∀ W,Calls Tryz.prog 144 #[.string u.hs] W (fQ (xo u.hs.data.toList) W)):=fun W=>Qd u.hs W h2
 have HM:Hid (∀ W,Calls Tryz.prog 146 #[.string u.ml] W (RMails5 (yV u.ml.data.toList) (up u.ml.data.toList) W)):=fun W=>Qb u.ml W h3
 have HGS:=z8 h4
 have hlen:=h.len
 have hcap:=h.cap
 obtain ⟨r,hr⟩:∃ r,r=yk s u:=⟨_,rfl⟩
 rw [← hr]
 unfold yk at hr
 have HR:=z8 hr
 have hbare:uQ u=(decide (u.ml=⟨#[]⟩) && decide (u.dis=false) && decide (u.gs=[])):=by
  show (decide (u.nm=u.nm) && decide (u.hs=u.hs) && decide (u.ml=⟨#[]⟩) && decide (u.dis=false) && decide (u.gs=[]))=_
  rw [decide_eq_true (rfl:u.nm=u.nm),decide_eq_true (rfl:u.hs=u.hs),Bool.true_and,Bool.true_and]
 have HBA:=z8 hbare
 clear h h1 h2 h3 h4 hr hbare
 unfold Us.v
 unfold Us.cells at *
 obtain ⟨nm,hs,ml,dis,A,gs,c⟩:=u
 dsimp only at *
 generalize uQ ⟨nm,hs,ml,dis,A,gs,c⟩=bb6 at *
 generalize zm nm.data.toList=bn at *
 generalize xo hs.data.toList=bh at *
 have c0:_=some (.string nm:Value):=HA1.out.c0
 have c1:_=some (.string hs:Value):=HA1.out.c1
 have c2:_=some (.string ml:Value):=HA1.out.c2
 have c3:_=some (.bool dis:Value):=HA1.out.c3
 have c4:_=some (.slice A gs.length c:Value):=HA1.out.c4
 by_cases hk:vo s=true
 ·
  have hs12:s=1∨s=2:=by simpa [vo] using hk
  have k1:¬ s<1:=by omega
  have k2:¬ s > 2:=by omega
  have k2':¬ 2<s:=by omega
  rw [hk] at HR
  cases bn with
  | false =>
   have hr:r=10:=by
    rw [HR.out]
    rcases hs12 with rfl | rfl <;> rfl
   subst hr
   go_enter Tryz.func184,Tryz.ntmps184
   go_wp2_with fail
   with_reducible refine (HN.out _).mono ?_
   rintro e w2 ⟨rfl,rfl⟩
   go_wp2
   go_ret
   exact ⟨rfl,HB1.out⟩
  | true =>
   cases bh with
   | false =>
    have hr:r=4:=by
     rw [HR.out]
     rcases hs12 with rfl | rfl <;> rfl
    subst hr
    go_enter Tryz.func184,Tryz.ntmps184
    go_wp2_with fail
    with_reducible refine (HN.out _).mono ?_
    rintro e w2 ⟨rfl,rfl⟩
    go_wp2_with fail
    with_reducible refine (HH.out _).mono ?_
    rintro e w2 ⟨rfl,rfl⟩
    go_wp2
    go_ret
    exact ⟨rfl,HB1.out⟩
   | true =>
    rcases hs12 with rfl | rfl
    ·
     have HR1:Hid (r=zA bb6 12):=by
      have:=HR.out
      rw [if_pos rfl] at this
      generalize bb6=b at *
      cases b <;> exact this
     clear HR
     go_enter Tryz.func184,Tryz.ntmps184
     go_wp2_with fail
     with_reducible refine (HN.out _).mono ?_
     rintro e w2 ⟨rfl,rfl⟩
     go_wp2_with fail
     with_reducible refine (HH.out _).mono ?_
     rintro e w2 ⟨rfl,rfl⟩
     by_cases hm0:ml=⟨#[]⟩
     ·
      subst hm0
      cases dis with
      | true =>
       have hr:r=12:=by rw [HR1.out,HBA.out]; rfl
       subst hr
       clear HR1 HBA
       go_wp2
       go_ret
       exact ⟨rfl,HB1.out⟩
      | false =>
       by_cases hg0:gs=[]
       ·
        have hr:r=0:=by rw [HR1.out,HBA.out,hg0]; rfl
        subst hg0
        subst hr
        clear HR1 HBA
        go_wp2
        go_ret
        exact ⟨rfl,HB1.out⟩
       ·
        have hr:r=12:=by rw [HR1.out,HBA.out,decide_eq_false hg0]; rfl
        have hz:(gs.length:Int) > 0:=by have:=List.length_pos_iff.2 hg0; omega
        have hz2:0<gs.length:=List.length_pos_iff.2 hg0
        subst hr
        clear HR1 HBA
        go_wp2
        go_ret
        exact ⟨rfl,HB1.out⟩
     ·
      have hr:r=12:=by rw [HR1.out,HBA.out,decide_eq_false hm0]; rfl
      have hne:=xU hm0
      have hne1:¬ ml.toList=[]:=fun e=>hne (by rw [e,ByteArray.toList_eq])
      have hne2:ml.toList.isEmpty=false:=by simpa using hne1
      subst hr
      clear HR1 HBA hm0
      go_wp2
      go_ret
      exact ⟨rfl,HB1.out⟩
    ·
     have HR1:Hid (r=zD [zA (uG ml) 11,zA (decide (gs.length≤6)) 7,zA (zK gs) 10,zA (zB gs) 9]):=by
      have:=HR.out
      rw [if_neg (by decide)] at this
      exact this
     clear HR HBA
     by_cases hm0:ml=⟨#[]⟩
     ·
      subst hm0
      have HRT:Hid (r=zD [zA (decide (gs.length≤6)) 7,zA (zK gs) 10,zA (zB gs) 9]):=HR1
      clear HR1 HM
      go_enter Tryz.func184,Tryz.ntmps184
      go_wp2_with fail
      generalize w.alloc (.cells #[.string nm,.string hs,.string ⟨#[]⟩,.bool dis,.slice A gs.length c] 47)=W0 at *
      with_reducible refine (HN.out _).mono ?_
      rintro e w2 ⟨rfl,rfl⟩
      go_wp2_with fail
      with_reducible refine (HH.out _).mono ?_
      rintro e w2 ⟨rfl,rfl⟩
      have HAW:=HA1
      have HBW:=HB1
      have HRW:=HRD
      clear HA1 HB1 HRD HN HH c0 c1 c3 c4
      have HR6:Hid (r=zD [zA (decide (gs.length≤6)) 7,zA (zK gs) 10,zA (zB gs) 9]):=HRT
      clear HRT
      have c4:_=some (.slice A gs.length c:Value):=HAW.out.c4
      by_cases h6:gs.length≤6
      ·
       have z6:¬ (gs.length:Int) > 6:=by omega
       have z6':¬ 6<gs.length:=by omega
       have HR7:Hid (r=zD [zA (zK gs) 10,zA (zB gs) 9]):=by
        have:=HR6.out
        rw [decide_eq_true h6] at this
        exact this
       clear HR6
       go_wp2
       go_loopg [8,64] gs.length (fun gg _ s64 wr=>∃ k:Nat,k≤gs.length∧gs.length - k≤gg∧s64=.int .i64 k∧wr=w2∧Hid (∀ j (h:j<gs.length),j<k→zm gs[j].data.toList=true))
       case atStart=>exact ⟨0,Nat.zero_le _,by omega,rfl,rfl,fun j _ hj=>absurd hj (Nat.not_lt_zero _)⟩
       case round =>
        obtain ⟨k,hk,hg,rfl,rfl,HT⟩:=hrel
        by_cases hlt:k<gs.length
        ·
         have hltz:(k:Int)<(gs.length:Int):=by omega
         obtain ⟨bb,off,rfl,hcell⟩:=HRW.out.at6 k hlt
         have HN1:=z8 (vI gs[k] wr (HGS.out _ (List.getElem_mem hlt)))
         have HX:Hid (zm gs[k].data.toList=true→∀ j (h:j<gs.length),j<k+1→zm gs[j].data.toList=true):=fun hq j h hj=>by
          by_cases e:j=k
          ·
           subst e; exact hq
          ·
           exact HT.out j h (by omega)
         have HF:Hid (zm gs[k].data.toList=false→r=10):=fun hf=>by
          have:zK gs=false:=List.all_eq_false.2 ⟨gs[k],List.getElem_mem hlt,by rw [hf]; simp⟩
          rw [HR7.out,this]; rfl
         clear HT
         generalize gs[k]=x at *
         generalize zm x.data.toList=b at *
         cases b with
         | true =>
          have HY:=z8 (HX.out rfl)
          clear HX HF
          go_wp2_with (go_at_call 186; (with_reducible refine HN1.out.mono ?_); rintro e w3 ⟨rfl,rfl⟩)
          go_roundg (gs.length - (k+1))
          case measure=>omega
          case rel=>exact ⟨k+1,by omega,by omega,by go_num,rfl,HY⟩
         | false =>
          have hr:r=10:=HF.out rfl
          subst hr
          clear HX HF HR7
          go_wp2_with (go_at_call 186; (with_reducible refine HN1.out.mono ?_); rintro e w3 ⟨rfl,rfl⟩)
          go_ret
          exact ⟨rfl,HBW.out⟩
        ·
         have hltz:¬ (k:Int)<(gs.length:Int):=by omega
         obtain rfl:k=gs.length:=by omega
         have HR8:Hid (r=zA (zB gs) 9):=by
          have:zK gs=true:=by
           unfold zK
           rw [List.all_eq_true]
           intro x hx
           obtain ⟨j,hj,rfl⟩:=List.getElem_of_mem hx
           exact HT.out j hj hj
          have h:=HR7.out
          rw [this] at h
          generalize zB gs=b at *
          cases b <;> exact h
         clear HT HR7
         go_wp2
         go_loopg [9,10,75] gs.length (fun gg _ _ s75 w9=>∃ k:Nat,k≤gs.length∧gs.length - k≤gg∧s75=.int .i64 k∧w9=wr∧Hid (∀ j (h:j+1<gs.length),j+1<k→zv gs[j] gs[j+1]=true))
         case atStart=>exact ⟨0,Nat.zero_le _,by omega,rfl,rfl,fun j _ hj=>absurd hj (by omega)⟩
         case round =>
          obtain ⟨k,hk,hg,rfl,hw9,HT⟩:=hrel
          subst hw9
          by_cases hlt:k<gs.length
          ·
           have hltz:(k:Int)<(gs.length:Int):=by omega
           obtain ⟨bb,off,hA1,hcell⟩:=HRW.out.at6 k hlt
           by_cases hk0:k=0
           ·
            have hz0:¬ (k:Int) > 0:=by omega
            have hz0':¬ 0<(k:Int):=by omega
            have HY:Hid (∀ j (h:j+1<gs.length),j+1<k+1→zv gs[j] gs[j+1]=true):=fun j h hj=>absurd hj (by omega)
            subst hA1
            generalize gs[k]=x at *
            clear HT hk0
            go_wp2
            go_roundg (gs.length - (k+1))
            case measure=>omega
            case rel=>exact ⟨k+1,by omega,by omega,by go_num,rfl,HY⟩
           ·
            have hkl':k - 1<gs.length:=by omega
            obtain ⟨bb',off',hA2,hcell'⟩:=HRW.out.at6 (k - 1) hkl'
            obtain ⟨rfl,rfl⟩:bb'=bb∧off'=off:=by
             rw [hA1] at hA2
             simp at hA2
             exact ⟨hA2.1.symm,hA2.2.symm⟩
            subst hA1
            have hz0:(k:Int) > 0:=by omega
            have zk:(k:Int) - 1=((k - 1:Nat):Int):=by omega
            have hwr:IntKind.i64.wrap ((k - 1:Nat):Int)=((k - 1:Nat):Int):=IntWalk.i64_in _ (by omega)
            have z1:((k - 1:Nat):Int)<(gs.length:Int):=by omega
            have hle:=leq6_eq gs[k] gs[k - 1]
            have HX:Hid (zv gs[k - 1] gs[k]=true→∀ j (h:j+1<gs.length),j+1<k+1→zv gs[j] gs[j+1]=true):=fun hq j h hj=>by
             by_cases e:j=k - 1
             ·
              subst e
              have:gs[k - 1+1]=gs[k]:=by congr 1; omega
              rw [this]; exact hq
             ·
              exact HT.out j h (by omega)
            have HF:Hid (zv gs[k - 1] gs[k]=false→r=9):=fun hf=>by
             have:zB gs=false:=xJ gs (k - 1) (by omega) (by
              have:gs[k - 1+1]=gs[k]:=by congr 1; omega
              rw [this]; exact hf)
             rw [HR8.out,this]; rfl
            clear HT
            generalize zv gs[k - 1] gs[k]=b at *
            generalize gs[k]=x at *
            generalize gs[k - 1]=y at *
            cases b with
            | true =>
             have HY:=z8 (HX.out rfl)
             have hle2:Op.bytesLess x.toList y.toList=false∧(x.toList == y.toList)=false:=by simpa using hle
             obtain ⟨hbl,hbe⟩:=hle2
             have hbn:¬ x.toList=y.toList:=by simpa using hbe
             clear HX HF hle
             go_wp2
             go_roundg (gs.length - (k+1))
             case measure=>omega
             case rel=>exact ⟨k+1,by omega,by omega,by go_num,rfl,HY⟩
            | false =>
             have hr:r=9:=HF.out rfl
             subst hr
             clear HX HF HR8
             have hle2:Op.bytesLess x.toList y.toList=true∨x.toList=y.toList:=by simpa using hle
             clear hle
             rcases hle2 with hbl | hbe
             ·
              go_wp2
              go_ret
              exact ⟨rfl,HBW.out⟩
             ·
              obtain rfl:=YC hbe
              clear hbe
              go_wp2
              go_ret
              exact ⟨rfl,HBW.out⟩
          ·
           have hltz:¬ (k:Int)<(gs.length:Int):=by omega
           have hr:r=0:=by
            have:zB gs=true:=xK gs (fun j h=>HT.out j h (by omega))
            rw [HR8.out,this]; rfl
           subst hr
           clear HT HR8
           go_wp2
           go_ret
           exact ⟨rfl,HBW.out⟩
      ·
       have z6:(gs.length:Int) > 6:=by omega
       have z6':6<gs.length:=by omega
       have hr:r=7:=by
        rw [HR6.out,decide_eq_false h6]; rfl
       subst hr
       clear HR6
       go_wp2
       go_ret
       exact ⟨rfl,HBW.out⟩
     ·
      have hne:=xU hm0
      have hne1:¬ ml.toList=[]:=fun e=>hne (by rw [e,ByteArray.toList_eq])
      have hne2:ml.toList.isEmpty=false:=by simpa using hne1
      have hf6:uG ml=(yV ml.data.toList && decide (up ml.data.toList=ml)):=by
       unfold uG
       have:¬ ml.size=0:=fun e=>hm0 (by
        obtain ⟨d⟩:=ml
        obtain rfl:d=#[]:=Array.eq_empty_of_size_eq_zero e
        rfl)
       rw [decide_eq_false this,Bool.false_or]
      rw [hf6] at HR1
      clear hf6 hm0
      generalize yV ml.data.toList=bm at *
      generalize up ml.data.toList=t at *
      go_enter Tryz.func184,Tryz.ntmps184
      go_wp2_with fail
      generalize w.alloc (.cells #[.string nm,.string hs,.string ml,.bool dis,.slice A gs.length c] 47)=W1 at *
      with_reducible refine (HN.out _).mono ?_
      rintro e w2 ⟨rfl,rfl⟩
      go_wp2_with fail
      with_reducible refine (HH.out _).mono ?_
      rintro e w2 ⟨rfl,rfl⟩
      go_wp2_with fail
      with_reducible refine (HM.out _).mono ?_
      rintro e w2 ⟨rfl,q,rfl⟩
      have HAW:=z8 (HA1.out.below (zn (Below.refl w2.heap.size w2) q))
      have HBW:=z8 (zn HB1.out q)
      have HRW:=z8 (HRD.out.below (zn (Below.refl w2.heap.size w2) q))
      clear HA1 HB1 HRD HN HH HM c0 c1 c2 c3 c4
      generalize w2.drewN q=W0 at *
      have c2:_=some (.string ml:Value):=HAW.out.c2
      cases bm with
      | false =>
       have hr:r=11:=HR1.out
       subst hr
       clear HR1
       go_wp2
       go_ret
       exact ⟨rfl,HBW.out⟩
      | true =>
       by_cases htm:t=ml
       ·
        have HRT:Hid (r=zD [zA (decide (gs.length≤6)) 7,zA (zK gs) 10,zA (zB gs) 9]):=by
         have:=HR1.out
         rw [decide_eq_true htm] at this
         exact this
        subst htm
        clear HR1
        have HR6:Hid (r=zD [zA (decide (gs.length≤6)) 7,zA (zK gs) 10,zA (zB gs) 9]):=HRT
        clear HRT
        have c4:_=some (.slice A gs.length c:Value):=HAW.out.c4
        by_cases h6:gs.length≤6
        ·
         have z6:¬ (gs.length:Int) > 6:=by omega
         have z6':¬ 6<gs.length:=by omega
         have HR7:Hid (r=zD [zA (zK gs) 10,zA (zB gs) 9]):=by
          have:=HR6.out
          rw [decide_eq_true h6] at this
          exact this
         clear HR6
         go_wp2
         go_loopg [8,64] gs.length (fun gg _ s64 wr=>∃ k:Nat,k≤gs.length∧gs.length - k≤gg∧s64=.int .i64 k∧wr=W0∧Hid (∀ j (h:j<gs.length),j<k→zm gs[j].data.toList=true))
         case atStart=>exact ⟨0,Nat.zero_le _,by omega,rfl,rfl,fun j _ hj=>absurd hj (Nat.not_lt_zero _)⟩
         case round =>
          obtain ⟨k,hk,hg,rfl,rfl,HT⟩:=hrel
          by_cases hlt:k<gs.length
          ·
           have hltz:(k:Int)<(gs.length:Int):=by omega
           obtain ⟨bb,off,rfl,hcell⟩:=HRW.out.at6 k hlt
           have HN1:=z8 (vI gs[k] wr (HGS.out _ (List.getElem_mem hlt)))
           have HX:Hid (zm gs[k].data.toList=true→∀ j (h:j<gs.length),j<k+1→zm gs[j].data.toList=true):=fun hq j h hj=>by
            by_cases e:j=k
            ·
             subst e; exact hq
            ·
             exact HT.out j h (by omega)
           have HF:Hid (zm gs[k].data.toList=false→r=10):=fun hf=>by
            have:zK gs=false:=List.all_eq_false.2 ⟨gs[k],List.getElem_mem hlt,by rw [hf]; simp⟩
            rw [HR7.out,this]; rfl
           clear HT
           generalize gs[k]=x at *
           generalize zm x.data.toList=b at *
           cases b with
           | true =>
            have HY:=z8 (HX.out rfl)
            clear HX HF
            go_wp2_with (go_at_call 186; (with_reducible refine HN1.out.mono ?_); rintro e w3 ⟨rfl,rfl⟩)
            go_roundg (gs.length - (k+1))
            case measure=>omega
            case rel=>exact ⟨k+1,by omega,by omega,by go_num,rfl,HY⟩
           | false =>
            have hr:r=10:=HF.out rfl
            subst hr
            clear HX HF HR7
            go_wp2_with (go_at_call 186; (with_reducible refine HN1.out.mono ?_); rintro e w3 ⟨rfl,rfl⟩)
            go_ret
            exact ⟨rfl,HBW.out⟩
          ·
           have hltz:¬ (k:Int)<(gs.length:Int):=by omega
           obtain rfl:k=gs.length:=by omega
           have HR8:Hid (r=zA (zB gs) 9):=by
            have:zK gs=true:=by
             unfold zK
             rw [List.all_eq_true]
             intro x hx
             obtain ⟨j,hj,rfl⟩:=List.getElem_of_mem hx
             exact HT.out j hj hj
            have h:=HR7.out
            rw [this] at h
            generalize zB gs=b at *
            cases b <;> exact h
           clear HT HR7
           go_wp2
           go_loopg [9,10,75] gs.length (fun gg _ _ s75 w9=>∃ k:Nat,k≤gs.length∧gs.length - k≤gg∧s75=.int .i64 k∧w9=wr∧Hid (∀ j (h:j+1<gs.length),j+1<k→zv gs[j] gs[j+1]=true))
           case atStart=>exact ⟨0,Nat.zero_le _,by omega,rfl,rfl,fun j _ hj=>absurd hj (by omega)⟩
           case round =>
            obtain ⟨k,hk,hg,rfl,hw9,HT⟩:=hrel
            subst hw9
            by_cases hlt:k<gs.length
            ·
             have hltz:(k:Int)<(gs.length:Int):=by omega
             obtain ⟨bb,off,hA1,hcell⟩:=HRW.out.at6 k hlt
             by_cases hk0:k=0
             ·
              have hz0:¬ (k:Int) > 0:=by omega
              have hz0':¬ 0<(k:Int):=by omega
              have HY:Hid (∀ j (h:j+1<gs.length),j+1<k+1→zv gs[j] gs[j+1]=true):=fun j h hj=>absurd hj (by omega)
              subst hA1
              generalize gs[k]=x at *
              clear HT hk0
              go_wp2
              go_roundg (gs.length - (k+1))
              case measure=>omega
              case rel=>exact ⟨k+1,by omega,by omega,by go_num,rfl,HY⟩
             ·
              have hkl':k - 1<gs.length:=by omega
              obtain ⟨bb',off',hA2,hcell'⟩:=HRW.out.at6 (k - 1) hkl'
              obtain ⟨rfl,rfl⟩:bb'=bb∧off'=off:=by
               rw [hA1] at hA2
               simp at hA2
               exact ⟨hA2.1.symm,hA2.2.symm⟩
              subst hA1
              have hz0:(k:Int) > 0:=by omega
              have zk:(k:Int) - 1=((k - 1:Nat):Int):=by omega
              have hwr:IntKind.i64.wrap ((k - 1:Nat):Int)=((k - 1:Nat):Int):=IntWalk.i64_in _ (by omega)
              have z1:((k - 1:Nat):Int)<(gs.length:Int):=by omega
              have hle:=leq6_eq gs[k] gs[k - 1]
              have HX:Hid (zv gs[k - 1] gs[k]=true→∀ j (h:j+1<gs.length),j+1<k+1→zv gs[j] gs[j+1]=true):=fun hq j h hj=>by
               by_cases e:j=k - 1
               ·
                subst e
                have:gs[k - 1+1]=gs[k]:=by congr 1; omega
                rw [this]; exact hq
               ·
                exact HT.out j h (by omega)
              have HF:Hid (zv gs[k - 1] gs[k]=false→r=9):=fun hf=>by
               have:zB gs=false:=xJ gs (k - 1) (by omega) (by
                have:gs[k - 1+1]=gs[k]:=by congr 1; omega
                rw [this]; exact hf)
               rw [HR8.out,this]; rfl
              clear HT
              generalize zv gs[k - 1] gs[k]=b at *
              generalize gs[k]=x at *
              generalize gs[k - 1]=y at *
              cases b with
              | true =>
               have HY:=z8 (HX.out rfl)
               have hle2:Op.bytesLess x.toList y.toList=false∧(x.toList == y.toList)=false:=by simpa using hle
               obtain ⟨hbl,hbe⟩:=hle2
               have hbn:¬ x.toList=y.toList:=by simpa using hbe
               clear HX HF hle
               go_wp2
               go_roundg (gs.length - (k+1))
               case measure=>omega
               case rel=>exact ⟨k+1,by omega,by omega,by go_num,rfl,HY⟩
              | false =>
               have hr:r=9:=HF.out rfl
               subst hr
               clear HX HF HR8
               have hle2:Op.bytesLess x.toList y.toList=true∨x.toList=y.toList:=by simpa using hle
               clear hle
               rcases hle2 with hbl | hbe
               ·
                go_wp2
                go_ret
                exact ⟨rfl,HBW.out⟩
               ·
                obtain rfl:=YC hbe
                clear hbe
                go_wp2
                go_ret
                exact ⟨rfl,HBW.out⟩
            ·
             have hltz:¬ (k:Int)<(gs.length:Int):=by omega
             have hr:r=0:=by
              have:zB gs=true:=xK gs (fun j h=>HT.out j h (by omega))
              rw [HR8.out,this]; rfl
             subst hr
             clear HT HR8
             go_wp2
             go_ret
             exact ⟨rfl,HBW.out⟩
        ·
         have z6:(gs.length:Int) > 6:=by omega
         have z6':6<gs.length:=by omega
         have hr:r=7:=by
          rw [HR6.out,decide_eq_false h6]; rfl
         subst hr
         clear HR6
         go_wp2
         go_ret
         exact ⟨rfl,HBW.out⟩
       ·
        have hr:r=11:=by rw [HR1.out,decide_eq_false htm]; rfl
        have htn:=xU htm
        have htn2:(t.toList == ml.toList)=false:=by simpa using htn
        have htn3:(t.toList != ml.toList)=true:=by simpa using htn
        subst hr
        clear HR1 htm
        go_wp2
        go_ret
        exact ⟨rfl,HBW.out⟩
 ·
  have hkf:vo s=false:=by simpa using hk
  have hr:r=6:=by
   rw [HR.out,hkf]
   have h1:¬ s=1:=fun e=>by subst e; exact hk rfl
   rw [if_neg h1]; rfl
  have hs12:¬ s=1∧¬ s=2:=by simpa [vo] using hkf
  subst hr
  clear HR hk hkf
  by_cases hl:s<1
  ·
   go_enter Tryz.func184,Tryz.ntmps184
   go_wp2
   go_ret
   exact ⟨rfl,HB1.out⟩
  ·
   have hg:s > 2:=by omega
   have hg2:2<s:=by omega
   go_enter Tryz.func184,Tryz.ntmps184
   go_wp2
   go_ret
   exact ⟨rfl,HB1.out⟩
end Go.Proofs.YthmomkjingcbiaaGreatDoor
