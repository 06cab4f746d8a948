/-
  The texts that the laws of this seat share, part 4: what the code and the document's own answers tell, walked function by function.
  Conditions: each theorem's own.
-/
import Derived.Maps.OwnSet
import Derived.Maps.StringElems
import Derived.Sort.KeysCollected
import Derived.StringKeys
import Derived.Sort.OwnSorted
import Derived.Test.YteegkoicalbkbaaGreatDoorHosOBC
set_option maxHeartbeats 16000000
namespace Go.Proofs.YteegkoicalbkbaaGreatDoor
open Go.RowKit

def xX:List Int→Int
 | []=>0
 | e::l=>if e=0 then xX l else e

def YK (v:Value) (n:Int) (w:World):Prop :=
 ∃ g lb,v=.func (.func g) #[] lb∧(∀ args w,(callFunc g args).run Tryz.prog w=.ok (.enter g args) w) ∧
  ∀ W:World,Below w.heap.size w W→Calls Tryz.prog g lb W (yG n W)
theorem YK.later {v:Value} {n:Int} {w W:World} (h:YK v n w) (hb:Below w.heap.size w W):YK v n W:=by
 obtain ⟨g,lb,e,eg,hp⟩:=h
 exact ⟨g,lb,e,eg,fun W' hb'=>hp W' (z7 hb hb')⟩
def Holds7 (v:Value) (b:Bool) (w:World):Prop :=
 ∃ g lb,v=.func (.func g) #[] lb∧(∀ args w,(callFunc g args).run Tryz.prog w=.ok (.enter g args) w) ∧
  ∀ W:World,Below w.heap.size w W→Calls Tryz.prog g lb W (yL b W)
theorem Holds7.later {v:Value} {b:Bool} {w W:World} (h:Holds7 v b w) (hb:Below w.heap.size w W):Holds7 v b W:=by
 obtain ⟨g,lb,e,eg,hp⟩:=h
 exact ⟨g,lb,e,eg,fun W' hb'=>hp W' (z7 hb hb')⟩
def vN (n:Int) (w:World) (e:Ending) (w':World):Prop:=∃ g lb,e=.returned (.func (.func g) #[] lb)∧YK (.func (.func g) #[] lb) n w'∧Below w.heap.size w w'

set_option maxRecDepth 100000 in
theorem QS (s:ByteArray) (C:Nat) (w:World) (hs:s.size≤9223372036854775807) (hc:w.cell? ⟨C,0,none⟩=some (.string s)) :
  Calls Tryz.prog 396 #[.pointer (some ⟨C,0,none⟩)] w (yG (zi (zh s.data.toList) 10) w):=by
 have HN:=za (zW s w hs)
 generalize zi (zh s.data.toList) 10=r at *
 go_enter Tryz.func396,Tryz.ntmps396
 go_wp2_with fail
 with_reducible refine HN.out.mono ?_
 rintro e w1 ⟨rfl,hb⟩
 have HB:=za hb
 clear hb HN hc
 go_wp2
 go_ret
 exact ⟨rfl,HB.out⟩
set_option maxRecDepth 100000 in
theorem uN (s:ByteArray) (w:World) (hs:s.size≤9223372036854775807):Calls Tryz.prog 388 #[.string s] w (vN (zi (zh s.data.toList) 10) w):=by
 have hmf:=mkf
 go_enter Tryz.func388,Tryz.ntmps388
 go_wp2
 go_ret
 refine ⟨_,_,rfl,?_,zb (Below.refl _ _) _⟩
 refine ⟨_,_,rfl,enters_of Tryz.func396 (by kernel_rfl) rfl,fun W hb=>?_⟩
 exact QS s _ W hs ((hb.cell (p:=⟨_,0,none⟩) (by simp)).trans (by simp))

set_option maxRecDepth 100000 in
theorem Fv (s:ByteArray) (C:Nat) (w:World) (hs:s.size≤9223372036854775807) (hc:w.cell? ⟨C,0,none⟩=some (.string s)) :
  Calls Tryz.prog 397 #[.pointer (some ⟨C,0,none⟩)] w (yG (zi (yj s.data.toList) 4) w):=by
 have HN:=za (fh s w hs)
 generalize zi (yj s.data.toList) 4=r at *
 go_enter Tryz.func397,Tryz.ntmps397
 go_wp2_with fail
 with_reducible refine HN.out.mono ?_
 rintro e w1 ⟨rfl,hb⟩
 have HB:=za hb
 clear hb HN hc
 go_wp2
 go_ret
 exact ⟨rfl,HB.out⟩
set_option maxRecDepth 100000 in
theorem YC (s:ByteArray) (w:World) (hs:s.size≤9223372036854775807):Calls Tryz.prog 389 #[.string s] w (vN (zi (yj s.data.toList) 4) w):=by
 have hmf:=mkf
 go_enter Tryz.func389,Tryz.ntmps389
 go_wp2
 go_ret
 refine ⟨_,_,rfl,?_,zb (Below.refl _ _) _⟩
 refine ⟨_,_,rfl,enters_of Tryz.func397 (by kernel_rfl) rfl,fun W hb=>?_⟩
 exact Fv s _ W hs ((hb.cell (p:=⟨_,0,none⟩) (by simp)).trans (by simp))

set_option maxRecDepth 100000 in
theorem XX (s:ByteArray) (C:Nat) (w:World) (hs:s.size≤9223372036854775807) (hc:w.cell? ⟨C,0,none⟩=some (.string s)) :
  Calls Tryz.prog 401 #[.pointer (some ⟨C,0,none⟩)] w (yG (zi (uM s.data.toList) 10) w):=by
 have HN:=za (YJ s w hs)
 generalize zi (uM s.data.toList) 10=r at *
 go_enter Tryz.func401,Tryz.ntmps401
 go_wp2_with fail
 with_reducible refine HN.out.mono ?_
 rintro e w1 ⟨rfl,hb⟩
 have HB:=za hb
 clear hb HN hc
 go_wp2
 go_ret
 exact ⟨rfl,HB.out⟩
set_option maxRecDepth 100000 in
theorem XW (s:ByteArray) (w:World) (hs:s.size≤9223372036854775807):Calls Tryz.prog 393 #[.string s] w (vN (zi (uM s.data.toList) 10) w):=by
 have hmf:=mkf
 go_enter Tryz.func393,Tryz.ntmps393
 go_wp2
 go_ret
 refine ⟨_,_,rfl,?_,zb (Below.refl _ _) _⟩
 refine ⟨_,_,rfl,enters_of Tryz.func401 (by kernel_rfl) rfl,fun W hb=>?_⟩
 exact XX s _ W hs ((hb.cell (p:=⟨_,0,none⟩) (by simp)).trans (by simp))

set_option maxRecDepth 100000 in
theorem VA (B C:Nat) (v:Value) (b:Bool) (n:Int) (w:World) (hB:w.cell? ⟨B,0,none⟩=some v) (hC:w.cell? ⟨C,0,none⟩=some (.int .i64 n)) (hv:Holds7 v b w) :
  Calls Tryz.prog 217 #[.pointer (some ⟨B,0,none⟩),.pointer (some ⟨C,0,none⟩)] w (yG (zi b n) w):=by
 obtain ⟨g,lb,rfl,eg,hp⟩:=hv
 have HC:=za (hp w (Below.refl _ _))
 have hlt:C<w.heap.size:=World.block_lt_of_cell? w _ hC
 have HCC:=za hC
 clear hp hC
 cases b with
 | true =>
  show Calls _ _ _ _ (yG 0 w)
  go_enter Tryz.func217,Tryz.ntmps217
  go_wp2_with (go_at_fn g; refine HC.out.mono ?_; rintro e w1 ⟨rfl,hb⟩; have HB:=za hb; clear hb)
  go_ret
  exact ⟨rfl,HB.out⟩
 | false =>
  show Calls _ _ _ _ (yG n w)
  go_enter Tryz.func217,Tryz.ntmps217
  go_wp2_with (go_at_fn g; refine HC.out.mono ?_; rintro e w1 ⟨rfl,hb⟩; have HB:=za hb; have c1:=(hb.cell (p:=⟨C,0,none⟩) hlt).trans HCC.out; clear hb)
  go_ret
  exact ⟨rfl,HB.out⟩

set_option maxRecDepth 100000 in
theorem qU (g:Nat) (lb:Array Value) (b:Bool) (n:Int) (w:World) (hv:Holds7 (.func (.func g) #[] lb) b w):Calls Tryz.prog 189 #[.func (.func g) #[] lb,.int .i64 n] w (vN (zi b n) w):=by
 have hmf:=mkf
 have HV:=za hv
 clear hv
 go_enter Tryz.func189,Tryz.ntmps189
 go_wp2
 go_ret
 refine ⟨_,_,rfl,?_,zb (zb (Below.refl _ _) _) _⟩
 refine ⟨_,_,rfl,enters_of Tryz.func217 (by kernel_rfl) rfl,fun W hb=>?_⟩
 exact VA _ _ _ b n W ((hb.cell (p:=⟨_,0,none⟩) (by simp; try omega)).trans (by simp)) ((hb.cell (p:=⟨_,0,none⟩) (by simp; try omega)).trans (by simp)) (HV.out.later (z7 (zb (zb (Below.refl _ _) _) _) hb))

set_option maxRecDepth 100000 in
theorem fit71_calls (C:Nat) (n:Int) (w:World) (hC:w.cell? ⟨C,0,none⟩=some (.int .i64 n)):Calls Tryz.prog 190 #[.pointer (some ⟨C,0,none⟩)] w (yL (decide (n≤12)) w):=by
 by_cases h:n≤12
 all_goals
  rw [show decide (n≤12)=_ from by first | exact decide_eq_true h | exact decide_eq_false h]
  go_enter Tryz.func190,Tryz.ntmps190
  go_wp2
  all_goals first | (exfalso; omega) | (go_ret; exact ⟨by simp,Below.refl _ _⟩)
set_option maxRecDepth 100000 in
theorem fit7_calls (n:Int) (w:World):Calls Tryz.prog 147 #[.int .i64 n] w (vN (zi (decide (n≤12)) 7) w):=by
 have hmf:=mkf
 have HU:Hid (∀ W,Below w.heap.size (w.alloc (.cells #[.int .i64 n] 3)) W→Calls Tryz.prog 189 #[.func (.func 190) #[] #[.pointer (some ⟨w.heap.size,0,none⟩)],.int .i64 7] (w.alloc (.cells #[.int .i64 n] 3)) (vN (zi (decide (n≤12)) 7) (w.alloc (.cells #[.int .i64 n] 3)))):=fun _ _ =>
  qU _ _ _ _ _ ⟨_,_,rfl,enters_of Tryz.func190 (by kernel_rfl) rfl,fun W hb=>fit71_calls _ n W ((hb.cell (p:=⟨_,0,none⟩) (by simp)).trans (by simp))⟩
 have HU2:=za (HU.out _ (Below.refl _ _))
 clear HU
 generalize zi (decide (n≤12)) 7=r at *
 go_enter Tryz.func147,Tryz.ntmps147
 go_wp2_with fail
 with_reducible refine HU2.out.mono ?_
 rintro e w1 ⟨g,lb,rfl,ha,hb⟩
 have HA:=za ha
 have HB:=za hb
 clear ha hb HU2
 go_wp2
 go_ret
 exact ⟨g,lb,rfl,HA.out,z7 (zb (Below.refl _ _) _) HB.out⟩

def uE (w:World) (B:Nat) (l:List (Value×Int)):Prop:=B<w.heap.size∧∀ j (h:j<l.length),w.cell? ⟨B,j,none⟩=some l[j].1∧YK l[j].1 l[j].2 w
theorem uE.later {w W:World} {B:Nat} {l:List (Value×Int)} (h:uE w B l) (hb:Below w.heap.size w W):uE W B l :=
 ⟨Nat.lt_of_lt_of_le h.1 hb.size,fun j hj=>⟨(hb.cell (p:=⟨B,j,none⟩) h.1).trans (h.2 j hj).1,(h.2 j hj).2.later hb⟩⟩

set_option maxRecDepth 100000 in
theorem qx (B n cap:Nat) (l:List (Value×Int)) (w:World) (hl:n=l.length) (hn:n≤1000) (hr:uE w B l) :
  Calls Tryz.prog 144 #[.slice (some ⟨B,0,none⟩) n cap] w (yG (xX (l.map (·.2))) w):=by
 have HR:=za hr
 have HL:=za hl
 clear hr hl
 obtain ⟨r,hr⟩:∃ r,r=xX (l.map (·.2)):=⟨_,rfl⟩
 rw [← hr]
 have HRR:=za hr
 clear hr
 go_enter Tryz.func144,Tryz.ntmps144
 go_wp2
 go_loopg [4,5,8] n (fun gg _ _ s8 wr=>∃ kk:Nat,kk≤n∧n - kk≤gg∧s8=.int .i64 kk∧Hid (Below w.heap.size w wr)∧Hid (r=xX ((l.map (·.2)).drop kk)))
 case atStart=>exact ⟨0,Nat.zero_le _,by omega,rfl,Below.refl _ _,HRR.out⟩
 case round =>
  obtain ⟨kk,hkk,hg,rfl,HW,A⟩:=hrel
  by_cases hlt:kk<n
  ·
   have hltz:(kk:Int)<(n:Int):=by omega
   have hk:kk<l.length:=HL.out ▸ hlt
   obtain ⟨hcell,g,lb,hv,eg,hp⟩:=(HR.out.later HW.out).2 kk hk
   have hcall:=hp wr (Below.refl _ _)
   rw [hv] at hcell
   have HC:=za hcall
   have hA:r=(if l[kk].2=0 then xX ((l.map (·.2)).drop (kk+1)) else l[kk].2):=by
    have:=A.out
    rw [List.drop_eq_getElem_cons (by simpa using hk),List.getElem_map] at this
    exact this
   clear hp hcall hv A
   generalize l[kk].2=x at *
   by_cases h0:x=0
   ·
    rw [if_pos h0] at hA
    have HA:=za hA
    subst h0
    clear hA
    go_wp2_with (go_at_fn g; refine HC.out.mono ?_; rintro e w' ⟨rfl,hb⟩; have HB:=za (z7 HW.out hb); clear hb)
    go_roundg (n - (kk+1))
    case measure=>omega
    case rel=>exact ⟨kk+1,by omega,by omega,by go_num,HB,HA⟩
   ·
    rw [if_neg h0] at hA
    subst hA
    go_wp2_with (go_at_fn g; refine HC.out.mono ?_; rintro e w' ⟨rfl,hb⟩; have HB:=za (z7 HW.out hb); clear hb)
    go_ret
    exact ⟨rfl,HB.out⟩
  ·
   have hltz:¬ (kk:Int)<(n:Int):=by omega
   have hA:r=0:=by
    have:=A.out
    rw [List.drop_eq_nil_of_le (by have:=HL.out; simp; omega)] at this
    exact this
   subst hA
   clear A
   go_wp2
   go_ret
   exact ⟨rfl,HW.out⟩

set_option maxRecDepth 100000 in
theorem do7_bad (B n cap:Nat) (l:List (Value×Int)) (v:Value) (w:World) (hl:n=l.length) (hn:n≤1000) (hr:uE w B l) (h0:xX (l.map (·.2))≠0) :
  Calls Tryz.prog 387 #[v,.slice (some ⟨B,0,none⟩) n cap] w (yG (xX (l.map (·.2))) w):=by
 have HF:=za (qx B n cap l w hl hn hr)
 generalize xX (l.map (·.2))=r at *
 have h1:(r == 0)=false:=by simpa using h0
 clear hl hr
 go_enter Tryz.func387,Tryz.ntmps387
 go_wp2_with fail
 with_reducible refine HF.out.mono ?_
 rintro e w1 ⟨rfl,hb⟩
 have HB:=za hb
 clear hb HF
 go_wp2
 go_ret
 exact ⟨rfl,HB.out⟩
set_option maxRecDepth 100000 in
theorem do7_ok (B n cap:Nat) (l:List (Value×Int)) (g:Nat) (lb:Array Value) (w:World) (R:World→World→Prop) (hl:n=l.length) (hn:n≤1000) (hr:uE w B l) (h0:xX (l.map (·.2))=0)
  (eg:∀ args w,(callFunc g args).run Tryz.prog w=.ok (.enter g args) w) (hd:∀ W:World,Below w.heap.size w W→Calls Tryz.prog g lb W fun e w'=>e=.returned (.tuple #[])∧R W w') :
  Calls Tryz.prog 387 #[.func (.func g) #[] lb,.slice (some ⟨B,0,none⟩) n cap] w fun e w'=>e=.returned (.int .i64 0)∧∃ W,Below w.heap.size w W∧R W w':=by
 have HF:=za (qx B n cap l w hl hn hr)
 rw [h0] at HF
 have HD:=za hd
 clear hl hr h0 hd
 go_enter Tryz.func387,Tryz.ntmps387
 go_wp2_with fail
 with_reducible refine HF.out.mono ?_
 rintro e w1 ⟨rfl,hb⟩
 have HB:=za hb
 have HC:=za (HD.out w1 hb)
 clear hb HF HD
 go_wp2_with (go_at_fn g; refine HC.out.mono ?_; rintro e w2 ⟨rfl,hR⟩; have HR:=za hR; clear hR)
 go_ret
 exact ⟨rfl,w1,HB.out,HR.out⟩
end Go.Proofs.YteegkoicalbkbaaGreatDoor
namespace Go.Proofs.YteegkoicalbkbaaGreatDoor
open Go.Maps

abbrev zl:=List (List UInt8×List UInt8)

def uy (L:zl):Prop:=L.Pairwise (fun p q=>bytesBefore p.1 q.1=true)

def entE (p:List UInt8×List UInt8):Lit×DataW Unit:=(.string p.1,.lit (.string p.2))
def YR (L:zl):DataW Unit:=.map (L.map entE)

def insE (x:List UInt8×List UInt8):zl→zl
 | []=>[x]
 | y::r=>if bytesBefore x.1 y.1 then x::y::r else y::insE x r
def vx (L:zl) (k:List UInt8):zl:=L.filter (fun p=>!(p.1 == k))
def vl (L:zl) (k v:List UInt8):zl:=insE (k,v) (vx L k)
def yE (L:zl) (k:List UInt8):Bool:=L.any (fun p=>p.1 == k)
def yM (L:zl) (k:List UInt8):List UInt8:=match L.find? (fun p=>p.1 == k) with | some p=>p.2 | none=>[]

theorem datE_ins (x:List UInt8×List UInt8):∀ L:zl,(insE x L).map entE=DataW.insert (entE x) (L.map entE)
 | []=>rfl
 | y::r=>by
  simp only [insE,List.map_cons,DataW.insert]
  have e:(entE x).1.before (entE y).1=bytesBefore x.1 y.1:=rfl
  rw [e]
  cases bytesBefore x.1 y.1
  ·
   simp [datE_ins x r]
  ·
   simp

theorem Jf (k:List UInt8):∀ L:zl,(vx L k).map entE=(L.map entE).filter (fun p=>!p.1.sameKey (.string k))
 | []=>rfl
 | y::r=>by
  have ih:=Jf k r
  unfold vx at ih ⊢
  have e:(entE y).1.sameKey (.string k)=(y.1 == k):=rfl
  simp only [List.filter_cons,List.map_cons,e]
  cases (y.1 == k) <;> simp [ih]

theorem datE_put (L:zl) (k v:List UInt8):(YR L).put (.string k) (.lit (.string v))=YR (vl L k v):=by
 unfold YR vl
 rw [datE_ins,Jf]; rfl
theorem datE_del (L:zl) (k:List UInt8):(YR L).del (.string k)=YR (vx L k):=by
 unfold YR
 rw [Jf]; rfl
theorem datE_has (L:zl) (k:List UInt8):Maps.has (YR L) (.string k)=yE L k:=by
 unfold YR yE
 rw [Maps.has_eq,List.any_map]; rfl
theorem datE_at (L:zl) (k:List UInt8):(YR L).atKey (.string k) (.lit (.string []))=.lit (.string (yM L k)):=by
 unfold YR yM
 unfold DataW.atKey
 simp only [List.find?_map]
 have e:((fun p:Lit×DataW Unit=>p.1.sameKey (.string k)) ∘ entE)=(fun p=>p.1 == k):=rfl
 rw [e]
 cases L.find? (fun p=>p.1 == k) <;> rfl
theorem Vb (L:zl):Maps.size (YR L)=L.length:=by simp [YR,Maps.size]
theorem datE_keys (L:zl):strKeys (YR L)=L.map (·.1):=by
 simp only [YR,strKeys,List.map_map]; rfl

/-! ### the order -/
theorem qR:∀ a b:List UInt8,decide (Lib.compareBytes a b<0)=bytesBefore a b
 | [],[]=>by simp [Lib.compareBytes,bytesBefore]
 | [],_::_=>by simp [Lib.compareBytes,bytesBefore]
 | _::_,[]=>by simp [Lib.compareBytes,bytesBefore]
 | a::r,b::s=>by
  unfold Lib.compareBytes bytesBefore
  by_cases h:a<b
  ·
   simp [h]
  ·
   by_cases h2:b<a
   ·
    have hn:a≠b:=fun e=>by subst e; exact h h2
    simp [h,h2,hn]
   ·
    have e:a=b:=by
     have h1:=UInt8.not_lt.1 h; have h3:=UInt8.not_lt.1 h2
     exact UInt8.le_antisymm h3 h1
    subst e
    simp [qR r s]

theorem zA (a:List UInt8):bytesBefore a a=false:=WideAt.bytes_irrefl a
theorem qj {a b:List UInt8} (h:bytesBefore a b=true):a≠b:=fun e=>by subst e; rw [zA] at h; cases h
theorem vF {a b:List UInt8} (h:bytesBefore a b=true):bytesBefore b a=false:=by
 cases hb:bytesBefore b a
 ·
  rfl
 ·
  exact absurd (WideShapes.bytes_trans _ _ _ h hb) (by rw [zA]; exact Bool.noConfusion)

theorem uL {L:zl} (h:uy L) (k:List UInt8):uy (vx L k):=h.filter _
theorem ZY {x y:List UInt8×List UInt8}:∀ {L:zl},y∈insE x L↔y=x∨y∈L
 | []=>by simp [insE]
 | z::r=>by
  unfold insE
  split
  ·
   simp
  ·
   simp only [List.mem_cons,ZY (L:=r)]
   constructor
   ·
    rintro (h | h | h)
    ·
     exact .inr (.inl h)
    ·
     exact .inl h
    ·
     exact .inr (.inr h)
   ·
    rintro (h | h | h)
    ·
     exact .inr (.inl h)
    ·
     exact .inl h
    ·
     exact .inr (.inr h)
theorem rise_ins {x:List UInt8×List UInt8}:∀ {L:zl},uy L→(∀ p∈L,p.1≠x.1)→uy (insE x L)
 | [],_,_=>by simp [insE,uy]
 | y::r,h,hn=>by
  unfold insE
  obtain ⟨h1,h2⟩:=List.pairwise_cons.1 h
  split
  ·
   rename_i hb
   exact List.pairwise_cons.2 ⟨fun p hp=>by
    rcases List.mem_cons.1 hp with rfl | hp
    ·
     exact hb
    ·
     exact WideShapes.bytes_trans _ _ _ hb (h1 p hp),h⟩
  ·
   rename_i hb
   have hyx:bytesBefore y.1 x.1=true:=by
    rcases WideAt.bytes_total y.1 x.1 (hn y (by simp)) with h' | h'
    ·
     exact h'
    ·
     exact absurd h' hb
   exact List.pairwise_cons.2 ⟨fun p hp=>by
    rcases ZY.1 hp with rfl | hp
    ·
     exact hyx
    ·
     exact h1 p hp,rise_ins h2 (fun p hp=>hn p (by simp [hp]))⟩
theorem yC {L:zl} {k:List UInt8} {p:List UInt8×List UInt8}:p∈vx L k↔p∈L∧p.1≠k:=by
 unfold vx; simp
theorem uK {L:zl} (h:uy L) (k v:List UInt8):uy (vl L k v) :=
 rise_ins (uL h k) (fun _ hp=>(yC.1 hp).2)

theorem UI (x:List UInt8×List UInt8):∀ L:zl,(insE x L).length=L.length+1
 | []=>rfl
 | y::r=>by unfold insE; split <;> simp [UI x r]
theorem xW {L:zl} {k:List UInt8}:yE L k=true↔∃ p∈L,p.1=k:=by simp [yE]
theorem qQ {L:zl} {k:List UInt8} (h:yE L k=false):vx L k=L:=by
 unfold vx; rw [List.filter_eq_self]
 intro p hp
 cases e:(p.1 == k)
 ·
  rfl
 ·
  have:yE L k=true:=xW.2 ⟨p,hp,by simpa using e⟩
  rw [h] at this; cases this
theorem UT {L:zl} (hr:uy L) {k:List UInt8} (h:yE L k=true):(vx L k).length+1=L.length:=by
 induction L with
 | nil=>simp [yE] at h
 | cons y r ih =>
  obtain ⟨h1,h2⟩:=List.pairwise_cons.1 hr
  by_cases e:y.1=k
  ·
   have hn:yE r k=false:=by
    cases hh:yE r k
    ·
     rfl
    ·
     obtain ⟨p,hp,hk⟩:=xW.1 hh
     exact absurd (h1 p hp) (by rw [e,hk,zA]; exact Bool.noConfusion)
   have e2:=qQ hn
   unfold vx at e2 ⊢
   simp [e,e2]
  ·
   have hh:yE r k=true:=by
    obtain ⟨p,hp,hk⟩:=xW.1 h
    rcases List.mem_cons.1 hp with rfl | hp
    ·
     exact absurd hk e
    ·
     exact xW.2 ⟨p,hp,hk⟩
   have:=ih h2 hh
   unfold vx at this ⊢
   have e':(y.1 == k)=false:=by simpa using e
   rw [List.filter_cons]
   simp only [e',Bool.not_false,if_true,List.length_cons]
   omega
theorem vI {L:zl} (hr:uy L) (k v:List UInt8):(vl L k v).length=if yE L k then L.length else L.length+1:=by
 unfold vl
 rw [UI]
 cases h:yE L k
 ·
  rw [qQ h]; simp
 ·
  have:=UT hr h; simp; omega

theorem jG {L:zl} (hr:uy L) {q:List UInt8×List UInt8} (h:q∈L):yM L q.1=q.2:=by
 induction L with
 | nil=>cases h
 | cons y r ih =>
  obtain ⟨h1,h2⟩:=List.pairwise_cons.1 hr
  rcases List.mem_cons.1 h with rfl | h
  ·
   simp [yM]
  ·
   have hne:(y.1 == q.1)=false:=by
    have:=qj (h1 q h)
    simpa using this
   have:=ih h2 h
   unfold yM at this ⊢
   rw [List.find?_cons,hne]
   exact this

/-! ### sorting what a map gave -/
theorem Ur {L:zl} (hr:uy L) {ss:List (List UInt8)} (hp:ss.Perm (L.map (·.1))) (le:List UInt8→List UInt8→Bool) (hle:∀ x y,le x y=!bytesBefore y x):ss.mergeSort le=L.map (·.1):=by
 have htr:∀ a b c,le a b=true→le b c=true→le a c=true:=by
  intro a b c h1 h2
  rw [hle] at *
  simp only [Bool.not_eq_eq_eq_not,Bool.not_true] at *
  cases hca:bytesBefore c a
  ·
   rfl
  ·
   by_cases e:a=b
   ·
    subst e; rw [hca] at h2; cases h2
   ·
    rcases WideAt.bytes_total a b e with h | h
    ·
     rw [WideShapes.bytes_trans _ _ _ hca h] at h2; cases h2
    ·
     rw [h] at h1; cases h1
 have htot:∀ a b,(le a b || le b a)=true:=by
  intro a b
  rw [hle,hle]
  cases h:bytesBefore b a
  ·
   rfl
  ·
   rw [vF h]; rfl
 have hs:(ss.mergeSort le).Pairwise (fun a b=>le a b=true):=List.pairwise_mergeSort htr htot ss
 have hq:(ss.mergeSort le).Perm (L.map (·.1)):=(List.mergeSort_perm ss le).trans hp
 have hL:(L.map (·.1)).Pairwise (fun a b=>le a b=true):=by
  rw [List.pairwise_map]
  exact hr.imp (fun h=>by rw [hle,vF h]; rfl)
 refine List.Perm.eq_of_pairwise (le:=fun a b=>le a b=true) ?_ hs hL hq
 intro a b _ _ h1 h2
 rw [hle] at h1 h2
 by_cases e:a=b
 ·
  exact e
 ·
  rcases WideAt.bytes_total a b e with h | h
  ·
   rw [h] at h2; cases h2
  ·
   rw [h] at h1; cases h1

end Go.Proofs.YteegkoicalbkbaaGreatDoor
namespace Go.Proofs.YteegkoicalbkbaaGreatDoor
open Go.RowKit Go.Maps

theorem Qu {H:Type} {w:World} {P:Program} {k:TypeId} {R:Value→Option (DataW H×List MemPlace)} {b n:Nat} {D:DataW H} (h:w.ownsMap P k R b n D):w.ownsMap P k R b (Maps.size D) D:=by
 obtain ⟨es,clock,hb,F,_,rfl⟩:=h
 have e1:Maps.size (DataW.map ((es.toList.map (WideElems.rg P k R)).foldr DataW.insert []))=es.size:=by simp [Maps.size,length_sorted]
 exact ⟨es,clock,hb,F,by rw [e1]; exact Nat.le_refl _,rfl⟩

def fA (w:World) (b:Nat) (L:zl):Prop:=w.ownsMap Tryz.prog 9 (plainElem Tryz.prog 9) b L.length (YR L)
theorem fA.of {w:World} {b n:Nat} {L:zl} (h:w.ownsMap Tryz.prog 9 (plainElem Tryz.prog 9) b n (YR L)):fA w b L:=by
 have:=Qu h
 rwa [Vb] at this
theorem fA.kept {w w':World} {b:Nat} {L:zl} (h:fA w b L) (hb:w'.heap[b]? = w.heap[b]?):fA w' b L:=by
 obtain ⟨es,clock,h1,r⟩:=h
 exact ⟨es,clock,hb.trans h1,r⟩

structure vh (w:World) (B:Nat) (p:Option Nat) (L:zl):Prop where
 blk:w.heap[B]? = some (.cells #[.map p] 120 (0,0))
 nil:p=none→L=[]
 map:∀ b,p=some b→fA w b L
 rise:uy L
 few:L.length≤12
 all:∀ q∈L,q.1.length≤12∧q.2.length≤12

section
variable {w w':World} {B:Nat} {p:Option Nat} {L:zl}
theorem vh.lt (h:vh w B p L):B<w.heap.size:=(Array.getElem?_eq_some_iff.1 h.blk).1
theorem vh.mlt (h:vh w B p L):∀ b,p=some b→b<w.heap.size:=fun b hb=>(h.map b hb).lt
theorem vh.cell (h:vh w B p L):w.cell? ⟨B,0,none⟩=some (.map p):=by simp [World.cell?,h.blk]
theorem vh.frozen (h:vh w B p L):w.frozen? ⟨B,0,none⟩=false:=by simp [World.frozen?,h.blk]
theorem vh.apart (h:vh w B p L):∀ b,p=some b→b≠B:=fun b hb e=>by
 obtain ⟨es,clock,h1,_⟩:=h.map b hb
 subst e
 rw [h.blk] at h1
 cases h1
theorem vh.turns {S:Nat→Prop} (h:vh w B p L) (ht:zg S w w') (hB:¬ S B) (hp:∀ b,p=some b→¬ S b):vh w' B p L :=
 ⟨(ht.block B h.lt hB).trans h.blk,h.nil,fun b hb=>(h.map b hb).kept (ht.block b (h.mlt b hb) (hp b hb)),h.rise,h.few,h.all⟩
theorem vh.later (h:vh w B p L) (hb:Below w.heap.size w w'):vh w' B p L:=h.turns (zg.of_below hb (fun _=>False)) (fun f=>f) (fun _ _ f=>f)
end

def yU (w:World) (B:Nat) (p:Option Nat) (L':zl) (w':World):Prop:=∃ p',vh w' B p' L'∧(∀ b,p'=some b→p=some b∨w.heap.size≤b)∧zg (fun i=>i=B∨p=some i) w w'
theorem yU.still {w w':World} {B:Nat} {p:Option Nat} {L:zl} (h:vh w B p L) (hb:Below w.heap.size w w'):yU w B p L w' :=
 ⟨p,h.later hb,fun _ e=>.inl e,zg.of_below hb _⟩
theorem yU.ahead {w w1 w':World} {B:Nat} {p:Option Nat} {L':zl} (hb:Below w.heap.size w w1) (h:yU w1 B p L' w'):yU w B p L' w':=by
 obtain ⟨p',hd,hp,ht⟩:=h
 exact ⟨p',hd,fun b e=>(hp b e).imp id (fun h=>Nat.le_trans hb.size h),(zg.of_below hb _).next ht (fun i _ h=>h)⟩
theorem yU.behind {w w1 w':World} {B:Nat} {p:Option Nat} {L':zl} (h:yU w B p L' w1) (hb:Below w1.heap.size w1 w'):yU w B p L' w':=by
 obtain ⟨p',hd,hp,ht⟩:=h
 exact ⟨p',hd.later hb,hp,ht.next (zg.of_below hb (fun _=>False)) (fun _ _ f=>f.elim)⟩

theorem jn:Keyed Tryz.prog 9:=string_keyed Tryz.underlying9
theorem Q7 (w:World):(zeroValue 9).run Tryz.prog w=.ok (.string ⟨#[]⟩) w:=by kernel_rfl
theorem key7 (s:ByteArray) (h:s.size≤maxLen):keyOf Tryz.prog 9 (.string s)=some (.string s.data.toList):=WideMaps.keyOf_string_mk Tryz.underlying9 h

def tx7 (l:List UInt8):ByteArray:=⟨l.toArray⟩
theorem xz (l:List UInt8):(tx7 l).data.toList=l:=by simp [tx7]
theorem jQ (s:ByteArray):tx7 s.data.toList=s:=by simp [tx7]

theorem look7 {w:World} {B:Nat} {p:Option Nat} {L:zl} (h:vh w B p L) (s:ByteArray) (hs:s.size≤maxLen) :
  (Instr.lookup 118 (.map p) (.string s) true).run Tryz.prog w=.ok (.tuple #[.string (tx7 (yM L s.data.toList)),.bool (yE L s.data.toList)]) w:=by
 cases p with
 | none =>
  have hL:=h.nil rfl
  subst hL
  have:=Maps.look_nil (P:=Tryz.prog) (w:=w) (t:=118) true jn Tryz.underlying118 (Q7 w) (key7 s hs)
  exact this
 | some b =>
  obtain ⟨v,ps,hrun,hv⟩:=(h.map b rfl).look_ok jn Tryz.underlying118 (Q7 w) (plainElem_string (H:=Unit) Tryz.underlying9 (s:=⟨#[]⟩) (by decide)) (key7 s hs)
  obtain ⟨c,rfl,hc,_⟩:=plainElem_string_inv Tryz.underlying9 hv
  rw [hrun,datE_has]
  have e:(YR L).atKey (.string s.data.toList) (.lit (.string []))=.lit (.string (yM L s.data.toList)):=datE_at L _
  have hc':(YR L).atKey (.string s.data.toList) (.lit (.string []))=.lit (.string c.data.toList):=congrArg Prod.fst hc
  rw [e] at hc'
  have:yM L s.data.toList=c.data.toList:=by simpa using hc'
  rw [this,jQ]
theorem look71 {w:World} {B:Nat} {p:Option Nat} {L:zl} (h:vh w B p L) (s:ByteArray) (hs:s.size≤maxLen) :
  (Instr.lookup 118 (.map p) (.string s) false).run Tryz.prog w=.ok (.string (tx7 (yM L s.data.toList))) w:=by
 cases p with
 | none =>
  have hL:=h.nil rfl
  subst hL
  have:=Maps.look_nil (P:=Tryz.prog) (w:=w) (t:=118) false jn Tryz.underlying118 (Q7 w) (key7 s hs)
  exact this
 | some b =>
  obtain ⟨v,ps,hrun,hv⟩:=(h.map b rfl).lookup jn Tryz.underlying118 (Q7 w) (plainElem_string (H:=Unit) Tryz.underlying9 (s:=⟨#[]⟩) (by decide)) (key7 s hs)
  obtain ⟨c,rfl,hc,_⟩:=plainElem_string_inv Tryz.underlying9 hv
  rw [hrun]
  have e:(YR L).atKey (.string s.data.toList) (.lit (.string []))=.lit (.string (yM L s.data.toList)):=datE_at L _
  have hc':(YR L).atKey (.string s.data.toList) (.lit (.string []))=.lit (.string c.data.toList):=congrArg Prod.fst hc
  rw [e] at hc'
  have:yM L s.data.toList=c.data.toList:=by simpa using hc'
  rw [this,jQ]
theorem len7 {w:World} {B:Nat} {p:Option Nat} {L:zl} (h:vh w B p L) (ty:TypeId):(Builtin.len_ #[118] ty #[.map p]).run Tryz.prog w=.ok (.int .i64 L.length) w:=by
 cases p with
 | none =>
  have hL:=h.nil rfl
  subst hL
  exact Maps.len_nil Tryz.underlying118 ty
 | some b =>
  have:=(h.map b rfl).len (t:=118) Tryz.underlying118 ty
  rwa [Vb] at this
theorem nilmap7 (w:World) (p:Option Nat):(binOp .eql 118 (.map p) (.map none)).run Tryz.prog w=.ok (.bool p.isNone) w :=
 run_eql_map_nil_sl w 118 _ _ p Tryz.underlying118

set_option maxRecDepth 100000 in
theorem UM (B:Nat) (p:Option Nat) (L:zl) (s:ByteArray) (w:World) (h:vh w B p L) (hs:s.size≤maxLen) :
  Calls Tryz.prog 399 #[.pointer (some ⟨B,0,none⟩),.string s] w (yL (yE L s.data.toList) w):=by
 have hc:=h.cell
 have hl:=look7 h s hs
 generalize yE L s.data.toList=r at *
 generalize tx7 (yM L s.data.toList)=g at *
 clear h hs
 go_enter Tryz.func399,Tryz.ntmps399
 go_wp2
 go_ret
 exact ⟨rfl,Below.refl _ _⟩

set_option maxRecDepth 100000 in
theorem UF (B:Nat) (p:Option Nat) (L:zl) (w:World) (h:vh w B p L) :
  Calls Tryz.prog 301 #[.pointer (some ⟨B,0,none⟩)] w fun e w'=>e=.returned (.int .i64 L.length)∧w'=w:=by
 have hc:=h.cell
 have hl:=len7 h
 generalize L.length=n at *
 clear h
 go_enter Tryz.func301,Tryz.ntmps301
 go_wp2
 go_ret
 exact ⟨rfl,rfl⟩

set_option maxRecDepth 100000 in
theorem new7_calls (w:World):Calls Tryz.prog 29 #[] w fun e w'=>e=.returned (.pointer (some ⟨w.heap.size,0,none⟩))∧w'=w.alloc (.cells #[.map none] 120):=by
 go_enter Tryz.func29,Tryz.ntmps29
 go_wp2
 go_ret
 exact ⟨rfl,rfl⟩
theorem dir7_new (w:World):vh (w.alloc (.cells #[.map none] 120)) w.heap.size none [] :=
 ⟨(MapKept.heap_alloc w _).1,fun _=>rfl,(fun _ h=>nomatch h),List.Pairwise.nil,by simp,(fun _ h=>nomatch h)⟩
end Go.Proofs.YteegkoicalbkbaaGreatDoor
namespace Go.Proofs.YteegkoicalbkbaaGreatDoor
open Go.RowKit

section
variable {P:Program} {ops:Array Oper} {Q:Exit→Act→World→Prop}

def FW (ops:Array Oper) (i:Nat):List Nat:=match ops[i]? with
 | some o=>(o.after.toList.filter (Region.binds .any)).map (·.on)
 | none=>[]
def ancL (ops:Array Oper):Nat→List Nat→List Nat
 | 0,S=>S
 | j+1,S=>ancL ops j (if S.contains j then S++FW ops j else S)

theorem FV {o:Oper} {i:Nat} {L:Nat→Bool} (ho:ops[i]? = some o) (h:∀ d,(o.after.toList.any fun e=>Region.binds .any e && e.on == d)=true→L d=true):∀ a∈FW ops i,L a=true:=by
 intro a ha
 unfold FW at ha
 rw [ho] at ha
 obtain ⟨e,he,rfl⟩:=List.mem_map.1 ha
 obtain ⟨h1,h2⟩:=List.mem_filter.1 he
 exact h _ (List.any_eq_true.2 ⟨e,h1,by simp [h2]⟩)
theorem fS {L:Nat→Bool} (hc:fB .any ops L) {i:Nat} (hi:L i=true):∀ a∈FW ops i,L a=true:=by
 cases ho:ops[i]? with
 | none=>intro a ha; unfold FW at ha; rw [ho] at ha; cases ha
 | some o=>exact FV ho (hc i o ho hi)
theorem X9 {L:Nat→Bool} (hc:fB .any ops L):∀ (j:Nat) (S:List Nat),(∀ a∈S,L a=true)→∀ a∈ancL ops j S,L a=true
 | 0,_,h,a,ha=>h a ha
 | j+1,S,h,a,ha=>by
  unfold ancL at ha
  refine X9 hc j _ ?_ a ha
  intro b hb
  split at hb
  ·
   rename_i hj
   rcases List.mem_append.1 hb with hb | hb
   ·
    exact h b hb
   ·
    exact fS hc (h j (by simpa using hj)) b hb
  ·
   exact h b hb

theorem closed_upd {L:Nat→Bool} (hc:fB .any ops L) {i:Nat} {o:Oper} (ho:ops[i]? = some o) (hd:∀ d,(o.after.toList.any fun e=>Region.binds .any e && e.on == d)=true→L d=true):fB .any ops (ud L i):=by
 intro j oj hoj hLj d hdd
 unfold ud at hLj ⊢
 by_cases e:d=i
 ·
  rw [if_pos e]
 ·
  rw [if_neg e]
  by_cases ej:j=i
  ·
   subst ej
   rw [ho] at hoj
   injection hoj with hoj
   subst hoj
   exact hd d hdd
  ·
   rw [if_neg ej] at hLj
   exact hc j oj hoj hLj d hdd

theorem allO_at {φ:Nat→Oper→Prop}:∀ {l:List Oper} {k:Nat},(∀ i o,l[i]? = some o→φ (k+i) o)→AllO φ l k
 | [],_,_=>trivial
 | x::r,k,h=>⟨h 0 x rfl,allO_at fun i o ho=>by
  have:=h (i+1) o (by simpa using ho)
  rwa [show k+(i+1)=k+1+i by omega] at this⟩
theorem allO_of {φ:Nat→Oper→Prop} {l:List Oper} (h:∀ i o,l[i]? = some o→φ i o):AllO φ l 0:=allO_at fun i o ho=>by
 rw [Nat.zero_add]; exact h i o ho

theorem zB {id:Nat} {w:World} {a:Act} (hm:P.follows .mixedOrders=true) (last:Nat) (R D:World→Prop) (Y:Nat→Value→World→Prop) (Z:Value→Prop) (F:(Nat→Value)→Act) (hF:∀ x,xU (ops.toList.map (·.dst)) x 0 a=F x)
  (hap:jo (ops.toList.map (·.dst))=true) (hback:(ops.toList.zipIdx.all fun p=>p.1.after.all fun e=>!(Region.binds .any e) || decide (e.on<p.2))=true)
  (hanc:((List.range last).all fun i=>(ancL ops last (FW ops last)).contains i)=true) (hbeh:((List.range ops.size).all fun j=>decide (j≤last) || (ancL ops j (FW ops j)).contains last)=true) (hlt:last<ops.size) (hR:R w.drew)
  (step:AllO (fun i o=>∀ (x:Nat→Value) (w:World),
   (i<last→R w→(∀ j,(o.after.toList.any fun e=>Region.binds .any e && e.on == j)=true→Y j (x j) w) →
    ∀ K:Act→World→Prop,(∀ v w',Y i v w'→R w'→(∀ j u,Y j u w→Y j u w')→K ((F x).put o.dst v) w') →
     if Region.wanted o (yielded ops (F x).tmps)=true then Oper.wp P o (F x) w K Q else K ((F x).put o.dst undef) w) ∧
   (i=last→R w→(∀ j,(o.after.toList.any fun e=>Region.binds .any e && e.on == j)=true→Y j (x j) w) →
    ∀ K:Act→World→Prop,(∀ v w',Z v→D w'→K ((F x).put o.dst v) w') →
     if Region.wanted o (yielded ops (F x).tmps)=true then Oper.wp P o (F x) w K Q else K ((F x).put o.dst undef) w) ∧
   (last<i→D w→(∀ j,(o.after.toList.any fun e=>Region.binds .any e && e.on == j)=true→last≤j→Z (x j)) →
    ∀ K:Act→World→Prop,(∀ v,Z v→K ((F x).put o.dst v) w) →
     if Region.wanted o (yielded ops (F x).tmps)=true then Oper.wp P o (F x) w K Q else K ((F x).put o.dst undef) w)) ops.toList 0)
  (fin:∀ (x:Nat→Value) (w:World),D w→(∀ j,last≤j→j<ops.size→Z (x j))→Q .normal (F x) w):(Code.region id ops true).wp P Q a w:=by
 refine vi hm (fun L x W=>fB .any ops L∧(∀ j,L j=true→j<ops.size)∧((L last=false∧R W∧∀ j,L j=true→Y j (x j) W)∨(L last=true∧D W∧∀ j,L j=true→last≤j→Z (x j)))) F hF hap hback
  (fun _=>⟨(fun _ _ _ h=>nomatch h),(fun _ h=>nomatch h),.inl ⟨rfl,hR,(fun _ h=>nomatch h)⟩⟩) ?_ ?_
 ·
  have hat:=fun i o h=>step.at_ i o h
  have gen:∀ (i:Nat) (o:Oper),ops.toList[i]? = some o→∀ (L:Nat→Bool) (x:Nat→Value) (w:World),L i=false→(∀ d,(o.after.toList.any fun e=>Region.binds .any e && e.on == d)=true→L d=true) →
    (fB .any ops L∧(∀ j,L j=true→j<ops.size)∧((L last=false∧R w∧∀ j,L j=true→Y j (x j) w)∨(L last=true∧D w∧∀ j,L j=true→last≤j→Z (x j)))) →
    ∀ K:Act→World→Prop,(∀ v w',(fB .any ops (ud L i)∧(∀ j,ud L i j=true→j<ops.size)∧((ud L i last=false∧R w'∧∀ j,ud L i j=true→Y j (upd x i v j) w')∨(ud L i last=true∧D w'∧∀ j,ud L i j=true→last≤j→Z (upd x i v j))))→K ((F x).put o.dst v) w') →
     if Region.wanted o (yielded ops (F x).tmps)=true then Oper.wp P o (F x) w K Q else K ((F x).put o.dst undef) w:=by
   intro i o ho L x w hLi hd hI K hK
   have ho':ops[i]? = some o:=by simpa using ho
   have hisz:i<ops.size:=(Array.getElem?_eq_some_iff.1 ho').1
   obtain ⟨hcl,hsz,hI⟩:=hI
   have hcu:=closed_upd hcl ho' hd
   have hsu:∀ j,ud L i j=true→j<ops.size:=by
    intro j hj
    unfold ud at hj
    by_cases e:j=i
    ·
     rw [e]; exact hisz
    ·
     rw [if_neg e] at hj; exact hsz j hj
   obtain ⟨s1,s2,s3⟩:=hat i o ho x w
   rw [Nat.zero_add] at s1 s2 s3
   have hbl:∀ j,last<j→j<ops.size→last∈ancL ops j (FW ops j):=by
    intro j h1 h2
    have:=List.all_eq_true.1 hbeh j (List.mem_range.2 h2)
    rw [decide_eq_false (by omega),Bool.false_or] at this
    simpa using this
   rcases hI with ⟨h0,hRw,hY⟩ | ⟨h1,hDw,hZ⟩
   ·
    rcases Nat.lt_trichotomy i last with hil | rfl | hil
    ·
     refine s1 hil hRw (fun j hj=>hY j (hd j hj)) K fun v w' hy hr hk=>hK v w' ⟨hcu,hsu,.inl ⟨?_,hr,?_⟩⟩
     ·
      rw [show ud L i last=L last from if_neg (by omega)]; exact h0
     ·
      intro j hj
      by_cases e:j=i
      ·
       subst e; rw [show upd x j v j=v from if_pos rfl]; exact hy
      ·
       rw [show upd x i v j=x j from if_neg e]
       rw [show ud L i j=L j from if_neg e] at hj
       exact hk j _ (hY j hj)
    ·
     refine s2 rfl hRw (fun j hj=>hY j (hd j hj)) K fun v w' hz hdw=>hK v w' ⟨hcu,hsu,.inr ⟨if_pos rfl,hdw,?_⟩⟩
     intro j hj hle
     by_cases e:j=i
     ·
      subst e; rw [show upd x j v j=v from if_pos rfl]; exact hz
     ·
      rw [show ud L i j=L j from if_neg e] at hj
      have:=X9 hcl j _ (fS hcl hj) i (hbl j (by omega) (hsz j hj))
      rw [hLi] at this
      cases this
    ·
     exfalso
     have:=X9 hcl i _ (FV ho' hd) last (hbl i hil hisz)
     rw [h0] at this
     cases this
   ·
    rcases Nat.lt_trichotomy i last with hil | rfl | hil
    ·
     exfalso
     have h2:=List.all_eq_true.1 hanc i (List.mem_range.2 hil)
     have:=X9 hcl last _ (fS hcl h1) i (by simpa using h2)
     rw [hLi] at this
     cases this
    ·
     rw [hLi] at h1; cases h1
    ·
     refine s3 hil hDw (fun j hj hle=>hZ j (hd j hj) hle) K fun v hz=>hK v w ⟨hcu,hsu,.inr ⟨?_,hDw,?_⟩⟩
     ·
      rw [show ud L i last=L last from if_neg (by omega)]; exact h1
     ·
      intro j hj hle
      by_cases e:j=i
      ·
       subst e; rw [show upd x j v j=v from if_pos rfl]; exact hz
      ·
       rw [show upd x i v j=x j from if_neg e]
       rw [show ud L i j=L j from if_neg e] at hj
       exact hZ j hj hle
  exact allO_of gen
 ·
  intro L x w hall ⟨_,_,hI⟩
  rcases hI with ⟨h0,_⟩ | ⟨_,hDw,hZ⟩
  ·
   rw [hall last hlt] at h0; cases h0
  ·
   exact fin x w hDw (fun j h1 h2=>hZ j (hall j h2) h1)
end
end Go.Proofs.YteegkoicalbkbaaGreatDoor
namespace Go.Proofs.YteegkoicalbkbaaGreatDoor
open Go.RowKit Go.Maps Go.Sort Go.Shelf

theorem lt7 (x y:List UInt8):ltOf Lib.compareBytes x y=bytesBefore x y:=qR x y
theorem swo7:SWO (ltOf Lib.compareBytes) where
 irrefl x:=by rw [lt7]; exact zA x
 trans x y z h1 h2:=by rw [lt7] at *; exact WideShapes.bytes_trans _ _ _ h1 h2
 ntrans x y z h1 h2:=by
  rw [lt7] at *
  cases h:bytesBefore x z
  ·
   rfl
  ·
   by_cases e:x=y
   ·
    subst e; rw [h] at h2; cases h2
   ·
    rcases WideAt.bytes_total x y e with h' | h'
    ·
     rw [h'] at h1; cases h1
    ·
     rw [WideShapes.bytes_trans _ _ _ h' h] at h2; cases h2
theorem tot7 (x y:List UInt8) (h1:ltOf Lib.compareBytes x y=false) (h2:ltOf Lib.compareBytes y x=false):x=y:=by
 rw [lt7] at *
 by_cases e:x=y
 ·
  exact e
 ·
  rcases WideAt.bytes_total x y e with h' | h'
  ·
   rw [h'] at h1; cases h1
  ·
   rw [h'] at h2; cases h2
theorem cmp7 (blk off size:Nat) (w:World):CmpLays1 Tryz.prog 188 #[] encStr Lib.compareBytes blk off size w :=
 CmpReads.lays fun _ _ _ _ x y=>(jg ⟨x.toArray⟩ ⟨y.toArray⟩ _).mono fun e w' ⟨he,hw⟩=>⟨by rw [he],0,hw⟩

set_option maxRecDepth 100000 in
theorem fm (g:Nat) (lb:Array Value) (S:List (List UInt8)→Prop) (N:Nat) (w:World) (eg:∀ args w,(callFunc g args).run Tryz.prog w=.ok (.enter g args) w) (hN:N≤1000) (hSN:∀ ss,S ss→ss.length≤1000) (hseq:SeqGives Fence.wide 2 Tryz.prog g lb encStr S N w) :
  Calls Tryz.prog 227 #[.func (.func g) #[] lb,.func (.func 188) #[] #[]] w fun e w'=>∃ (v:Value) (ss:List (List UInt8)),e=.returned v∧S ss ∧
   w'.ownsRow w.heap.size 9 1 v ss.length ((ss.mergeSort (fun x y=>!(ltOf Lib.compareBytes) y x)).map encStr)∧(v=.slice none 0 0↔ss=[])∧Below w.heap.size w w':=by
 have cC:Calls Tryz.prog 241 #[.func (.func g) #[] lb] w fun e w'=>∃ (v:Value) (ss:List (List UInt8)),e=.returned v∧S ss∧w'.ownsRow w.heap.size 9 1 v ss.length (ss.map encStr)∧(v=.slice none 0 0↔ss=[])∧Below w.heap.size w w' :=
  (callsIn_wide (n:=4)).1 (AnyZ.collect_in Tryz.collect7 Fence.wide 4 trivial trivial rfl (by omega) g lb trivial eg S N (Nat.le_trans hN (by decide)) (by omega) w hseq)
 have HC:=za cC
 have HS:Hid (∀ (blk cap:Nat) (ss:List (List UInt8)) (W:World),Holds encStr W blk 0 ss.toArray→blk<W.heap.size→ss.length<4611686018427387904 →
   Calls Tryz.prog 242 #[.slice (some ⟨blk,0,none⟩) ss.length cap,.func (.func 188) #[] #[]] W fun e w'=>e=.returned (.tuple #[])∧∃ n os,w'=grow (putRow encStr (Sort.ahead W n) blk 0 (ss.mergeSort fun x y=>!(ltOf Lib.compareBytes) y x).toArray) os):=fun blk cap ss W hH hb hl=>by
  have:=Tryz.slices_SortFunc_total encStr (fun _=>rfl) Lib.compareBytes swo7 188 #[] blk 0 cap ss.toArray W (enters_of Tryz.func188 (by kernel_rfl) rfl) (cmp7 blk 0 _ W) hH hb (by simpa using hl) tot7
  simpa [sortWorld] using this
 have HS0:Hid (∀ (cap:Nat) (W:World),Calls Tryz.prog 242 #[.slice none 0 cap,.func (.func 188) #[] #[]] W fun e w'=>e=.returned (.tuple #[])∧w'=W):=fun cap W=>Tryz.slices_SortFunc_none (α:=List UInt8) none cap _ W
 clear cC hseq
 go_enter Tryz.func227,Tryz.ntmps227
 go_wp2_with fail
 with_reducible refine HC.out.mono ?_
 rintro e W ⟨v,ss,rfl,hS,hrow,hnil,hb⟩
 have hln:=hSN _ hS
 have HSS:=za hS
 have HNL:=za hnil
 have HB:=za hb
 have HR:=za hrow
 clear hS hnil hb HC
 rcases hrow.2 with ⟨rfl,hz⟩ | ⟨gb,cap,cur,rfl,hbase,hgb,r1,r2,r3,r4⟩
 ·
  have hss:ss=[]:=List.eq_nil_of_length_eq_zero hz
  subst hss
  clear hrow hz hln hSN
  go_wp2_with (go_at_call 242; (with_reducible refine (HS0.out _ _).mono ?_); rintro e w' ⟨rfl,rfl⟩)
  go_ret
  exact ⟨.slice none 0 0,[],rfl,HSS.out,by simpa using HR.out,by simp,HB.out⟩
 ·
  have hH:Holds encStr W gb 0 ss.toArray:=holds_of_block hgb (by simpa using r4)
  have hgl:gb<W.heap.size:=(Array.getElem?_eq_some_iff.1 hgb).1
  have cS:=za (HS.out gb cap ss W hH hgl (by omega))
  have HF:Hid (∀ n os,(grow (putRow encStr (Sort.ahead W n) gb 0 (ss.mergeSort fun x y=>!(ltOf Lib.compareBytes) y x).toArray) os).ownsRow w.heap.size 9 1 (.slice (some ⟨gb,0,none⟩) ss.length cap) ss.length ((ss.mergeSort (fun x y=>!(ltOf Lib.compareBytes) y x)).map encStr) ∧
    Below w.heap.size w (grow (putRow encStr (Sort.ahead W n) gb 0 (ss.mergeSort fun x y=>!(ltOf Lib.compareBytes) y x).toArray) os)):=fun n os =>
   ⟨ownsRow_sorted (by simp) hbase hgb r1 r2 r3,HB.out.grown (grownBy_sorted _) HB.out.size (fun j hj=>by cases hj; exact hbase)⟩
  clear hrow hbase hgb r1 r2 r3 r4 hH hgl HR HB HS HS0
  generalize hts:(ss.mergeSort fun x y=>!(ltOf Lib.compareBytes) y x)=ts at cS HF
  have HT:=za hts
  clear hts hln hSN
  generalize hn:ss.length=n at *
  go_wp2_with (go_at_call 242; (with_reducible refine cS.out.mono ?_); rintro e w' ⟨rfl,nn,os,rfl⟩)
  go_ret
  subst hn
  refine ⟨_,ss,rfl,HSS.out,?_,HNL.out,(HF.out nn os).2⟩
  rw [HT.out]
  exact (HF.out nn os).1

def Names7 (L:zl) (w:World) (e:Ending) (w':World):Prop :=
 ∃ v,e=.returned v∧w'.ownsRow w.heap.size 9 1 v L.length ((L.map (·.1)).map encStr)∧(v=.slice none 0 0↔L=[])∧Below w.heap.size w w'

set_option maxRecDepth 100000 in
theorem Yw (B:Nat) (p:Option Nat) (L:zl) (w:World) (hd:vh w B p L):Calls Tryz.prog 207 #[.pointer (some ⟨B,0,none⟩)] w (Names7 L w):=by
 have eg:∀ args w,(callFunc 243 args).run Tryz.prog w=.ok (.enter 243 args) w:=enters_of Tryz.func243 (by kernel_rfl) rfl
 have bl:Below w.heap.size w (w.alloc (.cells #[.map p] 118)):=zb (Below.refl _ _) _
 have cS:∃ S:List (List UInt8)→Prop,(∀ ss,S ss→ss.Perm (L.map (·.1)))∧SeqGives Fence.wide 2 Tryz.prog 243 #[.pointer (some ⟨w.heap.size,0,none⟩)] encStr S L.length (w.alloc (.cells #[.map p] 118)):=by
  cases p with
  | none =>
   have hL:=hd.nil rfl
   subst hL
   exact ⟨fun ss=>ss=[],fun ss h=>by subst h; exact List.Perm.refl _,AnyZ.keys_gives_nil (ρ:=Tryz.keys7_ren) { Tryz.keys7 with } Fence.wide 2 trivial rfl w.heap.size _ (by simp) (by simp)⟩
  | some b =>
   have hown:=(hd.map b rfl).alloc (.cells #[.map (some b)] 118)
   have h:=AnyZ.keys_gives (ρ:=Tryz.keys7_ren) { Tryz.keys7 with } Fence.wide 2 trivial rfl (by omega) w.heap.size b _ (YR L) _ (by simp) (by simp) hown
   rw [Vb] at h
   exact ⟨_,fun ss h=>by rw [datE_keys] at h; exact h,h⟩
 obtain ⟨S,hS,hseq⟩:=cS
 have HK:Hid (Calls Tryz.prog 228 #[.map p] w fun e w'=>e=.returned (.func (.func 243) #[] #[.pointer (some ⟨w.heap.size,0,none⟩)])∧w'=w.alloc (.cells #[.map p] 118)) :=
  (callsIn_wide (n:=4)).1 (AnyZ.keys_in Tryz.keys7 Fence.wide 4 trivial rfl p w)
 have HSF:=za (fm _ _ S L.length _ eg (by have:=hd.few; omega) (fun ss h=>by rw [(hS ss h).length_eq,List.length_map]; have:=hd.few; omega) hseq)
 have HSS:Hid (∀ ss,S ss→ss.length=L.length∧ss.mergeSort (fun x y=>!(ltOf Lib.compareBytes) y x)=L.map (·.1)):=fun ss h=>by
  have hp:=hS ss h
  exact ⟨by rw [hp.length_eq,List.length_map],Ur hd.rise hp _ (fun x y=>by rw [lt7])⟩
 have hc:=hd.cell
 have BL:=za bl
 clear hseq hS hd bl
 go_enter Tryz.func207,Tryz.ntmps207
 go_wp2_with fail
 with_reducible refine HK.out.mono ?_
 rintro e w1 ⟨rfl,rfl⟩
 go_wp2_with fail
 with_reducible refine HSF.out.mono ?_
 rintro e w2 ⟨v,ss,rfl,hss,hrow,hnil,hb⟩
 obtain ⟨hl,hm⟩:=HSS.out ss hss
 have HF:Hid (Names7 L w (.returned v) w2):=by
  rw [hl,hm] at hrow
  refine ⟨v,rfl,ownsRow_base_a hrow (by simp),?_,z7 BL.out hb⟩
  rw [hnil]
  constructor
  ·
   intro e; subst e; exact List.eq_nil_of_length_eq_zero hl.symm
  ·
   intro e; subst e; exact List.eq_nil_of_length_eq_zero hl
 clear hss hrow hnil hb hl hm HSS HSF HK hc BL
 go_wp2
 go_ret
 exact HF.out
end Go.Proofs.YteegkoicalbkbaaGreatDoor
namespace Go.Proofs.YteegkoicalbkbaaGreatDoor
open Go.ChangeShapes Go.WideShapes Go.ChangeAt Go.RowKit Go.Deep

structure Act7 where
 kd:Nat
 nm:ByteArray
 hs:ByteArray
def Act7.cells (t:Act7):List Value:=[.int .u8 (t.kd:Int),.string t.nm,.string t.hs]


section
variable {H:Type} {enc:TypeId×Value→H} {W:World} {base:Nat} {sp:Nat→Bool} {hd:Bool} {fuel:Nat}
end

def RdU7 (w:World) (A:Option Addr) (l:List Us):Prop :=
 l≠[]→∃ b off,A=some ⟨b,off,none⟩∧b<w.heap.size∧∀ i (hi:i<l.length) j u,l[i].cells[j]? = some u→w.cell? ⟨b,off+i * 5+j,none⟩=some u
theorem RdU7.later {w w':World} {A:Option Addr} {l:List Us} (h:RdU7 w A l) (hb:Below w.heap.size w w'):RdU7 w' A l:=fun hl=>by
 obtain ⟨b,off,rfl,hlt,hc⟩:=h hl
 exact ⟨b,off,rfl,Nat.lt_of_lt_of_le hlt hb.size,fun i hi j u hu=>(hb.cell (p:=⟨b,off+i * 5+j,none⟩) hlt).trans (hc i hi j u hu)⟩


section
variable {H:Type} {enc:TypeId×Value→H} {W:World} {base:Nat} {sp:Nat→Bool} {hd:Bool}
end
end Go.Proofs.YteegkoicalbkbaaGreatDoor
