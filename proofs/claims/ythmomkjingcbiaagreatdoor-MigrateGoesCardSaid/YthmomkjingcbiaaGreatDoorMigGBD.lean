/-
  The texts that the laws of this seat share, part 4: what the code and the document's own answers tell, walked function by function.
  Conditions: each theorem's own.
-/
import Derived.Maps.OwnSet
import Derived.Maps.StringElems
import Derived.Sort.KeysCollected
import Derived.StringKeys
import Derived.Shelf.SlIter.Collect
import Derived.Sort.OwnSorted
import Derived.Test.YthmomkjingcbiaaGreatDoorRows
import Derived.Laws.Cover1
import Derived.Test.YthmomkjingcbiaaGreatDoorMigGBC
set_option maxHeartbeats 16000000
namespace Go.Proofs.YthmomkjingcbiaaGreatDoor
open Go.RowKit

def yK:List Int→Int
 | []=>0
 | e::l=>if e=0 then yK l else e

def jM (v:Value) (n:Int) (w:World):Prop :=
 ∃ g lb,v=.func (.func g) #[] lb∧(∀ args w,(callFunc g args).run Tryz.prog w=.ok (.enter g args) w) ∧
  ∀ W:World,Below w.heap.size w W→Calls Tryz.prog g lb W (zP n W)
theorem jM.later {v:Value} {n:Int} {w W:World} (h:jM v n w) (hb:Below w.heap.size w W):jM v n W:=by
 obtain ⟨g,lb,e,eg,hp⟩:=h
 exact ⟨g,lb,e,eg,fun W' hb'=>hp W' (z7 hb hb')⟩
def Vn (v:Value) (b:Bool) (w:World):Prop :=
 ∃ g lb,v=.func (.func g) #[] lb∧(∀ args w,(callFunc g args).run Tryz.prog w=.ok (.enter g args) w) ∧
  ∀ W:World,Below w.heap.size w W→Calls Tryz.prog g lb W (zQ b W)
theorem Vn.later {v:Value} {b:Bool} {w W:World} (h:Vn v b w) (hb:Below w.heap.size w W):Vn v b W:=by
 obtain ⟨g,lb,e,eg,hp⟩:=h
 exact ⟨g,lb,e,eg,fun W' hb'=>hp W' (z7 hb hb')⟩
def yG (n:Int) (w:World) (e:Ending) (w':World):Prop:=∃ g lb,e=.returned (.func (.func g) #[] lb)∧jM (.func (.func g) #[] lb) n w'∧Below w.heap.size w w'

set_option maxRecDepth 100000 in
theorem YF (s:ByteArray) (C:Nat) (w:World) (hs:s.size≤9223372036854775807) (hc:w.cell? ⟨C,0,none⟩=some (.string s)) :
  Calls Tryz.prog 124 #[.pointer (some ⟨C,0,none⟩)] w (zP (ze (zf s.data.toList) 10) w):=by
 have HN:=za (yE s w hs)
 generalize ze (zf s.data.toList) 10=r at *
 go_enter Tryz.func124,Tryz.ntmps124
 go_wp2_with fail
 with_reducible refine HN.out.mono ?_
 rintro e w1 ⟨rfl,hb⟩
 have HB:=za hb
 clear hb HN hc
 go_wp2
 go_ret
 exact ⟨rfl,HB.out⟩
set_option maxRecDepth 100000 in
theorem xS (s:ByteArray) (w:World) (hs:s.size≤9223372036854775807):Calls Tryz.prog 49 #[.string s] w (yG (ze (zf s.data.toList) 10) w):=by
 have hmf:=mkf
 go_enter Tryz.func49,Tryz.ntmps49
 go_wp2
 go_ret
 refine ⟨_,_,rfl,?_,z8 (Below.refl _ _) _⟩
 refine ⟨_,_,rfl,enters_of Tryz.func124 (by kernel_rfl) rfl,fun W hb=>?_⟩
 exact YF s _ W hs ((hb.cell (p:=⟨_,0,none⟩) (by simp)).trans (by simp))

set_option maxRecDepth 100000 in
theorem XO (s:ByteArray) (C:Nat) (w:World) (hs:s.size≤9223372036854775807) (hc:w.cell? ⟨C,0,none⟩=some (.string s)) :
  Calls Tryz.prog 190 #[.pointer (some ⟨C,0,none⟩)] w (zP (ze (zL s.data.toList) 4) w):=by
 have HN:=za (uI s w hs)
 generalize ze (zL s.data.toList) 4=r at *
 go_enter Tryz.func190,Tryz.ntmps190
 go_wp2_with fail
 with_reducible refine HN.out.mono ?_
 rintro e w1 ⟨rfl,hb⟩
 have HB:=za hb
 clear hb HN hc
 go_wp2
 go_ret
 exact ⟨rfl,HB.out⟩
set_option maxRecDepth 100000 in
theorem jE (s:ByteArray) (w:World) (hs:s.size≤9223372036854775807):Calls Tryz.prog 97 #[.string s] w (yG (ze (zL s.data.toList) 4) w):=by
 have hmf:=mkf
 go_enter Tryz.func97,Tryz.ntmps97
 go_wp2
 go_ret
 refine ⟨_,_,rfl,?_,z8 (Below.refl _ _) _⟩
 refine ⟨_,_,rfl,enters_of Tryz.func190 (by kernel_rfl) rfl,fun W hb=>?_⟩
 exact XO s _ W hs ((hb.cell (p:=⟨_,0,none⟩) (by simp)).trans (by simp))

set_option maxRecDepth 100000 in
theorem fN (s:ByteArray) (C:Nat) (w:World) (hs:s.size≤9223372036854775807) (hc:w.cell? ⟨C,0,none⟩=some (.string s)) :
  Calls Tryz.prog 133 #[.pointer (some ⟨C,0,none⟩)] w (zP (ze (xF s.data.toList) 10) w):=by
 have HN:=za (jK s w hs)
 generalize ze (xF s.data.toList) 10=r at *
 go_enter Tryz.func133,Tryz.ntmps133
 go_wp2_with fail
 with_reducible refine HN.out.mono ?_
 rintro e w1 ⟨rfl,hb⟩
 have HB:=za hb
 clear hb HN hc
 go_wp2
 go_ret
 exact ⟨rfl,HB.out⟩
set_option maxRecDepth 100000 in
theorem fM (s:ByteArray) (w:World) (hs:s.size≤9223372036854775807):Calls Tryz.prog 55 #[.string s] w (yG (ze (xF s.data.toList) 10) w):=by
 have hmf:=mkf
 go_enter Tryz.func55,Tryz.ntmps55
 go_wp2
 go_ret
 refine ⟨_,_,rfl,?_,z8 (Below.refl _ _) _⟩
 refine ⟨_,_,rfl,enters_of Tryz.func133 (by kernel_rfl) rfl,fun W hb=>?_⟩
 exact fN s _ W hs ((hb.cell (p:=⟨_,0,none⟩) (by simp)).trans (by simp))

set_option maxRecDepth 100000 in
theorem Zc (B C:Nat) (v:Value) (b:Bool) (n:Int) (w:World) (hB:w.cell? ⟨B,0,none⟩=some v) (hC:w.cell? ⟨C,0,none⟩=some (.int .i64 n)) (hv:Vn v b w) :
  Calls Tryz.prog 205 #[.pointer (some ⟨B,0,none⟩),.pointer (some ⟨C,0,none⟩)] w (zP (ze b n) w):=by
 obtain ⟨g,lb,rfl,eg,hp⟩:=hv
 have HC:=za (hp w (Below.refl _ _))
 have hlt:C<w.heap.size:=World.block_lt_of_cell? w _ hC
 have HCC:=za hC
 clear hp hC
 cases b with
 | true =>
  show Calls _ _ _ _ (zP 0 w)
  go_enter Tryz.func205,Tryz.ntmps205
  go_wp2_with (go_at_fn g; refine HC.out.mono ?_; rintro e w1 ⟨rfl,hb⟩; have HB:=za hb; clear hb)
  go_ret
  exact ⟨rfl,HB.out⟩
 | false =>
  show Calls _ _ _ _ (zP n w)
  go_enter Tryz.func205,Tryz.ntmps205
  go_wp2_with (go_at_fn g; refine HC.out.mono ?_; rintro e w1 ⟨rfl,hb⟩; have HB:=za hb; have c1:=(hb.cell (p:=⟨C,0,none⟩) hlt).trans HCC.out; clear hb)
  go_ret
  exact ⟨rfl,HB.out⟩

set_option maxRecDepth 100000 in
theorem vT (g:Nat) (lb:Array Value) (b:Bool) (n:Int) (w:World) (hv:Vn (.func (.func g) #[] lb) b w):Calls Tryz.prog 125 #[.func (.func g) #[] lb,.int .i64 n] w (yG (ze b n) w):=by
 have hmf:=mkf
 have HV:=za hv
 clear hv
 go_enter Tryz.func125,Tryz.ntmps125
 go_wp2
 go_ret
 refine ⟨_,_,rfl,?_,z8 (z8 (Below.refl _ _) _) _⟩
 refine ⟨_,_,rfl,enters_of Tryz.func205 (by kernel_rfl) rfl,fun W hb=>?_⟩
 exact Zc _ _ _ b n W ((hb.cell (p:=⟨_,0,none⟩) (by simp; try omega)).trans (by simp)) ((hb.cell (p:=⟨_,0,none⟩) (by simp; try omega)).trans (by simp)) (HV.out.later (z7 (z8 (z8 (Below.refl _ _) _) _) hb))

set_option maxRecDepth 100000 in
theorem U2 (C:Nat) (n:Int) (w:World) (hC:w.cell? ⟨C,0,none⟩=some (.int .i64 n)):Calls Tryz.prog 192 #[.pointer (some ⟨C,0,none⟩)] w (zQ (decide (n≤12)) w):=by
 by_cases h:n≤12
 all_goals
  rw [show decide (n≤12)=_ from by first | exact decide_eq_true h | exact decide_eq_false h]
  go_enter Tryz.func192,Tryz.ntmps192
  go_wp2
  all_goals first | (exfalso; omega) | (go_ret; exact ⟨by simp,Below.refl _ _⟩)
set_option maxRecDepth 100000 in
theorem Y5 (n:Int) (w:World):Calls Tryz.prog 99 #[.int .i64 n] w (yG (ze (decide (n≤12)) 7) w):=by
 have hmf:=mkf
 have HU:Hid (∀ W,Below w.heap.size (w.alloc (.cells #[.int .i64 n] 3)) W→Calls Tryz.prog 125 #[.func (.func 192) #[] #[.pointer (some ⟨w.heap.size,0,none⟩)],.int .i64 7] (w.alloc (.cells #[.int .i64 n] 3)) (yG (ze (decide (n≤12)) 7) (w.alloc (.cells #[.int .i64 n] 3)))):=fun _ _ =>
  vT _ _ _ _ _ ⟨_,_,rfl,enters_of Tryz.func192 (by kernel_rfl) rfl,fun W hb=>U2 _ n W ((hb.cell (p:=⟨_,0,none⟩) (by simp)).trans (by simp))⟩
 have HU2:=za (HU.out _ (Below.refl _ _))
 clear HU
 generalize ze (decide (n≤12)) 7=r at *
 go_enter Tryz.func99,Tryz.ntmps99
 go_wp2_with fail
 with_reducible refine HU2.out.mono ?_
 rintro e w1 ⟨g,lb,rfl,ha,hb⟩
 have HA:=za ha
 have HB:=za hb
 clear ha hb HU2
 go_wp2
 go_ret
 exact ⟨g,lb,rfl,HA.out,z7 (z8 (Below.refl _ _) _) HB.out⟩

def xJ (w:World) (B:Nat) (l:List (Value×Int)):Prop:=B<w.heap.size∧∀ j (h:j<l.length),w.cell? ⟨B,j,none⟩=some l[j].1∧jM l[j].1 l[j].2 w
theorem xJ.later {w W:World} {B:Nat} {l:List (Value×Int)} (h:xJ w B l) (hb:Below w.heap.size w W):xJ W B l :=
 ⟨Nat.lt_of_lt_of_le h.1 hb.size,fun j hj=>⟨(hb.cell (p:=⟨B,j,none⟩) h.1).trans (h.2 j hj).1,(h.2 j hj).2.later hb⟩⟩

set_option maxRecDepth 100000 in
theorem xA (B n cap:Nat) (l:List (Value×Int)) (w:World) (hl:n=l.length) (hn:n≤1000) (hr:xJ w B l) :
  Calls Tryz.prog 48 #[.slice (some ⟨B,0,none⟩) n cap] w (zP (yK (l.map (·.2))) w):=by
 have HR:=za hr
 have HL:=za hl
 clear hr hl
 obtain ⟨r,hr⟩:∃ r,r=yK (l.map (·.2)):=⟨_,rfl⟩
 rw [← hr]
 have HRR:=za hr
 clear hr
 go_enter Tryz.func48,Tryz.ntmps48
 go_wp2
 go_loopg [4,5,8] n (fun gg _ _ s8 wr=>∃ kk:Nat,kk≤n∧n - kk≤gg∧s8=.int .i64 kk∧Hid (Below w.heap.size w wr)∧Hid (r=yK ((l.map (·.2)).drop kk)))
 case atStart=>exact ⟨0,Nat.zero_le _,by omega,rfl,Below.refl _ _,HRR.out⟩
 case round =>
  obtain ⟨kk,hkk,hg,rfl,HW,A⟩:=hrel
  by_cases hlt:kk<n
  ·
   have hltz:(kk:Int)<(n:Int):=by omega
   have hk:kk<l.length:=HL.out ▸ hlt
   obtain ⟨hcell,g,lb,hv,eg,hp⟩:=(HR.out.later HW.out).2 kk hk
   have hcall:=hp wr (Below.refl _ _)
   rw [hv] at hcell
   have HC:=za hcall
   have hA:r=(if l[kk].2=0 then yK ((l.map (·.2)).drop (kk+1)) else l[kk].2):=by
    have:=A.out
    rw [List.drop_eq_getElem_cons (by simpa using hk),List.getElem_map] at this
    exact this
   clear hp hcall hv A
   generalize l[kk].2=x at *
   by_cases h0:x=0
   ·
    rw [if_pos h0] at hA
    have HA:=za hA
    subst h0
    clear hA
    go_wp2_with (go_at_fn g; refine HC.out.mono ?_; rintro e w' ⟨rfl,hb⟩; have HB:=za (z7 HW.out hb); clear hb)
    go_roundg (n - (kk+1))
    case measure=>omega
    case rel=>exact ⟨kk+1,by omega,by omega,by go_num,HB,HA⟩
   ·
    rw [if_neg h0] at hA
    subst hA
    go_wp2_with (go_at_fn g; refine HC.out.mono ?_; rintro e w' ⟨rfl,hb⟩; have HB:=za (z7 HW.out hb); clear hb)
    go_ret
    exact ⟨rfl,HB.out⟩
  ·
   have hltz:¬ (kk:Int)<(n:Int):=by omega
   have hA:r=0:=by
    have:=A.out
    rw [List.drop_eq_nil_of_le (by have:=HL.out; simp; omega)] at this
    exact this
   subst hA
   clear A
   go_wp2
   go_ret
   exact ⟨rfl,HW.out⟩

set_option maxRecDepth 100000 in
theorem U5 (B n cap:Nat) (l:List (Value×Int)) (v:Value) (w:World) (hl:n=l.length) (hn:n≤1000) (hr:xJ w B l) (h0:yK (l.map (·.2))≠0) :
  Calls Tryz.prog 96 #[v,.slice (some ⟨B,0,none⟩) n cap] w (zP (yK (l.map (·.2))) w):=by
 have HF:=za (xA B n cap l w hl hn hr)
 generalize yK (l.map (·.2))=r at *
 have h1:(r == 0)=false:=by simpa using h0
 clear hl hr
 go_enter Tryz.func96,Tryz.ntmps96
 go_wp2_with fail
 with_reducible refine HF.out.mono ?_
 rintro e w1 ⟨rfl,hb⟩
 have HB:=za hb
 clear hb HF
 go_wp2
 go_ret
 exact ⟨rfl,HB.out⟩
set_option maxRecDepth 100000 in
theorem F0 (B n cap:Nat) (l:List (Value×Int)) (g:Nat) (lb:Array Value) (w:World) (R:World→World→Prop) (hl:n=l.length) (hn:n≤1000) (hr:xJ w B l) (h0:yK (l.map (·.2))=0)
  (eg:∀ args w,(callFunc g args).run Tryz.prog w=.ok (.enter g args) w) (hd:∀ W:World,Below w.heap.size w W→Calls Tryz.prog g lb W fun e w'=>e=.returned (.tuple #[])∧R W w') :
  Calls Tryz.prog 96 #[.func (.func g) #[] lb,.slice (some ⟨B,0,none⟩) n cap] w fun e w'=>e=.returned (.int .i64 0)∧∃ W,Below w.heap.size w W∧R W w':=by
 have HF:=za (xA B n cap l w hl hn hr)
 rw [h0] at HF
 have HD:=za hd
 clear hl hr h0 hd
 go_enter Tryz.func96,Tryz.ntmps96
 go_wp2_with fail
 with_reducible refine HF.out.mono ?_
 rintro e w1 ⟨rfl,hb⟩
 have HB:=za hb
 have HC:=za (HD.out w1 hb)
 clear hb HF HD
 go_wp2_with (go_at_fn g; refine HC.out.mono ?_; rintro e w2 ⟨rfl,hR⟩; have HR:=za hR; clear hR)
 go_ret
 exact ⟨rfl,w1,HB.out,HR.out⟩
end Go.Proofs.YthmomkjingcbiaaGreatDoor
namespace Go.Proofs.YthmomkjingcbiaaGreatDoor
open Go.ChangeShapes Go.WideShapes Go.ChangeAt Go.RowKit Go.Deep

def Z9 (w:World) (A:Option Addr) (l:List Us):Prop :=
 l≠[]→∃ b off,A=some ⟨b,off,none⟩∧b<w.heap.size∧∀ i (hi:i<l.length) j u,l[i].cells[j]? = some u→w.cell? ⟨b,off+i * 5+j,none⟩=some u
theorem Z9.later {w w':World} {A:Option Addr} {l:List Us} (h:Z9 w A l) (hb:Below w.heap.size w w'):Z9 w' A l:=fun hl=>by
 obtain ⟨b,off,rfl,hlt,hc⟩:=h hl
 exact ⟨b,off,rfl,Nat.lt_of_lt_of_le hlt hb.size,fun i hi j u hu=>(hb.cell (p:=⟨b,off+i * 5+j,none⟩) hlt).trans (hc i hi j u hu)⟩


section
variable {H:Type} {enc:TypeId×Value→H} {W:World} {base:Nat} {sp:Nat→Bool} {hd:Bool}
end
end Go.Proofs.YthmomkjingcbiaaGreatDoor
namespace Go.Proofs.YthmomkjingcbiaaGreatDoor
open Go.Maps

abbrev zg:=List (List UInt8×List UInt8)

def yY (L:zg):Prop:=L.Pairwise (fun p q=>bytesBefore p.1 q.1=true)

def Fz (p:List UInt8×List UInt8):Lit×DataW Unit:=(.string p.1,.lit (.string p.2))
def jH (L:zg):DataW Unit:=.map (L.map Fz)

def Vq (x:List UInt8×List UInt8):zg→zg
 | []=>[x]
 | y::r=>if bytesBefore x.1 y.1 then x::y::r else y::Vq x r
def xH (L:zg) (k:List UInt8):zg:=L.filter (fun p=>!(p.1 == k))
def yR (L:zg) (k v:List UInt8):zg:=Vq (k,v) (xH L k)
def yb (L:zg) (k:List UInt8):Bool:=L.any (fun p=>p.1 == k)
def yF (L:zg) (k:List UInt8):List UInt8:=match L.find? (fun p=>p.1 == k) with | some p=>p.2 | none=>[]

theorem UT (x:List UInt8×List UInt8):∀ L:zg,(Vq x L).map Fz=DataW.insert (Fz x) (L.map Fz)
 | []=>rfl
 | y::r=>by
  simp only [Vq,List.map_cons,DataW.insert]
  have e:(Fz x).1.before (Fz y).1=bytesBefore x.1 y.1:=rfl
  rw [e]
  cases bytesBefore x.1 y.1
  ·
   simp [UT x r]
  ·
   simp

theorem YZ (k:List UInt8):∀ L:zg,(xH L k).map Fz=(L.map Fz).filter (fun p=>!p.1.sameKey (.string k))
 | []=>rfl
 | y::r=>by
  have ih:=YZ k r
  unfold xH at ih ⊢
  have e:(Fz y).1.sameKey (.string k)=(y.1 == k):=rfl
  simp only [List.filter_cons,List.map_cons,e]
  cases (y.1 == k) <;> simp [ih]

theorem YY (L:zg) (k v:List UInt8):(jH L).put (.string k) (.lit (.string v))=jH (yR L k v):=by
 unfold jH yR
 rw [UT,YZ]; rfl
theorem UV (L:zg) (k:List UInt8):(jH L).del (.string k)=jH (xH L k):=by
 unfold jH
 rw [YZ]; rfl
theorem UU (L:zg) (k:List UInt8):Maps.has (jH L) (.string k)=yb L k:=by
 unfold jH yb
 rw [Maps.has_eq,List.any_map]; rfl
theorem Ua (L:zg) (k:List UInt8):(jH L).atKey (.string k) (.lit (.string []))=.lit (.string (yF L k)):=by
 unfold jH yF
 unfold DataW.atKey
 simp only [List.find?_map]
 have e:((fun p:Lit×DataW Unit=>p.1.sameKey (.string k)) ∘ Fz)=(fun p=>p.1 == k):=rfl
 rw [e]
 cases L.find? (fun p=>p.1 == k) <;> rfl
theorem fY (L:zg):Maps.size (jH L)=L.length:=by simp [jH,Maps.size]
theorem Fb (L:zg):strKeys (jH L)=L.map (·.1):=by
 simp only [jH,strKeys,List.map_map]; rfl

/-! ### the order -/
theorem xY:∀ a b:List UInt8,decide (Lib.compareBytes a b<0)=bytesBefore a b
 | [],[]=>by simp [Lib.compareBytes,bytesBefore]
 | [],_::_=>by simp [Lib.compareBytes,bytesBefore]
 | _::_,[]=>by simp [Lib.compareBytes,bytesBefore]
 | a::r,b::s=>by
  unfold Lib.compareBytes bytesBefore
  by_cases h:a<b
  ·
   simp [h]
  ·
   by_cases h2:b<a
   ·
    have hn:a≠b:=fun e=>by subst e; exact h h2
    simp [h,h2,hn]
   ·
    have e:a=b:=by
     have h1:=UInt8.not_lt.1 h; have h3:=UInt8.not_lt.1 h2
     exact UInt8.le_antisymm h3 h1
    subst e
    simp [xY r s]

theorem zn (a:List UInt8):bytesBefore a a=false:=WideAt.bytes_irrefl a
theorem xD {a b:List UInt8} (h:bytesBefore a b=true):a≠b:=fun e=>by subst e; rw [zn] at h; cases h
theorem yT {a b:List UInt8} (h:bytesBefore a b=true):bytesBefore b a=false:=by
 cases hb:bytesBefore b a
 ·
  rfl
 ·
  exact absurd (WideShapes.bytes_trans _ _ _ h hb) (by rw [zn]; exact Bool.noConfusion)

theorem uz {L:zg} (h:yY L) (k:List UInt8):yY (xH L k):=h.filter _
theorem jh {x y:List UInt8×List UInt8}:∀ {L:zg},y∈Vq x L↔y=x∨y∈L
 | []=>by simp [Vq]
 | z::r=>by
  unfold Vq
  split
  ·
   simp
  ·
   simp only [List.mem_cons,jh (L:=r)]
   constructor
   ·
    rintro (h | h | h)
    ·
     exact .inr (.inl h)
    ·
     exact .inl h
    ·
     exact .inr (.inr h)
   ·
    rintro (h | h | h)
    ·
     exact .inr (.inl h)
    ·
     exact .inl h
    ·
     exact .inr (.inr h)
theorem Ux {x:List UInt8×List UInt8}:∀ {L:zg},yY L→(∀ p∈L,p.1≠x.1)→yY (Vq x L)
 | [],_,_=>by simp [Vq,yY]
 | y::r,h,hn=>by
  unfold Vq
  obtain ⟨h1,h2⟩:=List.pairwise_cons.1 h
  split
  ·
   rename_i hb
   exact List.pairwise_cons.2 ⟨fun p hp=>by
    rcases List.mem_cons.1 hp with rfl | hp
    ·
     exact hb
    ·
     exact WideShapes.bytes_trans _ _ _ hb (h1 p hp),h⟩
  ·
   rename_i hb
   have hyx:bytesBefore y.1 x.1=true:=by
    rcases WideAt.bytes_total y.1 x.1 (hn y (by simp)) with h' | h'
    ·
     exact h'
    ·
     exact absurd h' hb
   exact List.pairwise_cons.2 ⟨fun p hp=>by
    rcases jh.1 hp with rfl | hp
    ·
     exact hyx
    ·
     exact h1 p hp,Ux h2 (fun p hp=>hn p (by simp [hp]))⟩
theorem yn {L:zg} {k:List UInt8} {p:List UInt8×List UInt8}:p∈xH L k↔p∈L∧p.1≠k:=by
 unfold xH; simp
theorem xO {L:zg} (h:yY L) (k v:List UInt8):yY (yR L k v) :=
 Ux (uz h k) (fun _ hp=>(yn.1 hp).2)

theorem ZY (x:List UInt8×List UInt8):∀ L:zg,(Vq x L).length=L.length+1
 | []=>rfl
 | y::r=>by unfold Vq; split <;> simp [ZY x r]
theorem yw {L:zg} {k:List UInt8}:yb L k=true↔∃ p∈L,p.1=k:=by simp [yb]
theorem xW {L:zg} {k:List UInt8} (h:yb L k=false):xH L k=L:=by
 unfold xH; rw [List.filter_eq_self]
 intro p hp
 cases e:(p.1 == k)
 ·
  rfl
 ·
  have:yb L k=true:=yw.2 ⟨p,hp,by simpa using e⟩
  rw [h] at this; cases this
theorem QY {L:zg} (hr:yY L) {k:List UInt8} (h:yb L k=true):(xH L k).length+1=L.length:=by
 induction L with
 | nil=>simp [yb] at h
 | cons y r ih =>
  obtain ⟨h1,h2⟩:=List.pairwise_cons.1 hr
  by_cases e:y.1=k
  ·
   have hn:yb r k=false:=by
    cases hh:yb r k
    ·
     rfl
    ·
     obtain ⟨p,hp,hk⟩:=yw.1 hh
     exact absurd (h1 p hp) (by rw [e,hk,zn]; exact Bool.noConfusion)
   have e2:=xW hn
   unfold xH at e2 ⊢
   simp [e,e2]
  ·
   have hh:yb r k=true:=by
    obtain ⟨p,hp,hk⟩:=yw.1 h
    rcases List.mem_cons.1 hp with rfl | hp
    ·
     exact absurd hk e
    ·
     exact yw.2 ⟨p,hp,hk⟩
   have:=ih h2 hh
   unfold xH at this ⊢
   have e':(y.1 == k)=false:=by simpa using e
   rw [List.filter_cons]
   simp only [e',Bool.not_false,if_true,List.length_cons]
   omega
theorem xm {L:zg} (hr:yY L) (k v:List UInt8):(yR L k v).length=if yb L k then L.length else L.length+1:=by
 unfold yR
 rw [ZY]
 cases h:yb L k
 ·
  rw [xW h]; simp
 ·
  have:=QY hr h; simp; omega

theorem qo {L:zg} (hr:yY L) {q:List UInt8×List UInt8} (h:q∈L):yF L q.1=q.2:=by
 induction L with
 | nil=>cases h
 | cons y r ih =>
  obtain ⟨h1,h2⟩:=List.pairwise_cons.1 hr
  rcases List.mem_cons.1 h with rfl | h
  ·
   simp [yF]
  ·
   have hne:(y.1 == q.1)=false:=by
    have:=xD (h1 q h)
    simpa using this
   have:=ih h2 h
   unfold yF at this ⊢
   rw [List.find?_cons,hne]
   exact this

/-! ### sorting what a map gave -/
theorem ZD {L:zg} (hr:yY L) {ss:List (List UInt8)} (hp:ss.Perm (L.map (·.1))) (le:List UInt8→List UInt8→Bool) (hle:∀ x y,le x y=!bytesBefore y x):ss.mergeSort le=L.map (·.1):=by
 have htr:∀ a b c,le a b=true→le b c=true→le a c=true:=by
  intro a b c h1 h2
  rw [hle] at *
  simp only [Bool.not_eq_eq_eq_not,Bool.not_true] at *
  cases hca:bytesBefore c a
  ·
   rfl
  ·
   by_cases e:a=b
   ·
    subst e; rw [hca] at h2; cases h2
   ·
    rcases WideAt.bytes_total a b e with h | h
    ·
     rw [WideShapes.bytes_trans _ _ _ hca h] at h2; cases h2
    ·
     rw [h] at h1; cases h1
 have htot:∀ a b,(le a b || le b a)=true:=by
  intro a b
  rw [hle,hle]
  cases h:bytesBefore b a
  ·
   rfl
  ·
   rw [yT h]; rfl
 have hs:(ss.mergeSort le).Pairwise (fun a b=>le a b=true):=List.pairwise_mergeSort htr htot ss
 have hq:(ss.mergeSort le).Perm (L.map (·.1)):=(List.mergeSort_perm ss le).trans hp
 have hL:(L.map (·.1)).Pairwise (fun a b=>le a b=true):=by
  rw [List.pairwise_map]
  exact hr.imp (fun h=>by rw [hle,yT h]; rfl)
 refine List.Perm.eq_of_pairwise (le:=fun a b=>le a b=true) ?_ hs hL hq
 intro a b _ _ h1 h2
 rw [hle] at h1 h2
 by_cases e:a=b
 ·
  exact e
 ·
  rcases WideAt.bytes_total a b e with h | h
  ·
   rw [h] at h2; cases h2
  ·
   rw [h] at h1; cases h1

end Go.Proofs.YthmomkjingcbiaaGreatDoor
namespace Go.Proofs.YthmomkjingcbiaaGreatDoor
open Go.RowKit Go.Maps

theorem Yt {H:Type} {w:World} {P:Program} {k:TypeId} {R:Value→Option (DataW H×List MemPlace)} {b n:Nat} {D:DataW H} (h:w.ownsMap P k R b n D):w.ownsMap P k R b (Maps.size D) D:=by
 obtain ⟨es,clock,hb,F,_,rfl⟩:=h
 have e1:Maps.size (DataW.map ((es.toList.map (WideElems.rg P k R)).foldr DataW.insert []))=es.size:=by simp [Maps.size,length_sorted]
 exact ⟨es,clock,hb,F,by rw [e1]; exact Nat.le_refl _,rfl⟩

def qx (w:World) (b:Nat) (L:zg):Prop:=w.ownsMap Tryz.prog 9 (plainElem Tryz.prog 9) b L.length (jH L)
theorem qx.of {w:World} {b n:Nat} {L:zg} (h:w.ownsMap Tryz.prog 9 (plainElem Tryz.prog 9) b n (jH L)):qx w b L:=by
 have:=Yt h
 rwa [fY] at this
theorem qx.kept {w w':World} {b:Nat} {L:zg} (h:qx w b L) (hb:w'.heap[b]? = w.heap[b]?):qx w' b L:=by
 obtain ⟨es,clock,h1,r⟩:=h
 exact ⟨es,clock,hb.trans h1,r⟩

structure xg (w:World) (B:Nat) (p:Option Nat) (L:zg):Prop where
 blk:w.heap[B]? = some (.cells #[.map p] 78 (0,0))
 nil:p=none→L=[]
 map:∀ b,p=some b→qx w b L
 rise:yY L
 few:L.length≤12
 all:∀ q∈L,q.1.length≤12∧q.2.length≤12

section
variable {w w':World} {B:Nat} {p:Option Nat} {L:zg}
theorem xg.lt (h:xg w B p L):B<w.heap.size:=(Array.getElem?_eq_some_iff.1 h.blk).1
theorem xg.mlt (h:xg w B p L):∀ b,p=some b→b<w.heap.size:=fun b hb=>(h.map b hb).lt
theorem xg.cell (h:xg w B p L):w.cell? ⟨B,0,none⟩=some (.map p):=by simp [World.cell?,h.blk]
theorem xg.frozen (h:xg w B p L):w.frozen? ⟨B,0,none⟩=false:=by simp [World.frozen?,h.blk]
theorem xg.apart (h:xg w B p L):∀ b,p=some b→b≠B:=fun b hb e=>by
 obtain ⟨es,clock,h1,_⟩:=h.map b hb
 subst e
 rw [h.blk] at h1
 cases h1
theorem xg.turns {S:Nat→Prop} (h:xg w B p L) (ht:zc S w w') (hB:¬ S B) (hp:∀ b,p=some b→¬ S b):xg w' B p L :=
 ⟨(ht.block B h.lt hB).trans h.blk,h.nil,fun b hb=>(h.map b hb).kept (ht.block b (h.mlt b hb) (hp b hb)),h.rise,h.few,h.all⟩
theorem xg.later (h:xg w B p L) (hb:Below w.heap.size w w'):xg w' B p L:=h.turns (zc.of_below hb (fun _=>False)) (fun f=>f) (fun _ _ f=>f)
end

def yy (w:World) (B:Nat) (p:Option Nat) (L':zg) (w':World):Prop:=∃ p',xg w' B p' L'∧(∀ b,p'=some b→p=some b∨w.heap.size≤b)∧zc (fun i=>i=B∨p=some i) w w'
theorem yy.still {w w':World} {B:Nat} {p:Option Nat} {L:zg} (h:xg w B p L) (hb:Below w.heap.size w w'):yy w B p L w' :=
 ⟨p,h.later hb,fun _ e=>.inl e,zc.of_below hb _⟩
theorem yy.ahead {w w1 w':World} {B:Nat} {p:Option Nat} {L':zg} (hb:Below w.heap.size w w1) (h:yy w1 B p L' w'):yy w B p L' w':=by
 obtain ⟨p',hd,hp,ht⟩:=h
 exact ⟨p',hd,fun b e=>(hp b e).imp id (fun h=>Nat.le_trans hb.size h),(zc.of_below hb _).next ht (fun i _ h=>h)⟩

theorem vN:Keyed Tryz.prog 9:=string_keyed Tryz.underlying9
theorem Yd (w:World):(zeroValue 9).run Tryz.prog w=.ok (.string ⟨#[]⟩) w:=by kernel_rfl
theorem UI (s:ByteArray) (h:s.size≤maxLen):keyOf Tryz.prog 9 (.string s)=some (.string s.data.toList):=WideMaps.keyOf_string_mk Tryz.underlying9 h

def tx7 (l:List UInt8):ByteArray:=⟨l.toArray⟩
theorem yv (l:List UInt8):(tx7 l).data.toList=l:=by simp [tx7]
theorem jV (s:ByteArray):tx7 s.data.toList=s:=by simp [tx7]

theorem look7 {w:World} {B:Nat} {p:Option Nat} {L:zg} (h:xg w B p L) (s:ByteArray) (hs:s.size≤maxLen) :
  (Instr.lookup 76 (.map p) (.string s) true).run Tryz.prog w=.ok (.tuple #[.string (tx7 (yF L s.data.toList)),.bool (yb L s.data.toList)]) w:=by
 cases p with
 | none =>
  have hL:=h.nil rfl
  subst hL
  have:=Maps.look_nil (P:=Tryz.prog) (w:=w) (t:=76) true vN Tryz.underlying76 (Yd w) (UI s hs)
  exact this
 | some b =>
  obtain ⟨v,ps,hrun,hv⟩:=(h.map b rfl).look_ok vN Tryz.underlying76 (Yd w) (plainElem_string (H:=Unit) Tryz.underlying9 (s:=⟨#[]⟩) (by decide)) (UI s hs)
  obtain ⟨c,rfl,hc,_⟩:=plainElem_string_inv Tryz.underlying9 hv
  rw [hrun,UU]
  have e:(jH L).atKey (.string s.data.toList) (.lit (.string []))=.lit (.string (yF L s.data.toList)):=Ua L _
  have hc':(jH L).atKey (.string s.data.toList) (.lit (.string []))=.lit (.string c.data.toList):=congrArg Prod.fst hc
  rw [e] at hc'
  have:yF L s.data.toList=c.data.toList:=by simpa using hc'
  rw [this,jV]
theorem look71 {w:World} {B:Nat} {p:Option Nat} {L:zg} (h:xg w B p L) (s:ByteArray) (hs:s.size≤maxLen) :
  (Instr.lookup 76 (.map p) (.string s) false).run Tryz.prog w=.ok (.string (tx7 (yF L s.data.toList))) w:=by
 cases p with
 | none =>
  have hL:=h.nil rfl
  subst hL
  have:=Maps.look_nil (P:=Tryz.prog) (w:=w) (t:=76) false vN Tryz.underlying76 (Yd w) (UI s hs)
  exact this
 | some b =>
  obtain ⟨v,ps,hrun,hv⟩:=(h.map b rfl).lookup vN Tryz.underlying76 (Yd w) (plainElem_string (H:=Unit) Tryz.underlying9 (s:=⟨#[]⟩) (by decide)) (UI s hs)
  obtain ⟨c,rfl,hc,_⟩:=plainElem_string_inv Tryz.underlying9 hv
  rw [hrun]
  have e:(jH L).atKey (.string s.data.toList) (.lit (.string []))=.lit (.string (yF L s.data.toList)):=Ua L _
  have hc':(jH L).atKey (.string s.data.toList) (.lit (.string []))=.lit (.string c.data.toList):=congrArg Prod.fst hc
  rw [e] at hc'
  have:yF L s.data.toList=c.data.toList:=by simpa using hc'
  rw [this,jV]
theorem len7 {w:World} {B:Nat} {p:Option Nat} {L:zg} (h:xg w B p L) (ty:TypeId):(Builtin.len_ #[76] ty #[.map p]).run Tryz.prog w=.ok (.int .i64 L.length) w:=by
 cases p with
 | none =>
  have hL:=h.nil rfl
  subst hL
  exact Maps.len_nil Tryz.underlying76 ty
 | some b =>
  have:=(h.map b rfl).len (t:=76) Tryz.underlying76 ty
  rwa [fY] at this
theorem JH (w:World) (p:Option Nat):(binOp .eql 76 (.map p) (.map none)).run Tryz.prog w=.ok (.bool p.isNone) w :=
 run_eql_map_nil_sl w 76 _ _ p Tryz.underlying76

set_option maxRecDepth 100000 in
theorem Y1 (B:Nat) (p:Option Nat) (L:zg) (s:ByteArray) (w:World) (h:xg w B p L) (hs:s.size≤maxLen) :
  Calls Tryz.prog 127 #[.pointer (some ⟨B,0,none⟩),.string s] w (zQ (yb L s.data.toList) w):=by
 have hc:=h.cell
 have hl:=look7 h s hs
 generalize yb L s.data.toList=r at *
 generalize tx7 (yF L s.data.toList)=g at *
 clear h hs
 go_enter Tryz.func127,Tryz.ntmps127
 go_wp2
 go_ret
 exact ⟨rfl,Below.refl _ _⟩

set_option maxRecDepth 100000 in
theorem ZV (B:Nat) (p:Option Nat) (L:zg) (w:World) (h:xg w B p L) :
  Calls Tryz.prog 100 #[.pointer (some ⟨B,0,none⟩)] w fun e w'=>e=.returned (.int .i64 L.length)∧w'=w:=by
 have hc:=h.cell
 have hl:=len7 h
 generalize L.length=n at *
 clear h
 go_enter Tryz.func100,Tryz.ntmps100
 go_wp2
 go_ret
 exact ⟨rfl,rfl⟩

set_option maxRecDepth 100000 in
theorem QA (w:World):Calls Tryz.prog 11 #[] w fun e w'=>e=.returned (.pointer (some ⟨w.heap.size,0,none⟩))∧w'=w.alloc (.cells #[.map none] 78):=by
 go_enter Tryz.func11,Tryz.ntmps11
 go_wp2
 go_ret
 exact ⟨rfl,rfl⟩
theorem dir7_new (w:World):xg (w.alloc (.cells #[.map none] 78)) w.heap.size none [] :=
 ⟨(MapKept.heap_alloc w _).1,fun _=>rfl,(fun _ h=>nomatch h),List.Pairwise.nil,by simp,(fun _ h=>nomatch h)⟩

set_option maxRecDepth 100000 in
theorem Zk (C E B:Nat) (p:Option Nat) (L:zg) (s:ByteArray) (w:World) (h:xg w B p L) (hs:s.size≤maxLen) (hC:w.cell? ⟨C,0,none⟩=some (.pointer (some ⟨B,0,none⟩))) (hE:w.cell? ⟨E,0,none⟩=some (.string s)) :
  Calls Tryz.prog 191 #[.pointer (some ⟨C,0,none⟩),.pointer (some ⟨E,0,none⟩)] w (zQ (!yb L s.data.toList) w):=by
 have hnot:∀ (x:Bool) (w:World),(Op.unary .not (.bool x)).run Tryz.prog w=.ok (.bool (!x)) w:=fun _ _=>rfl
 have HC:=za (Y1 B p L s w h hs)
 generalize yb L s.data.toList=r at *
 clear h
 go_enter Tryz.func191,Tryz.ntmps191
 go_wp2_with fail
 with_reducible refine HC.out.mono ?_
 rintro e w1 ⟨rfl,hb⟩
 have HB:=za hb
 clear hb HC hC hE
 cases r <;> go_wp2 <;> go_ret <;> exact ⟨rfl,HB.out⟩
set_option maxRecDepth 100000 in
theorem fL (C E B:Nat) (p:Option Nat) (L:zg) (s:ByteArray) (w:World) (h:xg w B p L) (hs:s.size≤maxLen) (hC:w.cell? ⟨C,0,none⟩=some (.pointer (some ⟨B,0,none⟩))) (hE:w.cell? ⟨E,0,none⟩=some (.string s)) :
  Calls Tryz.prog 126 #[.pointer (some ⟨C,0,none⟩),.pointer (some ⟨E,0,none⟩)] w (zQ (yb L s.data.toList) w):=by
 have HC:=za (Y1 B p L s w h hs)
 generalize yb L s.data.toList=r at *
 clear h
 go_enter Tryz.func126,Tryz.ntmps126
 go_wp2_with fail
 with_reducible refine HC.out.mono ?_
 rintro e w1 ⟨rfl,hb⟩
 have HB:=za hb
 clear hb HC hC hE
 go_wp2
 go_ret
 exact ⟨rfl,HB.out⟩

set_option maxRecDepth 100000 in
theorem YG (B:Nat) (p:Option Nat) (L:zg) (s:ByteArray) (w:World) (h:xg w B p L) (hs:s.size≤maxLen) :
  Calls Tryz.prog 98 #[.pointer (some ⟨B,0,none⟩),.string s] w (yG (ze (!yb L s.data.toList) 9) w):=by
 have hmf:=mkf
 have bl:=z8 (z8 (Below.refl w.heap.size w) (.cells #[.pointer (some ⟨B,0,none⟩)] 33)) (.cells #[.string s] 9)
 have HU:Hid (Calls Tryz.prog 125 #[.func (.func 191) #[] #[.pointer (some ⟨w.heap.size,0,none⟩),.pointer (some ⟨w.heap.size+1,0,none⟩)],.int .i64 9] _ (yG (ze (!yb L s.data.toList) 9) ((w.alloc (.cells #[.pointer (some ⟨B,0,none⟩)] 33)).alloc (.cells #[.string s] 9)))) :=
  vT _ _ _ _ _ ⟨_,_,rfl,enters_of Tryz.func191 (by kernel_rfl) rfl,fun W hb=>Zk _ _ B p L s W (h.later (z7 bl hb)) hs ((hb.cell (p:=⟨_,0,none⟩) (by simp; try omega)).trans (by simp)) ((hb.cell (p:=⟨_,0,none⟩) (by simp; try omega)).trans (by simp))⟩
 generalize ze (!yb L s.data.toList) 9=r at *
 have BL:=za bl
 clear h bl
 go_enter Tryz.func98,Tryz.ntmps98
 go_wp2_with fail
 with_reducible refine HU.out.mono ?_
 rintro e w1 ⟨g,lb,rfl,ha,hb⟩
 have HA:=za ha
 have HB:=za hb
 clear ha hb HU
 go_wp2
 go_ret
 exact ⟨g,lb,rfl,HA.out,z7 BL.out HB.out⟩
set_option maxRecDepth 100000 in
theorem vA (B:Nat) (p:Option Nat) (L:zg) (s:ByteArray) (w:World) (h:xg w B p L) (hs:s.size≤maxLen) :
  Calls Tryz.prog 50 #[.pointer (some ⟨B,0,none⟩),.string s] w (yG (ze (yb L s.data.toList) 8) w):=by
 have hmf:=mkf
 have bl:=z8 (z8 (Below.refl w.heap.size w) (.cells #[.pointer (some ⟨B,0,none⟩)] 33)) (.cells #[.string s] 9)
 have HU:Hid (Calls Tryz.prog 125 #[.func (.func 126) #[] #[.pointer (some ⟨w.heap.size,0,none⟩),.pointer (some ⟨w.heap.size+1,0,none⟩)],.int .i64 8] _ (yG (ze (yb L s.data.toList) 8) ((w.alloc (.cells #[.pointer (some ⟨B,0,none⟩)] 33)).alloc (.cells #[.string s] 9)))) :=
  vT _ _ _ _ _ ⟨_,_,rfl,enters_of Tryz.func126 (by kernel_rfl) rfl,fun W hb=>fL _ _ B p L s W (h.later (z7 bl hb)) hs ((hb.cell (p:=⟨_,0,none⟩) (by simp; try omega)).trans (by simp)) ((hb.cell (p:=⟨_,0,none⟩) (by simp; try omega)).trans (by simp))⟩
 generalize ze (yb L s.data.toList) 8=r at *
 have BL:=za bl
 clear h bl
 go_enter Tryz.func50,Tryz.ntmps50
 go_wp2_with fail
 with_reducible refine HU.out.mono ?_
 rintro e w1 ⟨g,lb,rfl,ha,hb⟩
 have HA:=za ha
 have HB:=za hb
 clear ha hb HU
 go_wp2
 go_ret
 exact ⟨g,lb,rfl,HA.out,z7 BL.out HB.out⟩

theorem qt {w:World} {B b n:Nat} {p:Option Nat} {L':zg} (hblk:w.heap[B]? = some (.cells #[.map p] 78 (0,0))) (hp:p=some b) (hm:w.ownsMap Tryz.prog 9 (plainElem Tryz.prog 9) b n (jH L')) (hr:yY L') (hf:L'.length≤12) (ha:∀ q∈L',q.1.length≤12∧q.2.length≤12):xg w B p L' :=
 ⟨hblk,(fun h=>by rw [hp] at h; cases h),fun b' hb'=>by rw [hp] at hb'; cases hb'; exact qx.of hm,hr,hf,ha⟩
theorem mem_put {L:zg} {k v:List UInt8} {q:List UInt8×List UInt8} (h:q∈yR L k v):q=(k,v)∨q∈L:=by
 unfold yR at h
 exact (jh.1 h).imp id (fun h=>(yn.1 h).1)
theorem vt {w w':World} {B b:Nat} (h:w.mapTurned w' b) (hne:b≠B):w'.heap[B]? = w.heap[B]? := by
 obtain ⟨es,clock,es',clock',_,rfl⟩:=h
 exact ChangeMaps.heap_setBlock_other (by assumption) _ (fun e=>hne e.symm)

set_option maxRecDepth 100000 in
theorem jm (B:Nat) (p:Option Nat) (L:zg) (s h:ByteArray) (w:World) (hd:xg w B p L) (hs:s.size≤12) (hh:h.size≤12) (hf:(yR L s.data.toList h.data.toList).length≤12) :
  Calls Tryz.prog 95 #[.pointer (some ⟨B,0,none⟩),.string s,.string h] w fun e w'=>e=.returned (.tuple #[])∧yy w B p (yR L s.data.toList h.data.toList) w':=by
 have hs':s.size≤maxLen:=Nat.le_trans hs (by decide)
 have hh':h.size≤maxLen:=Nat.le_trans hh (by decide)
 have hall:∀ q∈yR L s.data.toList h.data.toList,q.1.length≤12∧q.2.length≤12:=fun q hq=>by
  rcases mem_put hq with rfl | hq
  ·
   exact ⟨by rw [zi]; exact hs,by rw [zi]; exact hh⟩
  ·
   exact hd.all q hq
 have hrise:=xO hd.rise s.data.toList h.data.toList
 cases p with
 | some b =>
  obtain ⟨w1,hrun,hown,hturn⟩:=(hd.map b rfl).store vN Tryz.underlying76 (Nat.lt_of_le_of_lt hd.few (by decide)) (UI s hs') (plainElem_string (H:=Unit) Tryz.underlying9 hh')
  rw [YY] at hown
  have hne:=hd.apart b rfl
  have HG:Hid (yy w B (some b) (yR L s.data.toList h.data.toList) w1):=by
   refine ⟨some b,qt ((vt hturn hne).trans hd.blk) rfl hown hrise hf hall,(fun b' hb'=>.inl hb'),?_⟩
   exact (zc.refl _ w).grown hturn.grown (fun k hk _=>.inr hk)
  have hq:=JH w (some b)
  have hc:=hd.cell
  clear hd hown hturn hall hrise hf
  go_enter Tryz.func95,Tryz.ntmps95
  go_wp2
  go_end0
  exact ⟨rfl,HG.out⟩
 | none =>
  have hL:=hd.nil rfl
  subst hL
  have hBl:=hd.lt
  have hsz:(w.setCell ⟨B,0,none⟩ (.map (some w.heap.size))).heap.size=w.heap.size:=by simp [World.setCell]
  have h1:=World.ownsMap_made (H:=Unit) (w.setCell ⟨B,0,none⟩ (.map (some w.heap.size))) Tryz.prog 9 (plainElem Tryz.prog 9)
  rw [hsz] at h1
  obtain ⟨w1,hrun,hown,hturn⟩:=h1.store vN Tryz.underlying76 (by decide) (UI s hs') (plainElem_string (H:=Unit) Tryz.underlying9 hh')
  have e0:(.map []:DataW Unit)=jH []:=rfl
  rw [e0,YY] at hown
  have hblk1:=heap_setCell_box_a (.map (some w.heap.size)) hd.blk
  have hblk2:((w.setCell ⟨B,0,none⟩ (.map (some w.heap.size))).alloc (.map #[] 0)).heap[B]? = some (.cells #[.map (some w.heap.size)] 78 (0,0)):=(Below.heap_alloc _ _ B (by omega)).trans hblk1
  have HG:Hid (yy w B none (yR [] s.data.toList h.data.toList) w1):=by
   refine ⟨some w.heap.size,qt ((vt hturn (by omega)).trans hblk2) rfl hown hrise hf hall,(fun b' hb'=>.inr (by cases hb'; exact Nat.le_refl _)),?_⟩
   exact (((zc.refl _ w).setCell (p:=⟨B,0,none⟩) (fun _=>.inl rfl) _).alloc _).grown hturn.grown (fun k hk hlt=>by cases hk; omega)
  have hq:=JH w none
  have hc:=hd.cell
  have hf0:=hd.frozen
  obtain ⟨hc2,hf2⟩:=cell_of_box_a hblk2
  have hmm:=@run_makeMap Tryz.prog
  clear hd hown hturn hall hrise hf h1 hblk1 hblk2 e0 hsz
  go_enter Tryz.func95,Tryz.ntmps95
  go_wp2
  go_end0
  exact ⟨rfl,HG.out⟩
end Go.Proofs.YthmomkjingcbiaaGreatDoor
namespace Go.Proofs.YthmomkjingcbiaaGreatDoor
open Go.RowKit

section
variable {P:Program} {ops:Array Oper} {Q:Exit→Act→World→Prop}

def Va (ops:Array Oper) (i:Nat):List Nat:=match ops[i]? with
 | some o=>(o.after.toList.filter (Region.binds .any)).map (·.on)
 | none=>[]
def ancL (ops:Array Oper):Nat→List Nat→List Nat
 | 0,S=>S
 | j+1,S=>ancL ops j (if S.contains j then S++Va ops j else S)

theorem V9 {o:Oper} {i:Nat} {L:Nat→Bool} (ho:ops[i]? = some o) (h:∀ d,(o.after.toList.any fun e=>Region.binds .any e && e.on == d)=true→L d=true):∀ a∈Va ops i,L a=true:=by
 intro a ha
 unfold Va at ha
 rw [ho] at ha
 obtain ⟨e,he,rfl⟩:=List.mem_map.1 ha
 obtain ⟨h1,h2⟩:=List.mem_filter.1 he
 exact h _ (List.any_eq_true.2 ⟨e,h1,by simp [h2]⟩)
theorem qu {L:Nat→Bool} (hc:qb .any ops L) {i:Nat} (hi:L i=true):∀ a∈Va ops i,L a=true:=by
 cases ho:ops[i]? with
 | none=>intro a ha; unfold Va at ha; rw [ho] at ha; cases ha
 | some o=>exact V9 ho (hc i o ho hi)
theorem fe {L:Nat→Bool} (hc:qb .any ops L):∀ (j:Nat) (S:List Nat),(∀ a∈S,L a=true)→∀ a∈ancL ops j S,L a=true
 | 0,_,h,a,ha=>h a ha
 | j+1,S,h,a,ha=>by
  unfold ancL at ha
  refine fe hc j _ ?_ a ha
  intro b hb
  split at hb
  ·
   rename_i hj
   rcases List.mem_append.1 hb with hb | hb
   ·
    exact h b hb
   ·
    exact qu hc (h j (by simpa using hj)) b hb
  ·
   exact h b hb

theorem J0 {L:Nat→Bool} (hc:qb .any ops L) {i:Nat} {o:Oper} (ho:ops[i]? = some o) (hd:∀ d,(o.after.toList.any fun e=>Region.binds .any e && e.on == d)=true→L d=true):qb .any ops (xE L i):=by
 intro j oj hoj hLj d hdd
 unfold xE at hLj ⊢
 by_cases e:d=i
 ·
  rw [if_pos e]
 ·
  rw [if_neg e]
  by_cases ej:j=i
  ·
   subst ej
   rw [ho] at hoj
   injection hoj with hoj
   subst hoj
   exact hd d hdd
  ·
   rw [if_neg ej] at hLj
   exact hc j oj hoj hLj d hdd

theorem Fo {φ:Nat→Oper→Prop}:∀ {l:List Oper} {k:Nat},(∀ i o,l[i]? = some o→φ (k+i) o)→Q6 φ l k
 | [],_,_=>trivial
 | x::r,k,h=>⟨h 0 x rfl,Fo fun i o ho=>by
  have:=h (i+1) o (by simpa using ho)
  rwa [show k+(i+1)=k+1+i by omega] at this⟩
theorem allO_of {φ:Nat→Oper→Prop} {l:List Oper} (h:∀ i o,l[i]? = some o→φ i o):Q6 φ l 0:=Fo fun i o ho=>by
 rw [Nat.zero_add]; exact h i o ho

theorem zI {id:Nat} {w:World} {a:Act} (hm:P.follows .mixedOrders=true) (last:Nat) (R D:World→Prop) (Y:Nat→Value→World→Prop) (Z:Value→Prop) (F:(Nat→Value)→Act) (hF:∀ x,xw (ops.toList.map (·.dst)) x 0 a=F x)
  (hap:ur (ops.toList.map (·.dst))=true) (hback:(ops.toList.zipIdx.all fun p=>p.1.after.all fun e=>!(Region.binds .any e) || decide (e.on<p.2))=true)
  (hanc:((List.range last).all fun i=>(ancL ops last (Va ops last)).contains i)=true) (hbeh:((List.range ops.size).all fun j=>decide (j≤last) || (ancL ops j (Va ops j)).contains last)=true) (hlt:last<ops.size) (hR:R w.drew)
  (step:Q6 (fun i o=>∀ (x:Nat→Value) (w:World),
   (i<last→R w→(∀ j,(o.after.toList.any fun e=>Region.binds .any e && e.on == j)=true→Y j (x j) w) →
    ∀ K:Act→World→Prop,(∀ v w',Y i v w'→R w'→(∀ j u,Y j u w→Y j u w')→K ((F x).put o.dst v) w') →
     if Region.wanted o (yielded ops (F x).tmps)=true then Oper.wp P o (F x) w K Q else K ((F x).put o.dst undef) w) ∧
   (i=last→R w→(∀ j,(o.after.toList.any fun e=>Region.binds .any e && e.on == j)=true→Y j (x j) w) →
    ∀ K:Act→World→Prop,(∀ v w',Z v→D w'→K ((F x).put o.dst v) w') →
     if Region.wanted o (yielded ops (F x).tmps)=true then Oper.wp P o (F x) w K Q else K ((F x).put o.dst undef) w) ∧
   (last<i→D w→(∀ j,(o.after.toList.any fun e=>Region.binds .any e && e.on == j)=true→last≤j→Z (x j)) →
    ∀ K:Act→World→Prop,(∀ v,Z v→K ((F x).put o.dst v) w) →
     if Region.wanted o (yielded ops (F x).tmps)=true then Oper.wp P o (F x) w K Q else K ((F x).put o.dst undef) w)) ops.toList 0)
  (fin:∀ (x:Nat→Value) (w:World),D w→(∀ j,last≤j→j<ops.size→Z (x j))→Q .normal (F x) w):(Code.region id ops true).wp P Q a w:=by
 refine vS hm (fun L x W=>qb .any ops L∧(∀ j,L j=true→j<ops.size)∧((L last=false∧R W∧∀ j,L j=true→Y j (x j) W)∨(L last=true∧D W∧∀ j,L j=true→last≤j→Z (x j)))) F hF hap hback
  (fun _=>⟨(fun _ _ _ h=>nomatch h),(fun _ h=>nomatch h),.inl ⟨rfl,hR,(fun _ h=>nomatch h)⟩⟩) ?_ ?_
 ·
  have hat:=fun i o h=>step.at_ i o h
  have gen:∀ (i:Nat) (o:Oper),ops.toList[i]? = some o→∀ (L:Nat→Bool) (x:Nat→Value) (w:World),L i=false→(∀ d,(o.after.toList.any fun e=>Region.binds .any e && e.on == d)=true→L d=true) →
    (qb .any ops L∧(∀ j,L j=true→j<ops.size)∧((L last=false∧R w∧∀ j,L j=true→Y j (x j) w)∨(L last=true∧D w∧∀ j,L j=true→last≤j→Z (x j)))) →
    ∀ K:Act→World→Prop,(∀ v w',(qb .any ops (xE L i)∧(∀ j,xE L i j=true→j<ops.size)∧((xE L i last=false∧R w'∧∀ j,xE L i j=true→Y j (upd x i v j) w')∨(xE L i last=true∧D w'∧∀ j,xE L i j=true→last≤j→Z (upd x i v j))))→K ((F x).put o.dst v) w') →
     if Region.wanted o (yielded ops (F x).tmps)=true then Oper.wp P o (F x) w K Q else K ((F x).put o.dst undef) w:=by
   intro i o ho L x w hLi hd hI K hK
   have ho':ops[i]? = some o:=by simpa using ho
   have hisz:i<ops.size:=(Array.getElem?_eq_some_iff.1 ho').1
   obtain ⟨hcl,hsz,hI⟩:=hI
   have hcu:=J0 hcl ho' hd
   have hsu:∀ j,xE L i j=true→j<ops.size:=by
    intro j hj
    unfold xE at hj
    by_cases e:j=i
    ·
     rw [e]; exact hisz
    ·
     rw [if_neg e] at hj; exact hsz j hj
   obtain ⟨s1,s2,s3⟩:=hat i o ho x w
   rw [Nat.zero_add] at s1 s2 s3
   have hbl:∀ j,last<j→j<ops.size→last∈ancL ops j (Va ops j):=by
    intro j h1 h2
    have:=List.all_eq_true.1 hbeh j (List.mem_range.2 h2)
    rw [decide_eq_false (by omega),Bool.false_or] at this
    simpa using this
   rcases hI with ⟨h0,hRw,hY⟩ | ⟨h1,hDw,hZ⟩
   ·
    rcases Nat.lt_trichotomy i last with hil | rfl | hil
    ·
     refine s1 hil hRw (fun j hj=>hY j (hd j hj)) K fun v w' hy hr hk=>hK v w' ⟨hcu,hsu,.inl ⟨?_,hr,?_⟩⟩
     ·
      rw [show xE L i last=L last from if_neg (by omega)]; exact h0
     ·
      intro j hj
      by_cases e:j=i
      ·
       subst e; rw [show upd x j v j=v from if_pos rfl]; exact hy
      ·
       rw [show upd x i v j=x j from if_neg e]
       rw [show xE L i j=L j from if_neg e] at hj
       exact hk j _ (hY j hj)
    ·
     refine s2 rfl hRw (fun j hj=>hY j (hd j hj)) K fun v w' hz hdw=>hK v w' ⟨hcu,hsu,.inr ⟨if_pos rfl,hdw,?_⟩⟩
     intro j hj hle
     by_cases e:j=i
     ·
      subst e; rw [show upd x j v j=v from if_pos rfl]; exact hz
     ·
      rw [show xE L i j=L j from if_neg e] at hj
      have:=fe hcl j _ (qu hcl hj) i (hbl j (by omega) (hsz j hj))
      rw [hLi] at this
      cases this
    ·
     exfalso
     have:=fe hcl i _ (V9 ho' hd) last (hbl i hil hisz)
     rw [h0] at this
     cases this
   ·
    rcases Nat.lt_trichotomy i last with hil | rfl | hil
    ·
     exfalso
     have h2:=List.all_eq_true.1 hanc i (List.mem_range.2 hil)
     have:=fe hcl last _ (qu hcl h1) i (by simpa using h2)
     rw [hLi] at this
     cases this
    ·
     rw [hLi] at h1; cases h1
    ·
     refine s3 hil hDw (fun j hj hle=>hZ j (hd j hj) hle) K fun v hz=>hK v w ⟨hcu,hsu,.inr ⟨?_,hDw,?_⟩⟩
     ·
      rw [show xE L i last=L last from if_neg (by omega)]; exact h1
     ·
      intro j hj hle
      by_cases e:j=i
      ·
       subst e; rw [show upd x j v j=v from if_pos rfl]; exact hz
      ·
       rw [show upd x i v j=x j from if_neg e]
       rw [show xE L i j=L j from if_neg e] at hj
       exact hZ j hj hle
  exact allO_of gen
 ·
  intro L x w hall ⟨_,_,hI⟩
  rcases hI with ⟨h0,_⟩ | ⟨_,hDw,hZ⟩
  ·
   rw [hall last hlt] at h0; cases h0
  ·
   exact fin x w hDw (fun j h1 h2=>hZ j (hall j h2) h1)
end
end Go.Proofs.YthmomkjingcbiaaGreatDoor
namespace Go.Proofs.YthmomkjingcbiaaGreatDoor
open Go.RowKit Go.Maps Go.Sort Go.Shelf

theorem lt7 (x y:List UInt8):ltOf Lib.compareBytes x y=bytesBefore x y:=xY x y
theorem swo7:SWO (ltOf Lib.compareBytes) where
 irrefl x:=by rw [lt7]; exact zn x
 trans x y z h1 h2:=by rw [lt7] at *; exact WideShapes.bytes_trans _ _ _ h1 h2
 ntrans x y z h1 h2:=by
  rw [lt7] at *
  cases h:bytesBefore x z
  ·
   rfl
  ·
   by_cases e:x=y
   ·
    subst e; rw [h] at h2; cases h2
   ·
    rcases WideAt.bytes_total x y e with h' | h'
    ·
     rw [h'] at h1; cases h1
    ·
     rw [WideShapes.bytes_trans _ _ _ h' h] at h2; cases h2
theorem tot7 (x y:List UInt8) (h1:ltOf Lib.compareBytes x y=false) (h2:ltOf Lib.compareBytes y x=false):x=y:=by
 rw [lt7] at *
 by_cases e:x=y
 ·
  exact e
 ·
  rcases WideAt.bytes_total x y e with h' | h'
  ·
   rw [h'] at h1; cases h1
  ·
   rw [h'] at h2; cases h2
theorem cmp7 (blk off size:Nat) (w:World):CmpLays1 Tryz.prog 138 #[] encStr Lib.compareBytes blk off size w :=
 CmpReads.lays fun _ _ _ _ x y=>(xT ⟨x.toArray⟩ ⟨y.toArray⟩ _).mono fun e w' ⟨he,hw⟩=>⟨by rw [he],0,hw⟩

set_option maxRecDepth 100000 in
theorem uU (g:Nat) (lb:Array Value) (S:List (List UInt8)→Prop) (N:Nat) (w:World) (eg:∀ args w,(callFunc g args).run Tryz.prog w=.ok (.enter g args) w) (hN:N≤1000) (hSN:∀ ss,S ss→ss.length≤1000) (hseq:SeqGives Fence.wide 2 Tryz.prog g lb encStr S N w) :
  Calls Tryz.prog 136 #[.func (.func g) #[] lb,.func (.func 138) #[] #[]] w fun e w'=>∃ (v:Value) (ss:List (List UInt8)),e=.returned v∧S ss ∧
   w'.ownsRow w.heap.size 9 1 v ss.length ((ss.mergeSort (fun x y=>!(ltOf Lib.compareBytes) y x)).map encStr)∧(v=.slice none 0 0↔ss=[])∧Below w.heap.size w w':=by
 have cC:Calls Tryz.prog 209 #[.func (.func g) #[] lb] w fun e w'=>∃ (v:Value) (ss:List (List UInt8)),e=.returned v∧S ss∧w'.ownsRow w.heap.size 9 1 v ss.length (ss.map encStr)∧(v=.slice none 0 0↔ss=[])∧Below w.heap.size w w' :=
  (callsIn_wide (n:=4)).1 (AnyZ.collect_in Tryz.collect7 Fence.wide 4 trivial trivial rfl (by omega) g lb trivial eg S N (Nat.le_trans hN (by decide)) (by omega) w hseq)
 have HC:=za cC
 have HS:Hid (∀ (blk cap:Nat) (ss:List (List UInt8)) (W:World),Holds encStr W blk 0 ss.toArray→blk<W.heap.size→ss.length<4611686018427387904 →
   Calls Tryz.prog 210 #[.slice (some ⟨blk,0,none⟩) ss.length cap,.func (.func 138) #[] #[]] W fun e w'=>e=.returned (.tuple #[])∧∃ n os,w'=grow (putRow encStr (Sort.ahead W n) blk 0 (ss.mergeSort fun x y=>!(ltOf Lib.compareBytes) y x).toArray) os):=fun blk cap ss W hH hb hl=>by
  have:=Tryz.slices_SortFunc_total encStr (fun _=>rfl) Lib.compareBytes swo7 138 #[] blk 0 cap ss.toArray W (enters_of Tryz.func138 (by kernel_rfl) rfl) (cmp7 blk 0 _ W) hH hb (by simpa using hl) tot7
  simpa [sortWorld] using this
 have HS0:Hid (∀ (cap:Nat) (W:World),Calls Tryz.prog 210 #[.slice none 0 cap,.func (.func 138) #[] #[]] W fun e w'=>e=.returned (.tuple #[])∧w'=W):=fun cap W=>Tryz.slices_SortFunc_none (α:=List UInt8) none cap _ W
 clear cC hseq
 go_enter Tryz.func136,Tryz.ntmps136
 go_wp2_with fail
 with_reducible refine HC.out.mono ?_
 rintro e W ⟨v,ss,rfl,hS,hrow,hnil,hb⟩
 have hln:=hSN _ hS
 have HSS:=za hS
 have HNL:=za hnil
 have HB:=za hb
 have HR:=za hrow
 clear hS hnil hb HC
 rcases hrow.2 with ⟨rfl,hz⟩ | ⟨gb,cap,cur,rfl,hbase,hgb,r1,r2,r3,r4⟩
 ·
  have hss:ss=[]:=List.eq_nil_of_length_eq_zero hz
  subst hss
  clear hrow hz hln hSN
  go_wp2_with (go_at_call 210; (with_reducible refine (HS0.out _ _).mono ?_); rintro e w' ⟨rfl,rfl⟩)
  go_ret
  exact ⟨.slice none 0 0,[],rfl,HSS.out,by simpa using HR.out,by simp,HB.out⟩
 ·
  have hH:Holds encStr W gb 0 ss.toArray:=holds_of_block hgb (by simpa using r4)
  have hgl:gb<W.heap.size:=(Array.getElem?_eq_some_iff.1 hgb).1
  have cS:=za (HS.out gb cap ss W hH hgl (by omega))
  have HF:Hid (∀ n os,(grow (putRow encStr (Sort.ahead W n) gb 0 (ss.mergeSort fun x y=>!(ltOf Lib.compareBytes) y x).toArray) os).ownsRow w.heap.size 9 1 (.slice (some ⟨gb,0,none⟩) ss.length cap) ss.length ((ss.mergeSort (fun x y=>!(ltOf Lib.compareBytes) y x)).map encStr) ∧
    Below w.heap.size w (grow (putRow encStr (Sort.ahead W n) gb 0 (ss.mergeSort fun x y=>!(ltOf Lib.compareBytes) y x).toArray) os)):=fun n os =>
   ⟨ownsRow_sorted (by simp) hbase hgb r1 r2 r3,HB.out.grown (grownBy_sorted _) HB.out.size (fun j hj=>by cases hj; exact hbase)⟩
  clear hrow hbase hgb r1 r2 r3 r4 hH hgl HR HB HS HS0
  generalize hts:(ss.mergeSort fun x y=>!(ltOf Lib.compareBytes) y x)=ts at cS HF
  have HT:=za hts
  clear hts hln hSN
  generalize hn:ss.length=n at *
  go_wp2_with (go_at_call 210; (with_reducible refine cS.out.mono ?_); rintro e w' ⟨rfl,nn,os,rfl⟩)
  go_ret
  subst hn
  refine ⟨_,ss,rfl,HSS.out,?_,HNL.out,(HF.out nn os).2⟩
  rw [HT.out]
  exact (HF.out nn os).1

def Names7 (L:zg) (w:World) (e:Ending) (w':World):Prop :=
 ∃ v,e=.returned v∧w'.ownsRow w.heap.size 9 1 v L.length ((L.map (·.1)).map encStr)∧(v=.slice none 0 0↔L=[])∧Below w.heap.size w w'

set_option maxRecDepth 100000 in
theorem jz (B:Nat) (p:Option Nat) (L:zg) (w:World) (hd:xg w B p L):Calls Tryz.prog 59 #[.pointer (some ⟨B,0,none⟩)] w (Names7 L w):=by
 have eg:∀ args w,(callFunc 211 args).run Tryz.prog w=.ok (.enter 211 args) w:=enters_of Tryz.func211 (by kernel_rfl) rfl
 have bl:Below w.heap.size w (w.alloc (.cells #[.map p] 76)):=z8 (Below.refl _ _) _
 have cS:∃ S:List (List UInt8)→Prop,(∀ ss,S ss→ss.Perm (L.map (·.1)))∧SeqGives Fence.wide 2 Tryz.prog 211 #[.pointer (some ⟨w.heap.size,0,none⟩)] encStr S L.length (w.alloc (.cells #[.map p] 76)):=by
  cases p with
  | none =>
   have hL:=hd.nil rfl
   subst hL
   exact ⟨fun ss=>ss=[],fun ss h=>by subst h; exact List.Perm.refl _,AnyZ.keys_gives_nil (ρ:=Tryz.keys7_ren) { Tryz.keys7 with } Fence.wide 2 trivial rfl w.heap.size _ (by simp) (by simp)⟩
  | some b =>
   have hown:=(hd.map b rfl).alloc (.cells #[.map (some b)] 76)
   have h:=AnyZ.keys_gives (ρ:=Tryz.keys7_ren) { Tryz.keys7 with } Fence.wide 2 trivial rfl (by omega) w.heap.size b _ (jH L) _ (by simp) (by simp) hown
   rw [fY] at h
   exact ⟨_,fun ss h=>by rw [Fb] at h; exact h,h⟩
 obtain ⟨S,hS,hseq⟩:=cS
 have HK:Hid (Calls Tryz.prog 137 #[.map p] w fun e w'=>e=.returned (.func (.func 211) #[] #[.pointer (some ⟨w.heap.size,0,none⟩)])∧w'=w.alloc (.cells #[.map p] 76)) :=
  (callsIn_wide (n:=4)).1 (AnyZ.keys_in Tryz.keys7 Fence.wide 4 trivial rfl p w)
 have HSF:=za (uU _ _ S L.length _ eg (by have:=hd.few; omega) (fun ss h=>by rw [(hS ss h).length_eq,List.length_map]; have:=hd.few; omega) hseq)
 have HSS:Hid (∀ ss,S ss→ss.length=L.length∧ss.mergeSort (fun x y=>!(ltOf Lib.compareBytes) y x)=L.map (·.1)):=fun ss h=>by
  have hp:=hS ss h
  exact ⟨by rw [hp.length_eq,List.length_map],ZD hd.rise hp _ (fun x y=>by rw [lt7])⟩
 have hc:=hd.cell
 have BL:=za bl
 clear hseq hS hd bl
 go_enter Tryz.func59,Tryz.ntmps59
 go_wp2_with fail
 with_reducible refine HK.out.mono ?_
 rintro e w1 ⟨rfl,rfl⟩
 go_wp2_with fail
 with_reducible refine HSF.out.mono ?_
 rintro e w2 ⟨v,ss,rfl,hss,hrow,hnil,hb⟩
 obtain ⟨hl,hm⟩:=HSS.out ss hss
 have HF:Hid (Names7 L w (.returned v) w2):=by
  rw [hl,hm] at hrow
  refine ⟨v,rfl,ownsRow_base_a hrow (by simp),?_,z7 BL.out hb⟩
  rw [hnil]
  constructor
  ·
   intro e; subst e; exact List.eq_nil_of_length_eq_zero hl.symm
  ·
   intro e; subst e; exact List.eq_nil_of_length_eq_zero hl
 clear hss hrow hnil hb hl hm HSS HSF HK hc BL
 go_wp2
 go_ret
 exact HF.out
end Go.Proofs.YthmomkjingcbiaaGreatDoor
namespace Go.Proofs.YthmomkjingcbiaaGreatDoor
open Go.ChangeShapes Go.WideShapes Go.ChangeAt Go.RowKit Go.Deep

structure Uq where
 kd:Nat
 nm:ByteArray
 hs:ByteArray
def Uq.cells (t:Uq):List Value:=[.int .u8 (t.kd:Int),.string t.nm,.string t.hs]
def RdA7 (w:World) (A:Option Addr) (l:List Uq):Prop :=
 l≠[]→∃ b off,A=some ⟨b,off,none⟩∧b<w.heap.size∧∀ i (hi:i<l.length) j u,l[i].cells[j]? = some u→w.cell? ⟨b,off+i * 3+j,none⟩=some u
theorem RdA7.later {w w':World} {A:Option Addr} {l:List Uq} (h:RdA7 w A l) (hb:Below w.heap.size w w'):RdA7 w' A l:=fun hl=>by
 obtain ⟨b,off,rfl,hlt,hc⟩:=h hl
 exact ⟨b,off,rfl,Nat.lt_of_lt_of_le hlt hb.size,fun i hi j u hu=>(hb.cell (p:=⟨b,off+i * 3+j,none⟩) hlt).trans (hc i hi j u hu)⟩
def IsActs7 (w:World) (A:Option Addr) (len:Nat) (l:List Uq):Prop:=len=l.length∧l.length≤9223372036854775807∧RdA7 w A l∧∀ t∈l,t.kd<256∧t.nm.size≤9223372036854775807∧t.hs.size≤9223372036854775807

theorem J1:Tryz.prog.cellsOf 5=1:=by kernel_rfl
theorem Ue:Tryz.prog.cellsOf 9=1:=by kernel_rfl
theorem Z3:Tryz.prog.cellsOf 36=3:=by kernel_rfl
theorem Jz (d:Uq) {φ:Nat→Uq→Prop} {m:Nat} (h:∀ i,i<m→∃ t,φ i t):∃ T:Nat→Uq,∀ i,i<m→φ i (T i):=by
 refine ⟨fun i=>if hi:i<m then Classical.choose (h i hi) else d,fun i hi=>?_⟩
 have:(if hi:i<m then Classical.choose (h i hi) else d)=Classical.choose (h i hi):=dif_pos hi
 show φ i (if hi:i<m then Classical.choose (h i hi) else d)
 rw [this]
 exact Classical.choose_spec (h i hi)

section
variable {H:Type} {enc:TypeId×Value→H} {W:World} {base:Nat} {sp:Nat→Bool} {hd:Bool} {fuel:Nat}
set_option maxRecDepth 100000 in
theorem acte_of {cs:List Value} {x:DataW H×List MemPlace} (h:DataW.trod enc Tryz.prog W base sp hd fuel 36 cs=some x) :
  ∃ t:Uq,cs=t.cells∧t.kd<256∧t.nm.size≤9223372036854775807∧t.hs.size≤9223372036854775807:=by
 obtain ⟨ys,n,_,_,hlen,hyl,hf⟩:=DataW.trod_struct Tryz.underlying36 h
 rw [Z3] at hlen
 match cs,hlen,ys,hyl with
 | [c0,c1,c2],_,[y0,y1,y2],_ =>
  have f0:DataW.trod enc Tryz.prog W base sp hd n 5 (([c0,c1,c2].drop 0).take (Tryz.prog.cellsOf 5))=some y0:=hf 0 _ rfl
  have f1:DataW.trod enc Tryz.prog W base sp hd n 9 (([c0,c1,c2].drop 1).take (Tryz.prog.cellsOf 9))=some y1:=hf 1 _ rfl
  have f2:DataW.trod enc Tryz.prog W base sp hd n 9 (([c0,c1,c2].drop 2).take (Tryz.prog.cellsOf 9))=some y2:=hf 2 _ rfl
  rw [J1] at f0
  rw [Ue] at f1 f2
  obtain ⟨kd,e0,_,w0⟩:=DataW.trod_int Tryz.underlying5 f0
  obtain ⟨nm,e1,_,w1⟩:=DataW.trod_string Tryz.underlying9 f1
  obtain ⟨hs,e2,_,w2⟩:=DataW.trod_string Tryz.underlying9 f2
  simp only [List.drop_zero,List.drop_succ_cons,List.take_succ_cons,List.take_zero,List.cons.injEq,and_true] at e0 e1 e2
  subst e0 e1 e2
  have b0:=bounds_u8 w0
  obtain ⟨kn,rfl⟩:=Int.eq_ofNat_of_zero_le b0.1
  exact ⟨⟨kn,nm,hs⟩,rfl,by show kn<256; omega,Nat.le_trans w1 (by decide),Nat.le_trans w2 (by decide)⟩

set_option maxRecDepth 100000 in
theorem actes_of {a:Option Addr} {len cap:Nat} {d:DataW H} {p:List MemPlace} (h:DataW.Trod enc Tryz.prog W base sp hd 31 (.slice a len cap) d p):∃ l,IsActs7 W a len l:=by
 obtain ⟨fuel,hf⟩:=h
 rcases open_slice Tryz.underlying31 hf with ⟨hcs,_⟩ | ⟨x,l,c,m,n,D,Pl,hcs,_,hl,hm,hmm,_,hi⟩
 ·
  simp [Value.cells] at hcs
  obtain ⟨rfl,rfl,rfl⟩:=hcs
  exact ⟨[],rfl,by simp,fun h=>absurd rfl h,by simp⟩
 ·
  simp [Value.cells] at hcs
  obtain ⟨rfl,rfl,rfl⟩:=hcs
  have hlm:len≤m:=by rw [hmm]; split <;> omega
  rw [Z3] at hi
  have hex:∀ i,i<m→∃ t:Uq,(∀ j,j<3→W.cell? ((x.add (i * 3)).add j)=t.cells[j]?)∧t.kd<256∧t.nm.size≤9223372036854775807∧t.hs.size≤9223372036854775807:=by
   intro i him
   obtain ⟨cs',hc,ht'⟩:=hi i him
   obtain ⟨t,rfl,hrest⟩:=acte_of ht'
   exact ⟨t,(World.cells?_some hc).2.2,hrest⟩
  obtain ⟨T,hT⟩:=Jz ⟨0,⟨#[]⟩,⟨#[]⟩⟩ hex
  refine ⟨(List.range len).map T,by simp,by simpa [maxLen] using Nat.le_trans hl hm,fun hne=>?_,fun t ht=>?_⟩
  ·
   have hp:0<len:=by
    rcases Nat.eq_zero_or_pos len with h | h
    ·
     subst h; simp at hne
    ·
     exact h
   have hc0:=(hT 0 (by omega)).1 0 (by omega)
   have h00:(T 0).cells[0]? = some (.int .u8 (T 0).kd):=rfl
   rw [h00,Nat.zero_mul] at hc0
   have hx:x=⟨x.block,x.off,none⟩:=by
    have hs:x.spot=none:=World.cell?_spot hc0
    rw [← hs]
   refine ⟨x.block,x.off,by rw [← hx],?_,fun i hi' j u hu=>?_⟩
   ·
    exact World.block_lt_of_cell? W _ hc0
   ·
    rw [List.length_map,List.length_range] at hi'
    have e:((List.range len).map T)[i]'(by simpa using hi')=T i:=by simp
    rw [e] at hu
    have hj:j<3:=(List.getElem?_eq_some_iff.1 hu).1
    have:=(hT i (by omega)).1 j hj
    rw [hx,Addr.add_lit,Addr.add_lit] at this
    exact this.trans hu
  ·
   obtain ⟨i,hi',rfl⟩:=List.mem_map.1 ht
   rw [List.mem_range] at hi'
   exact (hT i (by omega)).2
end
end Go.Proofs.YthmomkjingcbiaaGreatDoor
namespace Go.Proofs.YthmomkjingcbiaaGreatDoor
open Go.RowKit Go.Maps

def Zx (W:World) (v:Value) (es:List Int):Prop:=∃ G l,v=.slice (some ⟨G,0,none⟩) es.length es.length∧l.map (·.2)=es∧xJ W G l
theorem Zx.below {W W':World} {v:Value} {es:List Int} (h:Zx W v es) (hb:Below W.heap.size W W'):Zx W' v es:=by
 obtain ⟨G,l,e,h1,h2⟩:=h
 exact ⟨G,l,e,h1,h2.later hb⟩
theorem qS (W:World) (l:List (Value×Int)) (t:TypeId) (ha:∀ x∈l,jM x.1 x.2 W):Zx (W.alloc (.cells (l.map (·.1)).toArray t)) (.slice (some ⟨W.heap.size,0,none⟩) (l.map (·.2)).length (l.map (·.2)).length) (l.map (·.2)):=by
 refine ⟨_,l,rfl,rfl,by simp,fun j hj=>⟨?_,(ha _ (List.getElem_mem hj)).later (z8 (Below.refl _ _) _)⟩⟩
 rw [World.cell?_alloc_at _ _ _ _ rfl]
 simp [hj]

structure Box7 (W:World) (b0 B:Nat) (n h:ByteArray):Prop where
 lt:b0+2<W.heap.size
 c0:W.cell? ⟨b0,0,none⟩=some (.pointer (some ⟨B,0,none⟩))
 c1:W.cell? ⟨b0+1,0,none⟩=some (.string n)
 c2:W.cell? ⟨b0+2,0,none⟩=some (.string h)
theorem Box7.later {W W':World} {b0 B:Nat} {n h:ByteArray} (hx:Box7 W b0 B n h) (hb:Below W.heap.size W W'):Box7 W' b0 B n h :=
 have:=hx.lt
 ⟨Nat.lt_of_lt_of_le hx.lt hb.size,(hb.cell (p:=⟨b0,0,none⟩) (by show b0<_; omega)).trans hx.c0,(hb.cell (p:=⟨b0+1,0,none⟩) (by show b0+1<_; omega)).trans hx.c1,(hb.cell (p:=⟨b0+2,0,none⟩) (by show b0+2<_; omega)).trans hx.c2⟩
theorem UZ (w:World) (B:Nat) (n h:ByteArray):Box7 (((w.alloc (.cells #[.pointer (some ⟨B,0,none⟩)] 33)).alloc (.cells #[.string n] 9)).alloc (.cells #[.string h] 9)) w.heap.size B n h:=by
 refine ⟨by simp,?_,?_,?_⟩
 ·
  rw [World.cell?_alloc_past _ _ _ (by simp; omega),World.cell?_alloc_past _ _ _ (by simp),World.cell?_alloc_at _ _ _ _ rfl]; rfl
 ·
  rw [World.cell?_alloc_past _ _ _ (by simp),World.cell?_alloc_at _ _ _ _ (by simp)]; rfl
 ·
  rw [World.cell?_alloc_at _ _ _ _ (by simp)]; rfl

set_option maxRecDepth 100000 in
theorem Zr (b0 B:Nat) (p:Option Nat) (L:zg) (n h:ByteArray) (w:World) (hx:Box7 w b0 B n h) (hd:xg w B p L) (hn:n.size≤12) (hh:h.size≤12) (hf:(yR L n.data.toList h.data.toList).length≤12) :
  Calls Tryz.prog 94 #[.pointer (some ⟨b0,0,none⟩),.pointer (some ⟨b0+1,0,none⟩),.pointer (some ⟨b0+2,0,none⟩)] w fun e w'=>e=.returned (.tuple #[])∧yy w B p (yR L n.data.toList h.data.toList) w':=by
 have HP:=za (jm B p L n h w hd hn hh hf)
 have c0:=hx.c0
 have c1:=hx.c1
 have c2:=hx.c2
 clear hd hf hx
 go_enter Tryz.func94,Tryz.ntmps94
 go_wp2_with fail
 with_reducible refine HP.out.mono ?_
 rintro e w1 ⟨rfl,hg⟩
 have HG:=za hg
 clear hg HP c0 c1 c2
 go_wp2
 go_end0
 exact ⟨rfl,HG.out⟩
set_option maxRecDepth 100000 in
theorem fq (b0 B:Nat) (p:Option Nat) (L:zg) (n h:ByteArray) (w:World) (hx:Box7 w b0 B n h) (hd:xg w B p L) (hn:n.size≤12) (hh:h.size≤12) (hf:(yR L n.data.toList h.data.toList).length≤12) :
  Calls Tryz.prog 102 #[.pointer (some ⟨b0,0,none⟩),.pointer (some ⟨b0+1,0,none⟩),.pointer (some ⟨b0+2,0,none⟩)] w fun e w'=>e=.returned (.tuple #[])∧yy w B p (yR L n.data.toList h.data.toList) w':=by
 have HP:=za (jm B p L n h w hd hn hh hf)
 have c0:=hx.c0
 have c1:=hx.c1
 have c2:=hx.c2
 clear hd hf hx
 go_enter Tryz.func102,Tryz.ntmps102
 go_wp2_with fail
 with_reducible refine HP.out.mono ?_
 rintro e w1 ⟨rfl,hg⟩
 have HG:=za hg
 clear hg HP c0 c1 c2
 go_wp2
 go_end0
 exact ⟨rfl,HG.out⟩

def crE (L:zg) (n h:List UInt8):Int:=yK [ze (zf n) 10,ze (zL h) 4,ze (!yb L n) 9,ze (decide ((L.length:Int)+1≤12)) 7]
def seE (L:zg) (n h:List UInt8):Int:=yK [ze (zf n) 10,ze (zL h) 4,ze (yb L n) 8]
def deE (L:zg) (n:List UInt8):Int:=yK [ze (zf n) 10,ze (yb L n) 8]
def crL (L:zg) (n h:List UInt8):zg:=if crE L n h=0 then yR L n h else L
def seL (L:zg) (n h:List UInt8):zg:=if seE L n h=0 then yR L n h else L
def deL (L:zg) (n:List UInt8):zg:=if deE L n=0 then xH L n else L
theorem ya {b:Bool} {n:Int} (hn:n≠0):ze b n=0↔b=true:=by cases b <;> simp [ze,hn]
theorem zx {e:Int} {l:List Int} (h:yK (e::l)=0):e=0∧yK l=0:=by
 unfold yK at h
 split at h
 ·
  exact ⟨by assumption,h⟩
 ·
  exact absurd h (by assumption)
theorem jf {n:ByteArray} (h:zf n.data.toList=true):n.size≤12:=by
 unfold zf xF at h
 simp only [Bool.and_eq_true,decide_eq_true_eq] at h
 have:=h.1.1.2.1
 rwa [zi] at this
theorem jl {n:ByteArray} (h:zL n.data.toList=true):n.size≤12:=by
 unfold zL at h
 simp only [Bool.and_eq_true,decide_eq_true_eq] at h
 have:=h.1.2
 rwa [zi] at this
theorem crE_zero {L:zg} {n h:List UInt8} (e:crE L n h=0):zf n=true∧zL h=true∧yb L n=false∧L.length+1≤12:=by
 obtain ⟨e1,e⟩:=zx e
 obtain ⟨e2,e⟩:=zx e
 obtain ⟨e3,e⟩:=zx e
 obtain ⟨e4,_⟩:=zx e
 have:=(ya (by decide)).1 e4
 rw [decide_eq_true_eq] at this
 exact ⟨(ya (by decide)).1 e1,(ya (by decide)).1 e2,by simpa using (ya (by decide)).1 e3,by omega⟩
theorem FP {L:zg} {n h:List UInt8} (e:seE L n h=0):zf n=true∧zL h=true∧yb L n=true:=by
 obtain ⟨e1,e⟩:=zx e
 obtain ⟨e2,e⟩:=zx e
 obtain ⟨e3,_⟩:=zx e
 exact ⟨(ya (by decide)).1 e1,(ya (by decide)).1 e2,(ya (by decide)).1 e3⟩

def YCr7 (b0 B:Nat) (n h:ByteArray) (m e0 e1 e2 e3:Int):Nat→Value→World→Prop
 | 0,v,_=>v=.func (.func 94) #[] #[.pointer (some ⟨b0,0,none⟩),.pointer (some ⟨b0+1,0,none⟩),.pointer (some ⟨b0+2,0,none⟩)]
 | 1,v,_=>v=.string n
 | 2,v,W=>jM v e0 W
 | 3,v,_=>v=.string h
 | 4,v,W=>jM v e1 W
 | 5,v,_=>v=.pointer (some ⟨B,0,none⟩)
 | 6,v,_=>v=.string n
 | 7,v,W=>jM v e2 W
 | 8,v,_=>v=.pointer (some ⟨B,0,none⟩)
 | 9,v,_=>v=.int .i64 m
 | 10,v,_=>v=.int .i64 (m+1)
 | 11,v,W=>jM v e3 W
 | _,v,W=>Zx W v [e0,e1,e2,e3]
theorem ut {b0 B:Nat} {n h:ByteArray} {m e0 e1 e2 e3:Int} {W W':World} (hb:Below W.heap.size W W') (j:Nat) (z:Value) (hz:YCr7 b0 B n h m e0 e1 e2 e3 j z W):YCr7 b0 B n h m e0 e1 e2 e3 j z W':=by
 match j,hz with
 | 0,hz=>exact hz
 | 1,hz=>exact hz
 | 2,hz=>exact hz.later hb
 | 3,hz=>exact hz
 | 4,hz=>exact hz.later hb
 | 5,hz=>exact hz
 | 6,hz=>exact hz
 | 7,hz=>exact hz.later hb
 | 8,hz=>exact hz
 | 9,hz=>exact hz
 | 10,hz=>exact hz
 | 11,hz=>exact hz.later hb
 | _+12,hz=>exact hz.below hb
def YSe7 (b0 B:Nat) (n h:ByteArray) (e0 e1 e2:Int):Nat→Value→World→Prop
 | 0,v,_=>v=.func (.func 102) #[] #[.pointer (some ⟨b0,0,none⟩),.pointer (some ⟨b0+1,0,none⟩),.pointer (some ⟨b0+2,0,none⟩)]
 | 1,v,_=>v=.string n
 | 2,v,W=>jM v e0 W
 | 3,v,_=>v=.string h
 | 4,v,W=>jM v e1 W
 | 5,v,_=>v=.pointer (some ⟨B,0,none⟩)
 | 6,v,_=>v=.string n
 | 7,v,W=>jM v e2 W
 | _,v,W=>Zx W v [e0,e1,e2]
theorem qU {b0 B:Nat} {n h:ByteArray} {e0 e1 e2:Int} {W W':World} (hb:Below W.heap.size W W') (j:Nat) (z:Value) (hz:YSe7 b0 B n h e0 e1 e2 j z W):YSe7 b0 B n h e0 e1 e2 j z W':=by
 match j,hz with
 | 0,hz=>exact hz
 | 1,hz=>exact hz
 | 2,hz=>exact hz.later hb
 | 3,hz=>exact hz
 | 4,hz=>exact hz.later hb
 | 5,hz=>exact hz
 | 6,hz=>exact hz
 | 7,hz=>exact hz.later hb
 | _+8,hz=>exact hz.below hb
def YDe7 (b0 B:Nat) (n:ByteArray) (e0 e1:Int):Nat→Value→World→Prop
 | 0,v,_=>v=.func (.func 101) #[] #[.pointer (some ⟨b0,0,none⟩),.pointer (some ⟨b0+1,0,none⟩)]
 | 1,v,_=>v=.string n
 | 2,v,W=>jM v e0 W
 | 3,v,_=>v=.pointer (some ⟨B,0,none⟩)
 | 4,v,_=>v=.string n
 | 5,v,W=>jM v e1 W
 | _,v,W=>Zx W v [e0,e1]
theorem Z6 {b0 B:Nat} {n:ByteArray} {e0 e1:Int} {W W':World} (hb:Below W.heap.size W W') (j:Nat) (z:Value) (hz:YDe7 b0 B n e0 e1 j z W):YDe7 b0 B n e0 e1 j z W':=by
 match j,hz with
 | 0,hz=>exact hz
 | 1,hz=>exact hz
 | 2,hz=>exact hz.later hb
 | 3,hz=>exact hz
 | 4,hz=>exact hz
 | 5,hz=>exact hz.later hb
 | _+6,hz=>exact hz.below hb
set_option maxRecDepth 100000 in
theorem qR (B:Nat) (p:Option Nat) (L:zg) (n h:ByteArray) (w:World) (hd:xg w B p L) (hn:n.size≤9223372036854775807) (hh:h.size≤9223372036854775807) :
  Calls Tryz.prog 33 #[.pointer (some ⟨B,0,none⟩),.string n,.string h] w fun e w'=>e=.returned (.int .i64 (crE L n.data.toList h.data.toList))∧yy w B p (crL L n.data.toList h.data.toList) w':=by
 have hn':n.size≤maxLen:=Nat.le_trans hn (by decide)
 have hmf:=mkf
 have bl:=z8 (z8 (z8 (Below.refl w.heap.size w) (.cells #[.pointer (some ⟨B,0,none⟩)] 33)) (.cells #[.string n] 9)) (.cells #[.string h] 9)
 have HX:=za (UZ w B n h)
 have HB0:=za bl
 have HD1:=za (hd.later bl)
 have HN:Hid (∀ W,Calls Tryz.prog 49 #[.string n] W (yG (ze (zf n.data.toList) 10) W)):=fun W=>xS n W hn
 have HS:Hid (∀ W,Calls Tryz.prog 97 #[.string h] W (yG (ze (zL h.data.toList) 4) W)):=fun W=>jE h W hh
 have HI:Hid (∀ W,xg W B p L→Calls Tryz.prog 98 #[.pointer (some ⟨B,0,none⟩),.string n] W (yG (ze (!yb L n.data.toList) 9) W)):=fun W hD=>YG B p L n W hD hn'
 have HLN:Hid (∀ W,xg W B p L→Calls Tryz.prog 100 #[.pointer (some ⟨B,0,none⟩)] W fun e w'=>e=.returned (.int .i64 L.length)∧w'=W):=fun W hD=>ZV B p L W hD
 have HFT:Hid (∀ W,Calls Tryz.prog 99 #[.int .i64 ((L.length:Int)+1)] W (yG (ze (decide ((L.length:Int)+1≤12)) 7) W)):=fun W=>Y5 _ W
 have HK:Hid (∀ W,Below ((((w.alloc (.cells #[.pointer (some ⟨B,0,none⟩)] 33)).alloc (.cells #[.string n] 9)).alloc (.cells #[.string h] 9))).heap.size ((((w.alloc (.cells #[.pointer (some ⟨B,0,none⟩)] 33)).alloc (.cells #[.string n] 9)).alloc (.cells #[.string h] 9))) W→∀ G l,l.map (·.2)=[ze (zf n.data.toList) 10,ze (zL h.data.toList) 4,ze (!yb L n.data.toList) 9,ze (decide ((L.length:Int)+1≤12)) 7]→xJ W G l →
   Calls Tryz.prog 96 #[.func (.func 94) #[] #[.pointer (some ⟨w.heap.size,0,none⟩),.pointer (some ⟨w.heap.size+1,0,none⟩),.pointer (some ⟨w.heap.size+2,0,none⟩)],.slice (some ⟨G,0,none⟩) 4 4] W
    fun e w'=>e=.returned (.int .i64 (crE L n.data.toList h.data.toList))∧yy W B p (crL L n.data.toList h.data.toList) w'):=fun W hW G l hes hrow=>by
  have hlen:4=l.length:=by have:=congrArg List.length hes; simpa using this.symm
  by_cases h0:crE L n.data.toList h.data.toList=0
  ·
   obtain ⟨z1,z2,z3,z4⟩:=crE_zero h0
   have hf:(yR L n.data.toList h.data.toList).length≤12:=by rw [xm hd.rise,z3]; exact z4
   rw [h0,show crL L n.data.toList h.data.toList=yR L n.data.toList h.data.toList from if_pos h0]
   refine (F0 G 4 4 l _ _ W (fun W0 w'=>yy W0 B p (yR L n.data.toList h.data.toList) w') hlen (by decide) hrow (by rw [hes]; exact h0) (enters_of Tryz.func94 (by kernel_rfl) rfl) fun W2 hW2=>?_).mono fun e w' ⟨he,W2,hb,hg⟩=>⟨he,hg.ahead hb⟩
   exact Zr _ B p L n h W2 ((HX.out.later hW).later hW2) ((HD1.out.later hW).later hW2) (jf z1) (jl z2) hf
  ·
   rw [show crL L n.data.toList h.data.toList=L from if_neg h0]
   have hb:=U5 G 4 4 l (.func (.func 94) #[] #[.pointer (some ⟨w.heap.size,0,none⟩),.pointer (some ⟨w.heap.size+1,0,none⟩),.pointer (some ⟨w.heap.size+2,0,none⟩)]) W hlen (by decide) hrow (by rw [hes]; exact h0)
   rw [hes] at hb
   exact hb.mono fun e w' ⟨he,hbl⟩=>⟨he,yy.still (HD1.out.later hW) hbl⟩
 generalize crE L n.data.toList h.data.toList=r at *
 generalize crL L n.data.toList h.data.toList=L' at *
 generalize ze (zf n.data.toList) 10=e0 at *
 generalize ze (zL h.data.toList) 4=e1 at *
 generalize ze (!yb L n.data.toList) 9=e2 at *
 generalize ze (decide ((L.length:Int)+1≤12)) 7=e3 at *
 have hm12:(L.length:Int)≤12:=by have:=hd.few; omega
 have hm0:(0:Int)≤(L.length:Int):=by omega
 generalize (L.length:Int)=m at *
 clear hd bl
 go_enter Tryz.func33,Tryz.ntmps33
 go_wp2_with fail
 generalize (((w.alloc (.cells #[.pointer (some ⟨B,0,none⟩)] 33)).alloc (.cells #[.string n] 9)).alloc (.cells #[.string h] 9))=w1 at *
 refine zI (by kernel_rfl) 13 (fun W=>Below w1.heap.size w1 W) (fun W=>yy w1 B p L' W) (YCr7 w.heap.size B n h m e0 e1 e2 e3) (fun v=>v=.int .i64 r) ?F ?hF (by kernel_rfl) (by kernel_rfl) (by kernel_rfl) (by kernel_rfl) (by decide) (zz (Below.refl _ _)) ?step ?fin
 case hF =>
  intro x
  simp only [List.map_cons,List.map_nil,xw,Act.put,List.setIfInBounds_toArray,List.set_cons_zero,List.set_cons_succ,Nat.zero_add,Nat.reduceAdd]
  exact rfl
 case step =>
  refine ⟨?_,?_,?_,?_,?_,?_,?_,?_,?_,?_,?_,?_,?_,?_,?_,trivial⟩
  ·
   intro x W
   refine ⟨fun _ hW hdep K hK=>?_,(fun h=>absurd h (by decide)),(fun h=>absurd h (by decide))⟩
   clear hdep
   go_simp
   exact hK _ _ rfl hW (fun _ _ h=>h)
  ·
   intro x W
   refine ⟨fun _ hW hdep K hK=>?_,(fun h=>absurd h (by decide)),(fun h=>absurd h (by decide))⟩
   have c1:=(HX.out.later hW).c1
   clear hdep
   go_simp
   exact hK _ _ rfl hW (fun _ _ h=>h)
  ·
   intro x W
   refine ⟨fun _ hW hdep K hK=>?_,(fun h=>absurd h (by decide)),(fun h=>absurd h (by decide))⟩
   have h1:x 1=_:=hdep 1 rfl
   clear hdep
   simp only [h1] at hK
   go_simp
   refine (HN.out W).mono ?_
   rintro e W' ⟨g,lb,rfl,ha,hb⟩
   exact hK _ _ ha (z7 hW hb) (fun j u h=>ut hb j u h)
  ·
   intro x W
   refine ⟨fun _ hW hdep K hK=>?_,(fun h=>absurd h (by decide)),(fun h=>absurd h (by decide))⟩
   have c2:=(HX.out.later hW).c2
   clear hdep
   go_simp
   exact hK _ _ rfl hW (fun _ _ h=>h)
  ·
   intro x W
   refine ⟨fun _ hW hdep K hK=>?_,(fun h=>absurd h (by decide)),(fun h=>absurd h (by decide))⟩
   have h3:x 3=_:=hdep 3 rfl
   clear hdep
   simp only [h3] at hK
   go_simp
   refine (HS.out W).mono ?_
   rintro e W' ⟨g,lb,rfl,ha,hb⟩
   exact hK _ _ ha (z7 hW hb) (fun j u h=>ut hb j u h)
  ·
   intro x W
   refine ⟨fun _ hW hdep K hK=>?_,(fun h=>absurd h (by decide)),(fun h=>absurd h (by decide))⟩
   have c0:=(HX.out.later hW).c0
   clear hdep
   go_simp
   exact hK _ _ rfl hW (fun _ _ h=>h)
  ·
   intro x W
   refine ⟨fun _ hW hdep K hK=>?_,(fun h=>absurd h (by decide)),(fun h=>absurd h (by decide))⟩
   have c1:=(HX.out.later hW).c1
   clear hdep
   go_simp
   exact hK _ _ rfl hW (fun _ _ h=>h)
  ·
   intro x W
   refine ⟨fun _ hW hdep K hK=>?_,(fun h=>absurd h (by decide)),(fun h=>absurd h (by decide))⟩
   have h5:x 5=_:=hdep 5 rfl
   have h6:x 6=_:=hdep 6 rfl
   clear hdep
   simp only [h5,h6] at hK
   go_simp
   refine (HI.out W (HD1.out.later hW)).mono ?_
   rintro e W' ⟨g,lb,rfl,ha,hb⟩
   exact hK _ _ ha (z7 hW hb) (fun j u h=>ut hb j u h)
  ·
   intro x W
   refine ⟨fun _ hW hdep K hK=>?_,(fun h=>absurd h (by decide)),(fun h=>absurd h (by decide))⟩
   have c0:=(HX.out.later hW).c0
   clear hdep
   go_simp
   exact hK _ _ rfl hW (fun _ _ h=>h)
  ·
   intro x W
   refine ⟨fun _ hW hdep K hK=>?_,(fun h=>absurd h (by decide)),(fun h=>absurd h (by decide))⟩
   have h8:x 8=_:=hdep 8 rfl
   clear hdep
   simp only [h8] at hK
   go_simp
   refine (HLN.out W (HD1.out.later hW)).mono ?_
   rintro e W' ⟨rfl,rfl⟩
   exact hK _ _ rfl hW (fun _ _ h=>h)
  ·
   intro x W
   refine ⟨fun _ hW hdep K hK=>?_,(fun h=>absurd h (by decide)),(fun h=>absurd h (by decide))⟩
   have h9:x 9=_:=hdep 9 rfl
   clear hdep
   simp only [h9] at hK
   go_simp
   exact hK _ _ (by show _=_; rw [IntKind.wrap_i64,show (m+1+9223372036854775808) % 18446744073709551616 - 9223372036854775808=m+1 by omega]) hW (fun _ _ h=>h)
  ·
   intro x W
   refine ⟨fun _ hW hdep K hK=>?_,(fun h=>absurd h (by decide)),(fun h=>absurd h (by decide))⟩
   have h10:x 10=_:=hdep 10 rfl
   clear hdep
   simp only [h10] at hK
   go_simp
   refine (HFT.out W).mono ?_
   rintro e W' ⟨g,lb,rfl,ha,hb⟩
   exact hK _ _ ha (z7 hW hb) (fun j u h=>ut hb j u h)
  ·
   intro x W
   refine ⟨fun _ hW hdep K hK=>?_,(fun h=>absurd h (by decide)),(fun h=>absurd h (by decide))⟩
   have a2:jM (x 2) e0 W:=hdep 2 rfl
   have a4:jM (x 4) e1 W:=hdep 4 rfl
   have a7:jM (x 7) e2 W:=hdep 7 rfl
   have a11:jM (x 11) e3 W:=hdep 11 rfl
   have A2:=za a2
   obtain ⟨g2,lb2,h2,_⟩:=a2
   rw [h2] at A2
   have A4:=za a4
   obtain ⟨g4,lb4,h4,_⟩:=a4
   rw [h4] at A4
   have A7:=za a7
   obtain ⟨g7,lb7,h7,_⟩:=a7
   rw [h7] at A7
   have A11:=za a11
   obtain ⟨g11,lb11,h11,_⟩:=a11
   rw [h11] at A11
   simp only [h2,h4,h7,h11] at hK
   clear hdep
   go_simp
   have hn:=qS W [(.func (.func g2) #[] lb2,e0),(.func (.func g4) #[] lb4,e1),(.func (.func g7) #[] lb7,e2),(.func (.func g11) #[] lb11,e3)] 95 (by
    intro y hy
    simp only [List.mem_cons,List.not_mem_nil,or_false] at hy
    rcases hy with rfl | rfl | rfl | rfl
    ·
     exact A2.out
    ·
     exact A4.out
    ·
     exact A7.out
    ·
     exact A11.out)
   exact hK _ _ hn (z8 hW _) (fun j z h=>ut (z8 (Below.refl _ _) _) j z h)
  ·
   intro x W
   refine ⟨(fun h=>absurd h (by decide)),fun _ hW hdep K hK=>?_,(fun h=>absurd h (by decide))⟩
   have h0:x 0=_:=hdep 0 rfl
   have hA:Zx W (x 12) [e0,e1,e2,e3]:=hdep 12 rfl
   obtain ⟨G,l,h12,hes,hrow⟩:=hA
   simp only [h0,h12] at hK
   have HKW:=za (HK.out W hW G l hes hrow)
   clear hdep
   go_simp
   refine HKW.out.mono ?_
   rintro e W' ⟨rfl,hg⟩
   exact hK _ _ rfl (yy.ahead hW hg)
  ·
   intro x W
   refine ⟨(fun h=>absurd h (by decide)),(fun h=>absurd h (by decide)),fun _ hW hdep K hK=>?_⟩
   have h13:x 13=_:=hdep 13 rfl (by decide)
   clear hdep
   simp only [h13] at hK
   go_simp
   exact hK _ rfl
 case fin =>
  intro x W hW hZ
  have h14:x 14=.int .i64 r:=hZ 14 (by decide) (by decide)
  have HF:=za (yy.ahead HB0.out hW)
  clear hZ hW HX HB0 HD1 HK
  rw [h14]
  go_wp2
  go_ret
  exact ⟨rfl,HF.out⟩

set_option maxRecDepth 100000 in
theorem uV (B:Nat) (p:Option Nat) (L:zg) (n h:ByteArray) (w:World) (hd:xg w B p L) (hn:n.size≤9223372036854775807) (hh:h.size≤9223372036854775807) :
  Calls Tryz.prog 35 #[.pointer (some ⟨B,0,none⟩),.string n,.string h] w fun e w'=>e=.returned (.int .i64 (seE L n.data.toList h.data.toList))∧yy w B p (seL L n.data.toList h.data.toList) w':=by
 have hn':n.size≤maxLen:=Nat.le_trans hn (by decide)
 have hmf:=mkf
 have bl:=z8 (z8 (z8 (Below.refl w.heap.size w) (.cells #[.pointer (some ⟨B,0,none⟩)] 33)) (.cells #[.string n] 9)) (.cells #[.string h] 9)
 have HX:=za (UZ w B n h)
 have HB0:=za bl
 have HD1:=za (hd.later bl)
 have HN:Hid (∀ W,Calls Tryz.prog 49 #[.string n] W (yG (ze (zf n.data.toList) 10) W)):=fun W=>xS n W hn
 have HS:Hid (∀ W,Calls Tryz.prog 97 #[.string h] W (yG (ze (zL h.data.toList) 4) W)):=fun W=>jE h W hh
 have HI:Hid (∀ W,xg W B p L→Calls Tryz.prog 50 #[.pointer (some ⟨B,0,none⟩),.string n] W (yG (ze (yb L n.data.toList) 8) W)):=fun W hD=>vA B p L n W hD hn'
 have HK:Hid (∀ W,Below ((((w.alloc (.cells #[.pointer (some ⟨B,0,none⟩)] 33)).alloc (.cells #[.string n] 9)).alloc (.cells #[.string h] 9))).heap.size ((((w.alloc (.cells #[.pointer (some ⟨B,0,none⟩)] 33)).alloc (.cells #[.string n] 9)).alloc (.cells #[.string h] 9))) W→∀ G l,l.map (·.2)=[ze (zf n.data.toList) 10,ze (zL h.data.toList) 4,ze (yb L n.data.toList) 8]→xJ W G l →
   Calls Tryz.prog 96 #[.func (.func 102) #[] #[.pointer (some ⟨w.heap.size,0,none⟩),.pointer (some ⟨w.heap.size+1,0,none⟩),.pointer (some ⟨w.heap.size+2,0,none⟩)],.slice (some ⟨G,0,none⟩) 3 3] W
    fun e w'=>e=.returned (.int .i64 (seE L n.data.toList h.data.toList))∧yy W B p (seL L n.data.toList h.data.toList) w'):=fun W hW G l hes hrow=>by
  have hlen:3=l.length:=by have:=congrArg List.length hes; simpa using this.symm
  by_cases h0:seE L n.data.toList h.data.toList=0
  ·
   obtain ⟨z1,z2,z3⟩:=FP h0
   have hf:(yR L n.data.toList h.data.toList).length≤12:=by rw [xm hd.rise,z3]; exact hd.few
   rw [h0,show seL L n.data.toList h.data.toList=yR L n.data.toList h.data.toList from if_pos h0]
   refine (F0 G 3 3 l _ _ W (fun W0 w'=>yy W0 B p (yR L n.data.toList h.data.toList) w') hlen (by decide) hrow (by rw [hes]; exact h0) (enters_of Tryz.func102 (by kernel_rfl) rfl) fun W2 hW2=>?_).mono fun e w' ⟨he,W2,hb,hg⟩=>⟨he,hg.ahead hb⟩
   exact fq _ B p L n h W2 ((HX.out.later hW).later hW2) ((HD1.out.later hW).later hW2) (jf z1) (jl z2) hf
  ·
   rw [show seL L n.data.toList h.data.toList=L from if_neg h0]
   have hb:=U5 G 3 3 l (.func (.func 102) #[] #[.pointer (some ⟨w.heap.size,0,none⟩),.pointer (some ⟨w.heap.size+1,0,none⟩),.pointer (some ⟨w.heap.size+2,0,none⟩)]) W hlen (by decide) hrow (by rw [hes]; exact h0)
   rw [hes] at hb
   exact hb.mono fun e w' ⟨he,hbl⟩=>⟨he,yy.still (HD1.out.later hW) hbl⟩
 generalize seE L n.data.toList h.data.toList=r at *
 generalize seL L n.data.toList h.data.toList=L' at *
 generalize ze (zf n.data.toList) 10=e0 at *
 generalize ze (zL h.data.toList) 4=e1 at *
 generalize ze (yb L n.data.toList) 8=e2 at *
 clear hd bl
 go_enter Tryz.func35,Tryz.ntmps35
 go_wp2_with fail
 generalize (((w.alloc (.cells #[.pointer (some ⟨B,0,none⟩)] 33)).alloc (.cells #[.string n] 9)).alloc (.cells #[.string h] 9))=w1 at *
 refine zI (by kernel_rfl) 9 (fun W=>Below w1.heap.size w1 W) (fun W=>yy w1 B p L' W) (YSe7 w.heap.size B n h e0 e1 e2) (fun v=>v=.int .i64 r) ?F ?hF (by kernel_rfl) (by kernel_rfl) (by kernel_rfl) (by kernel_rfl) (by decide) (zz (Below.refl _ _)) ?step ?fin
 case hF =>
  intro x
  simp only [List.map_cons,List.map_nil,xw,Act.put,List.setIfInBounds_toArray,List.set_cons_zero,List.set_cons_succ,Nat.zero_add,Nat.reduceAdd]
  exact rfl
 case step =>
  refine ⟨?_,?_,?_,?_,?_,?_,?_,?_,?_,?_,?_,trivial⟩
  ·
   intro x W
   refine ⟨fun _ hW hdep K hK=>?_,(fun h=>absurd h (by decide)),(fun h=>absurd h (by decide))⟩
   clear hdep
   go_simp
   exact hK _ _ rfl hW (fun _ _ h=>h)
  ·
   intro x W
   refine ⟨fun _ hW hdep K hK=>?_,(fun h=>absurd h (by decide)),(fun h=>absurd h (by decide))⟩
   have c1:=(HX.out.later hW).c1
   clear hdep
   go_simp
   exact hK _ _ rfl hW (fun _ _ h=>h)
  ·
   intro x W
   refine ⟨fun _ hW hdep K hK=>?_,(fun h=>absurd h (by decide)),(fun h=>absurd h (by decide))⟩
   have h1:x 1=_:=hdep 1 rfl
   clear hdep
   simp only [h1] at hK
   go_simp
   refine (HN.out W).mono ?_
   rintro e W' ⟨g,lb,rfl,ha,hb⟩
   exact hK _ _ ha (z7 hW hb) (fun j u h=>qU hb j u h)
  ·
   intro x W
   refine ⟨fun _ hW hdep K hK=>?_,(fun h=>absurd h (by decide)),(fun h=>absurd h (by decide))⟩
   have c2:=(HX.out.later hW).c2
   clear hdep
   go_simp
   exact hK _ _ rfl hW (fun _ _ h=>h)
  ·
   intro x W
   refine ⟨fun _ hW hdep K hK=>?_,(fun h=>absurd h (by decide)),(fun h=>absurd h (by decide))⟩
   have h3:x 3=_:=hdep 3 rfl
   clear hdep
   simp only [h3] at hK
   go_simp
   refine (HS.out W).mono ?_
   rintro e W' ⟨g,lb,rfl,ha,hb⟩
   exact hK _ _ ha (z7 hW hb) (fun j u h=>qU hb j u h)
  ·
   intro x W
   refine ⟨fun _ hW hdep K hK=>?_,(fun h=>absurd h (by decide)),(fun h=>absurd h (by decide))⟩
   have c0:=(HX.out.later hW).c0
   clear hdep
   go_simp
   exact hK _ _ rfl hW (fun _ _ h=>h)
  ·
   intro x W
   refine ⟨fun _ hW hdep K hK=>?_,(fun h=>absurd h (by decide)),(fun h=>absurd h (by decide))⟩
   have c1:=(HX.out.later hW).c1
   clear hdep
   go_simp
   exact hK _ _ rfl hW (fun _ _ h=>h)
  ·
   intro x W
   refine ⟨fun _ hW hdep K hK=>?_,(fun h=>absurd h (by decide)),(fun h=>absurd h (by decide))⟩
   have h5:x 5=_:=hdep 5 rfl
   have h6:x 6=_:=hdep 6 rfl
   clear hdep
   simp only [h5,h6] at hK
   go_simp
   refine (HI.out W (HD1.out.later hW)).mono ?_
   rintro e W' ⟨g,lb,rfl,ha,hb⟩
   exact hK _ _ ha (z7 hW hb) (fun j u h=>qU hb j u h)
  ·
   intro x W
   refine ⟨fun _ hW hdep K hK=>?_,(fun h=>absurd h (by decide)),(fun h=>absurd h (by decide))⟩
   have a2:jM (x 2) e0 W:=hdep 2 rfl
   have a4:jM (x 4) e1 W:=hdep 4 rfl
   have a7:jM (x 7) e2 W:=hdep 7 rfl
   have A2:=za a2
   obtain ⟨g2,lb2,h2,_⟩:=a2
   rw [h2] at A2
   have A4:=za a4
   obtain ⟨g4,lb4,h4,_⟩:=a4
   rw [h4] at A4
   have A7:=za a7
   obtain ⟨g7,lb7,h7,_⟩:=a7
   rw [h7] at A7
   simp only [h2,h4,h7] at hK
   clear hdep
   go_simp
   have hn:=qS W [(.func (.func g2) #[] lb2,e0),(.func (.func g4) #[] lb4,e1),(.func (.func g7) #[] lb7,e2)] 95 (by
    intro y hy
    simp only [List.mem_cons,List.not_mem_nil,or_false] at hy
    rcases hy with rfl | rfl | rfl
    ·
     exact A2.out
    ·
     exact A4.out
    ·
     exact A7.out)
   exact hK _ _ hn (z8 hW _) (fun j z h=>qU (z8 (Below.refl _ _) _) j z h)
  ·
   intro x W
   refine ⟨(fun h=>absurd h (by decide)),fun _ hW hdep K hK=>?_,(fun h=>absurd h (by decide))⟩
   have h0:x 0=_:=hdep 0 rfl
   have hA:Zx W (x 8) [e0,e1,e2]:=hdep 8 rfl
   obtain ⟨G,l,h8,hes,hrow⟩:=hA
   simp only [h0,h8] at hK
   have HKW:=za (HK.out W hW G l hes hrow)
   clear hdep
   go_simp
   refine HKW.out.mono ?_
   rintro e W' ⟨rfl,hg⟩
   exact hK _ _ rfl (yy.ahead hW hg)
  ·
   intro x W
   refine ⟨(fun h=>absurd h (by decide)),(fun h=>absurd h (by decide)),fun _ hW hdep K hK=>?_⟩
   have h9:x 9=_:=hdep 9 rfl (by decide)
   clear hdep
   simp only [h9] at hK
   go_simp
   exact hK _ rfl
 case fin =>
  intro x W hW hZ
  have h10:x 10=.int .i64 r:=hZ 10 (by decide) (by decide)
  have HF:=za (yy.ahead HB0.out hW)
  clear hZ hW HX HB0 HD1 HK
  rw [h10]
  go_wp2
  go_ret
  exact ⟨rfl,HF.out⟩

theorem del7 {w:World} {B:Nat} {p:Option Nat} {L:zg} (hd:xg w B p L) (s:ByteArray) (hs:s.size≤maxLen) :
  ∃ w',(Builtin.delete_ #[76,9] 0 #[.map p,.string s]).run Tryz.prog w=.ok (.tuple #[]) w'∧yy w B p (xH L s.data.toList) w':=by
 cases p with
 | none =>
  have hL:=hd.nil rfl
  subst hL
  exact ⟨w,Maps.drop_nil vN Tryz.underlying76 (UI s hs) _,yy.still hd (Below.refl _ _)⟩
 | some b =>
  obtain ⟨w1,hrun,hown,hturn⟩:=(hd.map b rfl).drop vN Tryz.underlying76 (UI s hs) 0
  rw [UV] at hown
  refine ⟨w1,hrun,some b,qt ((vt hturn (hd.apart b rfl)).trans hd.blk) rfl hown (uz hd.rise _) ?_ (fun q hq=>hd.all q (yn.1 hq).1),(fun b' hb'=>.inl hb'),?_⟩
  ·
   exact Nat.le_trans (List.length_filter_le _ _) hd.few
  ·
   exact (zc.refl _ w).grown hturn.grown (fun k hk _=>.inr hk)

def YDel7 (B:Nat) (p:Option Nat) (n:ByteArray):Nat→Value→World→Prop
 | 3,v,_=>v=.map p
 | 4,v,_=>v=.string n
 | _,v,_=>v=.pointer (some ⟨B,0,none⟩)

set_option maxRecDepth 100000 in
theorem Zp (b0 B:Nat) (p:Option Nat) (L:zg) (n:ByteArray) (w:World) (hc0:w.cell? ⟨b0,0,none⟩=some (.pointer (some ⟨B,0,none⟩))) (hc1:w.cell? ⟨b0+1,0,none⟩=some (.string n)) (hd:xg w B p L) (hn:n.size≤maxLen) :
  Calls Tryz.prog 101 #[.pointer (some ⟨b0,0,none⟩),.pointer (some ⟨b0+1,0,none⟩)] w fun e w'=>e=.returned (.tuple #[])∧yy w B p (xH L n.data.toList) w':=by
 have l0:b0<w.heap.size:=World.block_lt_of_cell? w _ hc0
 have l1:b0+1<w.heap.size:=World.block_lt_of_cell? w _ hc1
 have HC0:=za hc0
 have HC1:=za hc1
 have HD:=za hd
 clear hc0 hc1 hd
 go_enter Tryz.func101,Tryz.ntmps101
 refine zI (by kernel_rfl) 5 (fun W=>Below w.heap.size w W) (fun W=>yy w B p (xH L n.data.toList) W) (YDel7 B p n) (fun v=>v=.tuple #[]) ?F ?hF (by kernel_rfl) (by kernel_rfl) (by kernel_rfl) (by kernel_rfl) (by decide) (zz (Below.refl _ _)) ?step ?fin
 case hF =>
  intro x
  simp only [List.map_cons,List.map_nil,xw,Act.put,List.setIfInBounds_toArray,List.set_cons_zero,List.set_cons_succ,Nat.zero_add,Nat.reduceAdd]
  exact rfl
 case step =>
  refine ⟨?_,?_,?_,?_,?_,?_,trivial⟩
  ·
   intro x W
   refine ⟨fun _ hW hdep K hK=>?_,(fun h=>absurd h (by decide)),(fun h=>absurd h (by decide))⟩
   have c0:=(hW.cell (p:=⟨b0,0,none⟩) l0).trans HC0.out
   clear hdep
   go_simp
   exact hK _ _ rfl hW (fun _ _ h=>h)
  ·
   intro x W
   refine ⟨fun _ hW hdep K hK=>?_,(fun h=>absurd h (by decide)),(fun h=>absurd h (by decide))⟩
   have h0:x 0=_:=hdep 0 rfl
   clear hdep
   simp only [h0] at hK
   go_simp
   exact hK _ _ rfl hW (fun _ _ h=>h)
  ·
   intro x W
   refine ⟨fun _ hW hdep K hK=>?_,(fun h=>absurd h (by decide)),(fun h=>absurd h (by decide))⟩
   have h1:x 1=_:=hdep 1 rfl
   clear hdep
   simp only [h1] at hK
   go_simp
   exact hK _ _ rfl hW (fun _ _ h=>h)
  ·
   intro x W
   refine ⟨fun _ hW hdep K hK=>?_,(fun h=>absurd h (by decide)),(fun h=>absurd h (by decide))⟩
   have h2:x 2=_:=hdep 2 rfl
   have c:=(HD.out.later hW).cell
   clear hdep
   simp only [h2] at hK
   go_simp
   exact hK _ _ rfl hW (fun _ _ h=>h)
  ·
   intro x W
   refine ⟨fun _ hW hdep K hK=>?_,(fun h=>absurd h (by decide)),(fun h=>absurd h (by decide))⟩
   have c1:=(hW.cell (p:=⟨b0+1,0,none⟩) l1).trans HC1.out
   clear hdep
   go_simp
   exact hK _ _ rfl hW (fun _ _ h=>h)
  ·
   intro x W
   refine ⟨(fun h=>absurd h (by decide)),fun _ hW hdep K hK=>?_,(fun h=>absurd h (by decide))⟩
   have h3:x 3=_:=hdep 3 rfl
   have h4:x 4=_:=hdep 4 rfl
   obtain ⟨w',hrun,hg⟩:=del7 (HD.out.later hW) n hn
   clear hdep
   simp only [h3,h4] at hK
   go_simp
   exact hK _ _ rfl (hg.ahead hW)
 case fin =>
  intro x W hW _
  have HF:=za hW
  clear hW HD HC0 HC1
  go_end0
  exact ⟨rfl,HF.out⟩

set_option maxRecDepth 100000 in
theorem qQ (B:Nat) (p:Option Nat) (L:zg) (n:ByteArray) (w:World) (hd:xg w B p L) (hn:n.size≤9223372036854775807) :
  Calls Tryz.prog 34 #[.pointer (some ⟨B,0,none⟩),.string n] w fun e w'=>e=.returned (.int .i64 (deE L n.data.toList))∧yy w B p (deL L n.data.toList) w':=by
 have hn':n.size≤maxLen:=Nat.le_trans hn (by decide)
 have hmf:=mkf
 have bl:=z8 (z8 (Below.refl w.heap.size w) (.cells #[.pointer (some ⟨B,0,none⟩)] 33)) (.cells #[.string n] 9)
 have HX:=za (trivial)
 have HB0:=za bl
 have HD1:=za (hd.later bl)
 have HN:Hid (∀ W,Calls Tryz.prog 49 #[.string n] W (yG (ze (zf n.data.toList) 10) W)):=fun W=>xS n W hn
 have HI:Hid (∀ W,xg W B p L→Calls Tryz.prog 50 #[.pointer (some ⟨B,0,none⟩),.string n] W (yG (ze (yb L n.data.toList) 8) W)):=fun W hD=>vA B p L n W hD hn'
 have l0:w.heap.size<(((w.alloc (.cells #[.pointer (some ⟨B,0,none⟩)] 33)).alloc (.cells #[.string n] 9))).heap.size:=by simp; omega
 have l1:w.heap.size+1<(((w.alloc (.cells #[.pointer (some ⟨B,0,none⟩)] 33)).alloc (.cells #[.string n] 9))).heap.size:=by simp
 have HX0:Hid ((((w.alloc (.cells #[.pointer (some ⟨B,0,none⟩)] 33)).alloc (.cells #[.string n] 9))).cell? ⟨w.heap.size,0,none⟩=some (.pointer (some ⟨B,0,none⟩))):=by show _=_; simp
 have HX1:Hid ((((w.alloc (.cells #[.pointer (some ⟨B,0,none⟩)] 33)).alloc (.cells #[.string n] 9))).cell? ⟨w.heap.size+1,0,none⟩=some (.string n)):=by show _=_; simp
 have HK:Hid (∀ W,Below (((w.alloc (.cells #[.pointer (some ⟨B,0,none⟩)] 33)).alloc (.cells #[.string n] 9))).heap.size (((w.alloc (.cells #[.pointer (some ⟨B,0,none⟩)] 33)).alloc (.cells #[.string n] 9))) W→∀ G l,l.map (·.2)=[ze (zf n.data.toList) 10,ze (yb L n.data.toList) 8]→xJ W G l →
   Calls Tryz.prog 96 #[.func (.func 101) #[] #[.pointer (some ⟨w.heap.size,0,none⟩),.pointer (some ⟨w.heap.size+1,0,none⟩)],.slice (some ⟨G,0,none⟩) 2 2] W
    fun e w'=>e=.returned (.int .i64 (deE L n.data.toList))∧yy W B p (deL L n.data.toList) w'):=fun W hW G l hes hrow=>by
  have hlen:2=l.length:=by have:=congrArg List.length hes; simpa using this.symm
  by_cases h0:deE L n.data.toList=0
  ·
   rw [h0,show deL L n.data.toList=xH L n.data.toList from if_pos h0]
   refine (F0 G 2 2 l _ _ W (fun W0 w'=>yy W0 B p (xH L n.data.toList) w') hlen (by decide) hrow (by rw [hes]; exact h0) (enters_of Tryz.func101 (by kernel_rfl) rfl) fun W2 hW2=>?_).mono fun e w' ⟨he,W2,hb,hg⟩=>⟨he,hg.ahead hb⟩
   have hb2:=z7 hW hW2
   exact Zp _ B p L n W2 ((hb2.cell (p:=⟨_,0,none⟩) l0).trans HX0.out) ((hb2.cell (p:=⟨_,0,none⟩) l1).trans HX1.out) ((HD1.out.later hW).later hW2) hn'
  ·
   rw [show deL L n.data.toList=L from if_neg h0]
   have hb:=U5 G 2 2 l (.func (.func 101) #[] #[.pointer (some ⟨w.heap.size,0,none⟩),.pointer (some ⟨w.heap.size+1,0,none⟩)]) W hlen (by decide) hrow (by rw [hes]; exact h0)
   rw [hes] at hb
   exact hb.mono fun e w' ⟨he,hbl⟩=>⟨he,yy.still (HD1.out.later hW) hbl⟩
 generalize deE L n.data.toList=r at *
 generalize deL L n.data.toList=L' at *
 generalize ze (zf n.data.toList) 10=e0 at *
 generalize ze (yb L n.data.toList) 8=e1 at *
 clear hd bl
 go_enter Tryz.func34,Tryz.ntmps34
 go_wp2_with fail
 generalize ((w.alloc (.cells #[.pointer (some ⟨B,0,none⟩)] 33)).alloc (.cells #[.string n] 9))=w1 at *
 refine zI (by kernel_rfl) 7 (fun W=>Below w1.heap.size w1 W) (fun W=>yy w1 B p L' W) (YDe7 w.heap.size B n e0 e1) (fun v=>v=.int .i64 r) ?F ?hF (by kernel_rfl) (by kernel_rfl) (by kernel_rfl) (by kernel_rfl) (by decide) (zz (Below.refl _ _)) ?step ?fin
 case hF =>
  intro x
  simp only [List.map_cons,List.map_nil,xw,Act.put,List.setIfInBounds_toArray,List.set_cons_zero,List.set_cons_succ,Nat.zero_add,Nat.reduceAdd]
  exact rfl
 case step =>
  refine ⟨?_,?_,?_,?_,?_,?_,?_,?_,?_,trivial⟩
  ·
   intro x W
   refine ⟨fun _ hW hdep K hK=>?_,(fun h=>absurd h (by decide)),(fun h=>absurd h (by decide))⟩
   clear hdep
   go_simp
   exact hK _ _ rfl hW (fun _ _ h=>h)
  ·
   intro x W
   refine ⟨fun _ hW hdep K hK=>?_,(fun h=>absurd h (by decide)),(fun h=>absurd h (by decide))⟩
   have c1:=(hW.cell (p:=⟨w.heap.size+1,0,none⟩) l1).trans HX1.out
   clear hdep
   go_simp
   exact hK _ _ rfl hW (fun _ _ h=>h)
  ·
   intro x W
   refine ⟨fun _ hW hdep K hK=>?_,(fun h=>absurd h (by decide)),(fun h=>absurd h (by decide))⟩
   have h1:x 1=_:=hdep 1 rfl
   clear hdep
   simp only [h1] at hK
   go_simp
   refine (HN.out W).mono ?_
   rintro e W' ⟨g,lb,rfl,ha,hb⟩
   exact hK _ _ ha (z7 hW hb) (fun j u h=>Z6 hb j u h)
  ·
   intro x W
   refine ⟨fun _ hW hdep K hK=>?_,(fun h=>absurd h (by decide)),(fun h=>absurd h (by decide))⟩
   have c0:=(hW.cell (p:=⟨w.heap.size,0,none⟩) l0).trans HX0.out
   clear hdep
   go_simp
   exact hK _ _ rfl hW (fun _ _ h=>h)
  ·
   intro x W
   refine ⟨fun _ hW hdep K hK=>?_,(fun h=>absurd h (by decide)),(fun h=>absurd h (by decide))⟩
   have c1:=(hW.cell (p:=⟨w.heap.size+1,0,none⟩) l1).trans HX1.out
   clear hdep
   go_simp
   exact hK _ _ rfl hW (fun _ _ h=>h)
  ·
   intro x W
   refine ⟨fun _ hW hdep K hK=>?_,(fun h=>absurd h (by decide)),(fun h=>absurd h (by decide))⟩
   have h3:x 3=_:=hdep 3 rfl
   have h4:x 4=_:=hdep 4 rfl
   clear hdep
   simp only [h3,h4] at hK
   go_simp
   refine (HI.out W (HD1.out.later hW)).mono ?_
   rintro e W' ⟨g,lb,rfl,ha,hb⟩
   exact hK _ _ ha (z7 hW hb) (fun j u h=>Z6 hb j u h)
  ·
   intro x W
   refine ⟨fun _ hW hdep K hK=>?_,(fun h=>absurd h (by decide)),(fun h=>absurd h (by decide))⟩
   have a2:jM (x 2) e0 W:=hdep 2 rfl
   have a5:jM (x 5) e1 W:=hdep 5 rfl
   have A2:=za a2
   obtain ⟨g2,lb2,h2,_⟩:=a2
   rw [h2] at A2
   have A5:=za a5
   obtain ⟨g5,lb5,h5,_⟩:=a5
   rw [h5] at A5
   simp only [h2,h5] at hK
   clear hdep
   go_simp
   have hn:=qS W [(.func (.func g2) #[] lb2,e0),(.func (.func g5) #[] lb5,e1)] 95 (by
    intro y hy
    simp only [List.mem_cons,List.not_mem_nil,or_false] at hy
    rcases hy with rfl | rfl
    ·
     exact A2.out
    ·
     exact A5.out)
   exact hK _ _ hn (z8 hW _) (fun j z h=>Z6 (z8 (Below.refl _ _) _) j z h)
  ·
   intro x W
   refine ⟨(fun h=>absurd h (by decide)),fun _ hW hdep K hK=>?_,(fun h=>absurd h (by decide))⟩
   have h0:x 0=_:=hdep 0 rfl
   have hA:Zx W (x 6) [e0,e1]:=hdep 6 rfl
   obtain ⟨G,l,h6,hes,hrow⟩:=hA
   simp only [h0,h6] at hK
   have HKW:=za (HK.out W hW G l hes hrow)
   clear hdep
   go_simp
   refine HKW.out.mono ?_
   rintro e W' ⟨rfl,hg⟩
   exact hK _ _ rfl (yy.ahead hW hg)
  ·
   intro x W
   refine ⟨(fun h=>absurd h (by decide)),(fun h=>absurd h (by decide)),fun _ hW hdep K hK=>?_⟩
   have h7:x 7=_:=hdep 7 rfl (by decide)
   clear hdep
   simp only [h7] at hK
   go_simp
   exact hK _ rfl
 case fin =>
  intro x W hW hZ
  have h8:x 8=.int .i64 r:=hZ 8 (by decide) (by decide)
  have HF:=za (yy.ahead HB0.out hW)
  clear hZ hW HX HB0 HD1 HK
  rw [h8]
  go_wp2
  go_ret
  exact ⟨rfl,HF.out⟩
end Go.Proofs.YthmomkjingcbiaaGreatDoor
namespace Go.Proofs.YthmomkjingcbiaaGreatDoor
open Go.RowKit Go.Maps Go.Sort Go.Shelf

def Ul (w:World) (v:Value) (ls:List (List UInt8)):Prop:=∃ A c,v=.slice A ls.length c∧∀ j (h:j<ls.length),∃ g,A=some ⟨g,0,none⟩∧w.cell? ⟨g,j,none⟩=some (.string (tx7 ls[j]))
theorem Ul.later {w w':World} {v:Value} {ls:List (List UInt8)} (h:Ul w v ls) (hb:Below w.heap.size w w'):Ul w' v ls:=by
 obtain ⟨A,c,e,hc⟩:=h
 exact ⟨A,c,e,fun j hj=>by obtain ⟨g,e,h⟩:=hc j hj; exact ⟨g,e,(hb.cell (p:=⟨g,j,none⟩) (World.block_lt_of_cell? w _ h)).trans h⟩⟩
theorem Ul.nil (w:World):Ul w (.slice none 0 0) []:=⟨none,0,rfl,fun _ h=>absurd h (Nat.not_lt_zero _)⟩
theorem Ul.of_own {w:World} {base:Nat} {e:TypeId} {v:Value} {ls:List (List UInt8)} (h:w.ownsRow base e 1 v ls.length (ls.map encStr)):Ul w v ls:=by
 obtain ⟨A,c,rfl⟩:∃ A c,v=.slice A ls.length c:=by
  rcases h.2 with ⟨rfl,h0⟩ | ⟨g,cap,cur,rfl,_⟩
  ·
   exact ⟨none,0,by rw [h0]⟩
  ·
   exact ⟨_,_,rfl⟩
 refine ⟨A,c,rfl,fun j hj=>?_⟩
 rcases h.2 with ⟨_,h0⟩ | ⟨g,cap,cur,e1,_⟩
 ·
  omega
 ·
  injection e1 with e1
  subst e1
  refine ⟨g,rfl,?_⟩
  have:=h.cells (g:=g) rfl j (encStr ls[j]) (by simp [hj])
  rw [Addr.add_lit,Nat.zero_add] at this
  exact this

set_option maxRecDepth 100000 in
theorem jB (C:Nat) (pre s:ByteArray) (w:World) (hc:w.cell? ⟨C,0,none⟩=some (.string pre)) :
  Calls Tryz.prog 56 #[.string s,.pointer (some ⟨C,0,none⟩)] w fun e w'=>e=.returned (.bool (!Lib.hasPrefix s.data.toList pre.data.toList))∧w'=w:=by
 have hnot:∀ (x:Bool) (w:World),(Op.unary .not (.bool x)).run Tryz.prog w=.ok (.bool (!x)) w:=fun _ _=>rfl
 have HC:=za (Tryz.strings_HasPrefix s pre w)
 generalize Lib.hasPrefix s.data.toList pre.data.toList=r at *
 go_enter Tryz.func56,Tryz.ntmps56
 go_wp2_with fail
 with_reducible refine HC.out.mono ?_
 rintro e w1 ⟨rfl,rfl⟩
 clear HC hc
 cases r <;> go_wp2 <;> go_ret <;> exact ⟨rfl,rfl⟩

set_option maxRecDepth 100000 in
theorem YU (fv:Value) (c:Nat) (w:World) (hfv:∃ g lb,fv=.func (.func g) #[] lb):Calls Tryz.prog 58 #[.slice none 0 c,fv] w fun e w'=>e=.returned (.slice none 0 c)∧w'=w:=by
 obtain ⟨g,lb,rfl⟩:=hfv
 have HI:=za (Tryz.slices_IndexFunc_empty (α:=List UInt8) none c (.func (.func g) #[] lb) w)
 go_enter Tryz.func58,Tryz.ntmps58
 go_wp2_with (go_at_call 135; (with_reducible refine HI.out.mono ?_); rintro e w' ⟨rfl,rfl⟩)
 go_ret
 exact ⟨rfl,rfl⟩

def jJ (ls:List (List UInt8)) (pre:List UInt8):List (List UInt8):=ls.filter fun x=>Lib.hasPrefix x pre

theorem U6 (base C:Nat) (v:Value) (ls:List (List UInt8)) (pre:ByteArray) (w:World) (hc:w.cell? ⟨C,0,none⟩=some (.string pre)) (hC:C<base) (hbase:base≤w.heap.size) (hv:w.ownsRow base 9 1 v ls.length (ls.map encStr)) :
  Calls Tryz.prog 58 #[v,.func (.func 56) #[] #[.pointer (some ⟨C,0,none⟩)]] w fun e w'=>∃ v',e=.returned v'∧Ul w' v' (jJ ls pre.data.toList)∧Below base w w':=by
 rcases hv.2 with ⟨rfl,h0⟩ | ⟨gb,cap,cur,rfl,hbg,hgb,r1,r2,r3,r4⟩
 ·
  obtain rfl:ls=[]:=List.eq_nil_of_length_eq_zero h0
  exact (YU _ 0 w ⟨_,_,rfl⟩).mono fun e w' ⟨he,hw⟩=>⟨_,he,Ul.nil _,by rw [hw]; exact Below.refl _ _⟩
 ·
  have hH:Holds encStr w gb 0 ls.toArray:=holds_of_block hgb (by simpa using r4)
  have hgl:gb<w.heap.size:=(Array.getElem?_eq_some_iff.1 hgb).1
  have hpa:PredAt Tryz.prog 56 #[.pointer (some ⟨C,0,none⟩)] encStr (fun x=>!Lib.hasPrefix x pre.data.toList) w:=fun W x hb =>
   (jB C pre ⟨x.toArray⟩ W ((hb.cell (p:=⟨C,0,none⟩) (by show C<_; omega)).trans hc)).mono fun e w' ⟨he,hw⟩=>⟨he,0,hw⟩
  have hpo:PredOver Tryz.prog 56 #[.pointer (some ⟨C,0,none⟩)] encStr (fun x=>!Lib.hasPrefix x pre.data.toList) gb 0 ls.toArray.size w:=fun n os dk x _ =>
   (jB C pre ⟨x.toArray⟩ _ (by
    unfold sortWorld
    rw [cell?_grow _ _ _ (by show C<(putRow _ _ _ _ _).heap.size; rw [size_putRow]; show C<w.heap.size; omega),cell?_putRow_other _ _ gb 0 _ _ (Or.inl (by show C≠gb; omega))]
    exact hc)).mono fun e w' ⟨he,hw⟩=>⟨he,0,hw⟩
  have hm:maxLen=9223372036854775807:=rfl
  have hd:=Tryz.slices_DeleteFunc encStr (fun _=>rfl) (fun x=>!Lib.hasPrefix x pre.data.toList) _ _ (enters_of Tryz.func56 (by kernel_rfl) rfl) [] (fun w=>Yd w) gb 0 cap ls.toArray w hpa hpo hH (by simp; omega) (by simpa using r1)
  have e1:(ls.toArray.toList.filter fun x=>!(fun x=>!Lib.hasPrefix x pre.data.toList) x)=jJ ls pre.data.toList:=by simp [jJ]
  rw [e1] at hd
  have hls:(jJ ls pre.data.toList).length≤ls.length:=List.length_filter_le _ _
  generalize jJ ls pre.data.toList=r at *
  refine (show Calls _ _ #[.slice (some ⟨gb,0,none⟩) ls.toArray.size cap,_] _ _ from hd.mono ?_)
  rintro e w' ⟨rfl,q,rfl⟩
  refine ⟨_,rfl,⟨_,_,rfl,fun j hj=>⟨gb,rfl,?_⟩⟩,?_⟩
  ·
   have:=cell?_putRow encStr (Sort.ahead w q) gb 0 ls.toArray (r++List.replicate (ls.toArray.size - r.length) []).toArray (holds_ahead _ _ _ _ _ _ hH) (by simp; omega) j (by simp; omega)
   rw [Nat.zero_add] at this
   rw [this,getElem!_pos _ j (by simp; omega)]
   simp [List.getElem_append_left hj,tx7,encStr]
  ·
   have hg:=grownBy_sorted (w:=w) (g:=gb) (n:=q) (os:=#[]) (r++List.replicate (ls.toArray.size - r.length) []).toArray
   rw [grow_empty] at hg
   exact (Below.refl base w).grown hg hbase (fun k hk=>by cases hk; exact hbg)

def liE (pre:List UInt8):Int:=yK [ze (xF pre) 10]
def liL (L:zg) (pre:List UInt8):List (List UInt8):=if liE pre=0 then jJ (L.map (·.1)) pre else []

theorem one_row7 (W:World) (g:Nat) (lb:Array Value) (n:Int) (h:jM (.func (.func g) #[] lb) n W):xJ (W.alloc (.cells #[.func (.func g) #[] lb] 95)) W.heap.size [(.func (.func g) #[] lb,n)]:=by
 obtain ⟨G,l,e,h1,h2⟩:=qS W [(.func (.func g) #[] lb,n)] 95 (by intro x hx; obtain rfl:=List.mem_singleton.1 hx; exact h)
 exact ⟨by simp,fun j hj=>by
  have hj0:j=0:=by simpa using hj
  subst hj0
  exact ⟨by simp,h.later (z8 (Below.refl _ _) _)⟩⟩

set_option maxRecDepth 100000 in
theorem VW (B:Nat) (p:Option Nat) (L:zg) (pre:ByteArray) (w:World) (hd:xg w B p L) (hp:pre.size≤9223372036854775807) :
  Calls Tryz.prog 19 #[.pointer (some ⟨B,0,none⟩),.string pre] w fun e w'=>∃ v,e=.returned (.tuple #[v,.int .i64 (liE pre.data.toList)])∧Ul w' v (liL L pre.data.toList)∧Below w.heap.size w w':=by
 have hmf:=mkf
 have bl:=z8 (Below.refl w.heap.size w) (.cells #[.string pre] 9)
 have HP:=za (fM pre (w.alloc (.cells #[.string pre] 9)) hp)
 have HX:Hid ((w.alloc (.cells #[.string pre] 9)).cell? ⟨w.heap.size,0,none⟩=some (.string pre)):=by show _=_; simp
 have HBL:=za bl
 have HD:=za (hd.later bl)
 have hlt:w.heap.size<(w.alloc (.cells #[.string pre] 9)).heap.size:=by simp
 clear hd bl
 obtain ⟨r,hr⟩:∃ r,r=liE pre.data.toList:=⟨_,rfl⟩
 rw [← hr]
 have HR:Hid (yK [ze (xF pre.data.toList) 10]=r):=hr.symm
 have HL:Hid (liL L pre.data.toList=if r=0 then jJ (L.map (·.1)) pre.data.toList else []):=by rw [hr]; rfl
 clear hr
 generalize ze (xF pre.data.toList) 10=e0 at *
 go_enter Tryz.func19,Tryz.ntmps19
 go_wp2_with fail
 generalize w.alloc (.cells #[.string pre] 9)=w1 at *
 generalize hC:w.heap.size=C at *
 with_reducible refine HP.out.mono ?_
 rintro e w2 ⟨g,lb,rfl,ha,hb⟩
 have HB2:=za hb
 have hf:=xA w2.heap.size 1 1 _ _ rfl (by decide) (one_row7 w2 g lb e0 ha)
 have HF:Hid (Calls Tryz.prog 48 #[.slice (some ⟨w2.heap.size,0,none⟩) 1 1] (w2.alloc (.cells #[.func (.func g) #[] lb] 95)) (zP r (w2.alloc (.cells #[.func (.func g) #[] lb] 95)))):=by
  rw [← HR.out]; exact hf
 clear hf ha hb HP HR
 go_wp2_with fail
 with_reducible refine HF.out.mono ?_
 rintro e w3 ⟨rfl,hb⟩
 have HB3:=za (z7 HB2.out (z7 (z8 (Below.refl w2.heap.size w2) _) hb))
 clear hb HF HB2
 by_cases h0:r=0
 ·
  subst h0
  have HN:=za (jz B p L w3 (HD.out.later HB3.out))
  go_wp2_with fail
  with_reducible refine HN.out.mono ?_
  rintro e w4 ⟨v,rfl,hrow,_,hb⟩
  have hlen:(L.map (·.1)).length=L.length:=List.length_map ..
  rw [← hlen] at hrow
  obtain ⟨A,c,rfl,_⟩:=Ul.of_own hrow
  have hd2:=U6 w3.heap.size C _ (L.map (·.1)) pre w4 (((z7 HB3.out hb).cell (p:=⟨C,0,none⟩) hlt).trans HX.out) (Nat.lt_of_lt_of_le hlt HB3.out.size) hb.size hrow
  rw [hlen] at hd2
  have HD2:=za hd2
  have HB4:=za (z7 HB3.out hb)
  have HB34:=za hb
  clear hb hrow HN hlen hd2
  go_wp2_with fail
  with_reducible refine HD2.out.mono ?_
  rintro e w5 ⟨v',rfl,hv',hb⟩
  have HV:=za hv'
  have HB5:=za (show Below w.heap.size w w5 by subst hC; exact z7 HBL.out (HB3.out.trans ((HB34.out.trans hb).mono (HB3.out.size))))
  obtain ⟨A',c',rfl,_⟩:=hv'
  clear hb HD2
  go_wp2
  refine bodyPost_ret (v:=.tuple #[.slice A' (jJ (L.map (·.1)) pre.data.toList).length c',.int .i64 0]) (by simp [results,Tryz.results19,go_sem]) rfl ⟨_,rfl,?_,HB5.out⟩
  rw [HL.out]
  first | rw [if_pos rfl] | rw [if_pos trivial]
  exact HV.out
 ·
  have h1:(r != 0)=true:=by simpa using h0
  go_wp2
  refine bodyPost_ret (v:=.tuple #[.slice none 0 0,.int .i64 r]) (by simp [results,Tryz.results19,go_sem]) rfl ⟨_,rfl,?_,by subst hC; exact z7 HBL.out HB3.out⟩
  rw [HL.out,if_neg h0]
  exact Ul.nil _

theorem Z4 (W:World) (l:List (Value×Int)) (t:TypeId) (ha:∀ x∈l,jM x.1 x.2 W):xJ (W.alloc (.cells (l.map (·.1)).toArray t)) W.heap.size l:=by
  refine ⟨by simp,fun j hj=>⟨?_,(ha _ (List.getElem_mem hj)).later (z8 (Below.refl _ _) _)⟩⟩
  rw [World.cell?_alloc_at _ _ _ _ rfl]
  simp [hj]

def loS (L:zg) (n:List UInt8):List UInt8:=if deE L n=0 then yF L n else []

set_option maxRecDepth 100000 in
theorem YD (B:Nat) (p:Option Nat) (L:zg) (n:ByteArray) (w:World) (hd:xg w B p L) (hn:n.size≤9223372036854775807) :
    Calls Tryz.prog 17 #[.pointer (some ⟨B,0,none⟩),.string n] w fun e w'=>e=.returned (.tuple #[.string (tx7 (loS L n.data.toList)),.int .i64 (deE L n.data.toList)])∧Below w.heap.size w w':=by
  have hn':n.size≤maxLen:=Nat.le_trans hn (by decide)
  have HN:=za (xS n w hn)
  have HI:Hid (∀ W,xg W B p L→Calls Tryz.prog 50 #[.pointer (some ⟨B,0,none⟩),.string n] W (yG (ze (yb L n.data.toList) 8) W)):=fun W hD=>vA B p L n W hD hn'
  have HL:Hid (∀ W,xg W B p L→(Instr.lookup 76 (.map p) (.string n) false).run Tryz.prog W=.ok (.string (tx7 (yF L n.data.toList))) W):=fun W hD=>look71 hD n hn'
  obtain ⟨r,hr⟩:∃ r,r=deE L n.data.toList:=⟨_,rfl⟩
  have HS:Hid (loS L n.data.toList=if r=0 then yF L n.data.toList else []):=by rw [hr]; rfl
  rw [← hr]
  have HR:Hid (yK [ze (zf n.data.toList) 10,ze (yb L n.data.toList) 8]=r):=hr.symm
  have HD:=za hd
  clear hr hd
  generalize ze (zf n.data.toList) 10=e0 at *
  generalize ze (yb L n.data.toList) 8=e1 at *
  generalize loS L n.data.toList=s at *
  generalize yF L n.data.toList=s' at *
  go_enter Tryz.func17,Tryz.ntmps17
  go_wp2_with fail
  with_reducible refine HN.out.mono ?_
  rintro e w1 ⟨g0,lb0,rfl,ha,hb⟩
  have HA0:=za ha
  have HB1:=za hb
  have HI1:=za (HI.out w1 (HD.out.later hb))
  clear ha hb HN HI
  go_wp2_with fail
  with_reducible refine HI1.out.mono ?_
  rintro e w2 ⟨g1,lb1,rfl,ha,hb⟩
  have HB2:=za (z7 HB1.out hb)
  have hrow:=Z4 w2 [(.func (.func g0) #[] lb0,e0),(.func (.func g1) #[] lb1,e1)] 95 (by
    intro x hx
    simp only [List.mem_cons,List.not_mem_nil,or_false] at hx
    rcases hx with rfl | rfl
    · exact HA0.out.later hb
    · exact ha)
  have hf:=xA w2.heap.size 2 2 _ _ rfl (by decide) hrow
  have HF:Hid (Calls Tryz.prog 48 #[.slice (some ⟨w2.heap.size,0,none⟩) 2 2] (w2.alloc (.cells #[.func (.func g0) #[] lb0,.func (.func g1) #[] lb1] 95)) (zP r (w2.alloc (.cells #[.func (.func g0) #[] lb0,.func (.func g1) #[] lb1] 95)))):=by
    rw [← HR.out]; exact hf
  clear hf hrow ha hb HI1 HA0 HR
  go_wp2_with fail
  with_reducible refine HF.out.mono ?_
  rintro e w3 ⟨rfl,hb⟩
  have HB3:=za (z7 HB2.out (z7 (z8 (Below.refl w2.heap.size w2) _) hb))
  clear hb HF HB2 HB1
  by_cases h0:r=0
  · have hl:=HL.out w3 (HD.out.later HB3.out)
    have hc:=(HD.out.later HB3.out).cell
    have HS2:=HS.out
    rw [if_pos h0] at HS2
    subst h0
    subst HS2
    clear HS HL HD
    go_wp2
    go_ret2
    exact ⟨rfl,HB3.out⟩
  · have h1:(r != 0)=true:=by simpa using h0
    have HS2:=HS.out
    rw [if_neg h0] at HS2
    subst HS2
    clear HS HL HD
    go_wp2
    go_ret2
    exact ⟨rfl,HB3.out⟩


/-! ### All -/
def Vs (q:List UInt8×List UInt8):List Value:=[.string (tx7 q.1),.string (tx7 q.2),.string ⟨#[]⟩,.bool false,.slice none 0 0]
theorem usr7_at (L:zg) (j i:Nat) (hj:j<L.length) (hi:i<5):(L.flatMap Vs)[j * 5+i]? = (Vs L[j])[i]? := by
  induction L generalizing j with
  | nil=>exact absurd hj (Nat.not_lt_zero _)
  | cons q L ih =>
    rw [List.flatMap_cons]
    cases j with
    | zero =>
      rw [List.getElem?_append_left (by simp [Vs]; omega)]
      simp
    | succ j =>
      rw [List.getElem?_append_right (by simp [Vs]; omega)]
      have:=ih j (by simpa using hj)
      rw [show (j+1) * 5+i - (Vs q).length=j * 5+i by simp [Vs]; omega,this]
      simp
theorem Qj {w:World} {b1 b2 s1 s2 n1 n2:Nat} {e1 e2:TypeId} {v1 v2:Value} {xs1 xs2:List Value} (h1:w.ownsRow b1 e1 s1 v1 n1 xs1) (h2:w.ownsRow b2 e2 s2 v2 n2 xs2) (he:e1≠e2):v1.ownBlock=none∨v1.ownBlock≠v2.ownBlock:=by
  rcases h1.2 with ⟨rfl,_⟩ | ⟨g,cap,cur,rfl,_,hg,_⟩
  · exact .inl rfl
  · rcases h2.2 with ⟨rfl,_⟩ | ⟨g2,cap2,cur2,rfl,_,hg2,_⟩
    · exact .inr (by simp [Value.ownBlock])
    · refine .inr fun e=>?_
      have:g=g2:=by simpa [Value.ownBlock] using e
      subst this
      rw [hg] at hg2
      injection hg2 with h
      injection h with _ h
      exact he h
theorem XQ:(Tryz.prog.info? 47).map (fun i=>(i.zero,i.size,i.bytes))=some (some (.agg #[.string ⟨#[]⟩,.string ⟨#[]⟩,.string ⟨#[]⟩,.bool false,.slice none 0 0]),5,80):=by kernel_rfl

def Q3 (L:zg) (base:Nat) (w:World) (v:Value):Prop:=w.ownsRow base 47 5 v L.length (L.flatMap Vs)

set_option maxRecDepth 100000 in
theorem Y9 (B:Nat) (p:Option Nat) (L:zg) (w:World) (hd:xg w B p L):Calls Tryz.prog 27 #[.pointer (some ⟨B,0,none⟩)] w fun e w'=>∃ v,e=.returned v∧Q3 L w.heap.size w' v∧Below w.heap.size w w':=by
  have HN:=za (jz B p L w hd)
  have HD:=za hd
  have hfew:=hd.few
  have HLK:Hid (∀ W,xg W B p L→∀ s:ByteArray,s.size≤maxLen→(Instr.lookup 76 (.map p) (.string s) false).run Tryz.prog W=.ok (.string (tx7 (yF L s.data.toList))) W):=fun W hD s hs=>look71 hD s hs
  clear hd
  obtain ⟨i0,hi,hz0,hz1,hz2⟩:=info_parts XQ
  obtain ⟨n,hn⟩:∃ n,n=L.length:=⟨_,rfl⟩
  have HLN:Hid (L.length=n):=hn.symm
  rw [← hn] at hfew
  clear hn
  go_enter Tryz.func27,Tryz.ntmps27
  go_wp2_with fail
  with_reducible refine HN.out.mono ?_
  rintro e w1 ⟨v,rfl,hrow,_,hb⟩
  have hlen:(L.map (·.1)).length=n:=by rw [List.length_map]; exact HLN.out
  rw [HLN.out,← hlen] at hrow
  obtain ⟨A,c,rfl,_⟩:=Ul.of_own hrow
  have HRW:=za hrow
  rw [hlen] at HRW ⊢
  have HB:=za hb
  have HLE:=za hlen
  clear hb hrow HN hlen
  go_wp2
  go_loopg [3,5,9] n (fun gg s3 _ s9 wr=>∃ k:Nat,k≤n∧n - k≤gg∧s9=.int .i64 k∧Hid (Below w.heap.size w wr)∧Hid (wr.ownsRow w.heap.size 9 1 (.slice A n c) n ((L.map (·.1)).map encStr))∧Hid (wr.ownsRow w.heap.size 47 5 s3 k ((L.take k).flatMap Vs)))
  case atStart=>exact ⟨0,Nat.zero_le _,by omega,rfl,HB,HRW,World.ownsRow_nil _ _ _ _⟩
  case round =>
    obtain ⟨k,hk,hg,rfl,HW,HR2,HU⟩:=hrel
    by_cases hlt:k<n
    · have hltz:(k:Int)<(n:Int):=by omega
      have hkl:k<L.length:=by have:=HLN.out; omega
      have hr2:=HR2.out
      have hle:=HLE.out
      obtain ⟨A',c',e1,hcs⟩:=Ul.of_own (ls:=L.map (·.1)) (by rw [hle]; exact hr2)
      injection e1 with e1 e2 e3
      subst e1
      subst e3
      clear e2
      obtain ⟨g,rfl,hcell⟩:=hcs k (by rw [hle]; exact hlt)
      have hnm:(L.map (·.1))[k]'(by rw [hle]; exact hlt)=L[k].1:=by simp
      rw [hnm] at hcell
      have hDw:=HD.out.later HW.out
      have hc:=hDw.cell
      have hlk:=HLK.out wr hDw (tx7 L[k].1) (by
        have:=(HD.out.all L[k] (List.getElem_mem hkl)).1
        rw [← zi,yv]
        exact Nat.le_trans this (by decide))
      rw [yv] at hlk
      have hget:yF L L[k].1=L[k].2:=qo HD.out.rise (List.getElem_mem hkl)
      rw [hget] at hlk
      have hne:=Qj hr2 HU.out (by decide)
      have HT:Hid ((L.take (k+1)).flatMap Vs=(L.take k).flatMap Vs++[.string (tx7 L[k].1),.string (tx7 L[k].2),.string ⟨#[]⟩,.bool false,.slice none 0 0]):=by
        show _=_
        rw [List.take_succ_eq_append_getElem hkl,List.flatMap_append]
        simp [Vs]
      have HNE:=za hne
      generalize tx7 L[k].1=sn at *
      generalize tx7 L[k].2=sh at *
      clear hcs hnm hDw hget hr2 hle hne
      go_wp2_with (first
        | (at_builtin; refine wpList_append_own _ rfl _ _ 57 rfl w.heap.size 47 i0 (.agg #[.string ⟨#[]⟩,.string ⟨#[]⟩,.string ⟨#[]⟩,.bool false,.slice none 0 0]) 5 80 Tryz.underlying57 hi hz0 hz1 hz2 rfl (by decide) _ _ _ rfl (HU.out.alloc _) ⟨wr.heap.size,0,none⟩ 1 1 [.string sn,.string sh,.string ⟨#[]⟩,.bool false,.slice none 0 0] rfl rfl
            (fun j u hu=>by rw [Addr.add_lit,Nat.zero_add,World.cell?_alloc_at _ _ _ _ rfl]; simpa using hu) (by simp [Value.oneCell']) (by unfold maxLen; omega) (by omega) (by have:=HW.out.size; simp; omega) ?_
           intro v' w2 hown' hgrow _
           have HO:=za hown'
           have HG:=za hgrow
           clear hown' hgrow)
        | fail)
      go_roundg (n - (k+1))
      case measure=>omega
      case rel =>
        have hg1:wr.grownBy (wr.alloc (.cells #[.string sn,.string sh,.string ⟨#[]⟩,.bool false,.slice none 0 0] 47)) none:=World.grownBy_alloc _ _ _
        refine ⟨k+1,by omega,by omega,by go_num,(show Hid _ from ?_),(show Hid _ from ?_),(show Hid _ from by rw [HT.out]; exact HO.out)⟩
        · exact (z7 HW.out (z8 (Below.refl _ _) _)).grown HG.out (by have:=HW.out.size; simp; omega) (fun j hj=>(HU.out.lt j hj).1)
        · exact (HR2.out.alloc _).kept HG.out HNE.out
    · have hltz:¬ (k:Int)<(n:Int):=by omega
      obtain rfl:k=n:=by omega
      go_wp2
      go_ret
      refine ⟨_,rfl,?_,HW.out⟩
      have hu:=HU.out
      have hl:=HLN.out
      rw [List.take_of_length_le (by omega)] at hu
      unfold Q3
      rw [hl]
      exact hu

def xM (W w':World):Prop:=∀ (k:Nat) (c:Array Value) (T:TypeId) (fr:Nat×Nat),W.heap[k]? = some (.cells c T fr)→T≠78→w'.heap[k]? = some (.cells c T fr)
theorem xM.of_below {W w':World} (hb:Below W.heap.size W w'):xM W w':=fun k _ _ _ h _=>(hb.block k (Array.getElem?_eq_some_iff.1 h).1).trans h
theorem xM.trans {a b c:World} (h:xM a b) (k:xM b c):xM a c:=fun i x T fr hi hT=>k i x T fr (h i x T fr hi hT) hT
theorem yy.keeps {W w':World} {B:Nat} {p:Option Nat} {L L':zg} (hd:xg W B p L) (hg:yy W B p L' w'):xM W w':=by
 obtain ⟨_,_,_,ht⟩:=hg
 intro k c T fr hk hT
 refine (ht.block k (Array.getElem?_eq_some_iff.1 hk).1 ?_).trans hk
 rintro (rfl | e)
 ·
  rw [hd.blk] at hk
  injection hk with hk
  injection hk with _ h
  exact hT h.symm
 ·
  obtain ⟨es,clock,h1,_⟩:=hd.map k e
  rw [h1] at hk
  cases hk

def xL (w0 W:World) (B:Nat) (L:zg):Prop:=∃ p,xg W B p L∧w0.heap.size≤B∧(∀ b,p=some b→w0.heap.size≤b)∧Below w0.heap.size w0 W
section
variable {w0 W W':World} {B:Nat} {L:zg}
theorem xL.below (h:xL w0 W B L):Below w0.heap.size w0 W:=by obtain ⟨_,_,_,_,h⟩:=h; exact h
theorem xL.few (h:xL w0 W B L):L.length≤12:=by obtain ⟨_,h,_⟩:=h; exact h.few
theorem xL.rise (h:xL w0 W B L):yY L:=by obtain ⟨_,h,_⟩:=h; exact h.rise
theorem xL.all (h:xL w0 W B L):∀ q∈L,q.1.length≤12∧q.2.length≤12:=by obtain ⟨_,h,_⟩:=h; exact h.all
theorem xL.later (h:xL w0 W B L) (hb:Below W.heap.size W W'):xL w0 W' B L:=by
 obtain ⟨p,hd,h1,h2,h3⟩:=h
 exact ⟨p,hd.later hb,h1,h2,z7 h3 hb⟩
theorem xL.goes {L':zg} {p:Option Nat} (hd:xg W B p L) (h1:w0.heap.size≤B) (h2:∀ b,p=some b→w0.heap.size≤b) (h3:Below w0.heap.size w0 W) (hg:yy W B p L' W'):xL w0 W' B L':=by
 obtain ⟨p',hd',hp,ht⟩:=hg
 refine ⟨p',hd',h1,fun b hb=>?_,h3.trans (ht.below_at h3.size ?_)⟩
 ·
  rcases hp b hb with h | h
  ·
   exact h2 b h
  ·
   exact Nat.le_trans h3.size h
 ·
  rintro i (rfl | e)
  ·
   exact h1
  ·
   exact h2 i e
theorem FY (w:World):xL w (w.alloc (.cells #[.map none] 78)) w.heap.size []:=⟨none,dir7_new w,Nat.le_refl _,(fun _ h=>nomatch h),z8 (Below.refl _ _) _⟩

def Deed7 (w0 W:World) (B:Nat) (n:Int) (L':zg) (e:Ending) (w':World):Prop:=e=.returned (.int .i64 n)∧xL w0 w' B L'∧xM W w'
theorem xL.create (h:xL w0 W B L) (n s:ByteArray) (hn:n.size≤9223372036854775807) (hs:s.size≤9223372036854775807) :
  Calls Tryz.prog 33 #[.pointer (some ⟨B,0,none⟩),.string n,.string s] W (Deed7 w0 W B (crE L n.data.toList s.data.toList) (crL L n.data.toList s.data.toList)):=by
 obtain ⟨p,hd,h1,h2,h3⟩:=h
 exact (qR B p L n s W hd hn hs).mono fun e w' ⟨he,hg⟩=>⟨he,xL.goes hd h1 h2 h3 hg,hg.keeps hd⟩
theorem xL.sethash (h:xL w0 W B L) (n s:ByteArray) (hn:n.size≤9223372036854775807) (hs:s.size≤9223372036854775807) :
  Calls Tryz.prog 35 #[.pointer (some ⟨B,0,none⟩),.string n,.string s] W (Deed7 w0 W B (seE L n.data.toList s.data.toList) (seL L n.data.toList s.data.toList)):=by
 obtain ⟨p,hd,h1,h2,h3⟩:=h
 exact (uV B p L n s W hd hn hs).mono fun e w' ⟨he,hg⟩=>⟨he,xL.goes hd h1 h2 h3 hg,hg.keeps hd⟩
theorem xL.delete (h:xL w0 W B L) (n:ByteArray) (hn:n.size≤9223372036854775807) :
  Calls Tryz.prog 34 #[.pointer (some ⟨B,0,none⟩),.string n] W (Deed7 w0 W B (deE L n.data.toList) (deL L n.data.toList)):=by
 obtain ⟨p,hd,h1,h2,h3⟩:=h
 exact (qQ B p L n W hd hn).mono fun e w' ⟨he,hg⟩=>⟨he,xL.goes hd h1 h2 h3 hg,hg.keeps hd⟩
theorem xL.len (h:xL w0 W B L):Calls Tryz.prog 100 #[.pointer (some ⟨B,0,none⟩)] W fun e w'=>e=.returned (.int .i64 L.length)∧w'=W:=by
 obtain ⟨p,hd,_⟩:=h
 exact ZV B p L W hd
theorem xL.list (h:xL w0 W B L) (pre:ByteArray) (hp:pre.size≤9223372036854775807) :
  Calls Tryz.prog 19 #[.pointer (some ⟨B,0,none⟩),.string pre] W fun e w'=>∃ v,e=.returned (.tuple #[v,.int .i64 (liE pre.data.toList)])∧Ul w' v (liL L pre.data.toList)∧Below W.heap.size W w':=by
 obtain ⟨p,hd,_⟩:=h
 exact VW B p L pre W hd hp
theorem xL.lookup (h:xL w0 W B L) (n:ByteArray) (hn:n.size≤9223372036854775807) :
  Calls Tryz.prog 17 #[.pointer (some ⟨B,0,none⟩),.string n] W fun e w'=>e=.returned (.tuple #[.string (tx7 (loS L n.data.toList)),.int .i64 (deE L n.data.toList)])∧Below W.heap.size W w':=by
 obtain ⟨p,hd,_⟩:=h
 exact YD B p L n W hd hn
theorem xL.allu (h:xL w0 W B L):Calls Tryz.prog 27 #[.pointer (some ⟨B,0,none⟩)] W fun e w'=>∃ v,e=.returned v∧Q3 L W.heap.size w' v∧Below W.heap.size W w':=by
 obtain ⟨p,hd,_⟩:=h
 exact Y9 B p L W hd
end

def J9:List Us→Int
 | []=>0
 | u::r=>if yM 1 u=0 then J9 r else yM 1 u
def qW (l:List Us):zg:=l.map fun u=>(u.nm.data.toList,u.hs.data.toList)
def ofE (l:List Us):Int:=yK [J9 l,ze (zA (l.map (·.nm))) 9,ze (decide ((l.length:Int)≤12)) 7]

theorem XK:∀ {l:List Us},J9 l=0→∀ u∈l,yM 1 u=0
 | [],_,u,h=>by cases h
 | x::r,h,u,hu=>by
  unfold J9 at h
  by_cases e:yM 1 x=0
  ·
   rw [if_pos e] at h
   rcases List.mem_cons.1 hu with rfl | hu
   ·
    exact e
   ·
    exact XK h u hu
  ·
   rw [if_neg e] at h
   exact absurd h e
theorem ZG:∀ {ss:List ByteArray},zA ss=true→ss.Pairwise fun a b=>bytesBefore a.data.toList b.data.toList=true
 | [],_=>List.Pairwise.nil
 | [_],_=>by simp
 | a::b::r,h=>by
  unfold zA at h
  rw [Bool.and_eq_true] at h
  have ih:=ZG (ss:=b::r) h.2
  have hab:bytesBefore a.data.toList b.data.toList=true:=by
   have:=h.1
   unfold yg at this
   rwa [xY] at this
  refine List.pairwise_cons.2 ⟨fun x hx=>?_,ih⟩
  rcases List.mem_cons.1 hx with rfl | hx
  ·
   exact hab
  ·
   exact WideShapes.bytes_trans _ _ _ hab ((List.pairwise_cons.1 ih).1 x hx)
theorem UC {l:List Us} (h:ofE l=0):(∀ u∈l,yM 1 u=0)∧yY (qW l)∧l.length≤12∧∀ u∈l,u.nm.size≤12∧u.hs.size≤12:=by
 obtain ⟨e1,h⟩:=zx h
 obtain ⟨e2,h⟩:=zx h
 obtain ⟨e3,_⟩:=zx h
 have hm:=XK e1
 have hr:=(ya (by decide)).1 e2
 have hl:=(ya (by decide)).1 e3
 rw [decide_eq_true_eq] at hl
 refine ⟨hm,?_,by omega,fun u hu=>?_⟩
 ·
  have:=ZG hr
  rw [List.pairwise_map] at this
  unfold yY qW
  rw [List.pairwise_map]
  exact this
 ·
  obtain ⟨_,h1,h2⟩:=uo (hm u hu)
  exact ⟨jf h1,jl h2⟩
theorem FU {l:List Us} (hr:yY (qW l)) {k:Nat} (hk:k<l.length):yR (qW (l.take k)) l[k].nm.data.toList l[k].hs.data.toList=qW (l.take (k+1)):=by
 have hk':k<(qW l).length:=by unfold qW; simpa using hk
 have e0:qW (l.take k)=(qW l).take k:=by unfold qW; rw [List.map_take]
 have e1:qW (l.take (k+1))=(qW l).take (k+1):=by unfold qW; rw [List.map_take]
 have e2:(qW l)[k]'hk'=(l[k].nm.data.toList,l[k].hs.data.toList):=List.getElem_map _
 have hup:∀ y∈(qW l).take k,bytesBefore y.1 (qW l)[k].1=true:=by
  intro y hy
  obtain ⟨j,hj,rfl⟩:=List.getElem_of_mem hy
  rw [List.getElem_take]
  exact List.pairwise_iff_getElem.1 hr j k _ hk' (by simp at hj; omega)
 rw [e2] at hup
 rw [e0,e1,List.take_succ_eq_append_getElem hk',e2]
 unfold yR
 rw [xW (by
  cases h:yb ((qW l).take k) l[k].nm.data.toList
  ·
   rfl
  ·
   obtain ⟨p,hp,he⟩:=yw.1 h
   exact absurd he (xD (hup p hp)))]
 have ins:∀ {x:List UInt8×List UInt8} {D:zg},(∀ y∈D,bytesBefore x.1 y.1=false)→Vq x D=D++[x]:=by
  intro x D
  induction D with
  | nil=>intro _; rfl
  | cons y r ih =>
   intro h
   unfold Vq
   rw [h y (by simp),ih (fun z hz=>h z (by simp [hz]))]
   simp
 exact ins fun y hy=>yT (hup y hy)

set_option maxRecDepth 100000 in
theorem YB (C:Nat) (A:Option Addr) (c n:Nat) (l:List Us) (w:World) (hC:w.cell? ⟨C,0,none⟩=some (.slice A n c)) (hl:n=l.length) (hn:n≤9223372036854775807) (hr:Z9 w A l) (ho:∀ u∈l,u.Ok w) (hm:vQ w) :
  Calls Tryz.prog 230 #[.pointer (some ⟨C,0,none⟩)] w (zP (J9 l) w):=by
 have HR:=za hr
 have HL:=za hl
 have HO:=za ho
 have HM:=za hm
 clear hr hl ho hm
 obtain ⟨r,hr⟩:∃ r,r=J9 l:=⟨_,rfl⟩
 rw [← hr]
 have HRR:Hid (r=J9 (l.drop 0)):=hr
 clear hr
 go_enter Tryz.func230,Tryz.ntmps230
 go_wp2
 clear hC
 go_loopg [3,4,7] n (fun gg _ _ s7 wr=>∃ k:Nat,k≤n∧n - k≤gg∧s7=.int .i64 k∧Hid (Below w.heap.size w wr)∧Hid (r=J9 (l.drop k)))
 case atStart=>exact ⟨0,Nat.zero_le _,by omega,rfl,Below.refl _ _,HRR⟩
 case round =>
  obtain ⟨k,hk,hg,rfl,HW,A0⟩:=hrel
  by_cases hlt:k<n
  ·
   have hltz:(k:Int)<(n:Int):=by omega
   have hkl:k<l.length:=HL.out ▸ hlt
   obtain ⟨b,off,rfl,hb,hc⟩:=(HR.out.later HW.out) (by intro e; rw [e] at hkl; exact absurd hkl (Nat.not_lt_zero _))
   have c0:wr.cell? ⟨b,off+k * 5,none⟩=some (.string l[k].nm):=hc k hkl 0 _ rfl
   have c1:wr.cell? ⟨b,off+k * 5+1,none⟩=some (.string l[k].hs):=hc k hkl 1 _ rfl
   have c2:wr.cell? ⟨b,off+k * 5+2,none⟩=some (.string l[k].ml):=hc k hkl 2 _ rfl
   have c3:wr.cell? ⟨b,off+k * 5+3,none⟩=some (.bool l[k].dis):=hc k hkl 3 _ rfl
   have c4:wr.cell? ⟨b,off+k * 5+4,none⟩=some (.slice l[k].ga l[k].gs.length l[k].gc):=hc k hkl 4 _ rfl
   have hb1:=z7 HW.out (z8 (Below.refl wr.heap.size wr) (.cells #[.string l[k].nm,.string l[k].hs,.string l[k].ml,.bool l[k].dis,.slice l[k].ga l[k].gs.length l[k].gc] 47))
   have HC:Hid (Calls Tryz.prog 104 #[.int .i64 1,.agg #[.string l[k].nm,.string l[k].hs,.string l[k].ml,.bool l[k].dis,.slice l[k].ga l[k].gs.length l[k].gc]] (wr.alloc (.cells #[.string l[k].nm,.string l[k].hs,.string l[k].ml,.bool l[k].dis,.slice l[k].ga l[k].gs.length l[k].gc] 47)) (zP (yM 1 l[k]) (wr.alloc (.cells #[.string l[k].nm,.string l[k].hs,.string l[k].ml,.bool l[k].dis,.slice l[k].ga l[k].gs.length l[k].gc] 47)))):=vy 1 l[k] _ ((HO.out _ (List.getElem_mem hkl)).below hb1) (HM.out.later hb1)
   have HB1:=za hb1
   have hA:r=(if yM 1 l[k]=0 then J9 (l.drop (k+1)) else yM 1 l[k]):=by
    have:=A0.out
    rw [List.drop_eq_getElem_cons hkl] at this
    exact this
   clear hc hb hb1 A0
   generalize yM 1 l[k]=x at *
   generalize l[k].nm=nm at *
   generalize l[k].hs=hs at *
   generalize l[k].ml=ml at *
   generalize l[k].dis=dis at *
   generalize l[k].ga=ga at *
   generalize l[k].gs.length=gl at *
   generalize l[k].gc=gc at *
   by_cases h0:x=0
   ·
    rw [if_pos h0] at hA
    have HA:=za hA
    subst h0
    clear hA
    go_wp2_with (go_at_call 104; (with_reducible refine HC.out.mono ?_); rintro e w2 ⟨rfl,hb⟩; have HB2:=za (z7 HB1.out hb); clear hb)
    go_roundg (n - (k+1))
    case measure=>omega
    case rel=>exact ⟨k+1,by omega,by omega,by go_num,HB2,HA⟩
   ·
    rw [if_neg h0] at hA
    subst hA
    have hx1:(r != 0)=true:=by simpa using h0
    go_wp2_with (go_at_call 104; (with_reducible refine HC.out.mono ?_); rintro e w2 ⟨rfl,hb⟩; have HB2:=za (z7 HB1.out hb); clear hb)
    go_ret
    exact ⟨rfl,HB2.out⟩
  ·
   have hltz:¬ (k:Int)<(n:Int):=by omega
   have hA:r=0:=by
    have:=A0.out
    rw [List.drop_eq_nil_of_le (by have:=HL.out; omega)] at this
    exact this
   subst hA
   clear A0
   go_wp2
   go_ret
   exact ⟨rfl,HW.out⟩
set_option maxRecDepth 100000 in
theorem XI (A:Option Addr) (c n:Nat) (l:List Us) (w:World) (hl:n=l.length) (hn:n≤9223372036854775807) (hr:Z9 w A l) (ho:∀ u∈l,u.Ok w) (hm:vQ w) :
  Calls Tryz.prog 167 #[.slice A n c] w (yG (J9 l) w):=by
 have hmf:=mkf
 have HR:=za hr
 have HO:=za ho
 have HM:=za hm
 have HL:=za hl
 clear hr ho hm hl
 go_enter Tryz.func167,Tryz.ntmps167
 go_wp2
 go_ret
 have bl:=z8 (Below.refl w.heap.size w) (.cells #[.slice A n c] 57)
 refine ⟨_,_,rfl,?_,bl⟩
 refine ⟨_,_,rfl,enters_of Tryz.func230 (by kernel_rfl) rfl,fun W hb=>?_⟩
 have hW:=z7 bl hb
 exact YB _ A c n l W ((hb.cell (p:=⟨_,0,none⟩) (by simp)).trans (by simp)) HL.out hn (HR.out.later hW) (fun u hu=>(HO.out u hu).below hW) (HM.out.later hW)
def YRi7 (b off n c j:Nat) (x y:ByteArray) (q:Int):Nat→Value→World→Prop
 | 0,v,_=>v=.slice (some ⟨b,off,none⟩) n c
 | 1,v,_=>v=.int .i64 ((j:Int)+1)
 | 2,v,_=>v=.int .i64 (j:Int)
 | 3,v,_=>v=.pointer (some ⟨b,off+j * 5,none⟩)
 | 4,v,_=>v=.pointer (some ⟨b,off+j * 5,none⟩)
 | 5,v,_=>v=.string x
 | 6,v,_=>v=.slice (some ⟨b,off,none⟩) n c
 | 7,v,_=>v=.int .i64 ((j:Int)+1)
 | 8,v,_=>v=.pointer (some ⟨b,off+(j+1) * 5,none⟩)
 | 9,v,_=>v=.pointer (some ⟨b,off+(j+1) * 5,none⟩)
 | 10,v,_=>v=.string y
 | 11,v,_=>v=.int .i64 q
 | _,v,_=>v=.bool (decide (q ≥ 0))

set_option maxRecDepth 100000 in
theorem Xr (C:Nat) (A:Option Addr) (c n:Nat) (l:List Us) (w:World) (hC:w.cell? ⟨C,0,none⟩=some (.slice A n c)) (hl:n=l.length) (hn:n≤9000000000000000000) (hr:Z9 w A l) :
  Calls Tryz.prog 231 #[.pointer (some ⟨C,0,none⟩)] w (zP (ze (zA (l.map (·.nm))) 9) w):=by
 have HR:=za hr
 have HL:=za hl
 have HCw:=za hC
 have LCw:C<w.heap.size:=World.block_lt_of_cell? w _ hC
 obtain ⟨r,hrr⟩:∃ r,r=ze (zA (l.map (·.nm))) 9:=⟨_,rfl⟩
 rw [← hrr]
 have HRR:=za hrr
 clear hr hl hC hrr
 go_enter Tryz.func231,Tryz.ntmps231
 go_wp2
 go_loopg [2] (n+1) (fun gg s2 wr=>∃ j:Nat,j≤n∧n+1 - j≤gg∧s2=.int .i64 ((j:Int)+1)∧Hid (Below w.heap.size w wr)∧Hid (∀ i (h:i+1<l.length),i<j→yg l[i].nm l[i+1].nm=true))
 case atStart=>exact ⟨0,Nat.zero_le _,by omega,rfl,Below.refl _ _,fun i _ hi=>absurd hi (Nat.not_lt_zero _)⟩
 case round =>
  obtain ⟨j,hj,hg,rfl,HW,A0⟩:=hrel
  have LC:C<wr.heap.size:=Nat.lt_of_lt_of_le LCw HW.out.size
  have HCC:=za ((HW.out.cell (p:=⟨C,0,none⟩) LCw).trans HCw.out)
  have hcc:=HCC.out
  by_cases hlt:j+1<n
  ·
   have hltz:(j:Int)+1<(n:Int):=by omega
   have hltz0:(j:Int)<(n:Int):=by omega
   have hj0:(0:Int)≤(j:Int):=by omega
   have hj1:(0:Int)≤(j:Int)+1:=by omega
   have hjl:j+1<l.length:=HL.out ▸ hlt
   obtain ⟨b,off,rfl,hb,hc⟩:=(HR.out.later HW.out) (by intro e; rw [e] at hjl; exact absurd hjl (Nat.not_lt_zero _))
   have LB:b<wr.heap.size:=hb
   have HX:Hid (wr.cell? ⟨b,off+j * 5,none⟩=some (.string l[j].nm)):=hc j (by omega) 0 _ rfl
   have HY0:Hid (wr.cell? ⟨b,off+(j+1) * 5,none⟩=some (.string l[j+1].nm)):=hc (j+1) hjl 0 _ rfl
   have HCM:Hid (∀ W,Calls Tryz.prog 138 #[.string l[j].nm,.string l[j+1].nm] W fun e w'=>e=.returned (.int .i64 (Lib.compareBytes l[j].nm.data.toList l[j+1].nm.data.toList))∧w'=W):=fun W=>xT _ _ W
   have HAH:Hid (yg l[j].nm l[j+1].nm=decide (Lib.compareBytes l[j].nm.data.toList l[j+1].nm.data.toList<0)):=rfl
   have HT:Hid (yg l[j].nm l[j+1].nm=true→∀ i (h:i+1<l.length),i<j+1→yg l[i].nm l[i+1].nm=true):=fun hq i h hi=>by
    by_cases e:i=j
    ·
     subst e; exact hq
    ·
     exact A0.out i h (by omega)
   have HF:Hid (yg l[j].nm l[j+1].nm=false→r=9):=fun hf=>by
    rw [HRR.out,qF (l.map (·.nm)) j (by simpa using hjl) (by simpa using hf)]
    rfl
   clear hc hb A0
   generalize yg l[j].nm l[j+1].nm=ah at *
   generalize Lib.compareBytes l[j].nm.data.toList l[j+1].nm.data.toList=q at *
   generalize l[j].nm=x at *
   generalize l[j+1].nm=y at *
   go_wp2_with fail
   refine yZ (by kernel_rfl) (fun W=>Below wr.heap.size wr W) (YRi7 b off n c j x y q) ?F ?hF (by kernel_rfl) (by kernel_rfl) (zz (Below.refl _ _)) ?step ?fin
   case hF =>
    intro x
    simp only [List.map_cons,List.map_nil,xw,Act.put,List.setIfInBounds_toArray,List.set_cons_zero,List.set_cons_succ,Nat.zero_add,Nat.reduceAdd]
    exact rfl
   case step =>
    refine ⟨?_,?_,?_,?_,?_,?_,?_,?_,?_,?_,?_,?_,?_,trivial⟩
    all_goals intro x W hW hdep K hK
    ·
     have d1:=(hW.cell (p:=⟨C,0,none⟩) LC).trans HCC.out
     clear hdep
     go_simp
     exact hK _ _ rfl hW (fun _ _ h=>h)
    ·
     clear hdep
     go_simp
     exact hK _ _ rfl hW (fun _ _ h=>h)
    ·
     have h1:x 1=_:=hdep 1 rfl
     clear hdep
     simp only [h1] at hK
     go_simp
     refine hK _ _ ?_ hW (fun _ _ h=>h)
     show Value.int .i64 _=Value.int .i64 _
     refine congrArg (Value.int IntKind.i64) ?_
     first | omega | (rw [IntKind.wrap_i64] <;> omega)
    ·
     have h0:x 0=_:=hdep 0 rfl
     have h2:x 2=_:=hdep 2 rfl
     clear hdep
     simp only [h0,h2] at hK
     go_simp
     exact hK _ _ rfl hW (fun _ _ h=>h)
    ·
     have h3:x 3=_:=hdep 3 rfl
     clear hdep
     simp only [h3] at hK
     go_simp
     exact hK _ _ rfl hW (fun _ _ h=>h)
    ·
     have h4:x 4=_:=hdep 4 rfl
     have d2:=(hW.cell (p:=⟨b,off+j * 5,none⟩) LB).trans HX.out
     clear hdep
     simp only [h4] at hK
     go_simp
     exact hK _ _ rfl hW (fun _ _ h=>h)
    ·
     have d1:=(hW.cell (p:=⟨C,0,none⟩) LC).trans HCC.out
     clear hdep
     go_simp
     exact hK _ _ rfl hW (fun _ _ h=>h)
    ·
     clear hdep
     go_simp
     exact hK _ _ rfl hW (fun _ _ h=>h)
    ·
     have h6:x 6=_:=hdep 6 rfl
     have h7:x 7=_:=hdep 7 rfl
     clear hdep
     simp only [h6,h7] at hK
     go_simp
     exact hK _ _ (by show _=_; first | rfl | (congr 3; omega)) hW (fun _ _ h=>h)
    ·
     have h8:x 8=_:=hdep 8 rfl
     clear hdep
     simp only [h8] at hK
     go_simp
     exact hK _ _ rfl hW (fun _ _ h=>h)
    ·
     have h9:x 9=_:=hdep 9 rfl
     have d2:=(hW.cell (p:=⟨b,off+(j+1) * 5,none⟩) LB).trans HY0.out
     clear hdep
     simp only [h9] at hK
     go_simp
     exact hK _ _ rfl hW (fun _ _ h=>h)
    ·
     have h5:x 5=_:=hdep 5 rfl
     have h10:x 10=_:=hdep 10 rfl
     clear hdep
     simp only [h5,h10] at hK
     go_simp
     refine (HCM.out W).mono ?_
     rintro e W' ⟨rfl,rfl⟩
     exact hK _ _ rfl hW (fun _ _ h=>h)
    ·
     have h11:x 11=_:=hdep 11 rfl
     clear hdep
     simp only [h11] at hK
     go_simp
     exact hK _ _ rfl hW (fun _ _ h=>h)
   case fin =>
    intro x W hW hY
    have h12:x 12=.bool (decide (q ≥ 0)):=hY 12 (by decide)
    have HFF:=za (z7 HW.out hW)
    clear hY hW LC LB HX HY0 HCM HCC hcc
    rw [h12]
    by_cases hq:q ≥ 0
    ·
     have hah:ah=false:=by rw [HAH.out]; exact decide_eq_false (by omega)
     have hr9:=HF.out hah
     rw [decide_eq_true hq]
     subst hr9
     clear HT HF
     go_wp2
     go_ret
     exact ⟨rfl,HFF.out⟩
    ·
     have hah:ah=true:=by rw [HAH.out]; exact decide_eq_true (by omega)
     have HT2:=za (HT.out hah)
     rw [decide_eq_false hq]
     clear HT HF hah
     go_wp2
     go_roundg (n+1 - (j+1))
     case measure=>omega
     case rel=>exact ⟨j+1,by omega,by omega,by go_num,HFF,HT2⟩
  ·
   have hltz:¬ (j:Int)+1<(n:Int):=by omega
   have hr0:r=0:=by
    rw [HRR.out,qG (l.map (·.nm)) (fun k hk=>by
     have hk':k+1<l.length:=by simpa using hk
     have:=A0.out k hk' (by have:=HL.out; omega)
     simpa using this)]
    rfl
   subst hr0
   clear A0
   go_wp2
   go_ret
   exact ⟨rfl,HW.out⟩
set_option maxRecDepth 100000 in
theorem VE (A:Option Addr) (c n:Nat) (l:List Us) (w:World) (hl:n=l.length) (hn:n≤9000000000000000000) (hr:Z9 w A l) :
  Calls Tryz.prog 168 #[.slice A n c] w (yG (ze (zA (l.map (·.nm))) 9) w):=by
 have hmf:=mkf
 have HR:=za hr
 have HL:=za hl
 clear hr hl
 go_enter Tryz.func168,Tryz.ntmps168
 go_wp2
 go_ret
 have bl:=z8 (Below.refl w.heap.size w) (.cells #[.slice A n c] 57)
 refine ⟨_,_,rfl,?_,bl⟩
 refine ⟨_,_,rfl,enters_of Tryz.func231 (by kernel_rfl) rfl,fun W hb=>?_⟩
 exact Xr _ A c n l W ((hb.cell (p:=⟨_,0,none⟩) (by simp)).trans (by simp)) HL.out hn (HR.out.later (z7 bl hb))

theorem xL.put {w0 W:World} {B:Nat} {L:zg} (h:xL w0 W B L) (s hh:ByteArray) (hs:s.size≤12) (h2:hh.size≤12) (hf:(yR L s.data.toList hh.data.toList).length≤12) :
  Calls Tryz.prog 95 #[.pointer (some ⟨B,0,none⟩),.string s,.string hh] W fun e w'=>e=.returned (.tuple #[])∧xL w0 w' B (yR L s.data.toList hh.data.toList)∧xM W w':=by
 obtain ⟨p,hd,g1,g2,g3⟩:=h
 exact (jm B p L s hh W hd hs h2 hf).mono fun e w' ⟨he,hg⟩=>⟨he,xL.goes hd g1 g2 g3 hg,hg.keeps hd⟩

set_option maxRecDepth 100000 in
theorem JE (A:Option Addr) (c n:Nat) (l:List Us) (w:World) (hl:n=l.length) (hn:n≤1000) (hr:Z9 w A l) (ho:∀ u∈l,u.Ok w) (hm:vQ w) :
  Calls Tryz.prog 83 #[.slice A n c] w fun e w'=>(ofE l≠0∧e=.returned (.tuple #[.pointer none,.int .i64 (ofE l)])∧Below w.heap.size w w')∨(ofE l=0∧∃ B,e=.returned (.tuple #[.pointer (some ⟨B,0,none⟩),.int .i64 0])∧xL w w' B (qW l)):=by
 have HMB:=za (XI A c n l w hl (by omega) hr ho hm)
 have HRI:Hid (∀ W,Below w.heap.size w W→Calls Tryz.prog 168 #[.slice A n c] W (yG (ze (zA (l.map (·.nm))) 9) W)):=fun W hb=>VE A c n l W hl (by omega) (hr.later hb)
 have HFI:Hid (∀ W,Calls Tryz.prog 99 #[.int .i64 (n:Int)] W (yG (ze (decide ((l.length:Int)≤12)) 7) W)):=fun W=>by rw [← hl]; exact Y5 _ W
 have HR:=za hr
 have HL:=za hl
 have HZ:Hid (ofE l=0→yY (qW l)∧l.length≤12∧∀ u∈l,u.nm.size≤12∧u.hs.size≤12):=fun h=>(UC h).2
 have HNW:Hid (∀ W,Calls Tryz.prog 11 #[] W fun e w'=>e=.returned (.pointer (some ⟨W.heap.size,0,none⟩))∧w'=W.alloc (.cells #[.map none] 78)):=fun W=>QA W
 have HE:Hid (yK [J9 l,ze (zA (l.map (·.nm))) 9,ze (decide ((l.length:Int)≤12)) 7]=ofE l):=rfl
 clear hr ho hm hl
 generalize J9 l=e0 at *
 generalize ze (zA (l.map (·.nm))) 9=e1 at *
 generalize ze (decide ((l.length:Int)≤12)) 7=e2 at *
 generalize ofE l=r at *
 go_enter Tryz.func83,Tryz.ntmps83
 go_wp2_with fail
 with_reducible refine HMB.out.mono ?_
 rintro e w1 ⟨g0,lb0,rfl,ha,hb⟩
 have HA0:=za ha
 have HB1:=za hb
 have HRI1:=za (HRI.out w1 hb)
 clear ha hb HMB HRI
 go_wp2_with fail
 with_reducible refine HRI1.out.mono ?_
 rintro e w2 ⟨g1,lb1,rfl,ha,hb⟩
 have HA1:=za ha
 have HA02:=za (HA0.out.later hb)
 have HB2:=za (z7 HB1.out hb)
 clear ha hb HRI1 HA0 HB1
 go_wp2_with fail
 with_reducible refine (HFI.out w2).mono ?_
 rintro e w3 ⟨g2,lb2,rfl,ha,hb⟩
 have HB3:=za (z7 HB2.out hb)
 have hrow:=Z4 w3 [(.func (.func g0) #[] lb0,e0),(.func (.func g1) #[] lb1,e1),(.func (.func g2) #[] lb2,e2)] 95 (by
  intro x hx
  simp only [List.mem_cons,List.not_mem_nil,or_false] at hx
  rcases hx with rfl | rfl | rfl
  ·
   exact HA02.out.later hb
  ·
   exact HA1.out.later hb
  ·
   exact ha)
 have hf:=xA w3.heap.size 3 3 _ _ rfl (by decide) hrow
 have HF:Hid (Calls Tryz.prog 48 #[.slice (some ⟨w3.heap.size,0,none⟩) 3 3] (w3.alloc (.cells #[.func (.func g0) #[] lb0,.func (.func g1) #[] lb1,.func (.func g2) #[] lb2] 95)) (zP r (w3.alloc (.cells #[.func (.func g0) #[] lb0,.func (.func g1) #[] lb1,.func (.func g2) #[] lb2] 95)))):=by
  rw [← HE.out]; exact hf
 clear hf hrow ha hb HFI HA02 HA1 HE
 go_wp2_with fail
 with_reducible refine HF.out.mono ?_
 rintro e w4 ⟨rfl,hb⟩
 have HB4:=za (z7 HB3.out (z7 (z8 (Below.refl w3.heap.size w3) _) hb))
 clear hb HF HB3 HB2
 by_cases h0:r=0
 case neg =>
  have h1:(r != 0)=true:=by simpa using h0
  have H0:=za h0
  clear h0
  go_wp2
  go_ret2
  exact .inl ⟨H0.out,rfl,HB4.out⟩
 subst h0
 have hz:=HZ.out rfl
 have HZ2:=za hz
 clear hz HZ
 go_wp2_with fail
 with_reducible refine (HNW.out w4).mono ?_
 rintro e w5 ⟨rfl,rfl⟩
 have HO:=za (FY w4)
 generalize w4.alloc (.cells #[.map none] 78)=w5 at *
 generalize w4.heap.size=B at *
 clear HNW
 go_wp2
 go_loopg [7,23] n (fun gg _ s23 wr=>∃ k:Nat,k≤n∧n - k≤gg∧s23=.int .i64 k∧Hid (xL w4 wr B (qW (l.take k))))
 case atStart=>exact ⟨0,Nat.zero_le _,by omega,rfl,HO.out⟩
 case round =>
  obtain ⟨k,hk,hg,rfl,HW⟩:=hrel
  by_cases hlt:k<n
  ·
   have hltz:(k:Int)<(n:Int):=by omega
   have hkl:k<l.length:=HL.out ▸ hlt
   obtain ⟨b,off,rfl,hb,hc⟩:=(HR.out.later (z7 HB4.out HW.out.below)) (by intro e; rw [e] at hkl; exact absurd hkl (Nat.not_lt_zero _))
   have c0:wr.cell? ⟨b,off+k * 5,none⟩=some (.string l[k].nm):=hc k hkl 0 _ rfl
   have c1:wr.cell? ⟨b,off+k * 5+1,none⟩=some (.string l[k].hs):=hc k hkl 1 _ rfl
   have c2:wr.cell? ⟨b,off+k * 5+2,none⟩=some (.string l[k].ml):=hc k hkl 2 _ rfl
   have c3:wr.cell? ⟨b,off+k * 5+3,none⟩=some (.bool l[k].dis):=hc k hkl 3 _ rfl
   have c4:wr.cell? ⟨b,off+k * 5+4,none⟩=some (.slice l[k].ga l[k].gs.length l[k].gc):=hc k hkl 4 _ rfl
   have hp:=FU HZ2.out.1 hkl
   have HC:=za ((HW.out.later (z8 (Below.refl wr.heap.size wr) (.cells #[.string l[k].nm,.string l[k].hs,.string l[k].ml,.bool l[k].dis,.slice l[k].ga l[k].gs.length l[k].gc] 47))).put l[k].nm l[k].hs (HZ2.out.2.2 _ (List.getElem_mem hkl)).1 (HZ2.out.2.2 _ (List.getElem_mem hkl)).2 (by rw [hp]; unfold qW; rw [List.length_map,List.length_take]; have:=HZ2.out.2.1; omega))
   rw [hp] at HC
   obtain ⟨LN,hLN⟩:∃ LN,LN=qW (l.take (k+1)):=⟨_,rfl⟩
   rw [← hLN] at HC
   have HLN:=za hLN
   clear hc hb hp hLN
   generalize l[k].nm=nm at *
   generalize l[k].hs=hs at *
   generalize l[k].ml=ml at *
   generalize l[k].dis=dis at *
   generalize l[k].ga=ga at *
   generalize l[k].gs.length=gl at *
   generalize l[k].gc=gc at *
   go_wp2_with (go_at_call 95; (with_reducible refine HC.out.mono ?_); rintro e w6 ⟨rfl,ho,_⟩; have HO6:=za ho; clear ho)
   go_roundg (n - (k+1))
   case measure=>omega
   case rel=>exact ⟨k+1,by omega,by omega,by go_num,HLN.out ▸ HO6⟩
  ·
   have hltz:¬ (k:Int)<(n:Int):=by omega
   obtain rfl:k=n:=by omega
   have hw:=HW.out
   rw [List.take_of_length_le (by have:=HL.out; omega)] at hw
   obtain ⟨p,q1,q2,q3,q4⟩:=hw
   have HF2:Hid (xL w wr B (qW l)):=⟨p,q1,Nat.le_trans HB4.out.size q2,fun b hb=>Nat.le_trans HB4.out.size (q3 b hb),z7 HB4.out q4⟩
   clear q1 q2 q3 q4 HW
   go_wp2
   go_ret2
   first | exact .inr ⟨by first | rfl | trivial,_,rfl,HF2.out⟩ | exact ⟨_,rfl,HF2.out⟩




def Us7 (w:World) (v:Value) (L:zg):Prop:=∃ A c,v=.slice A L.length c∧∀ j (h:j<L.length),∃ g,A=some ⟨g,0,none⟩∧∀ i u,(Vs L[j])[i]? = some u→w.cell? ⟨g,j * 5+i,none⟩=some u
theorem Us7.later {w w':World} {v:Value} {L:zg} (h:Us7 w v L) (hb:Below w.heap.size w w'):Us7 w' v L:=by
 obtain ⟨A,c,e,hc⟩:=h
 exact ⟨A,c,e,fun j hj=>by obtain ⟨g,e,h⟩:=hc j hj; exact ⟨g,e,fun i u hu=>(hb.cell (p:=⟨g,j * 5+i,none⟩) (World.block_lt_of_cell? w _ (h i u hu))).trans (h i u hu)⟩⟩
theorem Us7.of_users {w:World} {base:Nat} {v:Value} {L:zg} (h:Q3 L base w v):Us7 w v L:=by
 have hs:∃ A c,v=.slice A L.length c:=by
  rcases h.2 with ⟨rfl,h0⟩ | ⟨g,cap,cur,rfl,_⟩
  ·
   exact ⟨none,0,by rw [h0]⟩
  ·
   exact ⟨_,_,rfl⟩
 obtain ⟨A,c,rfl⟩:=hs
 refine ⟨A,c,rfl,fun j hj=>?_⟩
 rcases h.2 with ⟨_,h0⟩ | ⟨g,cap,cur,e1,_⟩
 ·
  omega
 ·
  injection e1 with e1
  subst e1
  refine ⟨g,rfl,fun i u hu=>?_⟩
  have hi:i<5:=(List.getElem?_eq_some_iff.1 hu).1
  have:=World.ownsRow.cells h (g:=g) rfl (j * 5+i) u (by rw [usr7_at L j i hj hi]; exact hu)
  rw [Addr.add_lit,Nat.zero_add] at this
  exact this

def zq (q:List UInt8×List UInt8):Us:=⟨tx7 q.1,tx7 q.2,⟨#[]⟩,false,none,[],0⟩
theorem Q0 {q:List UInt8×List UInt8} {w:World} (h:q.1.length≤12∧q.2.length≤12):(zq q).Ok w:=by
 have s1:(tx7 q.1).size≤12:=by rw [← zi]; simpa [tx7] using h.1
 have s2:(tx7 q.2).size≤12:=by rw [← zi]; simpa [tx7] using h.2
 exact { rd:=fun h=>absurd rfl h,nm:=Nat.le_trans s1 (by decide),hs:=Nat.le_trans s2 (by decide),ml:=Nat.zero_le _,nil:=fun _=>rfl,len:=Nat.le_refl _,cap:=Nat.zero_le _,all:=fun s hs=>by cases hs }
theorem Us7.rd {w:World} {A:Option Addr} {c n:Nat} {Lx:zg} (h:Us7 w (.slice A n c) Lx):n=(Lx.map zq).length∧Z9 w A (Lx.map zq):=by
 obtain ⟨A',c',e,hc⟩:=h
 injection e with e1 e2 e3
 subst e1 e2 e3
 refine ⟨by simp,fun hne=>?_⟩
 have h0:0<Lx.length:=by
  rcases Lx with _ | ⟨q,r⟩
  ·
   exact absurd rfl hne
  ·
   exact Nat.succ_pos _
 obtain ⟨g,e,hg⟩:=hc 0 h0
 refine ⟨g,0,e,World.block_lt_of_cell? w _ (hg 0 _ rfl),fun i hi j u hu=>?_⟩
 have hi':i<Lx.length:=by simpa using hi
 obtain ⟨g',e',hg'⟩:=hc i hi'
 rw [e] at e'
 injection e' with e'
 injection e' with e'
 subst e'
 have hu':(Vs Lx[i])[j]? = some u:=by
  rw [List.getElem_map] at hu
  have:(zq Lx[i]).cells=(Vs Lx[i]).toArray:=rfl
  rw [this] at hu
  simpa using hu
 have:=hg' j u hu'
 rwa [Nat.zero_add]

def yt (l:List Us):List Value:=l.flatMap fun u=>u.cells.toList
theorem qB (l:List Us):(yt l).length=l.length * 5:=by
 induction l with
 | nil=>rfl
 | cons u l ih =>
  have:yt (u::l)=u.cells.toList++yt l:=rfl
  rw [this,List.length_append,ih,List.length_cons]
  have:u.cells.toList.length=5:=rfl
  omega
theorem fk (l:List Us) (i j:Nat) (hi:i<l.length) (hj:j<5):(yt l)[i * 5+j]? = l[i].cells[j]? := by
 induction l generalizing i with
 | nil=>exact absurd hi (Nat.not_lt_zero _)
 | cons u l ih =>
  have e:yt (u::l)=u.cells.toList++yt l:=rfl
  have h5:u.cells.toList.length=5:=rfl
  rw [e]
  cases i with
  | zero =>
   rw [List.getElem?_append_left (by omega),Nat.zero_mul,Nat.zero_add]
   simp
  | succ i =>
   rw [List.getElem?_append_right (by omega),h5,show (i+1) * 5+j - 5=i * 5+j by omega]
   exact ih i (by simpa using hi)
theorem Z9.src {w:World} {A:Option Addr} {l:List Us} (h:Z9 w A l) (c:Nat):Src Tryz.prog 5 57 (.slice A l.length c) l.length (yt l) w:=by
 have hk:Tryz.prog.underlying 57=some (.slice 47):=Tryz.underlying57
 by_cases hl:l=[]
 ·
  subst hl
  cases A with
  | none=>exact Src.ofNil w hk c
  | some ad=>exact Src.ofSlice w hk ad 0 c [] rfl (fun j u hu=>by simp at hu) (fun u hu=>by cases hu)
 ·
  obtain ⟨b,off,rfl,_,hc⟩:=h hl
  refine Src.ofSlice w hk ⟨b,off,none⟩ l.length c _ (qB l) (fun j u hu=>?_) (fun u hu=>?_)
  ·
   have hlt:j<(yt l).length:=(List.getElem?_eq_some_iff.1 hu).1
   rw [qB] at hlt
   have hi:j / 5<l.length:=by omega
   have hj:j / 5 * 5+j % 5=j:=by omega
   have h5:j % 5<5:=by omega
   have:=fk l (j / 5) (j % 5) hi h5
   rw [hj,hu] at this
   have h2:=hc (j / 5) hi (j % 5) u this.symm
   rw [Addr.add_lit]
   rwa [show off+j / 5 * 5+j % 5=off+j by omega] at h2
  ·
   unfold yt at hu
   rw [List.mem_flatMap] at hu
   obtain ⟨x,_,hx⟩:=hu
   simp only [Us.cells,List.mem_cons,List.not_mem_nil,or_false] at hx
   rcases hx with rfl | rfl | rfl | rfl | rfl <;> rfl
theorem ZP {w:World} {b0 n c:Nat} {A:Option Addr} {l:List Us} (ho:w.ownsRow b0 47 5 (.slice A n c) n (yt l)) (hn:n=l.length):Z9 w A l:=by
 intro hl
 have hp:0<l.length:=List.length_pos_iff.2 hl
 obtain ⟨g,cap,hv,_,hg⟩:=ho.form (by omega)
 injection hv with hA _ hc
 subst hA hc
 refine ⟨g,0,rfl,hg,fun i hi j u hu=>?_⟩
 have h5:j<5:=by
  have:=(Array.getElem?_eq_some_iff.1 hu).1
  exact this
 have:=ho.cellAt (i * 5+j) (by omega)
 rw [fk l i j hi h5,hu] at this
 rwa [Nat.zero_add]


structure Lo7 (w:World) (B:Nat) (p:Option Nat) (L:zg) (v:Value) (n o:Nat) (W:World):Prop where
 bel:Below w.heap.size w W
 dir:xg W B p L
 row:∃ xs,W.ownsRow 0 47 5 v n xs∧∀ i,i<n→∃ s,xs[i * 5+o]? = some (.string s)
 far:∀ k,v.ownBlock=some k→w.heap.size≤k∧B≠k∧p≠some k
theorem Lo7.below {w W W':World} {B:Nat} {p:Option Nat} {L:zg} {v:Value} {n o:Nat} (h:Lo7 w B p L v n o W) (hb:Below W.heap.size W W'):Lo7 w B p L v n o W':=by
 obtain ⟨xs,ho,hx⟩:=h.row
 exact ⟨z7 h.bel hb,h.dir.later hb,⟨xs,(zc.of_below hb (fun _=>False)).owns ho (fun _ _ f=>f),hx⟩,h.far⟩
theorem Lo7.form {w W:World} {B:Nat} {p:Option Nat} {L:zg} {A:Option Addr} {n c o:Nat} (h:Lo7 w B p L (.slice A n c) n o W) (hn:0<n):∃ g,A=some ⟨g,0,none⟩:=by
 obtain ⟨xs,ho,_⟩:=h.row
 obtain ⟨g,cap,hv,_,_⟩:=ho.form hn
 injection hv with hA
 exact ⟨g,hA⟩
theorem Lo7.store {w W:World} {B:Nat} {p:Option Nat} {L:zg} {g n c o:Nat} (h:Lo7 w B p L (.slice (some ⟨g,0,none⟩) n c) n o W) (ho5:o<5) (k:Nat) (hk:k<n) (s:ByteArray) :
  (∃ x,W.cell? ⟨g,k * 5+o,none⟩=some (.string x))∧W.frozen? ⟨g,k * 5+o,none⟩=false∧Lo7 w B p L (.slice (some ⟨g,0,none⟩) n c) n o (W.setCell ⟨g,k * 5+o,none⟩ (.string s)):=by
 obtain ⟨xs,ho,hx⟩:=h.row
 obtain ⟨h1,h2,h3⟩:=h.far g rfl
 have hc:=ho.cellAt (k * 5+o) (by omega)
 obtain ⟨x,hxk⟩:=hx k hk
 rw [hxk] at hc
 have ht:zc (fun i=>i=g) W (W.setCell ⟨g,k * 5+o,none⟩ (.string s)):=(zc.refl (fun i=>i=g) W).setCell (p:=⟨g,k * 5+o,none⟩) (fun _=>rfl) _
 refine ⟨⟨x,hc⟩,ho.frozenAt _,h.bel.setCell (p:=⟨g,k * 5+o,none⟩) h1 _,h.dir.turns ht h2 (fun b hb e=>h3 (by rw [hb,e])),⟨_,(ho.stored (k * 5+o) (.string s)).1,fun i hi=>?_⟩,h.far⟩
 rw [List.getElem?_set]
 split
 ·
  split
  ·
   exact ⟨s,rfl⟩
  ·
   next he hlt =>
   obtain ⟨y,hy⟩:=hx i hi
   have:=(List.getElem?_eq_some_iff.1 hy).1
   omega
 ·
  exact hx i hi
theorem Xb (L:zg):L.flatMap Vs=yt (L.map zq):=by
 unfold yt
 rw [List.flatMap_map]
 rfl
end Go.Proofs.YthmomkjingcbiaaGreatDoor
