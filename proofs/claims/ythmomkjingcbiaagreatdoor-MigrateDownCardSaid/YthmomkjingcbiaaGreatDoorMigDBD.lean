/-
  The texts that the laws of this seat share, part 4: what the code and the document's own answers tell, walked function by function.
  Conditions: each theorem's own.
-/
import Derived.Maps.OwnSet
import Derived.Maps.StringElems
import Derived.Sort.KeysCollected
import Derived.StringKeys
import Derived.Shelf.SlIter.Collect
import Derived.Sort.OwnSorted
import Derived.Test.YthmomkjingcbiaaGreatDoorRows
import Derived.Laws.Cover1
import Derived.Test.YthmomkjingcbiaaGreatDoorMigDBC
set_option maxHeartbeats 16000000
namespace Go.Proofs.YthmomkjingcbiaaGreatDoor
open Go.RowKit

def uj:List Int→Int
 | []=>0
 | e::l=>if e=0 then uj l else e

def Ask7 (v:Value) (n:Int) (w:World):Prop :=
 ∃ g lb,v=.func (.func g) #[] lb∧(∀ args w,(callFunc g args).run Tryz.prog w=.ok (.enter g args) w) ∧
  ∀ W:World,Below w.heap.size w W→Calls Tryz.prog g lb W (yH n W)
theorem Ask7.later {v:Value} {n:Int} {w W:World} (h:Ask7 v n w) (hb:Below w.heap.size w W):Ask7 v n W:=by
 obtain ⟨g,lb,e,eg,hp⟩:=h
 exact ⟨g,lb,e,eg,fun W' hb'=>hp W' (z8 hb hb')⟩
def JB (v:Value) (b:Bool) (w:World):Prop :=
 ∃ g lb,v=.func (.func g) #[] lb∧(∀ args w,(callFunc g args).run Tryz.prog w=.ok (.enter g args) w) ∧
  ∀ W:World,Below w.heap.size w W→Calls Tryz.prog g lb W (zY b W)
theorem JB.later {v:Value} {b:Bool} {w W:World} (h:JB v b w) (hb:Below w.heap.size w W):JB v b W:=by
 obtain ⟨g,lb,e,eg,hp⟩:=h
 exact ⟨g,lb,e,eg,fun W' hb'=>hp W' (z8 hb hb')⟩
def jH (n:Int) (w:World) (e:Ending) (w':World):Prop:=∃ g lb,e=.returned (.func (.func g) #[] lb)∧Ask7 (.func (.func g) #[] lb) n w'∧Below w.heap.size w w'

set_option maxRecDepth 100000 in
theorem UG (s:ByteArray) (C:Nat) (w:World) (hs:s.size≤9223372036854775807) (hc:w.cell? ⟨C,0,none⟩=some (.string s)) :
  Calls Tryz.prog 124 #[.pointer (some ⟨C,0,none⟩)] w (yH (zp (zf s.data.toList) 10) w):=by
 have HN:=za (yb s w hs)
 generalize zp (zf s.data.toList) 10=r at *
 go_enter Tryz.func124,Tryz.ntmps124
 go_wp2_with fail
 with_reducible refine HN.out.mono ?_
 rintro e w1 ⟨rfl,hb⟩
 have HB:=za hb
 clear hb HN hc
 go_wp2
 go_ret
 exact ⟨rfl,HB.out⟩
set_option maxRecDepth 100000 in
theorem UF (s:ByteArray) (w:World) (hs:s.size≤9223372036854775807):Calls Tryz.prog 49 #[.string s] w (jH (zp (zf s.data.toList) 10) w):=by
 have hmf:=mkf
 go_enter Tryz.func49,Tryz.ntmps49
 go_wp2
 go_ret
 refine ⟨_,_,rfl,?_,z7 (Below.refl _ _) _⟩
 refine ⟨_,_,rfl,enters_of Tryz.func124 (by kernel_rfl) rfl,fun W hb=>?_⟩
 exact UG s _ W hs ((hb.cell (p:=⟨_,0,none⟩) (by simp)).trans (by simp))



set_option maxRecDepth 100000 in
theorem XX (B C:Nat) (v:Value) (b:Bool) (n:Int) (w:World) (hB:w.cell? ⟨B,0,none⟩=some v) (hC:w.cell? ⟨C,0,none⟩=some (.int .i64 n)) (hv:JB v b w) :
  Calls Tryz.prog 205 #[.pointer (some ⟨B,0,none⟩),.pointer (some ⟨C,0,none⟩)] w (yH (zp b n) w):=by
 obtain ⟨g,lb,rfl,eg,hp⟩:=hv
 have HC:=za (hp w (Below.refl _ _))
 have hlt:C<w.heap.size:=World.block_lt_of_cell? w _ hC
 have HCC:=za hC
 clear hp hC
 cases b with
 | true =>
  show Calls _ _ _ _ (yH 0 w)
  go_enter Tryz.func205,Tryz.ntmps205
  go_wp2_with (go_at_fn g; refine HC.out.mono ?_; rintro e w1 ⟨rfl,hb⟩; have HB:=za hb; clear hb)
  go_ret
  exact ⟨rfl,HB.out⟩
 | false =>
  show Calls _ _ _ _ (yH n w)
  go_enter Tryz.func205,Tryz.ntmps205
  go_wp2_with (go_at_fn g; refine HC.out.mono ?_; rintro e w1 ⟨rfl,hb⟩; have HB:=za hb; have c1:=(hb.cell (p:=⟨C,0,none⟩) hlt).trans HCC.out; clear hb)
  go_ret
  exact ⟨rfl,HB.out⟩

set_option maxRecDepth 100000 in
theorem fG (g:Nat) (lb:Array Value) (b:Bool) (n:Int) (w:World) (hv:JB (.func (.func g) #[] lb) b w):Calls Tryz.prog 125 #[.func (.func g) #[] lb,.int .i64 n] w (jH (zp b n) w):=by
 have hmf:=mkf
 have HV:=za hv
 clear hv
 go_enter Tryz.func125,Tryz.ntmps125
 go_wp2
 go_ret
 refine ⟨_,_,rfl,?_,z7 (z7 (Below.refl _ _) _) _⟩
 refine ⟨_,_,rfl,enters_of Tryz.func205 (by kernel_rfl) rfl,fun W hb=>?_⟩
 exact XX _ _ _ b n W ((hb.cell (p:=⟨_,0,none⟩) (by simp; try omega)).trans (by simp)) ((hb.cell (p:=⟨_,0,none⟩) (by simp; try omega)).trans (by simp)) (HV.out.later (z8 (z7 (z7 (Below.refl _ _) _) _) hb))

set_option maxRecDepth 100000 in
theorem Fw (C:Nat) (n:Int) (w:World) (hC:w.cell? ⟨C,0,none⟩=some (.int .i64 n)):Calls Tryz.prog 192 #[.pointer (some ⟨C,0,none⟩)] w (zY (decide (n≤12)) w):=by
 by_cases h:n≤12
 all_goals
  rw [show decide (n≤12)=_ from by first | exact decide_eq_true h | exact decide_eq_false h]
  go_enter Tryz.func192,Tryz.ntmps192
  go_wp2
  all_goals first | (exfalso; omega) | (go_ret; exact ⟨by simp,Below.refl _ _⟩)
set_option maxRecDepth 100000 in
theorem fit7_calls (n:Int) (w:World):Calls Tryz.prog 99 #[.int .i64 n] w (jH (zp (decide (n≤12)) 7) w):=by
 have hmf:=mkf
 have HU:Hid (∀ W,Below w.heap.size (w.alloc (.cells #[.int .i64 n] 3)) W→Calls Tryz.prog 125 #[.func (.func 192) #[] #[.pointer (some ⟨w.heap.size,0,none⟩)],.int .i64 7] (w.alloc (.cells #[.int .i64 n] 3)) (jH (zp (decide (n≤12)) 7) (w.alloc (.cells #[.int .i64 n] 3)))):=fun _ _ =>
  fG _ _ _ _ _ ⟨_,_,rfl,enters_of Tryz.func192 (by kernel_rfl) rfl,fun W hb=>Fw _ n W ((hb.cell (p:=⟨_,0,none⟩) (by simp)).trans (by simp))⟩
 have HU2:=za (HU.out _ (Below.refl _ _))
 clear HU
 generalize zp (decide (n≤12)) 7=r at *
 go_enter Tryz.func99,Tryz.ntmps99
 go_wp2_with fail
 with_reducible refine HU2.out.mono ?_
 rintro e w1 ⟨g,lb,rfl,ha,hb⟩
 have HA:=za ha
 have HB:=za hb
 clear ha hb HU2
 go_wp2
 go_ret
 exact ⟨g,lb,rfl,HA.out,z8 (z7 (Below.refl _ _) _) HB.out⟩

def XU (w:World) (B:Nat) (l:List (Value×Int)):Prop:=B<w.heap.size∧∀ j (h:j<l.length),w.cell? ⟨B,j,none⟩=some l[j].1∧Ask7 l[j].1 l[j].2 w
theorem XU.later {w W:World} {B:Nat} {l:List (Value×Int)} (h:XU w B l) (hb:Below w.heap.size w W):XU W B l :=
 ⟨Nat.lt_of_lt_of_le h.1 hb.size,fun j hj=>⟨(hb.cell (p:=⟨B,j,none⟩) h.1).trans (h.2 j hj).1,(h.2 j hj).2.later hb⟩⟩

set_option maxRecDepth 100000 in
theorem ZY (B n cap:Nat) (l:List (Value×Int)) (w:World) (hl:n=l.length) (hn:n≤1000) (hr:XU w B l) :
  Calls Tryz.prog 48 #[.slice (some ⟨B,0,none⟩) n cap] w (yH (uj (l.map (·.2))) w):=by
 have HR:=za hr
 have HL:=za hl
 clear hr hl
 obtain ⟨r,hr⟩:∃ r,r=uj (l.map (·.2)):=⟨_,rfl⟩
 rw [← hr]
 have HRR:=za hr
 clear hr
 go_enter Tryz.func48,Tryz.ntmps48
 go_wp2
 go_loopg [4,5,8] n (fun gg _ _ s8 wr=>∃ kk:Nat,kk≤n∧n - kk≤gg∧s8=.int .i64 kk∧Hid (Below w.heap.size w wr)∧Hid (r=uj ((l.map (·.2)).drop kk)))
 case atStart=>exact ⟨0,Nat.zero_le _,by omega,rfl,Below.refl _ _,HRR.out⟩
 case round =>
  obtain ⟨kk,hkk,hg,rfl,HW,A⟩:=hrel
  by_cases hlt:kk<n
  ·
   have hltz:(kk:Int)<(n:Int):=by omega
   have hk:kk<l.length:=HL.out ▸ hlt
   obtain ⟨hcell,g,lb,hv,eg,hp⟩:=(HR.out.later HW.out).2 kk hk
   have hcall:=hp wr (Below.refl _ _)
   rw [hv] at hcell
   have HC:=za hcall
   have hA:r=(if l[kk].2=0 then uj ((l.map (·.2)).drop (kk+1)) else l[kk].2):=by
    have:=A.out
    rw [List.drop_eq_getElem_cons (by simpa using hk),List.getElem_map] at this
    exact this
   clear hp hcall hv A
   generalize l[kk].2=x at *
   by_cases h0:x=0
   ·
    rw [if_pos h0] at hA
    have HA:=za hA
    subst h0
    clear hA
    go_wp2_with (go_at_fn g; refine HC.out.mono ?_; rintro e w' ⟨rfl,hb⟩; have HB:=za (z8 HW.out hb); clear hb)
    go_roundg (n - (kk+1))
    case measure=>omega
    case rel=>exact ⟨kk+1,by omega,by omega,by go_num,HB,HA⟩
   ·
    rw [if_neg h0] at hA
    subst hA
    go_wp2_with (go_at_fn g; refine HC.out.mono ?_; rintro e w' ⟨rfl,hb⟩; have HB:=za (z8 HW.out hb); clear hb)
    go_ret
    exact ⟨rfl,HB.out⟩
  ·
   have hltz:¬ (kk:Int)<(n:Int):=by omega
   have hA:r=0:=by
    have:=A.out
    rw [List.drop_eq_nil_of_le (by have:=HL.out; simp; omega)] at this
    exact this
   subst hA
   clear A
   go_wp2
   go_ret
   exact ⟨rfl,HW.out⟩

end Go.Proofs.YthmomkjingcbiaaGreatDoor
namespace Go.Proofs.YthmomkjingcbiaaGreatDoor
open Go.ChangeShapes Go.WideShapes Go.ChangeAt Go.RowKit Go.Deep

def YA (w:World) (A:Option Addr) (l:List Us):Prop :=
 l≠[]→∃ b off,A=some ⟨b,off,none⟩∧b<w.heap.size∧∀ i (hi:i<l.length) j u,l[i].cells[j]? = some u→w.cell? ⟨b,off+i * 5+j,none⟩=some u
theorem YA.later {w w':World} {A:Option Addr} {l:List Us} (h:YA w A l) (hb:Below w.heap.size w w'):YA w' A l:=fun hl=>by
 obtain ⟨b,off,rfl,hlt,hc⟩:=h hl
 exact ⟨b,off,rfl,Nat.lt_of_lt_of_le hlt hb.size,fun i hi j u hu=>(hb.cell (p:=⟨b,off+i * 5+j,none⟩) hlt).trans (hc i hi j u hu)⟩


section
variable {H:Type} {enc:TypeId×Value→H} {W:World} {base:Nat} {sp:Nat→Bool} {hd:Bool}
end
end Go.Proofs.YthmomkjingcbiaaGreatDoor
namespace Go.Proofs.YthmomkjingcbiaaGreatDoor
open Go.Maps

abbrev zB:=List (List UInt8×List UInt8)

def vi (L:zB):Prop:=L.Pairwise (fun p q=>bytesBefore p.1 q.1=true)

def entE (p:List UInt8×List UInt8):Lit×DataW Unit:=(.string p.1,.lit (.string p.2))
def Y1 (L:zB):DataW Unit:=.map (L.map entE)

def insE (x:List UInt8×List UInt8):zB→zB
 | []=>[x]
 | y::r=>if bytesBefore x.1 y.1 then x::y::r else y::insE x r
def vD (L:zB) (k:List UInt8):zB:=L.filter (fun p=>!(p.1 == k))
def uf (L:zB) (k v:List UInt8):zB:=insE (k,v) (vD L k)
def xj (L:zB) (k:List UInt8):Bool:=L.any (fun p=>p.1 == k)
def xk (L:zB) (k:List UInt8):List UInt8:=match L.find? (fun p=>p.1 == k) with | some p=>p.2 | none=>[]

theorem datE_ins (x:List UInt8×List UInt8):∀ L:zB,(insE x L).map entE=DataW.insert (entE x) (L.map entE)
 | []=>rfl
 | y::r=>by
  simp only [insE,List.map_cons,DataW.insert]
  have e:(entE x).1.before (entE y).1=bytesBefore x.1 y.1:=rfl
  rw [e]
  cases bytesBefore x.1 y.1
  ·
   simp [datE_ins x r]
  ·
   simp

theorem UX (k:List UInt8):∀ L:zB,(vD L k).map entE=(L.map entE).filter (fun p=>!p.1.sameKey (.string k))
 | []=>rfl
 | y::r=>by
  have ih:=UX k r
  unfold vD at ih ⊢
  have e:(entE y).1.sameKey (.string k)=(y.1 == k):=rfl
  simp only [List.filter_cons,List.map_cons,e]
  cases (y.1 == k) <;> simp [ih]

theorem UW (L:zB) (k v:List UInt8):(Y1 L).put (.string k) (.lit (.string v))=Y1 (uf L k v):=by
 unfold Y1 uf
 rw [datE_ins,UX]; rfl
theorem datE_del (L:zB) (k:List UInt8):(Y1 L).del (.string k)=Y1 (vD L k):=by
 unfold Y1
 rw [UX]; rfl
theorem datE_has (L:zB) (k:List UInt8):Maps.has (Y1 L) (.string k)=xj L k:=by
 unfold Y1 xj
 rw [Maps.has_eq,List.any_map]; rfl
theorem FI (L:zB) (k:List UInt8):(Y1 L).atKey (.string k) (.lit (.string []))=.lit (.string (xk L k)):=by
 unfold Y1 xk
 unfold DataW.atKey
 simp only [List.find?_map]
 have e:((fun p:Lit×DataW Unit=>p.1.sameKey (.string k)) ∘ entE)=(fun p=>p.1 == k):=rfl
 rw [e]
 cases L.find? (fun p=>p.1 == k) <;> rfl
theorem XF (L:zB):Maps.size (Y1 L)=L.length:=by simp [Y1,Maps.size]
theorem datE_keys (L:zB):strKeys (Y1 L)=L.map (·.1):=by
 simp only [Y1,strKeys,List.map_map]; rfl

/-! ### the order -/
theorem ux:∀ a b:List UInt8,decide (Lib.compareBytes a b<0)=bytesBefore a b
 | [],[]=>by simp [Lib.compareBytes,bytesBefore]
 | [],_::_=>by simp [Lib.compareBytes,bytesBefore]
 | _::_,[]=>by simp [Lib.compareBytes,bytesBefore]
 | a::r,b::s=>by
  unfold Lib.compareBytes bytesBefore
  by_cases h:a<b
  ·
   simp [h]
  ·
   by_cases h2:b<a
   ·
    have hn:a≠b:=fun e=>by subst e; exact h h2
    simp [h,h2,hn]
   ·
    have e:a=b:=by
     have h1:=UInt8.not_lt.1 h; have h3:=UInt8.not_lt.1 h2
     exact UInt8.le_antisymm h3 h1
    subst e
    simp [ux r s]

theorem zD (a:List UInt8):bytesBefore a a=false:=WideAt.bytes_irrefl a
theorem vb {a b:List UInt8} (h:bytesBefore a b=true):a≠b:=fun e=>by subst e; rw [zD] at h; cases h
theorem yq {a b:List UInt8} (h:bytesBefore a b=true):bytesBefore b a=false:=by
 cases hb:bytesBefore b a
 ·
  rfl
 ·
  exact absurd (WideShapes.bytes_trans _ _ _ h hb) (by rw [zD]; exact Bool.noConfusion)

theorem qM {L:zB} (h:vi L) (k:List UInt8):vi (vD L k):=h.filter _
theorem Xc {x y:List UInt8×List UInt8}:∀ {L:zB},y∈insE x L↔y=x∨y∈L
 | []=>by simp [insE]
 | z::r=>by
  unfold insE
  split
  ·
   simp
  ·
   simp only [List.mem_cons,Xc (L:=r)]
   constructor
   ·
    rintro (h | h | h)
    ·
     exact .inr (.inl h)
    ·
     exact .inl h
    ·
     exact .inr (.inr h)
   ·
    rintro (h | h | h)
    ·
     exact .inr (.inl h)
    ·
     exact .inl h
    ·
     exact .inr (.inr h)
theorem rise_ins {x:List UInt8×List UInt8}:∀ {L:zB},vi L→(∀ p∈L,p.1≠x.1)→vi (insE x L)
 | [],_,_=>by simp [insE,vi]
 | y::r,h,hn=>by
  unfold insE
  obtain ⟨h1,h2⟩:=List.pairwise_cons.1 h
  split
  ·
   rename_i hb
   exact List.pairwise_cons.2 ⟨fun p hp=>by
    rcases List.mem_cons.1 hp with rfl | hp
    ·
     exact hb
    ·
     exact WideShapes.bytes_trans _ _ _ hb (h1 p hp),h⟩
  ·
   rename_i hb
   have hyx:bytesBefore y.1 x.1=true:=by
    rcases WideAt.bytes_total y.1 x.1 (hn y (by simp)) with h' | h'
    ·
     exact h'
    ·
     exact absurd h' hb
   exact List.pairwise_cons.2 ⟨fun p hp=>by
    rcases Xc.1 hp with rfl | hp
    ·
     exact hyx
    ·
     exact h1 p hp,rise_ins h2 (fun p hp=>hn p (by simp [hp]))⟩
theorem yO {L:zB} {k:List UInt8} {p:List UInt8×List UInt8}:p∈vD L k↔p∈L∧p.1≠k:=by
 unfold vD; simp
theorem uW {L:zB} (h:vi L) (k v:List UInt8):vi (uf L k v) :=
 rise_ins (qM h k) (fun _ hp=>(yO.1 hp).2)

theorem VK (x:List UInt8×List UInt8):∀ L:zB,(insE x L).length=L.length+1
 | []=>rfl
 | y::r=>by unfold insE; split <;> simp [VK x r]
theorem xE {L:zB} {k:List UInt8}:xj L k=true↔∃ p∈L,p.1=k:=by simp [xj]
theorem uw {L:zB} {k:List UInt8} (h:xj L k=false):vD L k=L:=by
 unfold vD; rw [List.filter_eq_self]
 intro p hp
 cases e:(p.1 == k)
 ·
  rfl
 ·
  have:xj L k=true:=xE.2 ⟨p,hp,by simpa using e⟩
  rw [h] at this; cases this
theorem VV {L:zB} (hr:vi L) {k:List UInt8} (h:xj L k=true):(vD L k).length+1=L.length:=by
 induction L with
 | nil=>simp [xj] at h
 | cons y r ih =>
  obtain ⟨h1,h2⟩:=List.pairwise_cons.1 hr
  by_cases e:y.1=k
  ·
   have hn:xj r k=false:=by
    cases hh:xj r k
    ·
     rfl
    ·
     obtain ⟨p,hp,hk⟩:=xE.1 hh
     exact absurd (h1 p hp) (by rw [e,hk,zD]; exact Bool.noConfusion)
   have e2:=uw hn
   unfold vD at e2 ⊢
   simp [e,e2]
  ·
   have hh:xj r k=true:=by
    obtain ⟨p,hp,hk⟩:=xE.1 h
    rcases List.mem_cons.1 hp with rfl | hp
    ·
     exact absurd hk e
    ·
     exact xE.2 ⟨p,hp,hk⟩
   have:=ih h2 hh
   unfold vD at this ⊢
   have e':(y.1 == k)=false:=by simpa using e
   rw [List.filter_cons]
   simp only [e',Bool.not_false,if_true,List.length_cons]
   omega
theorem qp {L:zB} (hr:vi L) (k v:List UInt8):(uf L k v).length=if xj L k then L.length else L.length+1:=by
 unfold uf
 rw [VK]
 cases h:xj L k
 ·
  rw [uw h]; simp
 ·
  have:=VV hr h; simp; omega

theorem ft {L:zB} (hr:vi L) {q:List UInt8×List UInt8} (h:q∈L):xk L q.1=q.2:=by
 induction L with
 | nil=>cases h
 | cons y r ih =>
  obtain ⟨h1,h2⟩:=List.pairwise_cons.1 hr
  rcases List.mem_cons.1 h with rfl | h
  ·
   simp [xk]
  ·
   have hne:(y.1 == q.1)=false:=by
    have:=vb (h1 q h)
    simpa using this
   have:=ih h2 h
   unfold xk at this ⊢
   rw [List.find?_cons,hne]
   exact this

/-! ### sorting what a map gave -/
theorem Vp {L:zB} (hr:vi L) {ss:List (List UInt8)} (hp:ss.Perm (L.map (·.1))) (le:List UInt8→List UInt8→Bool) (hle:∀ x y,le x y=!bytesBefore y x):ss.mergeSort le=L.map (·.1):=by
 have htr:∀ a b c,le a b=true→le b c=true→le a c=true:=by
  intro a b c h1 h2
  rw [hle] at *
  simp only [Bool.not_eq_eq_eq_not,Bool.not_true] at *
  cases hca:bytesBefore c a
  ·
   rfl
  ·
   by_cases e:a=b
   ·
    subst e; rw [hca] at h2; cases h2
   ·
    rcases WideAt.bytes_total a b e with h | h
    ·
     rw [WideShapes.bytes_trans _ _ _ hca h] at h2; cases h2
    ·
     rw [h] at h1; cases h1
 have htot:∀ a b,(le a b || le b a)=true:=by
  intro a b
  rw [hle,hle]
  cases h:bytesBefore b a
  ·
   rfl
  ·
   rw [yq h]; rfl
 have hs:(ss.mergeSort le).Pairwise (fun a b=>le a b=true):=List.pairwise_mergeSort htr htot ss
 have hq:(ss.mergeSort le).Perm (L.map (·.1)):=(List.mergeSort_perm ss le).trans hp
 have hL:(L.map (·.1)).Pairwise (fun a b=>le a b=true):=by
  rw [List.pairwise_map]
  exact hr.imp (fun h=>by rw [hle,yq h]; rfl)
 refine List.Perm.eq_of_pairwise (le:=fun a b=>le a b=true) ?_ hs hL hq
 intro a b _ _ h1 h2
 rw [hle] at h1 h2
 by_cases e:a=b
 ·
  exact e
 ·
  rcases WideAt.bytes_total a b e with h | h
  ·
   rw [h] at h2; cases h2
  ·
   rw [h] at h1; cases h1

end Go.Proofs.YthmomkjingcbiaaGreatDoor
namespace Go.Proofs.YthmomkjingcbiaaGreatDoor
open Go.RowKit Go.Maps

theorem Um {H:Type} {w:World} {P:Program} {k:TypeId} {R:Value→Option (DataW H×List MemPlace)} {b n:Nat} {D:DataW H} (h:w.ownsMap P k R b n D):w.ownsMap P k R b (Maps.size D) D:=by
 obtain ⟨es,clock,hb,F,_,rfl⟩:=h
 have e1:Maps.size (DataW.map ((es.toList.map (WideElems.rg P k R)).foldr DataW.insert []))=es.size:=by simp [Maps.size,length_sorted]
 exact ⟨es,clock,hb,F,by rw [e1]; exact Nat.le_refl _,rfl⟩

def fB (w:World) (b:Nat) (L:zB):Prop:=w.ownsMap Tryz.prog 9 (plainElem Tryz.prog 9) b L.length (Y1 L)
theorem fB.of {w:World} {b n:Nat} {L:zB} (h:w.ownsMap Tryz.prog 9 (plainElem Tryz.prog 9) b n (Y1 L)):fB w b L:=by
 have:=Um h
 rwa [XF] at this
theorem fB.kept {w w':World} {b:Nat} {L:zB} (h:fB w b L) (hb:w'.heap[b]? = w.heap[b]?):fB w' b L:=by
 obtain ⟨es,clock,h1,r⟩:=h
 exact ⟨es,clock,hb.trans h1,r⟩

structure qX (w:World) (B:Nat) (p:Option Nat) (L:zB):Prop where
 blk:w.heap[B]? = some (.cells #[.map p] 78 (0,0))
 nil:p=none→L=[]
 map:∀ b,p=some b→fB w b L
 rise:vi L
 few:L.length≤12
 all:∀ q∈L,q.1.length≤12∧q.2.length≤12

section
variable {w w':World} {B:Nat} {p:Option Nat} {L:zB}
theorem qX.lt (h:qX w B p L):B<w.heap.size:=(Array.getElem?_eq_some_iff.1 h.blk).1
theorem qX.mlt (h:qX w B p L):∀ b,p=some b→b<w.heap.size:=fun b hb=>(h.map b hb).lt
theorem qX.cell (h:qX w B p L):w.cell? ⟨B,0,none⟩=some (.map p):=by simp [World.cell?,h.blk]
theorem qX.frozen (h:qX w B p L):w.frozen? ⟨B,0,none⟩=false:=by simp [World.frozen?,h.blk]
theorem qX.apart (h:qX w B p L):∀ b,p=some b→b≠B:=fun b hb e=>by
 obtain ⟨es,clock,h1,_⟩:=h.map b hb
 subst e
 rw [h.blk] at h1
 cases h1
theorem qX.turns {S:Nat→Prop} (h:qX w B p L) (ht:zm S w w') (hB:¬ S B) (hp:∀ b,p=some b→¬ S b):qX w' B p L :=
 ⟨(ht.block B h.lt hB).trans h.blk,h.nil,fun b hb=>(h.map b hb).kept (ht.block b (h.mlt b hb) (hp b hb)),h.rise,h.few,h.all⟩
theorem qX.later (h:qX w B p L) (hb:Below w.heap.size w w'):qX w' B p L:=h.turns (zm.of_below hb (fun _=>False)) (fun f=>f) (fun _ _ f=>f)
end

def XQ (w:World) (B:Nat) (p:Option Nat) (L':zB) (w':World):Prop:=∃ p',qX w' B p' L'∧(∀ b,p'=some b→p=some b∨w.heap.size≤b)∧zm (fun i=>i=B∨p=some i) w w'
theorem XQ.still {w w':World} {B:Nat} {p:Option Nat} {L:zB} (h:qX w B p L) (hb:Below w.heap.size w w'):XQ w B p L w' :=
 ⟨p,h.later hb,fun _ e=>.inl e,zm.of_below hb _⟩
theorem XQ.ahead {w w1 w':World} {B:Nat} {p:Option Nat} {L':zB} (hb:Below w.heap.size w w1) (h:XQ w1 B p L' w'):XQ w B p L' w':=by
 obtain ⟨p',hd,hp,ht⟩:=h
 exact ⟨p',hd,fun b e=>(hp b e).imp id (fun h=>Nat.le_trans hb.size h),(zm.of_below hb _).next ht (fun i _ h=>h)⟩

theorem jp:Keyed Tryz.prog 9:=string_keyed Tryz.underlying9
theorem JF (w:World):(zeroValue 9).run Tryz.prog w=.ok (.string ⟨#[]⟩) w:=by kernel_rfl
theorem key7 (s:ByteArray) (h:s.size≤maxLen):keyOf Tryz.prog 9 (.string s)=some (.string s.data.toList):=WideMaps.keyOf_string_mk Tryz.underlying9 h

def tx7 (l:List UInt8):ByteArray:=⟨l.toArray⟩
theorem yC (l:List UInt8):(tx7 l).data.toList=l:=by simp [tx7]
theorem ul (s:ByteArray):tx7 s.data.toList=s:=by simp [tx7]

theorem look7 {w:World} {B:Nat} {p:Option Nat} {L:zB} (h:qX w B p L) (s:ByteArray) (hs:s.size≤maxLen) :
  (Instr.lookup 76 (.map p) (.string s) true).run Tryz.prog w=.ok (.tuple #[.string (tx7 (xk L s.data.toList)),.bool (xj L s.data.toList)]) w:=by
 cases p with
 | none =>
  have hL:=h.nil rfl
  subst hL
  have:=Maps.look_nil (P:=Tryz.prog) (w:=w) (t:=76) true jp Tryz.underlying76 (JF w) (key7 s hs)
  exact this
 | some b =>
  obtain ⟨v,ps,hrun,hv⟩:=(h.map b rfl).look_ok jp Tryz.underlying76 (JF w) (plainElem_string (H:=Unit) Tryz.underlying9 (s:=⟨#[]⟩) (by decide)) (key7 s hs)
  obtain ⟨c,rfl,hc,_⟩:=plainElem_string_inv Tryz.underlying9 hv
  rw [hrun,datE_has]
  have e:(Y1 L).atKey (.string s.data.toList) (.lit (.string []))=.lit (.string (xk L s.data.toList)):=FI L _
  have hc':(Y1 L).atKey (.string s.data.toList) (.lit (.string []))=.lit (.string c.data.toList):=congrArg Prod.fst hc
  rw [e] at hc'
  have:xk L s.data.toList=c.data.toList:=by simpa using hc'
  rw [this,ul]
theorem look71 {w:World} {B:Nat} {p:Option Nat} {L:zB} (h:qX w B p L) (s:ByteArray) (hs:s.size≤maxLen) :
  (Instr.lookup 76 (.map p) (.string s) false).run Tryz.prog w=.ok (.string (tx7 (xk L s.data.toList))) w:=by
 cases p with
 | none =>
  have hL:=h.nil rfl
  subst hL
  have:=Maps.look_nil (P:=Tryz.prog) (w:=w) (t:=76) false jp Tryz.underlying76 (JF w) (key7 s hs)
  exact this
 | some b =>
  obtain ⟨v,ps,hrun,hv⟩:=(h.map b rfl).lookup jp Tryz.underlying76 (JF w) (plainElem_string (H:=Unit) Tryz.underlying9 (s:=⟨#[]⟩) (by decide)) (key7 s hs)
  obtain ⟨c,rfl,hc,_⟩:=plainElem_string_inv Tryz.underlying9 hv
  rw [hrun]
  have e:(Y1 L).atKey (.string s.data.toList) (.lit (.string []))=.lit (.string (xk L s.data.toList)):=FI L _
  have hc':(Y1 L).atKey (.string s.data.toList) (.lit (.string []))=.lit (.string c.data.toList):=congrArg Prod.fst hc
  rw [e] at hc'
  have:xk L s.data.toList=c.data.toList:=by simpa using hc'
  rw [this,ul]
theorem len7 {w:World} {B:Nat} {p:Option Nat} {L:zB} (h:qX w B p L) (ty:TypeId):(Builtin.len_ #[76] ty #[.map p]).run Tryz.prog w=.ok (.int .i64 L.length) w:=by
 cases p with
 | none =>
  have hL:=h.nil rfl
  subst hL
  exact Maps.len_nil Tryz.underlying76 ty
 | some b =>
  have:=(h.map b rfl).len (t:=76) Tryz.underlying76 ty
  rwa [XF] at this
theorem nilmap7 (w:World) (p:Option Nat):(binOp .eql 76 (.map p) (.map none)).run Tryz.prog w=.ok (.bool p.isNone) w :=
 run_eql_map_nil_sl w 76 _ _ p Tryz.underlying76

set_option maxRecDepth 100000 in
theorem has7_calls (B:Nat) (p:Option Nat) (L:zB) (s:ByteArray) (w:World) (h:qX w B p L) (hs:s.size≤maxLen) :
  Calls Tryz.prog 127 #[.pointer (some ⟨B,0,none⟩),.string s] w (zY (xj L s.data.toList) w):=by
 have hc:=h.cell
 have hl:=look7 h s hs
 generalize xj L s.data.toList=r at *
 generalize tx7 (xk L s.data.toList)=g at *
 clear h hs
 go_enter Tryz.func127,Tryz.ntmps127
 go_wp2
 go_ret
 exact ⟨rfl,Below.refl _ _⟩

set_option maxRecDepth 100000 in
theorem len7_calls (B:Nat) (p:Option Nat) (L:zB) (w:World) (h:qX w B p L) :
  Calls Tryz.prog 100 #[.pointer (some ⟨B,0,none⟩)] w fun e w'=>e=.returned (.int .i64 L.length)∧w'=w:=by
 have hc:=h.cell
 have hl:=len7 h
 generalize L.length=n at *
 clear h
 go_enter Tryz.func100,Tryz.ntmps100
 go_wp2
 go_ret
 exact ⟨rfl,rfl⟩

set_option maxRecDepth 100000 in
theorem new7_calls (w:World):Calls Tryz.prog 11 #[] w fun e w'=>e=.returned (.pointer (some ⟨w.heap.size,0,none⟩))∧w'=w.alloc (.cells #[.map none] 78):=by
 go_enter Tryz.func11,Tryz.ntmps11
 go_wp2
 go_ret
 exact ⟨rfl,rfl⟩
theorem dir7_new (w:World):qX (w.alloc (.cells #[.map none] 78)) w.heap.size none [] :=
 ⟨(MapKept.heap_alloc w _).1,fun _=>rfl,(fun _ h=>nomatch h),List.Pairwise.nil,by simp,(fun _ h=>nomatch h)⟩

set_option maxRecDepth 100000 in
theorem Xj (C E B:Nat) (p:Option Nat) (L:zB) (s:ByteArray) (w:World) (h:qX w B p L) (hs:s.size≤maxLen) (hC:w.cell? ⟨C,0,none⟩=some (.pointer (some ⟨B,0,none⟩))) (hE:w.cell? ⟨E,0,none⟩=some (.string s)) :
  Calls Tryz.prog 126 #[.pointer (some ⟨C,0,none⟩),.pointer (some ⟨E,0,none⟩)] w (zY (xj L s.data.toList) w):=by
 have HC:=za (has7_calls B p L s w h hs)
 generalize xj L s.data.toList=r at *
 clear h
 go_enter Tryz.func126,Tryz.ntmps126
 go_wp2_with fail
 with_reducible refine HC.out.mono ?_
 rintro e w1 ⟨rfl,hb⟩
 have HB:=za hb
 clear hb HC hC hE
 go_wp2
 go_ret
 exact ⟨rfl,HB.out⟩

set_option maxRecDepth 100000 in
theorem V9 (B:Nat) (p:Option Nat) (L:zB) (s:ByteArray) (w:World) (h:qX w B p L) (hs:s.size≤maxLen) :
  Calls Tryz.prog 50 #[.pointer (some ⟨B,0,none⟩),.string s] w (jH (zp (xj L s.data.toList) 8) w):=by
 have hmf:=mkf
 have bl:=z7 (z7 (Below.refl w.heap.size w) (.cells #[.pointer (some ⟨B,0,none⟩)] 33)) (.cells #[.string s] 9)
 have HU:Hid (Calls Tryz.prog 125 #[.func (.func 126) #[] #[.pointer (some ⟨w.heap.size,0,none⟩),.pointer (some ⟨w.heap.size+1,0,none⟩)],.int .i64 8] _ (jH (zp (xj L s.data.toList) 8) ((w.alloc (.cells #[.pointer (some ⟨B,0,none⟩)] 33)).alloc (.cells #[.string s] 9)))) :=
  fG _ _ _ _ _ ⟨_,_,rfl,enters_of Tryz.func126 (by kernel_rfl) rfl,fun W hb=>Xj _ _ B p L s W (h.later (z8 bl hb)) hs ((hb.cell (p:=⟨_,0,none⟩) (by simp; try omega)).trans (by simp)) ((hb.cell (p:=⟨_,0,none⟩) (by simp; try omega)).trans (by simp))⟩
 generalize zp (xj L s.data.toList) 8=r at *
 have BL:=za bl
 clear h bl
 go_enter Tryz.func50,Tryz.ntmps50
 go_wp2_with fail
 with_reducible refine HU.out.mono ?_
 rintro e w1 ⟨g,lb,rfl,ha,hb⟩
 have HA:=za ha
 have HB:=za hb
 clear ha hb HU
 go_wp2
 go_ret
 exact ⟨g,lb,rfl,HA.out,z8 BL.out HB.out⟩

theorem XC {w:World} {B b n:Nat} {p:Option Nat} {L':zB} (hblk:w.heap[B]? = some (.cells #[.map p] 78 (0,0))) (hp:p=some b) (hm:w.ownsMap Tryz.prog 9 (plainElem Tryz.prog 9) b n (Y1 L')) (hr:vi L') (hf:L'.length≤12) (ha:∀ q∈L',q.1.length≤12∧q.2.length≤12):qX w B p L' :=
 ⟨hblk,(fun h=>by rw [hp] at h; cases h),fun b' hb'=>by rw [hp] at hb'; cases hb'; exact fB.of hm,hr,hf,ha⟩
theorem mem_put {L:zB} {k v:List UInt8} {q:List UInt8×List UInt8} (h:q∈uf L k v):q=(k,v)∨q∈L:=by
 unfold uf at h
 exact (Xc.1 h).imp id (fun h=>(yO.1 h).1)
theorem jc {w w':World} {B b:Nat} (h:w.mapTurned w' b) (hne:b≠B):w'.heap[B]? = w.heap[B]? := by
 obtain ⟨es,clock,es',clock',_,rfl⟩:=h
 exact ChangeMaps.heap_setBlock_other (by assumption) _ (fun e=>hne e.symm)

set_option maxRecDepth 100000 in
theorem dput_calls (B:Nat) (p:Option Nat) (L:zB) (s h:ByteArray) (w:World) (hd:qX w B p L) (hs:s.size≤12) (hh:h.size≤12) (hf:(uf L s.data.toList h.data.toList).length≤12) :
  Calls Tryz.prog 95 #[.pointer (some ⟨B,0,none⟩),.string s,.string h] w fun e w'=>e=.returned (.tuple #[])∧XQ w B p (uf L s.data.toList h.data.toList) w':=by
 have hs':s.size≤maxLen:=Nat.le_trans hs (by decide)
 have hh':h.size≤maxLen:=Nat.le_trans hh (by decide)
 have hall:∀ q∈uf L s.data.toList h.data.toList,q.1.length≤12∧q.2.length≤12:=fun q hq=>by
  rcases mem_put hq with rfl | hq
  ·
   exact ⟨by rw [zq]; exact hs,by rw [zq]; exact hh⟩
  ·
   exact hd.all q hq
 have hrise:=uW hd.rise s.data.toList h.data.toList
 cases p with
 | some b =>
  obtain ⟨w1,hrun,hown,hturn⟩:=(hd.map b rfl).store jp Tryz.underlying76 (Nat.lt_of_le_of_lt hd.few (by decide)) (key7 s hs') (plainElem_string (H:=Unit) Tryz.underlying9 hh')
  rw [UW] at hown
  have hne:=hd.apart b rfl
  have HG:Hid (XQ w B (some b) (uf L s.data.toList h.data.toList) w1):=by
   refine ⟨some b,XC ((jc hturn hne).trans hd.blk) rfl hown hrise hf hall,(fun b' hb'=>.inl hb'),?_⟩
   exact (zm.refl _ w).grown hturn.grown (fun k hk _=>.inr hk)
  have hq:=nilmap7 w (some b)
  have hc:=hd.cell
  clear hd hown hturn hall hrise hf
  go_enter Tryz.func95,Tryz.ntmps95
  go_wp2
  go_end0
  exact ⟨rfl,HG.out⟩
 | none =>
  have hL:=hd.nil rfl
  subst hL
  have hBl:=hd.lt
  have hsz:(w.setCell ⟨B,0,none⟩ (.map (some w.heap.size))).heap.size=w.heap.size:=by simp [World.setCell]
  have h1:=World.ownsMap_made (H:=Unit) (w.setCell ⟨B,0,none⟩ (.map (some w.heap.size))) Tryz.prog 9 (plainElem Tryz.prog 9)
  rw [hsz] at h1
  obtain ⟨w1,hrun,hown,hturn⟩:=h1.store jp Tryz.underlying76 (by decide) (key7 s hs') (plainElem_string (H:=Unit) Tryz.underlying9 hh')
  have e0:(.map []:DataW Unit)=Y1 []:=rfl
  rw [e0,UW] at hown
  have hblk1:=heap_setCell_box_a (.map (some w.heap.size)) hd.blk
  have hblk2:((w.setCell ⟨B,0,none⟩ (.map (some w.heap.size))).alloc (.map #[] 0)).heap[B]? = some (.cells #[.map (some w.heap.size)] 78 (0,0)):=(Below.heap_alloc _ _ B (by omega)).trans hblk1
  have HG:Hid (XQ w B none (uf [] s.data.toList h.data.toList) w1):=by
   refine ⟨some w.heap.size,XC ((jc hturn (by omega)).trans hblk2) rfl hown hrise hf hall,(fun b' hb'=>.inr (by cases hb'; exact Nat.le_refl _)),?_⟩
   exact (((zm.refl _ w).setCell (p:=⟨B,0,none⟩) (fun _=>.inl rfl) _).alloc _).grown hturn.grown (fun k hk hlt=>by cases hk; omega)
  have hq:=nilmap7 w none
  have hc:=hd.cell
  have hf0:=hd.frozen
  obtain ⟨hc2,hf2⟩:=cell_of_box_a hblk2
  have hmm:=@run_makeMap Tryz.prog
  clear hd hown hturn hall hrise hf h1 hblk1 hblk2 e0 hsz
  go_enter Tryz.func95,Tryz.ntmps95
  go_wp2
  go_end0
  exact ⟨rfl,HG.out⟩
end Go.Proofs.YthmomkjingcbiaaGreatDoor
namespace Go.Proofs.YthmomkjingcbiaaGreatDoor
open Go.RowKit

section
variable {P:Program} {ops:Array Oper} {Q:Exit→Act→World→Prop}

def Jk (ops:Array Oper) (i:Nat):List Nat:=match ops[i]? with
 | some o=>(o.after.toList.filter (Region.binds .any)).map (·.on)
 | none=>[]
def ancL (ops:Array Oper):Nat→List Nat→List Nat
 | 0,S=>S
 | j+1,S=>ancL ops j (if S.contains j then S++Jk ops j else S)

theorem Jj {o:Oper} {i:Nat} {L:Nat→Bool} (ho:ops[i]? = some o) (h:∀ d,(o.after.toList.any fun e=>Region.binds .any e && e.on == d)=true→L d=true):∀ a∈Jk ops i,L a=true:=by
 intro a ha
 unfold Jk at ha
 rw [ho] at ha
 obtain ⟨e,he,rfl⟩:=List.mem_map.1 ha
 obtain ⟨h1,h2⟩:=List.mem_filter.1 he
 exact h _ (List.any_eq_true.2 ⟨e,h1,by simp [h2]⟩)
theorem fy {L:Nat→Bool} (hc:fk .any ops L) {i:Nat} (hi:L i=true):∀ a∈Jk ops i,L a=true:=by
 cases ho:ops[i]? with
 | none=>intro a ha; unfold Jk at ha; rw [ho] at ha; cases ha
 | some o=>exact Jj ho (hc i o ho hi)
theorem Yy {L:Nat→Bool} (hc:fk .any ops L):∀ (j:Nat) (S:List Nat),(∀ a∈S,L a=true)→∀ a∈ancL ops j S,L a=true
 | 0,_,h,a,ha=>h a ha
 | j+1,S,h,a,ha=>by
  unfold ancL at ha
  refine Yy hc j _ ?_ a ha
  intro b hb
  split at hb
  ·
   rename_i hj
   rcases List.mem_append.1 hb with hb | hb
   ·
    exact h b hb
   ·
    exact fy hc (h j (by simpa using hj)) b hb
  ·
   exact h b hb

theorem closed_upd {L:Nat→Bool} (hc:fk .any ops L) {i:Nat} {o:Oper} (ho:ops[i]? = some o) (hd:∀ d,(o.after.toList.any fun e=>Region.binds .any e && e.on == d)=true→L d=true):fk .any ops (vF L i):=by
 intro j oj hoj hLj d hdd
 unfold vF at hLj ⊢
 by_cases e:d=i
 ·
  rw [if_pos e]
 ·
  rw [if_neg e]
  by_cases ej:j=i
  ·
   subst ej
   rw [ho] at hoj
   injection hoj with hoj
   subst hoj
   exact hd d hdd
  ·
   rw [if_neg ej] at hLj
   exact hc j oj hoj hLj d hdd

theorem allO_at {φ:Nat→Oper→Prop}:∀ {l:List Oper} {k:Nat},(∀ i o,l[i]? = some o→φ (k+i) o)→AllO φ l k
 | [],_,_=>trivial
 | x::r,k,h=>⟨h 0 x rfl,allO_at fun i o ho=>by
  have:=h (i+1) o (by simpa using ho)
  rwa [show k+(i+1)=k+1+i by omega] at this⟩
theorem allO_of {φ:Nat→Oper→Prop} {l:List Oper} (h:∀ i o,l[i]? = some o→φ i o):AllO φ l 0:=allO_at fun i o ho=>by
 rw [Nat.zero_add]; exact h i o ho

theorem yI {id:Nat} {w:World} {a:Act} (hm:P.follows .mixedOrders=true) (last:Nat) (R D:World→Prop) (Y:Nat→Value→World→Prop) (Z:Value→Prop) (F:(Nat→Value)→Act) (hF:∀ x,vH (ops.toList.map (·.dst)) x 0 a=F x)
  (hap:jF (ops.toList.map (·.dst))=true) (hback:(ops.toList.zipIdx.all fun p=>p.1.after.all fun e=>!(Region.binds .any e) || decide (e.on<p.2))=true)
  (hanc:((List.range last).all fun i=>(ancL ops last (Jk ops last)).contains i)=true) (hbeh:((List.range ops.size).all fun j=>decide (j≤last) || (ancL ops j (Jk ops j)).contains last)=true) (hlt:last<ops.size) (hR:R w.drew)
  (step:AllO (fun i o=>∀ (x:Nat→Value) (w:World),
   (i<last→R w→(∀ j,(o.after.toList.any fun e=>Region.binds .any e && e.on == j)=true→Y j (x j) w) →
    ∀ K:Act→World→Prop,(∀ v w',Y i v w'→R w'→(∀ j u,Y j u w→Y j u w')→K ((F x).put o.dst v) w') →
     if Region.wanted o (yielded ops (F x).tmps)=true then Oper.wp P o (F x) w K Q else K ((F x).put o.dst undef) w) ∧
   (i=last→R w→(∀ j,(o.after.toList.any fun e=>Region.binds .any e && e.on == j)=true→Y j (x j) w) →
    ∀ K:Act→World→Prop,(∀ v w',Z v→D w'→K ((F x).put o.dst v) w') →
     if Region.wanted o (yielded ops (F x).tmps)=true then Oper.wp P o (F x) w K Q else K ((F x).put o.dst undef) w) ∧
   (last<i→D w→(∀ j,(o.after.toList.any fun e=>Region.binds .any e && e.on == j)=true→last≤j→Z (x j)) →
    ∀ K:Act→World→Prop,(∀ v,Z v→K ((F x).put o.dst v) w) →
     if Region.wanted o (yielded ops (F x).tmps)=true then Oper.wp P o (F x) w K Q else K ((F x).put o.dst undef) w)) ops.toList 0)
  (fin:∀ (x:Nat→Value) (w:World),D w→(∀ j,last≤j→j<ops.size→Z (x j))→Q .normal (F x) w):(Code.region id ops true).wp P Q a w:=by
 refine vm hm (fun L x W=>fk .any ops L∧(∀ j,L j=true→j<ops.size)∧((L last=false∧R W∧∀ j,L j=true→Y j (x j) W)∨(L last=true∧D W∧∀ j,L j=true→last≤j→Z (x j)))) F hF hap hback
  (fun _=>⟨(fun _ _ _ h=>nomatch h),(fun _ h=>nomatch h),.inl ⟨rfl,hR,(fun _ h=>nomatch h)⟩⟩) ?_ ?_
 ·
  have hat:=fun i o h=>step.at_ i o h
  have gen:∀ (i:Nat) (o:Oper),ops.toList[i]? = some o→∀ (L:Nat→Bool) (x:Nat→Value) (w:World),L i=false→(∀ d,(o.after.toList.any fun e=>Region.binds .any e && e.on == d)=true→L d=true) →
    (fk .any ops L∧(∀ j,L j=true→j<ops.size)∧((L last=false∧R w∧∀ j,L j=true→Y j (x j) w)∨(L last=true∧D w∧∀ j,L j=true→last≤j→Z (x j)))) →
    ∀ K:Act→World→Prop,(∀ v w',(fk .any ops (vF L i)∧(∀ j,vF L i j=true→j<ops.size)∧((vF L i last=false∧R w'∧∀ j,vF L i j=true→Y j (upd x i v j) w')∨(vF L i last=true∧D w'∧∀ j,vF L i j=true→last≤j→Z (upd x i v j))))→K ((F x).put o.dst v) w') →
     if Region.wanted o (yielded ops (F x).tmps)=true then Oper.wp P o (F x) w K Q else K ((F x).put o.dst undef) w:=by
   intro i o ho L x w hLi hd hI K hK
   have ho':ops[i]? = some o:=by simpa using ho
   have hisz:i<ops.size:=(Array.getElem?_eq_some_iff.1 ho').1
   obtain ⟨hcl,hsz,hI⟩:=hI
   have hcu:=closed_upd hcl ho' hd
   have hsu:∀ j,vF L i j=true→j<ops.size:=by
    intro j hj
    unfold vF at hj
    by_cases e:j=i
    ·
     rw [e]; exact hisz
    ·
     rw [if_neg e] at hj; exact hsz j hj
   obtain ⟨s1,s2,s3⟩:=hat i o ho x w
   rw [Nat.zero_add] at s1 s2 s3
   have hbl:∀ j,last<j→j<ops.size→last∈ancL ops j (Jk ops j):=by
    intro j h1 h2
    have:=List.all_eq_true.1 hbeh j (List.mem_range.2 h2)
    rw [decide_eq_false (by omega),Bool.false_or] at this
    simpa using this
   rcases hI with ⟨h0,hRw,hY⟩ | ⟨h1,hDw,hZ⟩
   ·
    rcases Nat.lt_trichotomy i last with hil | rfl | hil
    ·
     refine s1 hil hRw (fun j hj=>hY j (hd j hj)) K fun v w' hy hr hk=>hK v w' ⟨hcu,hsu,.inl ⟨?_,hr,?_⟩⟩
     ·
      rw [show vF L i last=L last from if_neg (by omega)]; exact h0
     ·
      intro j hj
      by_cases e:j=i
      ·
       subst e; rw [show upd x j v j=v from if_pos rfl]; exact hy
      ·
       rw [show upd x i v j=x j from if_neg e]
       rw [show vF L i j=L j from if_neg e] at hj
       exact hk j _ (hY j hj)
    ·
     refine s2 rfl hRw (fun j hj=>hY j (hd j hj)) K fun v w' hz hdw=>hK v w' ⟨hcu,hsu,.inr ⟨if_pos rfl,hdw,?_⟩⟩
     intro j hj hle
     by_cases e:j=i
     ·
      subst e; rw [show upd x j v j=v from if_pos rfl]; exact hz
     ·
      rw [show vF L i j=L j from if_neg e] at hj
      have:=Yy hcl j _ (fy hcl hj) i (hbl j (by omega) (hsz j hj))
      rw [hLi] at this
      cases this
    ·
     exfalso
     have:=Yy hcl i _ (Jj ho' hd) last (hbl i hil hisz)
     rw [h0] at this
     cases this
   ·
    rcases Nat.lt_trichotomy i last with hil | rfl | hil
    ·
     exfalso
     have h2:=List.all_eq_true.1 hanc i (List.mem_range.2 hil)
     have:=Yy hcl last _ (fy hcl h1) i (by simpa using h2)
     rw [hLi] at this
     cases this
    ·
     rw [hLi] at h1; cases h1
    ·
     refine s3 hil hDw (fun j hj hle=>hZ j (hd j hj) hle) K fun v hz=>hK v w ⟨hcu,hsu,.inr ⟨?_,hDw,?_⟩⟩
     ·
      rw [show vF L i last=L last from if_neg (by omega)]; exact h1
     ·
      intro j hj hle
      by_cases e:j=i
      ·
       subst e; rw [show upd x j v j=v from if_pos rfl]; exact hz
      ·
       rw [show upd x i v j=x j from if_neg e]
       rw [show vF L i j=L j from if_neg e] at hj
       exact hZ j hj hle
  exact allO_of gen
 ·
  intro L x w hall ⟨_,_,hI⟩
  rcases hI with ⟨h0,_⟩ | ⟨_,hDw,hZ⟩
  ·
   rw [hall last hlt] at h0; cases h0
  ·
   exact fin x w hDw (fun j h1 h2=>hZ j (hall j h2) h1)
end
end Go.Proofs.YthmomkjingcbiaaGreatDoor
namespace Go.Proofs.YthmomkjingcbiaaGreatDoor
open Go.RowKit Go.Maps Go.Sort Go.Shelf

theorem lt7 (x y:List UInt8):ltOf Lib.compareBytes x y=bytesBefore x y:=ux x y
theorem swo7:SWO (ltOf Lib.compareBytes) where
 irrefl x:=by rw [lt7]; exact zD x
 trans x y z h1 h2:=by rw [lt7] at *; exact WideShapes.bytes_trans _ _ _ h1 h2
 ntrans x y z h1 h2:=by
  rw [lt7] at *
  cases h:bytesBefore x z
  ·
   rfl
  ·
   by_cases e:x=y
   ·
    subst e; rw [h] at h2; cases h2
   ·
    rcases WideAt.bytes_total x y e with h' | h'
    ·
     rw [h'] at h1; cases h1
    ·
     rw [WideShapes.bytes_trans _ _ _ h' h] at h2; cases h2
theorem tot7 (x y:List UInt8) (h1:ltOf Lib.compareBytes x y=false) (h2:ltOf Lib.compareBytes y x=false):x=y:=by
 rw [lt7] at *
 by_cases e:x=y
 ·
  exact e
 ·
  rcases WideAt.bytes_total x y e with h' | h'
  ·
   rw [h'] at h1; cases h1
  ·
   rw [h'] at h2; cases h2
theorem cmp7 (blk off size:Nat) (w:World):CmpLays1 Tryz.prog 138 #[] encStr Lib.compareBytes blk off size w :=
 CmpReads.lays fun _ _ _ _ x y=>(ur ⟨x.toArray⟩ ⟨y.toArray⟩ _).mono fun e w' ⟨he,hw⟩=>⟨by rw [he],0,hw⟩

set_option maxRecDepth 100000 in
theorem fc (g:Nat) (lb:Array Value) (S:List (List UInt8)→Prop) (N:Nat) (w:World) (eg:∀ args w,(callFunc g args).run Tryz.prog w=.ok (.enter g args) w) (hN:N≤1000) (hSN:∀ ss,S ss→ss.length≤1000) (hseq:SeqGives Fence.wide 2 Tryz.prog g lb encStr S N w) :
  Calls Tryz.prog 136 #[.func (.func g) #[] lb,.func (.func 138) #[] #[]] w fun e w'=>∃ (v:Value) (ss:List (List UInt8)),e=.returned v∧S ss ∧
   w'.ownsRow w.heap.size 9 1 v ss.length ((ss.mergeSort (fun x y=>!(ltOf Lib.compareBytes) y x)).map encStr)∧(v=.slice none 0 0↔ss=[])∧Below w.heap.size w w':=by
 have cC:Calls Tryz.prog 209 #[.func (.func g) #[] lb] w fun e w'=>∃ (v:Value) (ss:List (List UInt8)),e=.returned v∧S ss∧w'.ownsRow w.heap.size 9 1 v ss.length (ss.map encStr)∧(v=.slice none 0 0↔ss=[])∧Below w.heap.size w w' :=
  (callsIn_wide (n:=4)).1 (AnyZ.collect_in Tryz.collect7 Fence.wide 4 trivial trivial rfl (by omega) g lb trivial eg S N (Nat.le_trans hN (by decide)) (by omega) w hseq)
 have HC:=za cC
 have HS:Hid (∀ (blk cap:Nat) (ss:List (List UInt8)) (W:World),Holds encStr W blk 0 ss.toArray→blk<W.heap.size→ss.length<4611686018427387904 →
   Calls Tryz.prog 210 #[.slice (some ⟨blk,0,none⟩) ss.length cap,.func (.func 138) #[] #[]] W fun e w'=>e=.returned (.tuple #[])∧∃ n os,w'=grow (putRow encStr (Sort.ahead W n) blk 0 (ss.mergeSort fun x y=>!(ltOf Lib.compareBytes) y x).toArray) os):=fun blk cap ss W hH hb hl=>by
  have:=Tryz.slices_SortFunc_total encStr (fun _=>rfl) Lib.compareBytes swo7 138 #[] blk 0 cap ss.toArray W (enters_of Tryz.func138 (by kernel_rfl) rfl) (cmp7 blk 0 _ W) hH hb (by simpa using hl) tot7
  simpa [sortWorld] using this
 have HS0:Hid (∀ (cap:Nat) (W:World),Calls Tryz.prog 210 #[.slice none 0 cap,.func (.func 138) #[] #[]] W fun e w'=>e=.returned (.tuple #[])∧w'=W):=fun cap W=>Tryz.slices_SortFunc_none (α:=List UInt8) none cap _ W
 clear cC hseq
 go_enter Tryz.func136,Tryz.ntmps136
 go_wp2_with fail
 with_reducible refine HC.out.mono ?_
 rintro e W ⟨v,ss,rfl,hS,hrow,hnil,hb⟩
 have hln:=hSN _ hS
 have HSS:=za hS
 have HNL:=za hnil
 have HB:=za hb
 have HR:=za hrow
 clear hS hnil hb HC
 rcases hrow.2 with ⟨rfl,hz⟩ | ⟨gb,cap,cur,rfl,hbase,hgb,r1,r2,r3,r4⟩
 ·
  have hss:ss=[]:=List.eq_nil_of_length_eq_zero hz
  subst hss
  clear hrow hz hln hSN
  go_wp2_with (go_at_call 210; (with_reducible refine (HS0.out _ _).mono ?_); rintro e w' ⟨rfl,rfl⟩)
  go_ret
  exact ⟨.slice none 0 0,[],rfl,HSS.out,by simpa using HR.out,by simp,HB.out⟩
 ·
  have hH:Holds encStr W gb 0 ss.toArray:=holds_of_block hgb (by simpa using r4)
  have hgl:gb<W.heap.size:=(Array.getElem?_eq_some_iff.1 hgb).1
  have cS:=za (HS.out gb cap ss W hH hgl (by omega))
  have HF:Hid (∀ n os,(grow (putRow encStr (Sort.ahead W n) gb 0 (ss.mergeSort fun x y=>!(ltOf Lib.compareBytes) y x).toArray) os).ownsRow w.heap.size 9 1 (.slice (some ⟨gb,0,none⟩) ss.length cap) ss.length ((ss.mergeSort (fun x y=>!(ltOf Lib.compareBytes) y x)).map encStr) ∧
    Below w.heap.size w (grow (putRow encStr (Sort.ahead W n) gb 0 (ss.mergeSort fun x y=>!(ltOf Lib.compareBytes) y x).toArray) os)):=fun n os =>
   ⟨ownsRow_sorted (by simp) hbase hgb r1 r2 r3,HB.out.grown (grownBy_sorted _) HB.out.size (fun j hj=>by cases hj; exact hbase)⟩
  clear hrow hbase hgb r1 r2 r3 r4 hH hgl HR HB HS HS0
  generalize hts:(ss.mergeSort fun x y=>!(ltOf Lib.compareBytes) y x)=ts at cS HF
  have HT:=za hts
  clear hts hln hSN
  generalize hn:ss.length=n at *
  go_wp2_with (go_at_call 210; (with_reducible refine cS.out.mono ?_); rintro e w' ⟨rfl,nn,os,rfl⟩)
  go_ret
  subst hn
  refine ⟨_,ss,rfl,HSS.out,?_,HNL.out,(HF.out nn os).2⟩
  rw [HT.out]
  exact (HF.out nn os).1

def Names7 (L:zB) (w:World) (e:Ending) (w':World):Prop :=
 ∃ v,e=.returned v∧w'.ownsRow w.heap.size 9 1 v L.length ((L.map (·.1)).map encStr)∧(v=.slice none 0 0↔L=[])∧Below w.heap.size w w'

set_option maxRecDepth 100000 in
theorem QN (B:Nat) (p:Option Nat) (L:zB) (w:World) (hd:qX w B p L):Calls Tryz.prog 59 #[.pointer (some ⟨B,0,none⟩)] w (Names7 L w):=by
 have eg:∀ args w,(callFunc 211 args).run Tryz.prog w=.ok (.enter 211 args) w:=enters_of Tryz.func211 (by kernel_rfl) rfl
 have bl:Below w.heap.size w (w.alloc (.cells #[.map p] 76)):=z7 (Below.refl _ _) _
 have cS:∃ S:List (List UInt8)→Prop,(∀ ss,S ss→ss.Perm (L.map (·.1)))∧SeqGives Fence.wide 2 Tryz.prog 211 #[.pointer (some ⟨w.heap.size,0,none⟩)] encStr S L.length (w.alloc (.cells #[.map p] 76)):=by
  cases p with
  | none =>
   have hL:=hd.nil rfl
   subst hL
   exact ⟨fun ss=>ss=[],fun ss h=>by subst h; exact List.Perm.refl _,AnyZ.keys_gives_nil (ρ:=Tryz.keys7_ren) { Tryz.keys7 with } Fence.wide 2 trivial rfl w.heap.size _ (by simp) (by simp)⟩
  | some b =>
   have hown:=(hd.map b rfl).alloc (.cells #[.map (some b)] 76)
   have h:=AnyZ.keys_gives (ρ:=Tryz.keys7_ren) { Tryz.keys7 with } Fence.wide 2 trivial rfl (by omega) w.heap.size b _ (Y1 L) _ (by simp) (by simp) hown
   rw [XF] at h
   exact ⟨_,fun ss h=>by rw [datE_keys] at h; exact h,h⟩
 obtain ⟨S,hS,hseq⟩:=cS
 have HK:Hid (Calls Tryz.prog 137 #[.map p] w fun e w'=>e=.returned (.func (.func 211) #[] #[.pointer (some ⟨w.heap.size,0,none⟩)])∧w'=w.alloc (.cells #[.map p] 76)) :=
  (callsIn_wide (n:=4)).1 (AnyZ.keys_in Tryz.keys7 Fence.wide 4 trivial rfl p w)
 have HSF:=za (fc _ _ S L.length _ eg (by have:=hd.few; omega) (fun ss h=>by rw [(hS ss h).length_eq,List.length_map]; have:=hd.few; omega) hseq)
 have HSS:Hid (∀ ss,S ss→ss.length=L.length∧ss.mergeSort (fun x y=>!(ltOf Lib.compareBytes) y x)=L.map (·.1)):=fun ss h=>by
  have hp:=hS ss h
  exact ⟨by rw [hp.length_eq,List.length_map],Vp hd.rise hp _ (fun x y=>by rw [lt7])⟩
 have hc:=hd.cell
 have BL:=za bl
 clear hseq hS hd bl
 go_enter Tryz.func59,Tryz.ntmps59
 go_wp2_with fail
 with_reducible refine HK.out.mono ?_
 rintro e w1 ⟨rfl,rfl⟩
 go_wp2_with fail
 with_reducible refine HSF.out.mono ?_
 rintro e w2 ⟨v,ss,rfl,hss,hrow,hnil,hb⟩
 obtain ⟨hl,hm⟩:=HSS.out ss hss
 have HF:Hid (Names7 L w (.returned v) w2):=by
  rw [hl,hm] at hrow
  refine ⟨v,rfl,ownsRow_base_a hrow (by simp),?_,z8 BL.out hb⟩
  rw [hnil]
  constructor
  ·
   intro e; subst e; exact List.eq_nil_of_length_eq_zero hl.symm
  ·
   intro e; subst e; exact List.eq_nil_of_length_eq_zero hl
 clear hss hrow hnil hb hl hm HSS HSF HK hc BL
 go_wp2
 go_ret
 exact HF.out
end Go.Proofs.YthmomkjingcbiaaGreatDoor
namespace Go.Proofs.YthmomkjingcbiaaGreatDoor
open Go.ChangeShapes Go.WideShapes Go.ChangeAt Go.RowKit Go.Deep

structure Act7 where
 kd:Nat
 nm:ByteArray
 hs:ByteArray
def Act7.cells (t:Act7):List Value:=[.int .u8 (t.kd:Int),.string t.nm,.string t.hs]


section
variable {H:Type} {enc:TypeId×Value→H} {W:World} {base:Nat} {sp:Nat→Bool} {hd:Bool} {fuel:Nat}

end
end Go.Proofs.YthmomkjingcbiaaGreatDoor
namespace Go.Proofs.YthmomkjingcbiaaGreatDoor
open Go.RowKit Go.Maps


structure Box7 (W:World) (b0 B:Nat) (n h:ByteArray):Prop where
 lt:b0+2<W.heap.size
 c0:W.cell? ⟨b0,0,none⟩=some (.pointer (some ⟨B,0,none⟩))
 c1:W.cell? ⟨b0+1,0,none⟩=some (.string n)
 c2:W.cell? ⟨b0+2,0,none⟩=some (.string h)
theorem Box7.later {W W':World} {b0 B:Nat} {n h:ByteArray} (hx:Box7 W b0 B n h) (hb:Below W.heap.size W W'):Box7 W' b0 B n h :=
 have:=hx.lt
 ⟨Nat.lt_of_lt_of_le hx.lt hb.size,(hb.cell (p:=⟨b0,0,none⟩) (by show b0<_; omega)).trans hx.c0,(hb.cell (p:=⟨b0+1,0,none⟩) (by show b0+1<_; omega)).trans hx.c1,(hb.cell (p:=⟨b0+2,0,none⟩) (by show b0+2<_; omega)).trans hx.c2⟩


def seE (L:zB) (n h:List UInt8):Int:=uj [zp (zf n) 10,zp (yo h) 4,zp (xj L n) 8]
def deE (L:zB) (n:List UInt8):Int:=uj [zp (zf n) 10,zp (xj L n) 8]
def seL (L:zB) (n h:List UInt8):zB:=if seE L n h=0 then uf L n h else L
theorem jy {b:Bool} {n:Int} (hn:n≠0):zp b n=0↔b=true:=by cases b <;> simp [zp,hn]
theorem vJ {e:Int} {l:List Int} (h:uj (e::l)=0):e=0∧uj l=0:=by
 unfold uj at h
 split at h
 ·
  exact ⟨by assumption,h⟩
 ·
  exact absurd h (by assumption)
theorem name7_size {n:ByteArray} (h:zf n.data.toList=true):n.size≤12:=by
 unfold zf X0 at h
 simp only [Bool.and_eq_true,decide_eq_true_eq] at h
 have:=h.1.1.2.1
 rwa [zq] at this
theorem hash7_size {n:ByteArray} (h:yo n.data.toList=true):n.size≤12:=by
 unfold yo at h
 simp only [Bool.and_eq_true,decide_eq_true_eq] at h
 have:=h.1.2
 rwa [zq] at this






end Go.Proofs.YthmomkjingcbiaaGreatDoor
namespace Go.Proofs.YthmomkjingcbiaaGreatDoor
open Go.RowKit Go.Maps Go.Sort Go.Shelf

def Txs7 (w:World) (v:Value) (ls:List (List UInt8)):Prop:=∃ A c,v=.slice A ls.length c∧∀ j (h:j<ls.length),∃ g,A=some ⟨g,0,none⟩∧w.cell? ⟨g,j,none⟩=some (.string (tx7 ls[j]))
theorem Txs7.later {w w':World} {v:Value} {ls:List (List UInt8)} (h:Txs7 w v ls) (hb:Below w.heap.size w w'):Txs7 w' v ls:=by
 obtain ⟨A,c,e,hc⟩:=h
 exact ⟨A,c,e,fun j hj=>by obtain ⟨g,e,h⟩:=hc j hj; exact ⟨g,e,(hb.cell (p:=⟨g,j,none⟩) (World.block_lt_of_cell? w _ h)).trans h⟩⟩
theorem Txs7.nil (w:World):Txs7 w (.slice none 0 0) []:=⟨none,0,rfl,fun _ h=>absurd h (Nat.not_lt_zero _)⟩
theorem Txs7.of_own {w:World} {base:Nat} {e:TypeId} {v:Value} {ls:List (List UInt8)} (h:w.ownsRow base e 1 v ls.length (ls.map encStr)):Txs7 w v ls:=by
 obtain ⟨A,c,rfl⟩:∃ A c,v=.slice A ls.length c:=by
  rcases h.2 with ⟨rfl,h0⟩ | ⟨g,cap,cur,rfl,_⟩
  ·
   exact ⟨none,0,by rw [h0]⟩
  ·
   exact ⟨_,_,rfl⟩
 refine ⟨A,c,rfl,fun j hj=>?_⟩
 rcases h.2 with ⟨_,h0⟩ | ⟨g,cap,cur,e1,_⟩
 ·
  omega
 ·
  injection e1 with e1
  subst e1
  refine ⟨g,rfl,?_⟩
  have:=h.cells (g:=g) rfl j (encStr ls[j]) (by simp [hj])
  rw [Addr.add_lit,Nat.zero_add] at this
  exact this

theorem XM (W:World) (l:List (Value×Int)) (t:TypeId) (ha:∀ x∈l,Ask7 x.1 x.2 W):XU (W.alloc (.cells (l.map (·.1)).toArray t)) W.heap.size l:=by
  refine ⟨by simp,fun j hj=>⟨?_,(ha _ (List.getElem_mem hj)).later (z7 (Below.refl _ _) _)⟩⟩
  rw [World.cell?_alloc_at _ _ _ _ rfl]
  simp [hj]

def loS (L:zB) (n:List UInt8):List UInt8:=if deE L n=0 then xk L n else []

set_option maxRecDepth 100000 in
theorem Uz (B:Nat) (p:Option Nat) (L:zB) (n:ByteArray) (w:World) (hd:qX w B p L) (hn:n.size≤9223372036854775807) :
    Calls Tryz.prog 17 #[.pointer (some ⟨B,0,none⟩),.string n] w fun e w'=>e=.returned (.tuple #[.string (tx7 (loS L n.data.toList)),.int .i64 (deE L n.data.toList)])∧Below w.heap.size w w':=by
  have hn':n.size≤maxLen:=Nat.le_trans hn (by decide)
  have HN:=za (UF n w hn)
  have HI:Hid (∀ W,qX W B p L→Calls Tryz.prog 50 #[.pointer (some ⟨B,0,none⟩),.string n] W (jH (zp (xj L n.data.toList) 8) W)):=fun W hD=>V9 B p L n W hD hn'
  have HL:Hid (∀ W,qX W B p L→(Instr.lookup 76 (.map p) (.string n) false).run Tryz.prog W=.ok (.string (tx7 (xk L n.data.toList))) W):=fun W hD=>look71 hD n hn'
  obtain ⟨r,hr⟩:∃ r,r=deE L n.data.toList:=⟨_,rfl⟩
  have HS:Hid (loS L n.data.toList=if r=0 then xk L n.data.toList else []):=by rw [hr]; rfl
  rw [← hr]
  have HR:Hid (uj [zp (zf n.data.toList) 10,zp (xj L n.data.toList) 8]=r):=hr.symm
  have HD:=za hd
  clear hr hd
  generalize zp (zf n.data.toList) 10=e0 at *
  generalize zp (xj L n.data.toList) 8=e1 at *
  generalize loS L n.data.toList=s at *
  generalize xk L n.data.toList=s' at *
  go_enter Tryz.func17,Tryz.ntmps17
  go_wp2_with fail
  with_reducible refine HN.out.mono ?_
  rintro e w1 ⟨g0,lb0,rfl,ha,hb⟩
  have HA0:=za ha
  have HB1:=za hb
  have HI1:=za (HI.out w1 (HD.out.later hb))
  clear ha hb HN HI
  go_wp2_with fail
  with_reducible refine HI1.out.mono ?_
  rintro e w2 ⟨g1,lb1,rfl,ha,hb⟩
  have HB2:=za (z8 HB1.out hb)
  have hrow:=XM w2 [(.func (.func g0) #[] lb0,e0),(.func (.func g1) #[] lb1,e1)] 95 (by
    intro x hx
    simp only [List.mem_cons,List.not_mem_nil,or_false] at hx
    rcases hx with rfl | rfl
    · exact HA0.out.later hb
    · exact ha)
  have hf:=ZY w2.heap.size 2 2 _ _ rfl (by decide) hrow
  have HF:Hid (Calls Tryz.prog 48 #[.slice (some ⟨w2.heap.size,0,none⟩) 2 2] (w2.alloc (.cells #[.func (.func g0) #[] lb0,.func (.func g1) #[] lb1] 95)) (yH r (w2.alloc (.cells #[.func (.func g0) #[] lb0,.func (.func g1) #[] lb1] 95)))):=by
    rw [← HR.out]; exact hf
  clear hf hrow ha hb HI1 HA0 HR
  go_wp2_with fail
  with_reducible refine HF.out.mono ?_
  rintro e w3 ⟨rfl,hb⟩
  have HB3:=za (z8 HB2.out (z8 (z7 (Below.refl w2.heap.size w2) _) hb))
  clear hb HF HB2 HB1
  by_cases h0:r=0
  · have hl:=HL.out w3 (HD.out.later HB3.out)
    have hc:=(HD.out.later HB3.out).cell
    have HS2:=HS.out
    rw [if_pos h0] at HS2
    subst h0
    subst HS2
    clear HS HL HD
    go_wp2
    go_ret2
    exact ⟨rfl,HB3.out⟩
  · have h1:(r != 0)=true:=by simpa using h0
    have HS2:=HS.out
    rw [if_neg h0] at HS2
    subst HS2
    clear HS HL HD
    go_wp2
    go_ret2
    exact ⟨rfl,HB3.out⟩


/-! ### All -/
def JG (q:List UInt8×List UInt8):List Value:=[.string (tx7 q.1),.string (tx7 q.2),.string ⟨#[]⟩,.bool false,.slice none 0 0]
theorem usr7_at (L:zB) (j i:Nat) (hj:j<L.length) (hi:i<5):(L.flatMap JG)[j * 5+i]? = (JG L[j])[i]? := by
  induction L generalizing j with
  | nil=>exact absurd hj (Nat.not_lt_zero _)
  | cons q L ih =>
    rw [List.flatMap_cons]
    cases j with
    | zero =>
      rw [List.getElem?_append_left (by simp [JG]; omega)]
      simp
    | succ j =>
      rw [List.getElem?_append_right (by simp [JG]; omega)]
      have:=ih j (by simpa using hj)
      rw [show (j+1) * 5+i - (JG q).length=j * 5+i by simp [JG]; omega,this]
      simp
theorem rows_apart {w:World} {b1 b2 s1 s2 n1 n2:Nat} {e1 e2:TypeId} {v1 v2:Value} {xs1 xs2:List Value} (h1:w.ownsRow b1 e1 s1 v1 n1 xs1) (h2:w.ownsRow b2 e2 s2 v2 n2 xs2) (he:e1≠e2):v1.ownBlock=none∨v1.ownBlock≠v2.ownBlock:=by
  rcases h1.2 with ⟨rfl,_⟩ | ⟨g,cap,cur,rfl,_,hg,_⟩
  · exact .inl rfl
  · rcases h2.2 with ⟨rfl,_⟩ | ⟨g2,cap2,cur2,rfl,_,hg2,_⟩
    · exact .inr (by simp [Value.ownBlock])
    · refine .inr fun e=>?_
      have:g=g2:=by simpa [Value.ownBlock] using e
      subst this
      rw [hg] at hg2
      injection hg2 with h
      injection h with _ h
      exact he h
theorem J1:(Tryz.prog.info? 47).map (fun i=>(i.zero,i.size,i.bytes))=some (some (.agg #[.string ⟨#[]⟩,.string ⟨#[]⟩,.string ⟨#[]⟩,.bool false,.slice none 0 0]),5,80):=by kernel_rfl

def Users7 (L:zB) (base:Nat) (w:World) (v:Value):Prop:=w.ownsRow base 47 5 v L.length (L.flatMap JG)

set_option maxRecDepth 100000 in
theorem all7_calls (B:Nat) (p:Option Nat) (L:zB) (w:World) (hd:qX w B p L):Calls Tryz.prog 27 #[.pointer (some ⟨B,0,none⟩)] w fun e w'=>∃ v,e=.returned v∧Users7 L w.heap.size w' v∧Below w.heap.size w w':=by
  have HN:=za (QN B p L w hd)
  have HD:=za hd
  have hfew:=hd.few
  have HLK:Hid (∀ W,qX W B p L→∀ s:ByteArray,s.size≤maxLen→(Instr.lookup 76 (.map p) (.string s) false).run Tryz.prog W=.ok (.string (tx7 (xk L s.data.toList))) W):=fun W hD s hs=>look71 hD s hs
  clear hd
  obtain ⟨i0,hi,hz0,hz1,hz2⟩:=info_parts J1
  obtain ⟨n,hn⟩:∃ n,n=L.length:=⟨_,rfl⟩
  have HLN:Hid (L.length=n):=hn.symm
  rw [← hn] at hfew
  clear hn
  go_enter Tryz.func27,Tryz.ntmps27
  go_wp2_with fail
  with_reducible refine HN.out.mono ?_
  rintro e w1 ⟨v,rfl,hrow,_,hb⟩
  have hlen:(L.map (·.1)).length=n:=by rw [List.length_map]; exact HLN.out
  rw [HLN.out,← hlen] at hrow
  obtain ⟨A,c,rfl,_⟩:=Txs7.of_own hrow
  have HRW:=za hrow
  rw [hlen] at HRW ⊢
  have HB:=za hb
  have HLE:=za hlen
  clear hb hrow HN hlen
  go_wp2
  go_loopg [3,5,9] n (fun gg s3 _ s9 wr=>∃ k:Nat,k≤n∧n - k≤gg∧s9=.int .i64 k∧Hid (Below w.heap.size w wr)∧Hid (wr.ownsRow w.heap.size 9 1 (.slice A n c) n ((L.map (·.1)).map encStr))∧Hid (wr.ownsRow w.heap.size 47 5 s3 k ((L.take k).flatMap JG)))
  case atStart=>exact ⟨0,Nat.zero_le _,by omega,rfl,HB,HRW,World.ownsRow_nil _ _ _ _⟩
  case round =>
    obtain ⟨k,hk,hg,rfl,HW,HR2,HU⟩:=hrel
    by_cases hlt:k<n
    · have hltz:(k:Int)<(n:Int):=by omega
      have hkl:k<L.length:=by have:=HLN.out; omega
      have hr2:=HR2.out
      have hle:=HLE.out
      obtain ⟨A',c',e1,hcs⟩:=Txs7.of_own (ls:=L.map (·.1)) (by rw [hle]; exact hr2)
      injection e1 with e1 e2 e3
      subst e1
      subst e3
      clear e2
      obtain ⟨g,rfl,hcell⟩:=hcs k (by rw [hle]; exact hlt)
      have hnm:(L.map (·.1))[k]'(by rw [hle]; exact hlt)=L[k].1:=by simp
      rw [hnm] at hcell
      have hDw:=HD.out.later HW.out
      have hc:=hDw.cell
      have hlk:=HLK.out wr hDw (tx7 L[k].1) (by
        have:=(HD.out.all L[k] (List.getElem_mem hkl)).1
        rw [← zq,yC]
        exact Nat.le_trans this (by decide))
      rw [yC] at hlk
      have hget:xk L L[k].1=L[k].2:=ft HD.out.rise (List.getElem_mem hkl)
      rw [hget] at hlk
      have hne:=rows_apart hr2 HU.out (by decide)
      have HT:Hid ((L.take (k+1)).flatMap JG=(L.take k).flatMap JG++[.string (tx7 L[k].1),.string (tx7 L[k].2),.string ⟨#[]⟩,.bool false,.slice none 0 0]):=by
        show _=_
        rw [List.take_succ_eq_append_getElem hkl,List.flatMap_append]
        simp [JG]
      have HNE:=za hne
      generalize tx7 L[k].1=sn at *
      generalize tx7 L[k].2=sh at *
      clear hcs hnm hDw hget hr2 hle hne
      go_wp2_with (first
        | (at_builtin; refine wpList_append_own _ rfl _ _ 57 rfl w.heap.size 47 i0 (.agg #[.string ⟨#[]⟩,.string ⟨#[]⟩,.string ⟨#[]⟩,.bool false,.slice none 0 0]) 5 80 Tryz.underlying57 hi hz0 hz1 hz2 rfl (by decide) _ _ _ rfl (HU.out.alloc _) ⟨wr.heap.size,0,none⟩ 1 1 [.string sn,.string sh,.string ⟨#[]⟩,.bool false,.slice none 0 0] rfl rfl
            (fun j u hu=>by rw [Addr.add_lit,Nat.zero_add,World.cell?_alloc_at _ _ _ _ rfl]; simpa using hu) (by simp [Value.oneCell']) (by unfold maxLen; omega) (by omega) (by have:=HW.out.size; simp; omega) ?_
           intro v' w2 hown' hgrow _
           have HO:=za hown'
           have HG:=za hgrow
           clear hown' hgrow)
        | fail)
      go_roundg (n - (k+1))
      case measure=>omega
      case rel =>
        have hg1:wr.grownBy (wr.alloc (.cells #[.string sn,.string sh,.string ⟨#[]⟩,.bool false,.slice none 0 0] 47)) none:=World.grownBy_alloc _ _ _
        refine ⟨k+1,by omega,by omega,by go_num,(show Hid _ from ?_),(show Hid _ from ?_),(show Hid _ from by rw [HT.out]; exact HO.out)⟩
        · exact (z8 HW.out (z7 (Below.refl _ _) _)).grown HG.out (by have:=HW.out.size; simp; omega) (fun j hj=>(HU.out.lt j hj).1)
        · exact (HR2.out.alloc _).kept HG.out HNE.out
    · have hltz:¬ (k:Int)<(n:Int):=by omega
      obtain rfl:k=n:=by omega
      go_wp2
      go_ret
      refine ⟨_,rfl,?_,HW.out⟩
      have hu:=HU.out
      have hl:=HLN.out
      rw [List.take_of_length_le (by omega)] at hu
      unfold Users7
      rw [hl]
      exact hu

def Y3 (W w':World):Prop:=∀ (k:Nat) (c:Array Value) (T:TypeId) (fr:Nat×Nat),W.heap[k]? = some (.cells c T fr)→T≠78→w'.heap[k]? = some (.cells c T fr)
theorem Y3.of_below {W w':World} (hb:Below W.heap.size W w'):Y3 W w':=fun k _ _ _ h _=>(hb.block k (Array.getElem?_eq_some_iff.1 h).1).trans h
theorem Y3.trans {a b c:World} (h:Y3 a b) (k:Y3 b c):Y3 a c:=fun i x T fr hi hT=>k i x T fr (h i x T fr hi hT) hT
theorem XQ.keeps {W w':World} {B:Nat} {p:Option Nat} {L L':zB} (hd:qX W B p L) (hg:XQ W B p L' w'):Y3 W w':=by
 obtain ⟨_,_,_,ht⟩:=hg
 intro k c T fr hk hT
 refine (ht.block k (Array.getElem?_eq_some_iff.1 hk).1 ?_).trans hk
 rintro (rfl | e)
 ·
  rw [hd.blk] at hk
  injection hk with hk
  injection hk with _ h
  exact hT h.symm
 ·
  obtain ⟨es,clock,h1,_⟩:=hd.map k e
  rw [h1] at hk
  cases hk

def jG (w0 W:World) (B:Nat) (L:zB):Prop:=∃ p,qX W B p L∧w0.heap.size≤B∧(∀ b,p=some b→w0.heap.size≤b)∧Below w0.heap.size w0 W
section
variable {w0 W W':World} {B:Nat} {L:zB}
theorem jG.below (h:jG w0 W B L):Below w0.heap.size w0 W:=by obtain ⟨_,_,_,_,h⟩:=h; exact h
theorem jG.few (h:jG w0 W B L):L.length≤12:=by obtain ⟨_,h,_⟩:=h; exact h.few
theorem jG.rise (h:jG w0 W B L):vi L:=by obtain ⟨_,h,_⟩:=h; exact h.rise
theorem jG.all (h:jG w0 W B L):∀ q∈L,q.1.length≤12∧q.2.length≤12:=by obtain ⟨_,h,_⟩:=h; exact h.all
theorem jG.later (h:jG w0 W B L) (hb:Below W.heap.size W W'):jG w0 W' B L:=by
 obtain ⟨p,hd,h1,h2,h3⟩:=h
 exact ⟨p,hd.later hb,h1,h2,z8 h3 hb⟩
theorem jG.goes {L':zB} {p:Option Nat} (hd:qX W B p L) (h1:w0.heap.size≤B) (h2:∀ b,p=some b→w0.heap.size≤b) (h3:Below w0.heap.size w0 W) (hg:XQ W B p L' W'):jG w0 W' B L':=by
 obtain ⟨p',hd',hp,ht⟩:=hg
 refine ⟨p',hd',h1,fun b hb=>?_,h3.trans (ht.below_at h3.size ?_)⟩
 ·
  rcases hp b hb with h | h
  ·
   exact h2 b h
  ·
   exact Nat.le_trans h3.size h
 ·
  rintro i (rfl | e)
  ·
   exact h1
  ·
   exact h2 i e
theorem own7_new (w:World):jG w (w.alloc (.cells #[.map none] 78)) w.heap.size []:=⟨none,dir7_new w,Nat.le_refl _,(fun _ h=>nomatch h),z7 (Below.refl _ _) _⟩

theorem jG.len (h:jG w0 W B L):Calls Tryz.prog 100 #[.pointer (some ⟨B,0,none⟩)] W fun e w'=>e=.returned (.int .i64 L.length)∧w'=W:=by
 obtain ⟨p,hd,_⟩:=h
 exact len7_calls B p L W hd
theorem jG.lookup (h:jG w0 W B L) (n:ByteArray) (hn:n.size≤9223372036854775807) :
  Calls Tryz.prog 17 #[.pointer (some ⟨B,0,none⟩),.string n] W fun e w'=>e=.returned (.tuple #[.string (tx7 (loS L n.data.toList)),.int .i64 (deE L n.data.toList)])∧Below W.heap.size W w':=by
 obtain ⟨p,hd,_⟩:=h
 exact Uz B p L n W hd hn
theorem jG.allu (h:jG w0 W B L):Calls Tryz.prog 27 #[.pointer (some ⟨B,0,none⟩)] W fun e w'=>∃ v,e=.returned v∧Users7 L W.heap.size w' v∧Below W.heap.size W w':=by
 obtain ⟨p,hd,_⟩:=h
 exact all7_calls B p L W hd
end

def mayE:List Us→Int
 | []=>0
 | u::r=>if xK 1 u=0 then mayE r else xK 1 u
def fC (l:List Us):zB:=l.map fun u=>(u.nm.data.toList,u.hs.data.toList)
def ofE (l:List Us):Int:=uj [mayE l,zp (zX (l.map (·.nm))) 9,zp (decide ((l.length:Int)≤12)) 7]

theorem QT:∀ {l:List Us},mayE l=0→∀ u∈l,xK 1 u=0
 | [],_,u,h=>by cases h
 | x::r,h,u,hu=>by
  unfold mayE at h
  by_cases e:xK 1 x=0
  ·
   rw [if_pos e] at h
   rcases List.mem_cons.1 hu with rfl | hu
   ·
    exact e
   ·
    exact QT h u hu
  ·
   rw [if_neg e] at h
   exact absurd h e
theorem Vu:∀ {ss:List ByteArray},zX ss=true→ss.Pairwise fun a b=>bytesBefore a.data.toList b.data.toList=true
 | [],_=>List.Pairwise.nil
 | [_],_=>by simp
 | a::b::r,h=>by
  unfold zX at h
  rw [Bool.and_eq_true] at h
  have ih:=Vu (ss:=b::r) h.2
  have hab:bytesBefore a.data.toList b.data.toList=true:=by
   have:=h.1
   unfold yY at this
   rwa [ux] at this
  refine List.pairwise_cons.2 ⟨fun x hx=>?_,ih⟩
  rcases List.mem_cons.1 hx with rfl | hx
  ·
   exact hab
  ·
   exact WideShapes.bytes_trans _ _ _ hab ((List.pairwise_cons.1 ih).1 x hx)
theorem ofE_zero {l:List Us} (h:ofE l=0):(∀ u∈l,xK 1 u=0)∧vi (fC l)∧l.length≤12∧∀ u∈l,u.nm.size≤12∧u.hs.size≤12:=by
 obtain ⟨e1,h⟩:=vJ h
 obtain ⟨e2,h⟩:=vJ h
 obtain ⟨e3,_⟩:=vJ h
 have hm:=QT e1
 have hr:=(jy (by decide)).1 e2
 have hl:=(jy (by decide)).1 e3
 rw [decide_eq_true_eq] at hl
 refine ⟨hm,?_,by omega,fun u hu=>?_⟩
 ·
  have:=Vu hr
  rw [List.pairwise_map] at this
  unfold vi fC
  rw [List.pairwise_map]
  exact this
 ·
  obtain ⟨_,h1,h2⟩:=qF (hm u hu)
  exact ⟨name7_size h1,hash7_size h2⟩
theorem put_next {l:List Us} (hr:vi (fC l)) {k:Nat} (hk:k<l.length):uf (fC (l.take k)) l[k].nm.data.toList l[k].hs.data.toList=fC (l.take (k+1)):=by
 have hk':k<(fC l).length:=by unfold fC; simpa using hk
 have e0:fC (l.take k)=(fC l).take k:=by unfold fC; rw [List.map_take]
 have e1:fC (l.take (k+1))=(fC l).take (k+1):=by unfold fC; rw [List.map_take]
 have e2:(fC l)[k]'hk'=(l[k].nm.data.toList,l[k].hs.data.toList):=List.getElem_map _
 have hup:∀ y∈(fC l).take k,bytesBefore y.1 (fC l)[k].1=true:=by
  intro y hy
  obtain ⟨j,hj,rfl⟩:=List.getElem_of_mem hy
  rw [List.getElem_take]
  exact List.pairwise_iff_getElem.1 hr j k _ hk' (by simp at hj; omega)
 rw [e2] at hup
 rw [e0,e1,List.take_succ_eq_append_getElem hk',e2]
 unfold uf
 rw [uw (by
  cases h:xj ((fC l).take k) l[k].nm.data.toList
  ·
   rfl
  ·
   obtain ⟨p,hp,he⟩:=xE.1 h
   exact absurd he (vb (hup p hp)))]
 have ins:∀ {x:List UInt8×List UInt8} {D:zB},(∀ y∈D,bytesBefore x.1 y.1=false)→insE x D=D++[x]:=by
  intro x D
  induction D with
  | nil=>intro _; rfl
  | cons y r ih =>
   intro h
   unfold insE
   rw [h y (by simp),ih (fun z hz=>h z (by simp [hz]))]
   simp
 exact ins fun y hy=>yq (hup y hy)

set_option maxRecDepth 100000 in
theorem Uw (C:Nat) (A:Option Addr) (c n:Nat) (l:List Us) (w:World) (hC:w.cell? ⟨C,0,none⟩=some (.slice A n c)) (hl:n=l.length) (hn:n≤9223372036854775807) (hr:YA w A l) (ho:∀ u∈l,u.Ok w) (hm:vR w) :
  Calls Tryz.prog 230 #[.pointer (some ⟨C,0,none⟩)] w (yH (mayE l) w):=by
 have HR:=za hr
 have HL:=za hl
 have HO:=za ho
 have HM:=za hm
 clear hr hl ho hm
 obtain ⟨r,hr⟩:∃ r,r=mayE l:=⟨_,rfl⟩
 rw [← hr]
 have HRR:Hid (r=mayE (l.drop 0)):=hr
 clear hr
 go_enter Tryz.func230,Tryz.ntmps230
 go_wp2
 clear hC
 go_loopg [3,4,7] n (fun gg _ _ s7 wr=>∃ k:Nat,k≤n∧n - k≤gg∧s7=.int .i64 k∧Hid (Below w.heap.size w wr)∧Hid (r=mayE (l.drop k)))
 case atStart=>exact ⟨0,Nat.zero_le _,by omega,rfl,Below.refl _ _,HRR⟩
 case round =>
  obtain ⟨k,hk,hg,rfl,HW,A0⟩:=hrel
  by_cases hlt:k<n
  ·
   have hltz:(k:Int)<(n:Int):=by omega
   have hkl:k<l.length:=HL.out ▸ hlt
   obtain ⟨b,off,rfl,hb,hc⟩:=(HR.out.later HW.out) (by intro e; rw [e] at hkl; exact absurd hkl (Nat.not_lt_zero _))
   have c0:wr.cell? ⟨b,off+k * 5,none⟩=some (.string l[k].nm):=hc k hkl 0 _ rfl
   have c1:wr.cell? ⟨b,off+k * 5+1,none⟩=some (.string l[k].hs):=hc k hkl 1 _ rfl
   have c2:wr.cell? ⟨b,off+k * 5+2,none⟩=some (.string l[k].ml):=hc k hkl 2 _ rfl
   have c3:wr.cell? ⟨b,off+k * 5+3,none⟩=some (.bool l[k].dis):=hc k hkl 3 _ rfl
   have c4:wr.cell? ⟨b,off+k * 5+4,none⟩=some (.slice l[k].ga l[k].gs.length l[k].gc):=hc k hkl 4 _ rfl
   have hb1:=z8 HW.out (z7 (Below.refl wr.heap.size wr) (.cells #[.string l[k].nm,.string l[k].hs,.string l[k].ml,.bool l[k].dis,.slice l[k].ga l[k].gs.length l[k].gc] 47))
   have HC:Hid (Calls Tryz.prog 104 #[.int .i64 1,.agg #[.string l[k].nm,.string l[k].hs,.string l[k].ml,.bool l[k].dis,.slice l[k].ga l[k].gs.length l[k].gc]] (wr.alloc (.cells #[.string l[k].nm,.string l[k].hs,.string l[k].ml,.bool l[k].dis,.slice l[k].ga l[k].gs.length l[k].gc] 47)) (yH (xK 1 l[k]) (wr.alloc (.cells #[.string l[k].nm,.string l[k].hs,.string l[k].ml,.bool l[k].dis,.slice l[k].ga l[k].gs.length l[k].gc] 47)))):=uY 1 l[k] _ ((HO.out _ (List.getElem_mem hkl)).below hb1) (HM.out.later hb1)
   have HB1:=za hb1
   have hA:r=(if xK 1 l[k]=0 then mayE (l.drop (k+1)) else xK 1 l[k]):=by
    have:=A0.out
    rw [List.drop_eq_getElem_cons hkl] at this
    exact this
   clear hc hb hb1 A0
   generalize xK 1 l[k]=x at *
   generalize l[k].nm=nm at *
   generalize l[k].hs=hs at *
   generalize l[k].ml=ml at *
   generalize l[k].dis=dis at *
   generalize l[k].ga=ga at *
   generalize l[k].gs.length=gl at *
   generalize l[k].gc=gc at *
   by_cases h0:x=0
   ·
    rw [if_pos h0] at hA
    have HA:=za hA
    subst h0
    clear hA
    go_wp2_with (go_at_call 104; (with_reducible refine HC.out.mono ?_); rintro e w2 ⟨rfl,hb⟩; have HB2:=za (z8 HB1.out hb); clear hb)
    go_roundg (n - (k+1))
    case measure=>omega
    case rel=>exact ⟨k+1,by omega,by omega,by go_num,HB2,HA⟩
   ·
    rw [if_neg h0] at hA
    subst hA
    have hx1:(r != 0)=true:=by simpa using h0
    go_wp2_with (go_at_call 104; (with_reducible refine HC.out.mono ?_); rintro e w2 ⟨rfl,hb⟩; have HB2:=za (z8 HB1.out hb); clear hb)
    go_ret
    exact ⟨rfl,HB2.out⟩
  ·
   have hltz:¬ (k:Int)<(n:Int):=by omega
   have hA:r=0:=by
    have:=A0.out
    rw [List.drop_eq_nil_of_le (by have:=HL.out; omega)] at this
    exact this
   subst hA
   clear A0
   go_wp2
   go_ret
   exact ⟨rfl,HW.out⟩
set_option maxRecDepth 100000 in
theorem QR (A:Option Addr) (c n:Nat) (l:List Us) (w:World) (hl:n=l.length) (hn:n≤9223372036854775807) (hr:YA w A l) (ho:∀ u∈l,u.Ok w) (hm:vR w) :
  Calls Tryz.prog 167 #[.slice A n c] w (jH (mayE l) w):=by
 have hmf:=mkf
 have HR:=za hr
 have HO:=za ho
 have HM:=za hm
 have HL:=za hl
 clear hr ho hm hl
 go_enter Tryz.func167,Tryz.ntmps167
 go_wp2
 go_ret
 have bl:=z7 (Below.refl w.heap.size w) (.cells #[.slice A n c] 57)
 refine ⟨_,_,rfl,?_,bl⟩
 refine ⟨_,_,rfl,enters_of Tryz.func230 (by kernel_rfl) rfl,fun W hb=>?_⟩
 have hW:=z8 bl hb
 exact Uw _ A c n l W ((hb.cell (p:=⟨_,0,none⟩) (by simp)).trans (by simp)) HL.out hn (HR.out.later hW) (fun u hu=>(HO.out u hu).below hW) (HM.out.later hW)
def YRi7 (b off n c j:Nat) (x y:ByteArray) (q:Int):Nat→Value→World→Prop
 | 0,v,_=>v=.slice (some ⟨b,off,none⟩) n c
 | 1,v,_=>v=.int .i64 ((j:Int)+1)
 | 2,v,_=>v=.int .i64 (j:Int)
 | 3,v,_=>v=.pointer (some ⟨b,off+j * 5,none⟩)
 | 4,v,_=>v=.pointer (some ⟨b,off+j * 5,none⟩)
 | 5,v,_=>v=.string x
 | 6,v,_=>v=.slice (some ⟨b,off,none⟩) n c
 | 7,v,_=>v=.int .i64 ((j:Int)+1)
 | 8,v,_=>v=.pointer (some ⟨b,off+(j+1) * 5,none⟩)
 | 9,v,_=>v=.pointer (some ⟨b,off+(j+1) * 5,none⟩)
 | 10,v,_=>v=.string y
 | 11,v,_=>v=.int .i64 q
 | _,v,_=>v=.bool (decide (q ≥ 0))

set_option maxRecDepth 100000 in
theorem Qp (C:Nat) (A:Option Addr) (c n:Nat) (l:List Us) (w:World) (hC:w.cell? ⟨C,0,none⟩=some (.slice A n c)) (hl:n=l.length) (hn:n≤9000000000000000000) (hr:YA w A l) :
  Calls Tryz.prog 231 #[.pointer (some ⟨C,0,none⟩)] w (yH (zp (zX (l.map (·.nm))) 9) w):=by
 have HR:=za hr
 have HL:=za hl
 have HCw:=za hC
 have LCw:C<w.heap.size:=World.block_lt_of_cell? w _ hC
 obtain ⟨r,hrr⟩:∃ r,r=zp (zX (l.map (·.nm))) 9:=⟨_,rfl⟩
 rw [← hrr]
 have HRR:=za hrr
 clear hr hl hC hrr
 go_enter Tryz.func231,Tryz.ntmps231
 go_wp2
 go_loopg [2] (n+1) (fun gg s2 wr=>∃ j:Nat,j≤n∧n+1 - j≤gg∧s2=.int .i64 ((j:Int)+1)∧Hid (Below w.heap.size w wr)∧Hid (∀ i (h:i+1<l.length),i<j→yY l[i].nm l[i+1].nm=true))
 case atStart=>exact ⟨0,Nat.zero_le _,by omega,rfl,Below.refl _ _,fun i _ hi=>absurd hi (Nat.not_lt_zero _)⟩
 case round =>
  obtain ⟨j,hj,hg,rfl,HW,A0⟩:=hrel
  have LC:C<wr.heap.size:=Nat.lt_of_lt_of_le LCw HW.out.size
  have HCC:=za ((HW.out.cell (p:=⟨C,0,none⟩) LCw).trans HCw.out)
  have hcc:=HCC.out
  by_cases hlt:j+1<n
  ·
   have hltz:(j:Int)+1<(n:Int):=by omega
   have hltz0:(j:Int)<(n:Int):=by omega
   have hj0:(0:Int)≤(j:Int):=by omega
   have hj1:(0:Int)≤(j:Int)+1:=by omega
   have hjl:j+1<l.length:=HL.out ▸ hlt
   obtain ⟨b,off,rfl,hb,hc⟩:=(HR.out.later HW.out) (by intro e; rw [e] at hjl; exact absurd hjl (Nat.not_lt_zero _))
   have LB:b<wr.heap.size:=hb
   have HX:Hid (wr.cell? ⟨b,off+j * 5,none⟩=some (.string l[j].nm)):=hc j (by omega) 0 _ rfl
   have HY0:Hid (wr.cell? ⟨b,off+(j+1) * 5,none⟩=some (.string l[j+1].nm)):=hc (j+1) hjl 0 _ rfl
   have HCM:Hid (∀ W,Calls Tryz.prog 138 #[.string l[j].nm,.string l[j+1].nm] W fun e w'=>e=.returned (.int .i64 (Lib.compareBytes l[j].nm.data.toList l[j+1].nm.data.toList))∧w'=W):=fun W=>ur _ _ W
   have HAH:Hid (yY l[j].nm l[j+1].nm=decide (Lib.compareBytes l[j].nm.data.toList l[j+1].nm.data.toList<0)):=rfl
   have HT:Hid (yY l[j].nm l[j+1].nm=true→∀ i (h:i+1<l.length),i<j+1→yY l[i].nm l[i+1].nm=true):=fun hq i h hi=>by
    by_cases e:i=j
    ·
     subst e; exact hq
    ·
     exact A0.out i h (by omega)
   have HF:Hid (yY l[j].nm l[j+1].nm=false→r=9):=fun hf=>by
    rw [HRR.out,fP (l.map (·.nm)) j (by simpa using hjl) (by simpa using hf)]
    rfl
   clear hc hb A0
   generalize yY l[j].nm l[j+1].nm=ah at *
   generalize Lib.compareBytes l[j].nm.data.toList l[j+1].nm.data.toList=q at *
   generalize l[j].nm=x at *
   generalize l[j+1].nm=y at *
   go_wp2_with fail
   refine xN (by kernel_rfl) (fun W=>Below wr.heap.size wr W) (YRi7 b off n c j x y q) ?F ?hF (by kernel_rfl) (by kernel_rfl) (zZ (Below.refl _ _)) ?step ?fin
   case hF =>
    intro x
    simp only [List.map_cons,List.map_nil,vH,Act.put,List.setIfInBounds_toArray,List.set_cons_zero,List.set_cons_succ,Nat.zero_add,Nat.reduceAdd]
    exact rfl
   case step =>
    refine ⟨?_,?_,?_,?_,?_,?_,?_,?_,?_,?_,?_,?_,?_,trivial⟩
    all_goals intro x W hW hdep K hK
    ·
     have d1:=(hW.cell (p:=⟨C,0,none⟩) LC).trans HCC.out
     clear hdep
     go_simp
     exact hK _ _ rfl hW (fun _ _ h=>h)
    ·
     clear hdep
     go_simp
     exact hK _ _ rfl hW (fun _ _ h=>h)
    ·
     have h1:x 1=_:=hdep 1 rfl
     clear hdep
     simp only [h1] at hK
     go_simp
     refine hK _ _ ?_ hW (fun _ _ h=>h)
     show Value.int .i64 _=Value.int .i64 _
     refine congrArg (Value.int IntKind.i64) ?_
     first | omega | (rw [IntKind.wrap_i64] <;> omega)
    ·
     have h0:x 0=_:=hdep 0 rfl
     have h2:x 2=_:=hdep 2 rfl
     clear hdep
     simp only [h0,h2] at hK
     go_simp
     exact hK _ _ rfl hW (fun _ _ h=>h)
    ·
     have h3:x 3=_:=hdep 3 rfl
     clear hdep
     simp only [h3] at hK
     go_simp
     exact hK _ _ rfl hW (fun _ _ h=>h)
    ·
     have h4:x 4=_:=hdep 4 rfl
     have d2:=(hW.cell (p:=⟨b,off+j * 5,none⟩) LB).trans HX.out
     clear hdep
     simp only [h4] at hK
     go_simp
     exact hK _ _ rfl hW (fun _ _ h=>h)
    ·
     have d1:=(hW.cell (p:=⟨C,0,none⟩) LC).trans HCC.out
     clear hdep
     go_simp
     exact hK _ _ rfl hW (fun _ _ h=>h)
    ·
     clear hdep
     go_simp
     exact hK _ _ rfl hW (fun _ _ h=>h)
    ·
     have h6:x 6=_:=hdep 6 rfl
     have h7:x 7=_:=hdep 7 rfl
     clear hdep
     simp only [h6,h7] at hK
     go_simp
     exact hK _ _ (by show _=_; first | rfl | (congr 3; omega)) hW (fun _ _ h=>h)
    ·
     have h8:x 8=_:=hdep 8 rfl
     clear hdep
     simp only [h8] at hK
     go_simp
     exact hK _ _ rfl hW (fun _ _ h=>h)
    ·
     have h9:x 9=_:=hdep 9 rfl
     have d2:=(hW.cell (p:=⟨b,off+(j+1) * 5,none⟩) LB).trans HY0.out
     clear hdep
     simp only [h9] at hK
     go_simp
     exact hK _ _ rfl hW (fun _ _ h=>h)
    ·
     have h5:x 5=_:=hdep 5 rfl
     have h10:x 10=_:=hdep 10 rfl
     clear hdep
     simp only [h5,h10] at hK
     go_simp
     refine (HCM.out W).mono ?_
     rintro e W' ⟨rfl,rfl⟩
     exact hK _ _ rfl hW (fun _ _ h=>h)
    ·
     have h11:x 11=_:=hdep 11 rfl
     clear hdep
     simp only [h11] at hK
     go_simp
     exact hK _ _ rfl hW (fun _ _ h=>h)
   case fin =>
    intro x W hW hY
    have h12:x 12=.bool (decide (q ≥ 0)):=hY 12 (by decide)
    have HFF:=za (z8 HW.out hW)
    clear hY hW LC LB HX HY0 HCM HCC hcc
    rw [h12]
    by_cases hq:q ≥ 0
    ·
     have hah:ah=false:=by rw [HAH.out]; exact decide_eq_false (by omega)
     have hr9:=HF.out hah
     rw [decide_eq_true hq]
     subst hr9
     clear HT HF
     go_wp2
     go_ret
     exact ⟨rfl,HFF.out⟩
    ·
     have hah:ah=true:=by rw [HAH.out]; exact decide_eq_true (by omega)
     have HT2:=za (HT.out hah)
     rw [decide_eq_false hq]
     clear HT HF hah
     go_wp2
     go_roundg (n+1 - (j+1))
     case measure=>omega
     case rel=>exact ⟨j+1,by omega,by omega,by go_num,HFF,HT2⟩
  ·
   have hltz:¬ (j:Int)+1<(n:Int):=by omega
   have hr0:r=0:=by
    rw [HRR.out,fQ (l.map (·.nm)) (fun k hk=>by
     have hk':k+1<l.length:=by simpa using hk
     have:=A0.out k hk' (by have:=HL.out; omega)
     simpa using this)]
    rfl
   subst hr0
   clear A0
   go_wp2
   go_ret
   exact ⟨rfl,HW.out⟩
set_option maxRecDepth 100000 in
theorem F0 (A:Option Addr) (c n:Nat) (l:List Us) (w:World) (hl:n=l.length) (hn:n≤9000000000000000000) (hr:YA w A l) :
  Calls Tryz.prog 168 #[.slice A n c] w (jH (zp (zX (l.map (·.nm))) 9) w):=by
 have hmf:=mkf
 have HR:=za hr
 have HL:=za hl
 clear hr hl
 go_enter Tryz.func168,Tryz.ntmps168
 go_wp2
 go_ret
 have bl:=z7 (Below.refl w.heap.size w) (.cells #[.slice A n c] 57)
 refine ⟨_,_,rfl,?_,bl⟩
 refine ⟨_,_,rfl,enters_of Tryz.func231 (by kernel_rfl) rfl,fun W hb=>?_⟩
 exact Qp _ A c n l W ((hb.cell (p:=⟨_,0,none⟩) (by simp)).trans (by simp)) HL.out hn (HR.out.later (z8 bl hb))

theorem jG.put {w0 W:World} {B:Nat} {L:zB} (h:jG w0 W B L) (s hh:ByteArray) (hs:s.size≤12) (h2:hh.size≤12) (hf:(uf L s.data.toList hh.data.toList).length≤12) :
  Calls Tryz.prog 95 #[.pointer (some ⟨B,0,none⟩),.string s,.string hh] W fun e w'=>e=.returned (.tuple #[])∧jG w0 w' B (uf L s.data.toList hh.data.toList)∧Y3 W w':=by
 obtain ⟨p,hd,g1,g2,g3⟩:=h
 exact (dput_calls B p L s hh W hd hs h2 hf).mono fun e w' ⟨he,hg⟩=>⟨he,jG.goes hd g1 g2 g3 hg,hg.keeps hd⟩

set_option maxRecDepth 100000 in
theorem QC (A:Option Addr) (c n:Nat) (l:List Us) (w:World) (hl:n=l.length) (hn:n≤1000) (hr:YA w A l) (ho:∀ u∈l,u.Ok w) (hm:vR w) :
  Calls Tryz.prog 83 #[.slice A n c] w fun e w'=>(ofE l≠0∧e=.returned (.tuple #[.pointer none,.int .i64 (ofE l)])∧Below w.heap.size w w')∨(ofE l=0∧∃ B,e=.returned (.tuple #[.pointer (some ⟨B,0,none⟩),.int .i64 0])∧jG w w' B (fC l)):=by
 have HMB:=za (QR A c n l w hl (by omega) hr ho hm)
 have HRI:Hid (∀ W,Below w.heap.size w W→Calls Tryz.prog 168 #[.slice A n c] W (jH (zp (zX (l.map (·.nm))) 9) W)):=fun W hb=>F0 A c n l W hl (by omega) (hr.later hb)
 have HFI:Hid (∀ W,Calls Tryz.prog 99 #[.int .i64 (n:Int)] W (jH (zp (decide ((l.length:Int)≤12)) 7) W)):=fun W=>by rw [← hl]; exact fit7_calls _ W
 have HR:=za hr
 have HL:=za hl
 have HZ:Hid (ofE l=0→vi (fC l)∧l.length≤12∧∀ u∈l,u.nm.size≤12∧u.hs.size≤12):=fun h=>(ofE_zero h).2
 have HNW:Hid (∀ W,Calls Tryz.prog 11 #[] W fun e w'=>e=.returned (.pointer (some ⟨W.heap.size,0,none⟩))∧w'=W.alloc (.cells #[.map none] 78)):=fun W=>new7_calls W
 have HE:Hid (uj [mayE l,zp (zX (l.map (·.nm))) 9,zp (decide ((l.length:Int)≤12)) 7]=ofE l):=rfl
 clear hr ho hm hl
 generalize mayE l=e0 at *
 generalize zp (zX (l.map (·.nm))) 9=e1 at *
 generalize zp (decide ((l.length:Int)≤12)) 7=e2 at *
 generalize ofE l=r at *
 go_enter Tryz.func83,Tryz.ntmps83
 go_wp2_with fail
 with_reducible refine HMB.out.mono ?_
 rintro e w1 ⟨g0,lb0,rfl,ha,hb⟩
 have HA0:=za ha
 have HB1:=za hb
 have HRI1:=za (HRI.out w1 hb)
 clear ha hb HMB HRI
 go_wp2_with fail
 with_reducible refine HRI1.out.mono ?_
 rintro e w2 ⟨g1,lb1,rfl,ha,hb⟩
 have HA1:=za ha
 have HA02:=za (HA0.out.later hb)
 have HB2:=za (z8 HB1.out hb)
 clear ha hb HRI1 HA0 HB1
 go_wp2_with fail
 with_reducible refine (HFI.out w2).mono ?_
 rintro e w3 ⟨g2,lb2,rfl,ha,hb⟩
 have HB3:=za (z8 HB2.out hb)
 have hrow:=XM w3 [(.func (.func g0) #[] lb0,e0),(.func (.func g1) #[] lb1,e1),(.func (.func g2) #[] lb2,e2)] 95 (by
  intro x hx
  simp only [List.mem_cons,List.not_mem_nil,or_false] at hx
  rcases hx with rfl | rfl | rfl
  ·
   exact HA02.out.later hb
  ·
   exact HA1.out.later hb
  ·
   exact ha)
 have hf:=ZY w3.heap.size 3 3 _ _ rfl (by decide) hrow
 have HF:Hid (Calls Tryz.prog 48 #[.slice (some ⟨w3.heap.size,0,none⟩) 3 3] (w3.alloc (.cells #[.func (.func g0) #[] lb0,.func (.func g1) #[] lb1,.func (.func g2) #[] lb2] 95)) (yH r (w3.alloc (.cells #[.func (.func g0) #[] lb0,.func (.func g1) #[] lb1,.func (.func g2) #[] lb2] 95)))):=by
  rw [← HE.out]; exact hf
 clear hf hrow ha hb HFI HA02 HA1 HE
 go_wp2_with fail
 with_reducible refine HF.out.mono ?_
 rintro e w4 ⟨rfl,hb⟩
 have HB4:=za (z8 HB3.out (z8 (z7 (Below.refl w3.heap.size w3) _) hb))
 clear hb HF HB3 HB2
 by_cases h0:r=0
 case neg =>
  have h1:(r != 0)=true:=by simpa using h0
  have H0:=za h0
  clear h0
  go_wp2
  go_ret2
  exact .inl ⟨H0.out,rfl,HB4.out⟩
 subst h0
 have hz:=HZ.out rfl
 have HZ2:=za hz
 clear hz HZ
 go_wp2_with fail
 with_reducible refine (HNW.out w4).mono ?_
 rintro e w5 ⟨rfl,rfl⟩
 have HO:=za (own7_new w4)
 generalize w4.alloc (.cells #[.map none] 78)=w5 at *
 generalize w4.heap.size=B at *
 clear HNW
 go_wp2
 go_loopg [7,23] n (fun gg _ s23 wr=>∃ k:Nat,k≤n∧n - k≤gg∧s23=.int .i64 k∧Hid (jG w4 wr B (fC (l.take k))))
 case atStart=>exact ⟨0,Nat.zero_le _,by omega,rfl,HO.out⟩
 case round =>
  obtain ⟨k,hk,hg,rfl,HW⟩:=hrel
  by_cases hlt:k<n
  ·
   have hltz:(k:Int)<(n:Int):=by omega
   have hkl:k<l.length:=HL.out ▸ hlt
   obtain ⟨b,off,rfl,hb,hc⟩:=(HR.out.later (z8 HB4.out HW.out.below)) (by intro e; rw [e] at hkl; exact absurd hkl (Nat.not_lt_zero _))
   have c0:wr.cell? ⟨b,off+k * 5,none⟩=some (.string l[k].nm):=hc k hkl 0 _ rfl
   have c1:wr.cell? ⟨b,off+k * 5+1,none⟩=some (.string l[k].hs):=hc k hkl 1 _ rfl
   have c2:wr.cell? ⟨b,off+k * 5+2,none⟩=some (.string l[k].ml):=hc k hkl 2 _ rfl
   have c3:wr.cell? ⟨b,off+k * 5+3,none⟩=some (.bool l[k].dis):=hc k hkl 3 _ rfl
   have c4:wr.cell? ⟨b,off+k * 5+4,none⟩=some (.slice l[k].ga l[k].gs.length l[k].gc):=hc k hkl 4 _ rfl
   have hp:=put_next HZ2.out.1 hkl
   have HC:=za ((HW.out.later (z7 (Below.refl wr.heap.size wr) (.cells #[.string l[k].nm,.string l[k].hs,.string l[k].ml,.bool l[k].dis,.slice l[k].ga l[k].gs.length l[k].gc] 47))).put l[k].nm l[k].hs (HZ2.out.2.2 _ (List.getElem_mem hkl)).1 (HZ2.out.2.2 _ (List.getElem_mem hkl)).2 (by rw [hp]; unfold fC; rw [List.length_map,List.length_take]; have:=HZ2.out.2.1; omega))
   rw [hp] at HC
   obtain ⟨LN,hLN⟩:∃ LN,LN=fC (l.take (k+1)):=⟨_,rfl⟩
   rw [← hLN] at HC
   have HLN:=za hLN
   clear hc hb hp hLN
   generalize l[k].nm=nm at *
   generalize l[k].hs=hs at *
   generalize l[k].ml=ml at *
   generalize l[k].dis=dis at *
   generalize l[k].ga=ga at *
   generalize l[k].gs.length=gl at *
   generalize l[k].gc=gc at *
   go_wp2_with (go_at_call 95; (with_reducible refine HC.out.mono ?_); rintro e w6 ⟨rfl,ho,_⟩; have HO6:=za ho; clear ho)
   go_roundg (n - (k+1))
   case measure=>omega
   case rel=>exact ⟨k+1,by omega,by omega,by go_num,HLN.out ▸ HO6⟩
  ·
   have hltz:¬ (k:Int)<(n:Int):=by omega
   obtain rfl:k=n:=by omega
   have hw:=HW.out
   rw [List.take_of_length_le (by have:=HL.out; omega)] at hw
   obtain ⟨p,q1,q2,q3,q4⟩:=hw
   have HF2:Hid (jG w wr B (fC l)):=⟨p,q1,Nat.le_trans HB4.out.size q2,fun b hb=>Nat.le_trans HB4.out.size (q3 b hb),z8 HB4.out q4⟩
   clear q1 q2 q3 q4 HW
   go_wp2
   go_ret2
   first | exact .inr ⟨by first | rfl | trivial,_,rfl,HF2.out⟩ | exact ⟨_,rfl,HF2.out⟩




def Us7 (w:World) (v:Value) (L:zB):Prop:=∃ A c,v=.slice A L.length c∧∀ j (h:j<L.length),∃ g,A=some ⟨g,0,none⟩∧∀ i u,(JG L[j])[i]? = some u→w.cell? ⟨g,j * 5+i,none⟩=some u
theorem Us7.later {w w':World} {v:Value} {L:zB} (h:Us7 w v L) (hb:Below w.heap.size w w'):Us7 w' v L:=by
 obtain ⟨A,c,e,hc⟩:=h
 exact ⟨A,c,e,fun j hj=>by obtain ⟨g,e,h⟩:=hc j hj; exact ⟨g,e,fun i u hu=>(hb.cell (p:=⟨g,j * 5+i,none⟩) (World.block_lt_of_cell? w _ (h i u hu))).trans (h i u hu)⟩⟩
theorem Us7.of_users {w:World} {base:Nat} {v:Value} {L:zB} (h:Users7 L base w v):Us7 w v L:=by
 have hs:∃ A c,v=.slice A L.length c:=by
  rcases h.2 with ⟨rfl,h0⟩ | ⟨g,cap,cur,rfl,_⟩
  ·
   exact ⟨none,0,by rw [h0]⟩
  ·
   exact ⟨_,_,rfl⟩
 obtain ⟨A,c,rfl⟩:=hs
 refine ⟨A,c,rfl,fun j hj=>?_⟩
 rcases h.2 with ⟨_,h0⟩ | ⟨g,cap,cur,e1,_⟩
 ·
  omega
 ·
  injection e1 with e1
  subst e1
  refine ⟨g,rfl,fun i u hu=>?_⟩
  have hi:i<5:=(List.getElem?_eq_some_iff.1 hu).1
  have:=World.ownsRow.cells h (g:=g) rfl (j * 5+i) u (by rw [usr7_at L j i hj hi]; exact hu)
  rw [Addr.add_lit,Nat.zero_add] at this
  exact this

def zS (q:List UInt8×List UInt8):Us:=⟨tx7 q.1,tx7 q.2,⟨#[]⟩,false,none,[],0⟩
theorem bare7_ok {q:List UInt8×List UInt8} {w:World} (h:q.1.length≤12∧q.2.length≤12):(zS q).Ok w:=by
 have s1:(tx7 q.1).size≤12:=by rw [← zq]; simpa [tx7] using h.1
 have s2:(tx7 q.2).size≤12:=by rw [← zq]; simpa [tx7] using h.2
 exact { rd:=fun h=>absurd rfl h,nm:=Nat.le_trans s1 (by decide),hs:=Nat.le_trans s2 (by decide),ml:=Nat.zero_le _,nil:=fun _=>rfl,len:=Nat.le_refl _,cap:=Nat.zero_le _,all:=fun s hs=>by cases hs }
theorem Us7.rd {w:World} {A:Option Addr} {c n:Nat} {Lx:zB} (h:Us7 w (.slice A n c) Lx):n=(Lx.map zS).length∧YA w A (Lx.map zS):=by
 obtain ⟨A',c',e,hc⟩:=h
 injection e with e1 e2 e3
 subst e1 e2 e3
 refine ⟨by simp,fun hne=>?_⟩
 have h0:0<Lx.length:=by
  rcases Lx with _ | ⟨q,r⟩
  ·
   exact absurd rfl hne
  ·
   exact Nat.succ_pos _
 obtain ⟨g,e,hg⟩:=hc 0 h0
 refine ⟨g,0,e,World.block_lt_of_cell? w _ (hg 0 _ rfl),fun i hi j u hu=>?_⟩
 have hi':i<Lx.length:=by simpa using hi
 obtain ⟨g',e',hg'⟩:=hc i hi'
 rw [e] at e'
 injection e' with e'
 injection e' with e'
 subst e'
 have hu':(JG Lx[i])[j]? = some u:=by
  rw [List.getElem_map] at hu
  have:(zS Lx[i]).cells=(JG Lx[i]).toArray:=rfl
  rw [this] at hu
  simpa using hu
 have:=hg' j u hu'
 rwa [Nat.zero_add]

def YSaV7 (g1 o1 g2 o2 n k c1 c2:Nat) (a1 a2:Array Value):Nat→Value→World→Prop
 | 0,v,_=>v=.slice (some ⟨g1,o1,none⟩) n c1
 | 1,v,_=>v=.int .i64 k
 | 2,v,_=>v=.pointer (some ⟨g1,o1+k * 5,none⟩)
 | 3,v,_=>v=.agg a1
 | 4,v,_=>v=.slice (some ⟨g2,o2,none⟩) n c2
 | 5,v,_=>v=.int .i64 k
 | 6,v,_=>v=.pointer (some ⟨g2,o2+k * 5,none⟩)
 | 7,v,_=>v=.agg a2
 | 8,v,_=>v=.bool true
 | _,v,_=>v=.bool false
theorem YSaV7_keep {g1 o1 g2 o2 n k c1 c2:Nat} {a1 a2:Array Value} {W W':World} (j:Nat) (z:Value) (hz:YSaV7 g1 o1 g2 o2 n k c1 c2 a1 a2 j z W):YSaV7 g1 o1 g2 o2 n k c1 c2 a1 a2 j z W':=by
 match j,hz with
 | 0,hz=>exact hz
 | 1,hz=>exact hz
 | 2,hz=>exact hz
 | 3,hz=>exact hz
 | 4,hz=>exact hz
 | 5,hz=>exact hz
 | 6,hz=>exact hz
 | 7,hz=>exact hz
 | 8,hz=>exact hz
 | _+9,hz=>exact hz

set_option maxRecDepth 100000 in
theorem sameusersV_calls (A1 A2:Option Addr) (c1 c2 n:Nat) (l1 l2:List Us) (w:World) (hl1:n=l1.length) (hl2:n=l2.length) (hn:n≤1000) (h1:YA w A1 l1) (h2:YA w A2 l2) (o1:∀ u∈l1,u.Ok w) (o2:∀ u∈l2,u.Ok w)
  (hs:∀ k (i1:k<l1.length) (i2:k<l2.length),Y6 l1[k] l2[k]=true) :
  Calls Tryz.prog 26 #[.slice A1 n c1,.slice A2 n c2] w (zY true w):=by
 have hnot:∀ (x:Bool) (w:World),(Op.unary .not (.bool x)).run Tryz.prog w=.ok (.bool (!x)) w:=fun _ _=>rfl
 have H1:=za h1
 have H2:=za h2
 have L1:=za hl1
 have L2:=za hl2
 have O1:=za o1
 have O2:=za o2
 have HSM:=za hs
 clear h1 h2 hl1 hl2 o1 o2 hs
 go_enter Tryz.func26,Tryz.ntmps26
 go_wp2
 go_loopg [5,13] n (fun gg _ s13 wr=>∃ k:Nat,k≤n∧n - k≤gg∧s13=.int .i64 k∧Hid (Below w.heap.size w wr))
 case atStart=>exact ⟨0,Nat.zero_le _,by omega,rfl,Below.refl _ _⟩
 case round =>
  obtain ⟨k,hk,hg,rfl,HW⟩:=hrel
  by_cases hlt:k<n
  ·
   have hltz:(k:Int)<(n:Int):=by omega
   have hk1:k<l1.length:=L1.out ▸ hlt
   have hk2:k<l2.length:=L2.out ▸ hlt
   obtain ⟨g1,o1,rfl,Lg1,q1⟩:=(H1.out.later HW.out) (by intro e; rw [e] at hk1; exact absurd hk1 (Nat.not_lt_zero _))
   obtain ⟨g2,o2,rfl,Lg2,q2⟩:=(H2.out.later HW.out) (by intro e; rw [e] at hk2; exact absurd hk2 (Nat.not_lt_zero _))
   have HS:Hid (∀ W,Below wr.heap.size wr W→Calls Tryz.prog 84 #[.agg #[.string l1[k].nm,.string l1[k].hs,.string l1[k].ml,.bool l1[k].dis,.slice l1[k].ga l1[k].gs.length l1[k].gc],.agg #[.string l2[k].nm,.string l2[k].hs,.string l2[k].ml,.bool l2[k].dis,.slice l2[k].ga l2[k].gs.length l2[k].gc]] W (zY true W)):=fun W hb=>by
    have:=Ql l1[k] l2[k] W (((O1.out _ (List.getElem_mem hk1)).below HW.out).below hb) (((O2.out _ (List.getElem_mem hk2)).below HW.out).below hb)
    rwa [HSM.out k hk1 hk2] at this
   have C10:Hid (wr.cell? ⟨g1,o1+k * 5,none⟩=some (.string l1[k].nm)):=q1 k hk1 0 _ rfl
   have C11:Hid (wr.cell? ⟨g1,o1+k * 5+1,none⟩=some (.string l1[k].hs)):=q1 k hk1 1 _ rfl
   have C12:Hid (wr.cell? ⟨g1,o1+k * 5+2,none⟩=some (.string l1[k].ml)):=q1 k hk1 2 _ rfl
   have C13:Hid (wr.cell? ⟨g1,o1+k * 5+3,none⟩=some (.bool l1[k].dis)):=q1 k hk1 3 _ rfl
   have C14:Hid (wr.cell? ⟨g1,o1+k * 5+4,none⟩=some (.slice l1[k].ga l1[k].gs.length l1[k].gc)):=q1 k hk1 4 _ rfl
   have C20:Hid (wr.cell? ⟨g2,o2+k * 5,none⟩=some (.string l2[k].nm)):=q2 k hk2 0 _ rfl
   have C21:Hid (wr.cell? ⟨g2,o2+k * 5+1,none⟩=some (.string l2[k].hs)):=q2 k hk2 1 _ rfl
   have C22:Hid (wr.cell? ⟨g2,o2+k * 5+2,none⟩=some (.string l2[k].ml)):=q2 k hk2 2 _ rfl
   have C23:Hid (wr.cell? ⟨g2,o2+k * 5+3,none⟩=some (.bool l2[k].dis)):=q2 k hk2 3 _ rfl
   have C24:Hid (wr.cell? ⟨g2,o2+k * 5+4,none⟩=some (.slice l2[k].ga l2[k].gs.length l2[k].gc)):=q2 k hk2 4 _ rfl
   clear q1 q2
   generalize l1[k].nm=nm1 at *
   generalize l1[k].hs=hs1 at *
   generalize l1[k].ml=ml1 at *
   generalize l1[k].dis=dis1 at *
   generalize l1[k].ga=ga1 at *
   generalize l1[k].gs.length=gl1 at *
   generalize l1[k].gc=gc1 at *
   generalize l2[k].nm=nm2 at *
   generalize l2[k].hs=hs2 at *
   generalize l2[k].ml=ml2 at *
   generalize l2[k].dis=dis2 at *
   generalize l2[k].ga=ga2 at *
   generalize l2[k].gs.length=gl2 at *
   generalize l2[k].gc=gc2 at *
   go_wp2_with fail
   refine xN (by kernel_rfl) (fun W=>Below wr.heap.size wr W) (YSaV7 g1 o1 g2 o2 n k c1 c2 #[.string nm1,.string hs1,.string ml1,.bool dis1,.slice ga1 gl1 gc1] #[.string nm2,.string hs2,.string ml2,.bool dis2,.slice ga2 gl2 gc2]) ?F ?hF (by kernel_rfl) (by kernel_rfl) (zZ (Below.refl _ _)) ?step ?fin
   case hF =>
    intro x
    simp only [List.map_cons,List.map_nil,vH,Act.put,List.setIfInBounds_toArray,List.set_cons_zero,List.set_cons_succ,Nat.zero_add,Nat.reduceAdd]
    exact rfl
   case step =>
    refine ⟨?_,?_,?_,?_,?_,?_,?_,?_,?_,?_,trivial⟩
    all_goals intro x W hW hdep K hK
    ·
     clear hdep
     go_simp
     exact hK _ _ rfl hW (fun _ _ h=>h)
    ·
     clear hdep
     go_simp
     exact hK _ _ rfl hW (fun _ _ h=>h)
    ·
     have h0:x 0=_:=hdep 0 rfl
     have h1:x 1=_:=hdep 1 rfl
     clear hdep
     simp only [h0,h1] at hK
     go_simp
     exact hK _ _ rfl hW (fun _ _ h=>h)
    ·
     have h2:x 2=_:=hdep 2 rfl
     have d0:=(hW.cell (p:=⟨g1,o1+k * 5,none⟩) Lg1).trans C10.out
     have d1:=(hW.cell (p:=⟨g1,o1+k * 5+1,none⟩) Lg1).trans C11.out
     have d2:=(hW.cell (p:=⟨g1,o1+k * 5+2,none⟩) Lg1).trans C12.out
     have d3:=(hW.cell (p:=⟨g1,o1+k * 5+3,none⟩) Lg1).trans C13.out
     have d4:=(hW.cell (p:=⟨g1,o1+k * 5+4,none⟩) Lg1).trans C14.out
     clear hdep
     simp only [h2] at hK
     go_simp
     exact hK _ _ rfl hW (fun _ _ h=>h)
    ·
     clear hdep
     go_simp
     exact hK _ _ rfl hW (fun _ _ h=>h)
    ·
     clear hdep
     go_simp
     exact hK _ _ rfl hW (fun _ _ h=>h)
    ·
     have h4:x 4=_:=hdep 4 rfl
     have h5:x 5=_:=hdep 5 rfl
     clear hdep
     simp only [h4,h5] at hK
     go_simp
     exact hK _ _ rfl hW (fun _ _ h=>h)
    ·
     have h6:x 6=_:=hdep 6 rfl
     have d0:=(hW.cell (p:=⟨g2,o2+k * 5,none⟩) Lg2).trans C20.out
     have d1:=(hW.cell (p:=⟨g2,o2+k * 5+1,none⟩) Lg2).trans C21.out
     have d2:=(hW.cell (p:=⟨g2,o2+k * 5+2,none⟩) Lg2).trans C22.out
     have d3:=(hW.cell (p:=⟨g2,o2+k * 5+3,none⟩) Lg2).trans C23.out
     have d4:=(hW.cell (p:=⟨g2,o2+k * 5+4,none⟩) Lg2).trans C24.out
     clear hdep
     simp only [h6] at hK
     go_simp
     exact hK _ _ rfl hW (fun _ _ h=>h)
    ·
     have h3:x 3=_:=hdep 3 rfl
     have h7:x 7=_:=hdep 7 rfl
     clear hdep
     simp only [h3,h7] at hK
     go_simp
     refine (HS.out W hW).mono ?_
     rintro e W' ⟨rfl,hb⟩
     exact hK _ _ rfl (z8 hW hb) (fun j u hz=>YSaV7_keep j u hz)
    ·
     have h8:x 8=_:=hdep 8 rfl
     clear hdep
     simp only [h8] at hK
     go_simp
     exact hK _ _ rfl hW (fun _ _ h=>h)
   case fin =>
    intro x W hW hY
    have h9:x 9=.bool false:=hY 9 (by decide)
    have HF:=za (z8 HW.out hW)
    clear hY hW Lg1 Lg2
    rw [h9]
    go_wp2
    go_roundg (n - (k+1))
    case measure=>omega
    case rel=>exact ⟨k+1,by omega,by omega,by go_num,HF⟩
  ·
   have hltz:¬ (k:Int)<(n:Int):=by omega
   obtain rfl:k=n:=by omega
   go_wp2
   go_ret
   exact ⟨rfl,HW.out⟩

def xz (l:List Us):List Value:=l.flatMap fun u=>u.cells.toList
theorem fH (l:List Us):(xz l).length=l.length * 5:=by
 induction l with
 | nil=>rfl
 | cons u l ih =>
  have:xz (u::l)=u.cells.toList++xz l:=rfl
  rw [this,List.length_append,ih,List.length_cons]
  have:u.cells.toList.length=5:=rfl
  omega
theorem YE (l:List Us) (i j:Nat) (hi:i<l.length) (hj:j<5):(xz l)[i * 5+j]? = l[i].cells[j]? := by
 induction l generalizing i with
 | nil=>exact absurd hi (Nat.not_lt_zero _)
 | cons u l ih =>
  have e:xz (u::l)=u.cells.toList++xz l:=rfl
  have h5:u.cells.toList.length=5:=rfl
  rw [e]
  cases i with
  | zero =>
   rw [List.getElem?_append_left (by omega),Nat.zero_mul,Nat.zero_add]
   simp
  | succ i =>
   rw [List.getElem?_append_right (by omega),h5,show (i+1) * 5+j - 5=i * 5+j by omega]
   exact ih i (by simpa using hi)
theorem YA.src {w:World} {A:Option Addr} {l:List Us} (h:YA w A l) (c:Nat):Src Tryz.prog 5 57 (.slice A l.length c) l.length (xz l) w:=by
 have hk:Tryz.prog.underlying 57=some (.slice 47):=Tryz.underlying57
 by_cases hl:l=[]
 ·
  subst hl
  cases A with
  | none=>exact Src.ofNil w hk c
  | some ad=>exact Src.ofSlice w hk ad 0 c [] rfl (fun j u hu=>by simp at hu) (fun u hu=>by cases hu)
 ·
  obtain ⟨b,off,rfl,_,hc⟩:=h hl
  refine Src.ofSlice w hk ⟨b,off,none⟩ l.length c _ (fH l) (fun j u hu=>?_) (fun u hu=>?_)
  ·
   have hlt:j<(xz l).length:=(List.getElem?_eq_some_iff.1 hu).1
   rw [fH] at hlt
   have hi:j / 5<l.length:=by omega
   have hj:j / 5 * 5+j % 5=j:=by omega
   have h5:j % 5<5:=by omega
   have:=YE l (j / 5) (j % 5) hi h5
   rw [hj,hu] at this
   have h2:=hc (j / 5) hi (j % 5) u this.symm
   rw [Addr.add_lit]
   rwa [show off+j / 5 * 5+j % 5=off+j by omega] at h2
  ·
   unfold xz at hu
   rw [List.mem_flatMap] at hu
   obtain ⟨x,_,hx⟩:=hu
   simp only [Us.cells,List.mem_cons,List.not_mem_nil,or_false] at hx
   rcases hx with rfl | rfl | rfl | rfl | rfl <;> rfl
theorem VE {w:World} {b0 n c:Nat} {A:Option Addr} {l:List Us} (ho:w.ownsRow b0 47 5 (.slice A n c) n (xz l)) (hn:n=l.length):YA w A l:=by
 intro hl
 have hp:0<l.length:=List.length_pos_iff.2 hl
 obtain ⟨g,cap,hv,_,hg⟩:=ho.form (by omega)
 injection hv with hA _ hc
 subst hA hc
 refine ⟨g,0,rfl,hg,fun i hi j u hu=>?_⟩
 have h5:j<5:=by
  have:=(Array.getElem?_eq_some_iff.1 hu).1
  exact this
 have:=ho.cellAt (i * 5+j) (by omega)
 rw [YE l i j hi h5,hu] at this
 rwa [Nat.zero_add]

theorem bare7_same {u:Us} (h:xK 1 u=0):Y6 (zS (u.nm.data.toList,u.hs.data.toList)) u=true:=by
 unfold xK at h
 rw [if_pos rfl] at h
 have hb:vO u=true:=yX (n:=12) (by decide) (yz h _ (by simp))
 unfold vO Y6 upU at hb
 unfold Y6 zS
 simp only [Bool.and_eq_true,decide_eq_true_eq] at hb ⊢
 obtain ⟨⟨⟨⟨_,_⟩,h3⟩,h4⟩,h5⟩:=hb
 exact ⟨⟨⟨⟨ul _,ul _⟩,h3.symm⟩,h4.symm⟩,h5.symm⟩

structure Lo7 (w:World) (B:Nat) (p:Option Nat) (L:zB) (v:Value) (n o:Nat) (W:World):Prop where
 bel:Below w.heap.size w W
 dir:qX W B p L
 row:∃ xs,W.ownsRow 0 47 5 v n xs∧∀ i,i<n→∃ s,xs[i * 5+o]? = some (.string s)
 far:∀ k,v.ownBlock=some k→w.heap.size≤k∧B≠k∧p≠some k
theorem Lo7.below {w W W':World} {B:Nat} {p:Option Nat} {L:zB} {v:Value} {n o:Nat} (h:Lo7 w B p L v n o W) (hb:Below W.heap.size W W'):Lo7 w B p L v n o W':=by
 obtain ⟨xs,ho,hx⟩:=h.row
 exact ⟨z8 h.bel hb,h.dir.later hb,⟨xs,(zm.of_below hb (fun _=>False)).owns ho (fun _ _ f=>f),hx⟩,h.far⟩
theorem Lo7.form {w W:World} {B:Nat} {p:Option Nat} {L:zB} {A:Option Addr} {n c o:Nat} (h:Lo7 w B p L (.slice A n c) n o W) (hn:0<n):∃ g,A=some ⟨g,0,none⟩:=by
 obtain ⟨xs,ho,_⟩:=h.row
 obtain ⟨g,cap,hv,_,_⟩:=ho.form hn
 injection hv with hA
 exact ⟨g,hA⟩
theorem Lo7.store {w W:World} {B:Nat} {p:Option Nat} {L:zB} {g n c o:Nat} (h:Lo7 w B p L (.slice (some ⟨g,0,none⟩) n c) n o W) (ho5:o<5) (k:Nat) (hk:k<n) (s:ByteArray) :
  (∃ x,W.cell? ⟨g,k * 5+o,none⟩=some (.string x))∧W.frozen? ⟨g,k * 5+o,none⟩=false∧Lo7 w B p L (.slice (some ⟨g,0,none⟩) n c) n o (W.setCell ⟨g,k * 5+o,none⟩ (.string s)):=by
 obtain ⟨xs,ho,hx⟩:=h.row
 obtain ⟨h1,h2,h3⟩:=h.far g rfl
 have hc:=ho.cellAt (k * 5+o) (by omega)
 obtain ⟨x,hxk⟩:=hx k hk
 rw [hxk] at hc
 have ht:zm (fun i=>i=g) W (W.setCell ⟨g,k * 5+o,none⟩ (.string s)):=(zm.refl (fun i=>i=g) W).setCell (p:=⟨g,k * 5+o,none⟩) (fun _=>rfl) _
 refine ⟨⟨x,hc⟩,ho.frozenAt _,h.bel.setCell (p:=⟨g,k * 5+o,none⟩) h1 _,h.dir.turns ht h2 (fun b hb e=>h3 (by rw [hb,e])),⟨_,(ho.stored (k * 5+o) (.string s)).1,fun i hi=>?_⟩,h.far⟩
 rw [List.getElem?_set]
 split
 ·
  split
  ·
   exact ⟨s,rfl⟩
  ·
   next he hlt =>
   obtain ⟨y,hy⟩:=hx i hi
   have:=(List.getElem?_eq_some_iff.1 hy).1
   omega
 ·
  exact hx i hi
theorem Qb (L:zB):L.flatMap JG=xz (L.map zS):=by
 unfold xz
 rw [List.flatMap_map]
 rfl
end Go.Proofs.YthmomkjingcbiaaGreatDoor
