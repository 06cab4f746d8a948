/-
  The texts that the laws of this seat share, part 7: what the code and the document's own answers tell, walked function by function.
  Conditions: each theorem's own.
-/
import Derived.WideKeyEntry
import Derived.Test.YthmomkjingcbiaaGreatDoorMigBBF
set_option maxHeartbeats 16000000
namespace Go.Proofs.YthmomkjingcbiaaGreatDoor
open Go.Maps

structure yo (L M:zq):Prop where
 rl:xC L
 rm:xC M
 iff:∀ n a,(n,a)∈L↔(a,n)∈M

def Up (L:zq) (a:List UInt8):Bool:=L.any (fun p=>p.2 == a)
def VW (L:zq) (a:List UInt8):List UInt8:=match L.find? (fun p=>p.2 == a) with | some p=>p.1 | none=>[]

theorem XC {L:zq} (h:xC L) {n a b:List UInt8} (ha:(n,a)∈L) (hb:(n,b)∈L):a=b:=by
 have h1:=jf h ha
 have h2:=jf h hb
 exact h1.symm.trans h2
theorem ve {L:zq} {n:List UInt8} (h:xn L n=true):(n,xp L n)∈L:=by
 unfold xn at h
 unfold xp
 obtain ⟨p,hp,e⟩:=List.any_eq_true.1 h
 cases hf:L.find? (fun p=>p.1 == n) with
 | none=>exact absurd e (by simpa using List.find?_eq_none.1 hf p hp)
 | some q =>
  have h1:=List.mem_of_find?_eq_some hf
  have h2:=List.find?_some hf
  have:q.1=n:=by simpa using h2
  rw [← this]; exact h1
theorem Jj {L:zq} {n a:List UInt8} (h:(n,a)∈L):xn L n=true:=yX.2 ⟨_,h,rfl⟩
theorem yY {L:zq} {n:List UInt8} (h:xn L n=false):xp L n=[]:=by
 unfold xp
 cases hf:L.find? (fun p=>p.1 == n) with
 | none=>rfl
 | some q =>
  have h1:=List.mem_of_find?_eq_some hf
  have h2:=List.find?_some hf
  have:xn L n=true:=yX.2 ⟨q,h1,by simpa using h2⟩
  rw [h] at this; cases this
theorem jO {L:zq} {a:List UInt8} (h:Up L a=true):(VW L a,a)∈L:=by
 unfold Up at h
 unfold VW
 obtain ⟨p,hp,e⟩:=List.any_eq_true.1 h
 cases hf:L.find? (fun p=>p.2 == a) with
 | none=>exact absurd e (by simpa using List.find?_eq_none.1 hf p hp)
 | some q =>
  have h1:=List.mem_of_find?_eq_some hf
  have h2:=List.find?_some hf
  have:q.2=a:=by simpa using h2
  rw [← this]; exact h1
theorem jK {L:zq} {n a:List UInt8} (h:(n,a)∈L):Up L a=true:=List.any_eq_true.2 ⟨_,h,by simp⟩
theorem ownO_none {L:zq} {a:List UInt8} (h:Up L a=false):VW L a=[]:=by
 unfold VW
 cases hf:L.find? (fun p=>p.2 == a) with
 | none=>rfl
 | some q =>
  have h1:=List.mem_of_find?_eq_some hf
  have h2:=List.find?_some hf
  have:Up L a=true:=List.any_eq_true.2 ⟨q,h1,h2⟩
  rw [h] at this; cases this

theorem vd {L:zq} {k v:List UInt8} {q:List UInt8×List UInt8}:q∈vB L k v↔q=(k,v)∨q∈L∧q.1≠k:=by
 unfold vB
 rw [ZF,xO]
theorem rise_ext {L M:zq} (hl:xC L) (hm:xC M) (h:∀ q,q∈L↔q∈M):L=M:=by
 have hnl:L.Nodup:=hl.imp fun {a b} hb e=>by subst e; rw [zG] at hb; cases hb
 have hnm:M.Nodup:=hm.imp fun {a b} hb e=>by subst e; rw [zG] at hb; cases hb
 have hp:L.Perm M:=(List.perm_ext_iff_of_nodup hnl hnm).2 h
 refine List.Perm.eq_of_pairwise (le:=fun (p q:List UInt8×List UInt8)=>bytesBefore p.1 q.1=true) ?_ hl hm hp
 intro a b _ _ h1 h2
 rw [xu h1] at h2; cases h2

section
variable {L M:zq}
theorem yo.nil:yo [] []:=⟨List.Pairwise.nil,List.Pairwise.nil,by simp⟩
theorem yo.length (h:yo L M):M.length=L.length:=by
 have hnl:L.Nodup:=h.rl.imp fun {a b} hb e=>by subst e; rw [zG] at hb; cases hb
 have hnm:M.Nodup:=h.rm.imp fun {a b} hb e=>by subst e; rw [zG] at hb; cases hb
 have hn2:(L.map fun p=>(p.2,p.1)).Nodup:=by
  unfold List.Nodup
  rw [List.pairwise_map]
  refine hnl.imp fun {a b} hb e=>hb ?_
  injection e with e1 e2
  exact Prod.ext e2 e1
 have:(L.map fun p=>(p.2,p.1)).Perm M:=(List.perm_ext_iff_of_nodup hn2 hnm).2 fun q=>by
  rw [List.mem_map]
  constructor
  ·
   rintro ⟨p,hp,rfl⟩
   exact (h.iff p.1 p.2).1 hp
  ·
   intro hq
   exact ⟨(q.2,q.1),(h.iff q.2 q.1).2 hq,rfl⟩
 have:=this.length_eq
 rw [List.length_map] at this
 exact this.symm
theorem yo.has (h:yo L M) (a:List UInt8):xn M a=Up L a:=by
 cases hh:Up L a
 ·
  cases hm:xn M a
  ·
   rfl
  ·
   have:=jK ((h.iff _ _).2 (ve hm))
   rw [hh] at this; cases this
 ·
  exact Jj ((h.iff _ _).1 (jO hh))
theorem yo.get (h:yo L M) (a:List UInt8):xp M a=VW L a:=by
 cases hh:Up L a
 ·
  rw [ownO_none hh,yY (by rw [h.has,hh])]
 ·
  exact jf h.rm ((h.iff _ _).1 (jO hh))
theorem yo.one (h:yo L M) {n k a:List UInt8} (h1:(n,a)∈L) (h2:(k,a)∈L):n=k:=XC h.rm ((h.iff _ _).1 h1) ((h.iff _ _).1 h2)
theorem yo.own (h:yo L M) {n a:List UInt8} (h1:(n,a)∈L):VW L a=n:=h.one (jO (jK h1)) h1
theorem yo.del (h:yo L M) {n:List UInt8} (hn:xn L n=true):yo (uH L n) (uH M (xp L n)):=by
 have hm:=ve hn
 refine ⟨Z1 h.rl n,Z1 h.rm _,fun k b=>?_⟩
 rw [xO,xO]
 constructor
 ·
  rintro ⟨h1,h2⟩
  refine ⟨(h.iff _ _).1 h1,fun e=>h2 ?_⟩
  have e':b=xp L n:=e
  subst e'
  exact h.one h1 hm
 ·
  rintro ⟨h1,h2⟩
  have h1':=(h.iff _ _).2 h1
  refine ⟨h1',fun e=>h2 ?_⟩
  have e':k=n:=e
  subst e'
  exact XC h.rl h1' hm
theorem yo.put (h:yo L M) {n a:List UInt8} (hn:xn L n=false) (ha:Up L a=false):yo (vB L n a) (vB M a n):=by
 refine ⟨vU h.rl n a,vU h.rm a n,fun k b=>?_⟩
 rw [vd,vd]
 constructor
 ·
  rintro (e | ⟨h1,h2⟩)
  ·
   injection e with e1 e2; subst e1; subst e2; exact .inl rfl
  ·
   refine .inr ⟨(h.iff _ _).1 h1,fun e=>?_⟩
   have e':b=a:=e
   subst e'
   have:=jK h1
   rw [ha] at this; cases this
 ·
  rintro (e | ⟨h1,h2⟩)
  ·
   injection e with e1 e2; subst e1; subst e2; exact .inl rfl
  ·
   have h1':=(h.iff _ _).2 h1
   refine .inr ⟨h1',fun e=>?_⟩
   have e':k=n:=e
   subst e'
   have:=Jj h1'
   rw [hn] at this; cases this
end

theorem XY (L:zq) (n:List UInt8):xn (uH L n) n=false:=by
 cases h:xn (uH L n) n
 ·
  rfl
 ·
  obtain ⟨p,hp,e⟩:=yX.1 h
  exact absurd e (xO.1 hp).2
theorem QB {L:zq} {n k:List UInt8} (h:k≠n):xn (uH L n) k=xn L k:=by
 cases hh:xn L k
 ·
  cases hd:xn (uH L n) k
  ·
   rfl
  ·
   obtain ⟨p,hp,e⟩:=yX.1 hd
   have:xn L k=true:=yX.2 ⟨p,(xO.1 hp).1,e⟩
   rw [hh] at this; cases this
 ·
  obtain ⟨p,hp,e⟩:=yX.1 hh
  exact yX.2 ⟨p,xO.2 ⟨hp,fun e'=>h (e.symm.trans e')⟩,e⟩
theorem put_del {L:zq} (h:xC L) (n a:List UInt8):vB (uH L n) n a=vB L n a:=by
 refine rise_ext (vU (Z1 h n) n a) (vU h n a) fun q=>?_
 rw [vd,vd,xO]
 constructor
 ·
  rintro (e | ⟨⟨h1,_⟩,h2⟩)
  ·
   exact .inl e
  ·
   exact .inr ⟨h1,h2⟩
 ·
  rintro (e | ⟨h1,h2⟩)
  ·
   exact .inl e
  ·
   exact .inr ⟨⟨h1,h2⟩,h2⟩
theorem get_put {L:zq} (h:xC L) (n a:List UInt8):xp (vB L n a) n=a:=jf (vU h n a) (vd.2 (.inl rfl))
end Go.Proofs.YthmomkjingcbiaaGreatDoor
namespace Go.Proofs.YthmomkjingcbiaaGreatDoor
open Go.RowKit Go.Maps

theorem Ux (x:UInt8):qK (qK x)=qK x:=by
 cases h:inR 65 90 x with
 | false=>rw [qA h,qA h]
 | true =>
  obtain ⟨e,h1,h2⟩:=Uw h
  refine qA ?_
  unfold inR
  have:¬ (qK x).toNat≤90:=by omega
  rw [decide_eq_false this,Bool.and_false]
theorem fM (l:List UInt8):zF (zF l)=zF l:=by
 unfold zF
 rw [List.map_map]
 exact List.map_congr_left fun x _=>Ux x
theorem Fg {l m:List UInt8} (h:zF l=zF m):yV l=yV m:=by
 unfold yV fp
 have hl:l.length=m.length:=by rw [← vh l,h,vh]
 rw [h,hl]
theorem fG (l:List UInt8):yV (zF l)=yV l:=Fg (fM l)
theorem ZI {l:List UInt8} (h:yV l=true):l.length≤20:=by
 unfold yV at h
 simp only [Bool.and_eq_true,decide_eq_true_eq] at h
 exact h.1.1.1
theorem mail5_nil:yV []=false:=by decide
theorem name5_len {n:List UInt8} (h:zm n=true):n.length≤12:=by
 unfold zm Zx at h
 simp only [Bool.and_eq_true,decide_eq_true_eq] at h
 exact h.1.1.2.1

def May9 (x:List UInt8×List UInt8):Prop:=zm x.1=true∧yV x.2=true∧zF x.2=x.2
theorem May9.of {n m:List UInt8} (hn:zm n=true) (hm:yV m=true):May9 (n,zF m):=⟨hn,by rw [fG]; exact hm,fM m⟩

structure vQ (w:World) (p:Option Nat) (L:zq):Prop where
 nil:p=none→L=[]
 map:∀ b,p=some b→jn w b L
theorem vQ.turns {w w':World} {p:Option Nat} {L:zq} {S:Nat→Prop} (h:vQ w p L) (ht:zb S w w') (hp:∀ b,p=some b→¬ S b):vQ w' p L :=
 ⟨h.nil,fun b hb=>(h.map b hb).kept (ht.block b (h.map b hb).lt (hp b hb))⟩

section
variable {w:World} {p:Option Nat} {L:zq}
theorem look9 (h:vQ w p L) (s:ByteArray) (hs:s.size≤maxLen) :
  (Instr.lookup 76 (.map p) (.string s) true).run Tryz.prog w=.ok (.tuple #[.string (tx7 (xp L s.data.toList)),.bool (xn L s.data.toList)]) w:=by
 cases p with
 | none =>
  have hL:=h.nil rfl
  subst hL
  have:=Maps.look_nil (P:=Tryz.prog) (w:=w) (t:=76) true qd Tryz.underlying76 (Q3 w) (FT s hs)
  exact this
 | some b =>
  obtain ⟨v,ps,hrun,hv⟩:=(h.map b rfl).look_ok qd Tryz.underlying76 (Q3 w) (plainElem_string (H:=Unit) Tryz.underlying9 (s:=⟨#[]⟩) (by decide)) (FT s hs)
  obtain ⟨c,rfl,hc,_⟩:=plainElem_string_inv Tryz.underlying9 hv
  rw [hrun,Jy]
  have e:(fP L).atKey (.string s.data.toList) (.lit (.string []))=.lit (.string (xp L s.data.toList)):=QQ L _
  have hc':(fP L).atKey (.string s.data.toList) (.lit (.string []))=.lit (.string c.data.toList):=congrArg Prod.fst hc
  rw [e] at hc'
  have:xp L s.data.toList=c.data.toList:=by simpa using hc'
  rw [this,Z0]
theorem drop9 (h:vQ w p L) (s:ByteArray) (hs:s.size≤maxLen) (ty:TypeId) :
  ∃ w',(Builtin.delete_ #[76,9] ty #[.map p,.string s]).run Tryz.prog w=.ok (.tuple #[]) w'∧vQ w' p (uH L s.data.toList)∧zb (fun i=>p=some i) w w':=by
 cases p with
 | none =>
  have hL:=h.nil rfl
  subst hL
  exact ⟨w,Maps.drop_nil qd Tryz.underlying76 (FT s hs) ty,⟨fun _=>rfl,(fun _ h=>nomatch h)⟩,zb.refl _ w⟩
 | some b =>
  obtain ⟨w',hrun,hown,ht⟩:=(h.map b rfl).drop qd Tryz.underlying76 (FT s hs) ty
  rw [datE_del] at hown
  exact ⟨w',hrun,⟨(fun h=>nomatch h),fun b' hb'=>by cases hb'; exact jn.of hown⟩,(zb.refl _ w).grown ht.grown (fun k hk _=>hk.symm ▸ rfl)⟩
theorem nilmap9 (w:World) (p:Option Nat):(binOp .eql 76 (.map p) (.map none)).run Tryz.prog w=.ok (.bool p.isNone) w :=
 run_eql_map_nil_sl w 76 _ _ p Tryz.underlying76
end

def UZ (W:World) (b:Nat) (L':zq) (st val:Value):Prop :=
 ∃ o,W.heap[b]? = some o∧∀ W2:World,W2.heap[b]? = some o→∃ W3,(Instr.entryStore 76 (.map (some b)) st val).run Tryz.prog W2=.ok () W3∧jn W3 b L'∧W2.mapTurned W3 b
theorem half9 {W:World} {b:Nat} {L:zq} (h:jn W b L) (hf:L.length≤1000) (k v:ByteArray) (hk:k.size≤maxLen) (hv:v.size≤maxLen) :
  ∃ (v0:Value) (st:Nat) (W1:World),(Instr.mapEntry 76 (.map (some b)) (.string k)).run Tryz.prog W=.ok (.tuple #[v0,.int .i64 (st:Int)]) W1∧UZ W1 b (vB L k.data.toList v.data.toList) (.int .i64 (st:Int)) (.string v)∧W.mapTurned W1 b:=by
 obtain ⟨w',hrun,hown,_⟩:=h.store qd Tryz.underlying76 (Nat.lt_of_le_of_lt hf (by decide)) (FT k hk) (plainElem_string (H:=Unit) Tryz.underlying9 hv)
 rw [Vc] at hown
 have hM:=jn.of hown
 obtain ⟨es,clock,hb,F,_,_⟩:=h
 obtain ⟨v0,st,es1,clock1,h1,_,h3⟩:=WideElems.entry_then_store (t:=76) (WideMaps.string_law Tryz.underlying9) Tryz.underlying76 (z:=.string ⟨#[]⟩) (fun u=>Q3 u) hb F (FT k hk)
 refine ⟨v0,st,_,h1,⟨_,ChangeMaps.heap_setBlock_same hb _,fun W2 hW2=>?_⟩,⟨es,clock,es1,clock1,hb,rfl⟩⟩
 obtain ⟨es',clock',r1,r2⟩:=h3 W2 (.string v) hW2
 rw [hrun] at r2
 injection r2 with _ r2
 refine ⟨_,r1,hM.kept ?_,⟨es1,clock1,es',clock',hW2,rfl⟩⟩
 rw [ChangeMaps.heap_setBlock_same hW2,r2,ChangeMaps.heap_setBlock_same hb]
theorem UZ.kept {W W':World} {b:Nat} {L':zq} {st val:Value} (h:UZ W b L' st val) (hb:W'.heap[b]? = W.heap[b]?):UZ W' b L' st val:=by
 obtain ⟨o,h1,h2⟩:=h
 exact ⟨o,hb.trans h1,h2⟩

structure vE (w:World) (B:Nat) (p q:Option Nat) (L M:zq):Prop where
 blk:w.heap[B]? = some (.cells #[.map p,.map q] 164 (0,0))
 mapp:vQ w p L
 mapq:vQ w q M
 both:p.isSome=q.isSome
 apt:∀ b c,p=some b→q=some c→b≠c
 mir:yo L M
 few:L.length≤100
 all:∀ x∈L,May9 x

section
variable {w w':World} {B:Nat} {p q:Option Nat} {L M:zq}
theorem vE.lt (h:vE w B p q L M):B<w.heap.size:=(Array.getElem?_eq_some_iff.1 h.blk).1
theorem vE.plt (h:vE w B p q L M):∀ b,p=some b→b<w.heap.size:=fun b hb=>(h.mapp.map b hb).lt
theorem vE.qlt (h:vE w B p q L M):∀ b,q=some b→b<w.heap.size:=fun b hb=>(h.mapq.map b hb).lt
theorem vE.cell0 (h:vE w B p q L M):w.cell? ⟨B,0,none⟩=some (.map p):=by simp [World.cell?,h.blk]
theorem vE.cell1 (h:vE w B p q L M):w.cell? ⟨B,1,none⟩=some (.map q):=by simp [World.cell?,h.blk]
theorem vE.frozen0 (h:vE w B p q L M):w.frozen? ⟨B,0,none⟩=false:=by simp [World.frozen?,h.blk]
theorem vE.frozen1 (h:vE w B p q L M):w.frozen? ⟨B,1,none⟩=false:=by simp [World.frozen?,h.blk]
theorem vW {b:Nat} {L:zq} {c:Array Value} {T:TypeId} {fr:Nat×Nat} (hm:jn w b L) (hB:w.heap[B]? = some (.cells c T fr)):b≠B:=fun e=>by
 obtain ⟨es,clock,h1,_⟩:=hm
 subst e
 rw [hB] at h1
 cases h1
theorem vE.pne (h:vE w B p q L M):∀ b,p=some b→b≠B:=fun b hb=>vW (h.mapp.map b hb) h.blk
theorem vE.qne (h:vE w B p q L M):∀ b,q=some b→b≠B:=fun b hb=>vW (h.mapq.map b hb) h.blk
theorem vE.turns {S:Nat→Prop} (h:vE w B p q L M) (ht:zb S w w') (hB:¬ S B) (hp:∀ b,p=some b→¬ S b) (hq:∀ b,q=some b→¬ S b):vE w' B p q L M :=
 ⟨(ht.block B h.lt hB).trans h.blk,h.mapp.turns ht hp,h.mapq.turns ht hq,h.both,h.apt,h.mir,h.few,h.all⟩
theorem vE.later (h:vE w B p q L M) (hb:Below w.heap.size w w'):vE w' B p q L M:=h.turns (zb.of_below hb (fun _=>False)) (fun f=>f) (fun _ _ f=>f) (fun _ _ f=>f)
theorem vE.rise (h:vE w B p q L M):xC L:=h.mir.rl
end

def J4 (B:Nat) (p q:Option Nat) (w w':World):Prop:=zb (fun i=>i=B∨p=some i∨q=some i) w w'
def uy (w:World) (B:Nat) (p q:Option Nat) (L':zq) (w':World):Prop :=
 ∃ p' q' M',vE w' B p' q' L' M'∧(∀ b,p'=some b→p=some b∨w.heap.size≤b)∧(∀ b,q'=some b→q=some b∨w.heap.size≤b)∧J4 B p q w w'
theorem uy.still {w w':World} {B:Nat} {p q:Option Nat} {L M:zq} (h:vE w B p q L M) (hb:Below w.heap.size w w'):uy w B p q L w' :=
 ⟨p,q,M,h.later hb,fun _ e=>.inl e,fun _ e=>.inl e,zb.of_below hb _⟩
theorem uy.ahead {w w1 w':World} {B:Nat} {p q:Option Nat} {L':zq} (hb:Below w.heap.size w w1) (h:uy w1 B p q L' w'):uy w B p q L' w':=by
 obtain ⟨p',q',M',hd,hp,hq,ht⟩:=h
 exact ⟨p',q',M',hd,fun b e=>(hp b e).imp id (fun h=>Nat.le_trans hb.size h),fun b e=>(hq b e).imp id (fun h=>Nat.le_trans hb.size h),(zb.of_below hb _).next ht (fun i _ h=>h)⟩

set_option maxRecDepth 100000 in
theorem Fc (w:World):Calls Tryz.prog 63 #[] w fun e w'=>e=.returned (.pointer (some ⟨w.heap.size,0,none⟩))∧w'=w.alloc (.cells #[.map none,.map none] 164):=by
 go_enter Tryz.func63,Tryz.ntmps63
 go_wp2
 go_ret
 exact ⟨rfl,rfl⟩
theorem idx9_new (w:World):vE (w.alloc (.cells #[.map none,.map none] 164)) w.heap.size none none [] [] :=
 ⟨(MapKept.heap_alloc w _).1,⟨fun _=>rfl,(fun _ h=>nomatch h)⟩,⟨fun _=>rfl,(fun _ h=>nomatch h)⟩,rfl,(fun _ _ h=>nomatch h),yo.nil,by simp,(fun _ h=>nomatch h)⟩

set_option maxRecDepth 100000 in
theorem of9_calls (B:Nat) (p q:Option Nat) (L M:zq) (s:ByteArray) (w:World) (h:vE w B p q L M) (hs:s.size≤maxLen) :
  Calls Tryz.prog 131 #[.pointer (some ⟨B,0,none⟩),.string s] w fun e w'=>e=.returned (.tuple #[.string (tx7 (xp L s.data.toList)),.bool (xn L s.data.toList)])∧w'=w:=by
 have hc:=h.cell0
 have hl:=look9 h.mapp s hs
 generalize xn L s.data.toList=r at *
 generalize tx7 (xp L s.data.toList)=g at *
 clear h hs
 go_enter Tryz.func131,Tryz.ntmps131
 go_wp2
 go_ret2
 exact ⟨rfl,rfl⟩

theorem jq.move9 {cs:List Nat} {St St':Nat→World→Prop} {L:Nat→Bool} {W W':World} (h:jq cs St L W) (q i:Nat) (hq:q<cs.length) (hi:cs.getD q 0=i) (hL:L i=false) (hp:q=0∨L (cs.getD (q - 1) 0)=true)
  (hnd:(List.range cs.length).all (fun r=>r == q || cs.getD r 0 != i)=true) (hS:St' (q+1) W'):jq cs St' (yK L i) W':=by
 obtain ⟨m,hm,hs,hr⟩:=h
 have h1:¬ q<m:=by have:=hr q hq; rw [hi,hL] at this; simpa using this.symm
 have h2:m=q:=by
  rcases hp with rfl | hp
  ·
   omega
  ·
   have:=hr (q - 1) (by omega)
   rw [hp] at this
   have:q - 1<m:=by simpa using this.symm
   omega
 subst h2
 have hX:jq cs (fun k V=>k=m+1→St' k V) L W':=⟨m,hm,fun e=>absurd e (by omega),hr⟩
 obtain ⟨k,hk,hs',hr'⟩:=hX.next m i hq hi hL hp hnd (fun _=>hS)
 have hkm:k=m+1:=by
  have e1:=hr' m hq
  rw [hi,show yK L i i=true from if_pos rfl] at e1
  have e1':m<k:=by simpa using e1.symm
  by_cases hlt:m+1<cs.length
  ·
   have h3:=List.all_eq_true.1 hnd (m+1) (List.mem_range.2 hlt)
   have e2:=hr' (m+1) hlt
   have hne:cs.getD (m+1) 0≠i:=by
    have e1:((m+1) == m)=false:=by simp
    rw [e1,Bool.false_or,bne_iff_ne] at h3
    exact h3
   rw [show yK L i (cs.getD (m+1) 0)=L (cs.getD (m+1) 0) from if_neg hne,hr (m+1) hlt] at e2
   have:¬ m+1<k:=by
    have e3:decide (m+1<m)=false:=by simp
    rw [e3] at e2
    simpa using e2.symm
   omega
  ·
   omega
 subst hkm
 exact ⟨m+1,hk,hs' rfl,hr'⟩
theorem jq.done9 {cs:List Nat} {St:Nat→World→Prop} {L:Nat→Bool} {W:World} (h:jq cs St L W) (hall:∀ r,r<cs.length→L (cs.getD r 0)=true):St cs.length W:=by
 obtain ⟨m,hm,hs,hr⟩:=h
 by_cases e:m=cs.length
 ·
  rw [← e]; exact hs
 ·
  have h1:=hr m (by omega)
  rw [hall m (by omega)] at h1
  simp at h1

set_option maxRecDepth 100000 in
theorem ZU (B:Nat) (p q:Option Nat) (L M:zq) (s:ByteArray) (w:World) (h:vE w B p q L M) (hs:s.size≤maxLen) :
  Calls Tryz.prog 120 #[.pointer (some ⟨B,0,none⟩),.string s] w fun e w'=>e=.returned (.bool (xn L s.data.toList))∧(∃ M',vE w' B p q (uH L s.data.toList) M')∧J4 B p q w w':=by
 have hl:=look9 h.mapp s hs
 have c0:=h.cell0
 cases hh:xn L s.data.toList with
 | false =>
  rw [hh] at hl
  have HF:Hid ((∃ M',vE w B p q (uH L s.data.toList) M')∧J4 B p q w w):=⟨⟨M,by rw [ut hh]; exact h⟩,zb.refl _ w⟩
  clear h
  generalize tx7 (xp L s.data.toList)=g at *
  go_enter Tryz.func120,Tryz.ntmps120
  go_wp2
  go_ret
  exact ⟨rfl,HF.out⟩
 | true =>
  rw [hh] at hl
  have hmem:=ve hh
  have hmay:=h.all _ hmem
  have hgs:(tx7 (xp L s.data.toList)).size≤maxLen:=by
   show (xp L s.data.toList).toArray.size≤_
   rw [List.size_toArray]; exact Nat.le_trans (ZI hmay.2.1) (by decide)
  obtain ⟨w1,r1,m1,t1⟩:=drop9 h.mapp s hs 0
  have hB1:w1.heap[B]? = _:=(t1.block B h.lt (fun e=>h.pne _ e rfl)).trans h.blk
  have c1:w1.cell? ⟨B,1,none⟩=some (.map q):=by simp [World.cell?,hB1]
  have q1:vQ w1 q M:=h.mapq.turns t1 (fun b hb e=>h.apt b b e hb rfl)
  obtain ⟨w2,r2,m2,t2⟩:=drop9 q1 (tx7 (xp L s.data.toList)) hgs 0
  have ht:J4 B p q w w2:=(t1.mono (fun i _ e=>.inr (.inl e))).next t2 (fun i _ e=>.inr (.inr e))
  have HF:Hid ((∃ M',vE w2 B p q (uH L s.data.toList) M')∧J4 B p q w w2):=by
   rw [yy] at m2
   refine ⟨⟨_,⟨(t2.block B (Nat.lt_of_lt_of_le h.lt t1.size) (fun e=>h.qne _ e rfl)).trans hB1,m1.turns t2 (fun b hb e=>h.apt b b hb e rfl),m2,h.both,h.apt,h.mir.del hh,?_,fun x hx=>h.all x (xO.1 hx).1⟩⟩,ht⟩
   exact Nat.le_trans (List.length_filter_le _ _) h.few
  clear h hB1 q1 m1 m2 t1 t2 ht hmem hmay hgs
  generalize tx7 (xp L s.data.toList)=g at *
  go_enter Tryz.func120,Tryz.ntmps120
  go_wp2
  go_ret
  exact ⟨rfl,HF.out⟩

def YPut9 (B b c:Nat) (n a:ByteArray):Nat→Value→Prop
 | 2,v=>v=.pointer (some ⟨B,0,none⟩)
 | 3,v=>v=.map (some b)
 | 4,v=>v=.string n
 | 7,v=>v=.pointer (some ⟨B,1,none⟩)
 | 8,v=>v=.map (some c)
 | 9,v=>v=.string a
 | 10,v=>v=.string a
 | 11,v=>v=.string n
 | _,v=>v=.pointer (some ⟨B,0,none⟩)
def StPut9 (b c:Nat) (L M L' M':zq) (n a:ByteArray) (x12 x15:Value):Nat→World→Prop
 | 0,W=>jn W b L∧jn W c M
 | 1,W=>(∃ (v0:Value) (st:Nat),x12=.tuple #[v0,.int .i64 (st:Int)]∧UZ W b L' (.int .i64 (st:Int)) (.string a))∧jn W c M
 | 2,W=>jn W b L'∧jn W c M
 | 3,W=>jn W b L'∧∃ (v0:Value) (st:Nat),x15=.tuple #[v0,.int .i64 (st:Int)]∧UZ W c M' (.int .i64 (st:Int)) (.string n)
 | _,W=>jn W b L'∧jn W c M'
structure fY (w1:World) (B b c:Nat) (L M L' M':zq) (n a:ByteArray) (D:Nat→Bool) (x:Nat→Value) (W:World):Prop where
 y:∀ j,j<12→D j=true→YPut9 B b c n a j (x j)
 e12:D 12=true→∃ (v0:Value) (st:Nat),x 12=.tuple #[v0,.int .i64 (st:Int)]
 e15:D 15=true→∃ (v0:Value) (st:Nat),x 15=.tuple #[v0,.int .i64 (st:Int)]
 e13:D 13=true→D 12=true∧∃ v0,x 12=.tuple #[v0,x 13]
 e16:D 16=true→D 15=true∧∃ v0,x 15=.tuple #[v0,x 16]
 t:zb (fun i=>i=b∨i=c) w1 W
 s:jq [12,14,15,17] (StPut9 b c L M L' M' n a (x 12) (x 15)) D W

section
variable {w1:World} {B b c:Nat} {L M L' M':zq} {n a:ByteArray} {D:Nat→Bool} {x:Nat→Value} {W W':World}
theorem fY.start (x:Nat→Value) (hb:jn w1 b L) (hc:jn w1 c M):fY w1 B b c L M L' M' n a (fun _=>false) x w1.drew :=
 ⟨(fun _ _ h=>nomatch h),(fun h=>nomatch h),(fun h=>nomatch h),(fun h=>nomatch h),(fun h=>nomatch h),(zb.refl _ w1).drew,jq.start ⟨hb,hc⟩⟩
theorem fY.quiet (h:fY w1 B b c L M L' M' n a D x W) (i:Nat) (v:Value) (hi:[12,14,15,17].contains i=false) (hy:i<12→YPut9 B b c n a i v)
  (h13:i=13→D 12=true∧∃ v0,x 12=.tuple #[v0,v]) (h16:i=16→D 15=true∧∃ v0,x 15=.tuple #[v0,v]):fY w1 B b c L M L' M' n a (yK D i) (upd x i v) W:=by
 have n12:12≠i:=fun e=>by subst e; simp at hi
 have n15:15≠i:=fun e=>by subst e; simp at hi
 have u12:upd x i v 12=x 12:=if_neg n12
 have u15:upd x i v 15=x 15:=if_neg n15
 have d12:yK D i 12=D 12:=if_neg n12
 have d15:yK D i 15=D 15:=if_neg n15
 refine ⟨fun j hj hd=>?_,fun hd=>?_,fun hd=>?_,fun hd=>?_,fun hd=>?_,h.t,?_⟩
 ·
  by_cases e:j=i
  ·
   subst e; rw [show upd x j v j=v from if_pos rfl]; exact hy hj
  ·
   rw [show upd x i v j=x j from if_neg e]; rw [show yK D i j=D j from if_neg e] at hd; exact h.y j hj hd
 ·
  rw [u12]; rw [d12] at hd; exact h.e12 hd
 ·
  rw [u15]; rw [d15] at hd; exact h.e15 hd
 ·
  rw [u12,d12]
  by_cases e:13=i
  ·
   subst e; rw [show upd x 13 v 13=v from if_pos rfl]; exact h13 rfl
  ·
   rw [show upd x i v 13=x 13 from if_neg e]; rw [show yK D i 13=D 13 from if_neg e] at hd; exact h.e13 hd
 ·
  rw [u15,d15]
  by_cases e:16=i
  ·
   subst e; rw [show upd x 16 v 16=v from if_pos rfl]; exact h16 rfl
  ·
   rw [show upd x i v 16=x 16 from if_neg e]; rw [show yK D i 16=D 16 from if_neg e] at hd; exact h.e16 hd
 ·
  rw [u12,u15]; exact h.s.same i hi (fun _ h=>h)
theorem Xs {W W':World} {b i:Nat} (ht:W.mapTurned W' b) (hne:i≠b):W'.heap[i]? = W.heap[i]? := uV ht (fun e=>hne e.symm)
theorem fY.turn (h:fY w1 B b c L M L' M' n a D x W) {k:Nat} (hk:k=b∨k=c) (ht:W.mapTurned W' k):zb (fun i=>i=b∨i=c) w1 W' :=
 h.t.grown ht.grown (fun j hj _=>by cases hj; exact hk)
theorem fY.y2 (h:fY w1 B b c L M L' M' n a D x W) (i:Nat) (v:Value) (hi:¬ i<12):∀ j,j<12→yK D i j=true→YPut9 B b c n a j (upd x i v j):=fun j hj hd=>by
 have e:j≠i:=fun e=>hi (e ▸ hj)
 rw [show upd x i v j=x j from if_neg e]; rw [show yK D i j=D j from if_neg e] at hd; exact h.y j hj hd
theorem fY.at12 (h:fY w1 B b c L M L' M' n a D x W) (hD:D 12=false) {v0:Value} {st:Nat} (hH:UZ W' b L' (.int .i64 (st:Int)) (.string a)) (ht:W.mapTurned W' b) (hbc:b≠c) :
  fY w1 B b c L M L' M' n a (yK D 12) (upd x 12 (.tuple #[v0,.int .i64 (st:Int)])) W':=by
 have u12:upd x 12 (.tuple #[v0,.int .i64 (st:Int)]) 12=.tuple #[v0,.int .i64 (st:Int)]:=if_pos rfl
 have hs:=h.s.at_ 0 (by decide) hD (.inl rfl)
 refine ⟨h.y2 12 _ (by decide),fun _=>⟨v0,st,u12⟩,fun hd=>h.e15 hd,fun hd=>?_,fun hd=>h.e16 hd,h.turn (.inl rfl) ht,?_⟩
 ·
  have:=(h.e13 hd).1
  rw [hD] at this; cases this
 ·
  refine h.s.move9 0 12 (by decide) rfl hD (.inl rfl) (by decide) ⟨⟨v0,st,u12,hH⟩,hs.2.kept (Xs ht hbc.symm)⟩
theorem fY.at14 (h:fY w1 B b c L M L' M' n a D x W) (hD:D 14=false) (h12:D 12=true) {v:Value} (hm:jn W' b L') (ht:W.mapTurned W' b) (hbc:b≠c) :
  fY w1 B b c L M L' M' n a (yK D 14) (upd x 14 v) W':=by
 have hs:=h.s.at_ 1 (by decide) hD (.inr h12)
 refine ⟨h.y2 14 _ (by decide),fun hd=>h.e12 hd,fun hd=>h.e15 hd,fun hd=>h.e13 hd,fun hd=>h.e16 hd,h.turn (.inl rfl) ht,?_⟩
 exact h.s.move9 1 14 (by decide) rfl hD (.inr h12) (by decide) ⟨hm,hs.2.kept (Xs ht hbc.symm)⟩
theorem fY.at15 (h:fY w1 B b c L M L' M' n a D x W) (hD:D 15=false) (h14:D 14=true) {v0:Value} {st:Nat} (hH:UZ W' c M' (.int .i64 (st:Int)) (.string n)) (ht:W.mapTurned W' c) (hbc:b≠c) :
  fY w1 B b c L M L' M' n a (yK D 15) (upd x 15 (.tuple #[v0,.int .i64 (st:Int)])) W':=by
 have u15:upd x 15 (.tuple #[v0,.int .i64 (st:Int)]) 15=.tuple #[v0,.int .i64 (st:Int)]:=if_pos rfl
 have hs:=h.s.at_ 2 (by decide) hD (.inr h14)
 refine ⟨h.y2 15 _ (by decide),fun hd=>h.e12 hd,fun _=>⟨v0,st,u15⟩,fun hd=>h.e13 hd,fun hd=>?_,h.turn (.inr rfl) ht,?_⟩
 ·
  have:=(h.e16 hd).1
  rw [hD] at this; cases this
 ·
  exact h.s.move9 2 15 (by decide) rfl hD (.inr h14) (by decide) ⟨hs.1.kept (Xs ht hbc),⟨v0,st,u15,hH⟩⟩
theorem fY.at17 (h:fY w1 B b c L M L' M' n a D x W) (hD:D 17=false) (h15:D 15=true) {v:Value} (hm:jn W' c M') (ht:W.mapTurned W' c) (hbc:b≠c) :
  fY w1 B b c L M L' M' n a (yK D 17) (upd x 17 v) W':=by
 have hs:=h.s.at_ 3 (by decide) hD (.inr h15)
 refine ⟨h.y2 17 _ (by decide),fun hd=>h.e12 hd,fun hd=>h.e15 hd,fun hd=>h.e13 hd,fun hd=>h.e16 hd,h.turn (.inr rfl) ht,?_⟩
 exact h.s.move9 3 17 (by decide) rfl hD (.inr h15) (by decide) ⟨hs.1.kept (Xs ht hbc),hm⟩
end

theorem blk_set0 {W:World} {B:Nat} {u v:Value} {T:TypeId} (v':Value) (h:W.heap[B]? = some (.cells #[u,v] T (0,0))):(W.setCell ⟨B,0,none⟩ v').heap[B]? = some (.cells #[v',v] T (0,0)):=by
 obtain ⟨hlt,hk⟩:=Array.getElem?_eq_some_iff.1 h
 show (W.heap.modify B _)[B]? = _
 rw [Array.getElem?_eq_getElem (by rw [Array.size_modify]; exact hlt),Array.getElem_modify_self,hk]
 rfl
theorem blk_set1 {W:World} {B:Nat} {u v:Value} {T:TypeId} (v':Value) (h:W.heap[B]? = some (.cells #[u,v] T (0,0))):(W.setCell ⟨B,1,none⟩ v').heap[B]? = some (.cells #[u,v'] T (0,0)):=by
 obtain ⟨hlt,hk⟩:=Array.getElem?_eq_some_iff.1 h
 show (W.heap.modify B _)[B]? = _
 rw [Array.getElem?_eq_getElem (by rw [Array.size_modify]; exact hlt),Array.getElem_modify_self,hk]
 rfl

set_option maxRecDepth 100000 in
theorem JZ (B:Nat) (p q:Option Nat) (L M:zq) (n a:ByteArray) (w:World) (h:vE w B p q L M) (hm:May9 (n.data.toList,a.data.toList)) (hfree:Up (uH L n.data.toList) a.data.toList=false) (hf:(vB L n.data.toList a.data.toList).length≤100) :
  Calls Tryz.prog 222 #[.pointer (some ⟨B,0,none⟩),.string n,.string a] w fun e w'=>e=.returned (.tuple #[])∧uy w B p q (vB L n.data.toList a.data.toList) w':=by
 have hn':n.size≤maxLen:=by have:=name5_len hm.1; rw [zh] at this; exact Nat.le_trans this (by decide)
 have ha':a.size≤maxLen:=by have:=ZI hm.2.1; rw [zh] at this; exact Nat.le_trans this (by decide)
 have HD:=z8 (ZU B p q L M n w h hn')
 have hall:∀ y∈vB L n.data.toList a.data.toList,May9 y:=fun y hy=>by
  rcases vd.1 hy with rfl | ⟨hy,_⟩
  ·
   exact hm
  ·
   exact h.all y hy
 have hpd:=put_del h.rise n.data.toList a.data.toList
 have HPD:Hid (vB (uH L n.data.toList) n.data.toList a.data.toList=vB L n.data.toList a.data.toList):=hpd
 have HF:Hid ((uH L n.data.toList).length≤1000):=Nat.le_trans (List.length_filter_le _ _) (Nat.le_trans h.few (by decide))
 have HALL:=z8 hall
 have HLN:=z8 hf
 have hlt0:=h.lt
 have hlp:=h.plt
 have hlq:=h.qlt
 clear h hm hall hpd hf
 go_enter Tryz.func222,Tryz.ntmps222
 go_wp2_with fail
 with_reducible refine HD.out.mono ?_
 rintro e w1 ⟨rfl,⟨M1,hi⟩,ht⟩
 have HI:=z8 hi
 have HT:=z8 ht
 have hfr:Up (uH L n.data.toList) a.data.toList=false:=hfree
 have hmir:=hi.mir.put (XY L n.data.toList) hfr
 rw [HPD.out] at hmir
 have HMIR:=z8 hmir
 have HG:Hid (M1.length≤1000):=by show _≤_; rw [hi.mir.length]; exact HF.out
 have hq:=nilmap9 w1 p
 have hc0:=hi.cell0
 clear ht hmir hfr HD
 cases p with
 | none =>
  have hqn:q=none:=by
   have:=hi.both
   cases q with
   | none=>rfl
   | some c=>cases this
  subst hqn
  have hL1:=hi.mapp.nil rfl
  have hM1:=hi.mapq.nil rfl
  have f0:=hi.frozen0
  have f1:=hi.frozen1
  have hc1:=hi.cell1
  have hblk:=hi.blk
  have hblt:=hi.lt
  have hmm:=@run_makeMap Tryz.prog
  have hs0:((w1.setCell ⟨B,0,none⟩ (.map (some w1.heap.size))).setCell ⟨B,1,none⟩ (.map (some (w1.heap.size+1)))).heap.size=w1.heap.size:=by simp [World.setCell]
  have hb0:=blk_set1 (.map (some (w1.heap.size+1))) (blk_set0 (.map (some w1.heap.size)) hblk)
  have hb2:(((w1.setCell ⟨B,0,none⟩ (.map (some w1.heap.size))).setCell ⟨B,1,none⟩ (.map (some (w1.heap.size+1)))).alloc (.map #[] 0)).heap[B]? = _:=(Below.heap_alloc _ _ B (by omega)).trans hb0
  have hb3:((((w1.setCell ⟨B,0,none⟩ (.map (some w1.heap.size))).setCell ⟨B,1,none⟩ (.map (some (w1.heap.size+1)))).alloc (.map #[] 0)).alloc (.map #[] 0)).heap[B]? = _:=(Below.heap_alloc _ _ B (by simp; omega)).trans hb2
  have m1:=World.ownsMap_made (H:=Unit) ((w1.setCell ⟨B,0,none⟩ (.map (some w1.heap.size))).setCell ⟨B,1,none⟩ (.map (some (w1.heap.size+1)))) Tryz.prog 9 (plainElem Tryz.prog 9)
  have m2:=World.ownsMap_made (H:=Unit) (((w1.setCell ⟨B,0,none⟩ (.map (some w1.heap.size))).setCell ⟨B,1,none⟩ (.map (some (w1.heap.size+1)))).alloc (.map #[] 0)) Tryz.prog 9 (plainElem Tryz.prog 9)
  have m1':=m1.alloc (.map #[] 0)
  rw [hs0] at m1'
  rw [World.size_alloc,hs0] at m2
  have e0:(.map []:DataW Unit)=fP []:=rfl
  rw [e0] at m1' m2
  have hT2:zb (fun i=>i=B) w1 ((((w1.setCell ⟨B,0,none⟩ (.map (some w1.heap.size))).setCell ⟨B,1,none⟩ (.map (some (w1.heap.size+1)))).alloc (.map #[] 0)).alloc (.map #[] 0)):=((((zb.refl (fun i=>i=B) w1).setCell (p:=⟨B,0,none⟩) (fun _=>rfl) _).setCell (p:=⟨B,1,none⟩) (fun _=>rfl) _).alloc _).alloc _
  have hB1:=jn.of (L:=[]) m1'
  rw [← hL1] at hB1
  have hB2:=jn.of (L:=[]) m2
  rw [← hM1] at hB2
  have HB1:=z8 hB1
  have HB2:=z8 hB2
  clear hB1 hB2
  have hz:((((w1.setCell ⟨B,0,none⟩ (.map (some w1.heap.size))).setCell ⟨B,1,none⟩ (.map (some (w1.heap.size+1)))).alloc (.map #[] 0)).alloc (.map #[] 0)).heap.size=w1.heap.size+2:=by rw [World.size_alloc,World.size_alloc,hs0]
  clear m1 m2 m1' e0 hb2 hb0 hs0 hi hlp hlq
  go_wp2
  clear hc0 hc1 hq f0 f1 hmm hblk
  generalize ((((w1.setCell ⟨B,0,none⟩ (.map (some w1.heap.size))).setCell ⟨B,1,none⟩ (.map (some (w1.heap.size+1)))).alloc (.map #[] 0)).alloc (.map #[] 0))=w2 at *
  have hsz:=HT.out.size
  generalize hc:w1.heap.size+1=c at *
  generalize hb:w1.heap.size=b at *
  have hbc:b≠c:=by omega
  have HBL:Hid (B<w2.heap.size):=by show _<_; omega
  have HBN:Hid (¬ (B=b∨B=c)):=by show ¬ _; omega
  have HC0:Hid (w2.cell? ⟨B,0,none⟩=some (.map (some b))):=by show _=_; simp [World.cell?,hb3]
  have HC1:Hid (w2.cell? ⟨B,1,none⟩=some (.map (some c))):=by show _=_; simp [World.cell?,hb3]
  have HEND:Hid (∀ W,zb (fun i=>i=b∨i=c) w2 W→jn W b (vB L n.data.toList a.data.toList)→jn W c (vB M1 a.data.toList n.data.toList)→uy w B none none (vB L n.data.toList a.data.toList) W):=fun W hW h1 h2=>by
   refine ⟨some b,some c,_,⟨(hW.block B HBL.out HBN.out).trans hb3,⟨(fun h=>nomatch h),fun b' e=>by cases e; exact h1⟩,⟨(fun h=>nomatch h),fun b' e=>by cases e; exact h2⟩,rfl,(fun _ _ e1 e2=>by cases e1; cases e2; exact hbc),HMIR.out,HLN.out,HALL.out⟩,(fun _ e=>.inr (by cases e; omega)),(fun _ e=>.inr (by cases e; omega)),?_⟩
   exact (HT.out.next hT2 (fun i _ e=>.inl e)).next hW (fun i hi e=>by omega)
  clear HI HT HMIR HLN HALL hT2 hb3 hL1 hM1
  refine vr (by kernel_rfl) (fY w2 B b c (uH L n.data.toList) M1 (vB L n.data.toList a.data.toList) (vB M1 a.data.toList n.data.toList) n a) ?F ?hF (by kernel_rfl) (by kernel_rfl) (fun x=>fY.start x HB1.out HB2.out) ?step ?fin
  case hF =>
   intro x
   simp only [List.map_cons,List.map_nil,xc,Act.put,List.setIfInBounds_toArray,List.set_cons_zero,List.set_cons_succ,Nat.zero_add,Nat.reduceAdd]
   exact rfl
  case step =>
   rw [← HPD.out]
   refine ⟨?_,?_,?_,?_,?_,?_,?_,?_,?_,?_,?_,?_,?_,?_,?_,?_,?_,?_,trivial⟩
   ·
    intro D x W hi hd hI K hK
    clear hd
    go_simp
    exact hK _ _ (hI.quiet 0 _ rfl (fun _=>rfl) (fun h=>absurd h (by decide)) (fun h=>absurd h (by decide)))
   ·
    intro D x W hi hd hI K hK
    have h0:x 0=_:=hI.y 0 (by decide) (hd 0 rfl)
    clear hd
    simp only [h0] at hK
    go_simp
    exact hK _ _ (hI.quiet 1 _ rfl (fun _=>rfl) (fun h=>absurd h (by decide)) (fun h=>absurd h (by decide)))
   ·
    intro D x W hi hd hI K hK
    have h1:x 1=_:=hI.y 1 (by decide) (hd 1 rfl)
    clear hd
    simp only [h1] at hK
    go_simp
    exact hK _ _ (hI.quiet 2 _ rfl (fun _=>rfl) (fun h=>absurd h (by decide)) (fun h=>absurd h (by decide)))
   ·
    intro D x W hi hd hI K hK
    have h2:x 2=_:=hI.y 2 (by decide) (hd 2 rfl)
    have c:=(hI.t.cell (p:=⟨B,0,none⟩) HBL.out HBN.out).trans HC0.out
    clear hd
    simp only [h2] at hK
    go_simp
    exact hK _ _ (hI.quiet 3 _ rfl (fun _=>rfl) (fun h=>absurd h (by decide)) (fun h=>absurd h (by decide)))
   ·
    intro D x W hi hd hI K hK
    clear hd
    go_simp
    exact hK _ _ (hI.quiet 4 _ rfl (fun _=>rfl) (fun h=>absurd h (by decide)) (fun h=>absurd h (by decide)))
   ·
    intro D x W hi hd hI K hK
    clear hd
    go_simp
    exact hK _ _ (hI.quiet 5 _ rfl (fun _=>rfl) (fun h=>absurd h (by decide)) (fun h=>absurd h (by decide)))
   ·
    intro D x W hi hd hI K hK
    have h5:x 5=_:=hI.y 5 (by decide) (hd 5 rfl)
    clear hd
    simp only [h5] at hK
    go_simp
    exact hK _ _ (hI.quiet 6 _ rfl (fun _=>rfl) (fun h=>absurd h (by decide)) (fun h=>absurd h (by decide)))
   ·
    intro D x W hi hd hI K hK
    have h6:x 6=_:=hI.y 6 (by decide) (hd 6 rfl)
    clear hd
    simp only [h6] at hK
    go_simp
    exact hK _ _ (hI.quiet 7 _ rfl (fun _=>rfl) (fun h=>absurd h (by decide)) (fun h=>absurd h (by decide)))
   ·
    intro D x W hi hd hI K hK
    have h7:x 7=_:=hI.y 7 (by decide) (hd 7 rfl)
    have c:=(hI.t.cell (p:=⟨B,1,none⟩) HBL.out HBN.out).trans HC1.out
    clear hd
    simp only [h7] at hK
    go_simp
    exact hK _ _ (hI.quiet 8 _ rfl (fun _=>rfl) (fun h=>absurd h (by decide)) (fun h=>absurd h (by decide)))
   ·
    intro D x W hi hd hI K hK
    clear hd
    go_simp
    exact hK _ _ (hI.quiet 9 _ rfl (fun _=>rfl) (fun h=>absurd h (by decide)) (fun h=>absurd h (by decide)))
   ·
    intro D x W hi hd hI K hK
    clear hd
    go_simp
    exact hK _ _ (hI.quiet 10 _ rfl (fun _=>rfl) (fun h=>absurd h (by decide)) (fun h=>absurd h (by decide)))
   ·
    intro D x W hi hd hI K hK
    clear hd
    go_simp
    exact hK _ _ (hI.quiet 11 _ rfl (fun _=>rfl) (fun h=>absurd h (by decide)) (fun h=>absurd h (by decide)))
   ·
    intro D x W hi hd hI K hK
    have h3:x 3=_:=hI.y 3 (by decide) (hd 3 rfl)
    have h4:x 4=_:=hI.y 4 (by decide) (hd 4 rfl)
    obtain ⟨v0,st,W1,hrun,hH,hT⟩:=half9 (hI.s.at_ 0 (by decide) hi (.inl rfl)).1 HF.out n a hn' ha'
    clear hd
    simp only [h3,h4] at hK
    go_simp
    exact hK _ _ (hI.at12 hi hH hT hbc)
   ·
    intro D x W hi hd hI K hK
    have hp:=hd 12 rfl
    obtain ⟨v0,st,h12⟩:=hI.e12 hp
    clear hd
    simp only [h12] at hK
    go_simp
    exact hK _ _ (hI.quiet 13 _ rfl (fun h=>absurd h (by decide)) (fun _=>⟨hp,v0,by rw [h12]⟩) (fun h=>absurd h (by decide)))
   ·
    intro D x W hi hd hI K hK
    have h3:x 3=_:=hI.y 3 (by decide) (hd 3 rfl)
    have h10:x 10=_:=hI.y 10 (by decide) (hd 10 rfl)
    obtain ⟨⟨v0,st,e12,hH⟩,hM⟩:=hI.s.at_ 1 (by decide) hi (.inr (hd 12 rfl))
    obtain ⟨_,v1,e13⟩:=hI.e13 (hd 13 rfl)
    have h13:x 13=.int .i64 (st:Int):=(by rw [e12] at e13; simpa using e13.symm:v1=v0∧x 13=_).2
    obtain ⟨o,ho,hst⟩:=hH
    obtain ⟨W3,hrun,hm3,hT⟩:=hst W ho
    have hd12:=hd 12 rfl
    clear hd e13 e12 hst
    simp only [h3,h13,h10] at hK
    go_simp
    exact hK undef _ (hI.at14 hi hd12 hm3 hT hbc)
   ·
    intro D x W hi hd hI K hK
    have h8:x 8=_:=hI.y 8 (by decide) (hd 8 rfl)
    have h9:x 9=_:=hI.y 9 (by decide) (hd 9 rfl)
    obtain ⟨v0,st,W1,hrun,hH,hT⟩:=half9 (hI.s.at_ 2 (by decide) hi (.inr (hd 14 rfl))).2 HG.out a n ha' hn'
    have hd14:=hd 14 rfl
    clear hd
    simp only [h8,h9] at hK
    go_simp
    exact hK _ _ (hI.at15 hi hd14 hH hT hbc)
   ·
    intro D x W hi hd hI K hK
    have hp:=hd 15 rfl
    obtain ⟨v0,st,h15⟩:=hI.e15 hp
    clear hd
    simp only [h15] at hK
    go_simp
    exact hK _ _ (hI.quiet 16 _ rfl (fun h=>absurd h (by decide)) (fun h=>absurd h (by decide)) (fun _=>⟨hp,v0,by rw [h15]⟩))
   ·
    intro D x W hi hd hI K hK
    have h8:x 8=_:=hI.y 8 (by decide) (hd 8 rfl)
    have h11:x 11=_:=hI.y 11 (by decide) (hd 11 rfl)
    obtain ⟨hM,v0,st,e15,hH⟩:=hI.s.at_ 3 (by decide) hi (.inr (hd 15 rfl))
    obtain ⟨_,v1,e16⟩:=hI.e16 (hd 16 rfl)
    have h16:x 16=.int .i64 (st:Int):=(by rw [e15] at e16; simpa using e16.symm:v1=v0∧x 16=_).2
    obtain ⟨o,ho,hst⟩:=hH
    obtain ⟨W3,hrun,hm3,hT⟩:=hst W ho
    have hd15:=hd 15 rfl
    clear hd e16 e15 hst
    simp only [h8,h16,h11] at hK
    go_simp
    exact hK undef _ (hI.at17 hi hd15 hm3 hT hbc)
  case fin =>
   intro D x W hall hI
   have HZ:=z8 (HEND.out W hI.t (hI.s.done9 (fun r hr=>hall _ (by simp at hr; rcases r with _ | _ | _ | _ | r <;> first | decide | omega))).1 (hI.s.done9 (fun r hr=>hall _ (by simp at hr; rcases r with _ | _ | _ | _ | r <;> first | decide | omega))).2)
   clear hI hall
   go_end0
   exact ⟨rfl,HZ.out⟩
 | some b =>
  obtain ⟨c,rfl⟩:∃ c,q=some c:=by
   have:=hi.both
   cases q with
   | none=>cases this
   | some c=>exact ⟨c,rfl⟩
  have hbc:=hi.apt b c rfl rfl
  have HB1:=z8 (hi.mapp.map b rfl)
  have HB2:=z8 (hi.mapq.map c rfl)
  have HBL:=z8 hi.lt
  have HBN:Hid (¬ (B=b∨B=c)):=fun e=>e.elim (fun e=>hi.pne b rfl e.symm) (fun e=>hi.qne c rfl e.symm)
  have HC0:=z8 hi.cell0
  have HC1:=z8 hi.cell1
  have HEND:Hid (∀ W,zb (fun i=>i=b∨i=c) w1 W→jn W b (vB L n.data.toList a.data.toList)→jn W c (vB M1 a.data.toList n.data.toList)→uy w B (some b) (some c) (vB L n.data.toList a.data.toList) W):=fun W hW h1 h2=>by
   refine ⟨some b,some c,_,⟨(hW.block B HBL.out HBN.out).trans HI.out.blk,⟨(fun h=>nomatch h),fun b' e=>by cases e; exact h1⟩,⟨(fun h=>nomatch h),fun b' e=>by cases e; exact h2⟩,rfl,(fun _ _ e1 e2=>by cases e1; cases e2; exact hbc),HMIR.out,HLN.out,HALL.out⟩,(fun _ e=>.inl e),(fun _ e=>.inl e),?_⟩
   exact HT.out.next hW (fun i _ e=>e.elim (fun e=>.inr (.inl (by rw [e]))) (fun e=>.inr (.inr (by rw [e]))))
  clear hi HI HT HMIR HLN HALL hlp hlq hlt0
  go_wp2
  clear hc0 hq
  generalize w1=w2 at *
  refine vr (by kernel_rfl) (fY w2 B b c (uH L n.data.toList) M1 (vB L n.data.toList a.data.toList) (vB M1 a.data.toList n.data.toList) n a) ?F2 ?hF2 (by kernel_rfl) (by kernel_rfl) (fun x=>fY.start x HB1.out HB2.out) ?step2 ?Uz
  case hF2 =>
   intro x
   simp only [List.map_cons,List.map_nil,xc,Act.put,List.setIfInBounds_toArray,List.set_cons_zero,List.set_cons_succ,Nat.zero_add,Nat.reduceAdd]
   exact rfl
  case step2 =>
   rw [← HPD.out]
   refine ⟨?_,?_,?_,?_,?_,?_,?_,?_,?_,?_,?_,?_,?_,?_,?_,?_,?_,?_,trivial⟩
   ·
    intro D x W hi hd hI K hK
    clear hd
    go_simp
    exact hK _ _ (hI.quiet 0 _ rfl (fun _=>rfl) (fun h=>absurd h (by decide)) (fun h=>absurd h (by decide)))
   ·
    intro D x W hi hd hI K hK
    have h0:x 0=_:=hI.y 0 (by decide) (hd 0 rfl)
    clear hd
    simp only [h0] at hK
    go_simp
    exact hK _ _ (hI.quiet 1 _ rfl (fun _=>rfl) (fun h=>absurd h (by decide)) (fun h=>absurd h (by decide)))
   ·
    intro D x W hi hd hI K hK
    have h1:x 1=_:=hI.y 1 (by decide) (hd 1 rfl)
    clear hd
    simp only [h1] at hK
    go_simp
    exact hK _ _ (hI.quiet 2 _ rfl (fun _=>rfl) (fun h=>absurd h (by decide)) (fun h=>absurd h (by decide)))
   ·
    intro D x W hi hd hI K hK
    have h2:x 2=_:=hI.y 2 (by decide) (hd 2 rfl)
    have c:=(hI.t.cell (p:=⟨B,0,none⟩) HBL.out HBN.out).trans HC0.out
    clear hd
    simp only [h2] at hK
    go_simp
    exact hK _ _ (hI.quiet 3 _ rfl (fun _=>rfl) (fun h=>absurd h (by decide)) (fun h=>absurd h (by decide)))
   ·
    intro D x W hi hd hI K hK
    clear hd
    go_simp
    exact hK _ _ (hI.quiet 4 _ rfl (fun _=>rfl) (fun h=>absurd h (by decide)) (fun h=>absurd h (by decide)))
   ·
    intro D x W hi hd hI K hK
    clear hd
    go_simp
    exact hK _ _ (hI.quiet 5 _ rfl (fun _=>rfl) (fun h=>absurd h (by decide)) (fun h=>absurd h (by decide)))
   ·
    intro D x W hi hd hI K hK
    have h5:x 5=_:=hI.y 5 (by decide) (hd 5 rfl)
    clear hd
    simp only [h5] at hK
    go_simp
    exact hK _ _ (hI.quiet 6 _ rfl (fun _=>rfl) (fun h=>absurd h (by decide)) (fun h=>absurd h (by decide)))
   ·
    intro D x W hi hd hI K hK
    have h6:x 6=_:=hI.y 6 (by decide) (hd 6 rfl)
    clear hd
    simp only [h6] at hK
    go_simp
    exact hK _ _ (hI.quiet 7 _ rfl (fun _=>rfl) (fun h=>absurd h (by decide)) (fun h=>absurd h (by decide)))
   ·
    intro D x W hi hd hI K hK
    have h7:x 7=_:=hI.y 7 (by decide) (hd 7 rfl)
    have c:=(hI.t.cell (p:=⟨B,1,none⟩) HBL.out HBN.out).trans HC1.out
    clear hd
    simp only [h7] at hK
    go_simp
    exact hK _ _ (hI.quiet 8 _ rfl (fun _=>rfl) (fun h=>absurd h (by decide)) (fun h=>absurd h (by decide)))
   ·
    intro D x W hi hd hI K hK
    clear hd
    go_simp
    exact hK _ _ (hI.quiet 9 _ rfl (fun _=>rfl) (fun h=>absurd h (by decide)) (fun h=>absurd h (by decide)))
   ·
    intro D x W hi hd hI K hK
    clear hd
    go_simp
    exact hK _ _ (hI.quiet 10 _ rfl (fun _=>rfl) (fun h=>absurd h (by decide)) (fun h=>absurd h (by decide)))
   ·
    intro D x W hi hd hI K hK
    clear hd
    go_simp
    exact hK _ _ (hI.quiet 11 _ rfl (fun _=>rfl) (fun h=>absurd h (by decide)) (fun h=>absurd h (by decide)))
   ·
    intro D x W hi hd hI K hK
    have h3:x 3=_:=hI.y 3 (by decide) (hd 3 rfl)
    have h4:x 4=_:=hI.y 4 (by decide) (hd 4 rfl)
    obtain ⟨v0,st,W1,hrun,hH,hT⟩:=half9 (hI.s.at_ 0 (by decide) hi (.inl rfl)).1 HF.out n a hn' ha'
    clear hd
    simp only [h3,h4] at hK
    go_simp
    exact hK _ _ (hI.at12 hi hH hT hbc)
   ·
    intro D x W hi hd hI K hK
    have hp:=hd 12 rfl
    obtain ⟨v0,st,h12⟩:=hI.e12 hp
    clear hd
    simp only [h12] at hK
    go_simp
    exact hK _ _ (hI.quiet 13 _ rfl (fun h=>absurd h (by decide)) (fun _=>⟨hp,v0,by rw [h12]⟩) (fun h=>absurd h (by decide)))
   ·
    intro D x W hi hd hI K hK
    have h3:x 3=_:=hI.y 3 (by decide) (hd 3 rfl)
    have h10:x 10=_:=hI.y 10 (by decide) (hd 10 rfl)
    obtain ⟨⟨v0,st,e12,hH⟩,hM⟩:=hI.s.at_ 1 (by decide) hi (.inr (hd 12 rfl))
    obtain ⟨_,v1,e13⟩:=hI.e13 (hd 13 rfl)
    have h13:x 13=.int .i64 (st:Int):=(by rw [e12] at e13; simpa using e13.symm:v1=v0∧x 13=_).2
    obtain ⟨o,ho,hst⟩:=hH
    obtain ⟨W3,hrun,hm3,hT⟩:=hst W ho
    have hd12:=hd 12 rfl
    clear hd e13 e12 hst
    simp only [h3,h13,h10] at hK
    go_simp
    exact hK undef _ (hI.at14 hi hd12 hm3 hT hbc)
   ·
    intro D x W hi hd hI K hK
    have h8:x 8=_:=hI.y 8 (by decide) (hd 8 rfl)
    have h9:x 9=_:=hI.y 9 (by decide) (hd 9 rfl)
    obtain ⟨v0,st,W1,hrun,hH,hT⟩:=half9 (hI.s.at_ 2 (by decide) hi (.inr (hd 14 rfl))).2 HG.out a n ha' hn'
    have hd14:=hd 14 rfl
    clear hd
    simp only [h8,h9] at hK
    go_simp
    exact hK _ _ (hI.at15 hi hd14 hH hT hbc)
   ·
    intro D x W hi hd hI K hK
    have hp:=hd 15 rfl
    obtain ⟨v0,st,h15⟩:=hI.e15 hp
    clear hd
    simp only [h15] at hK
    go_simp
    exact hK _ _ (hI.quiet 16 _ rfl (fun h=>absurd h (by decide)) (fun h=>absurd h (by decide)) (fun _=>⟨hp,v0,by rw [h15]⟩))
   ·
    intro D x W hi hd hI K hK
    have h8:x 8=_:=hI.y 8 (by decide) (hd 8 rfl)
    have h11:x 11=_:=hI.y 11 (by decide) (hd 11 rfl)
    obtain ⟨hM,v0,st,e15,hH⟩:=hI.s.at_ 3 (by decide) hi (.inr (hd 15 rfl))
    obtain ⟨_,v1,e16⟩:=hI.e16 (hd 16 rfl)
    have h16:x 16=.int .i64 (st:Int):=(by rw [e15] at e16; simpa using e16.symm:v1=v0∧x 16=_).2
    obtain ⟨o,ho,hst⟩:=hH
    obtain ⟨W3,hrun,hm3,hT⟩:=hst W ho
    have hd15:=hd 15 rfl
    clear hd e16 e15 hst
    simp only [h8,h16,h11] at hK
    go_simp
    exact hK undef _ (hI.at17 hi hd15 hm3 hT hbc)
  case Uz =>
   intro D x W hall hI
   have HZ:=z8 (HEND.out W hI.t (hI.s.done9 (fun r hr=>hall _ (by simp at hr; rcases r with _ | _ | _ | _ | r <;> first | decide | omega))).1 (hI.s.done9 (fun r hr=>hall _ (by simp at hr; rcases r with _ | _ | _ | _ | r <;> first | decide | omega))).2)
   clear hI hall
   go_end0
   exact ⟨rfl,HZ.out⟩
end Go.Proofs.YthmomkjingcbiaaGreatDoor
namespace Go.Proofs.YthmomkjingcbiaaGreatDoor
open Go.RowKit Go.Maps Go.Shelf

theorem uy.after {w w1 w':World} {B:Nat} {p q:Option Nat} {L':zq} (ht:J4 B p q w w1) (h:uy w1 B p q L' w'):uy w B p q L' w':=by
 obtain ⟨p',q',M',hd,hp,hq,hu⟩:=h
 exact ⟨p',q',M',hd,fun b e=>(hp b e).imp id (fun h=>Nat.le_trans ht.size h),fun b e=>(hq b e).imp id (fun h=>Nat.le_trans ht.size h),zb.next ht hu (fun i _ h=>h)⟩

def Vm (L:zq) (n a:List UInt8):Bool:=Up L a && decide (VW L a≠n)
def qO (L:zq) (n m:List UInt8):Int:=if zm n then (if m=[] then 0 else if yV m then (if Vm L n (zF m) then 9 else 0) else 11) else 10
def VA (L:zq) (n m:List UInt8):zq:=if qO L n m=0 then (if m=[] then uH L n else vB L n (zF m)) else L

theorem free9 {L M:zq} (h:yo L M) {n a:List UInt8} (hb:Vm L n a=false):Up (uH L n) a=false:=by
 cases hd:Up (uH L n) a
 ·
  rfl
 ·
  obtain ⟨h1,h2⟩:=xO.1 (jO hd)
  have h3:Up L a=true:=jK h1
  have h4:VW L a=VW (uH L n) a:=h.own h1
  unfold Vm at hb
  rw [h3,Bool.true_and,decide_eq_false_iff_not] at hb
  have h5:VW L a=n:=by
   by_cases e:VW L a=n
   ·
    exact e
   ·
    exact absurd e hb
  exact absurd (h4.symm.trans h5) h2
theorem put_le9 {L:zq} (hr:xC L) (n a:List UInt8):(vB L n a).length≤L.length+1:=by
 rw [qq hr]; split <;> omega
theorem ur (l:List UInt8):(ByteArray.mk (zF l).toArray).data.toList=zF l:=by simp

set_option maxRecDepth 100000 in
theorem JL (B:Nat) (p q:Option Nat) (L M:zq) (n m:ByteArray) (w:World) (h:vE w B p q L M) (hn:n.size≤9223372036854775807) (hmz:m.size≤9223372036854775807) (hl:L.length<100) (h5:vm w) :
  Calls Tryz.prog 221 #[.pointer (some ⟨B,0,none⟩),.string n,.string m] w fun e w'=>e=.returned (.int .i64 (qO L n.data.toList m.data.toList))∧uy w B p q (VA L n.data.toList m.data.toList) w':=by
 have hn':n.size≤maxLen:=Nat.le_trans hn (by decide)
 have HN:=z8 (vD n w hn)
 have HI:=z8 h
 unfold VA
 cases hb:zm n.data.toList with
 | false =>
  rw [hb] at HN
  have HN2:Hid (Calls Tryz.prog 52 #[.string n] w (yi 10 w)):=HN.out
  have e1:qO L n.data.toList m.data.toList=10:=by unfold qO; rw [hb]; rfl
  rw [e1,if_neg (by decide)]
  clear HN hb h e1
  go_enter Tryz.func221,Tryz.ntmps221
  go_wp2_with fail
  with_reducible refine HN2.out.mono ?_
  rintro e w1 ⟨rfl,hb⟩
  have HB:=z8 hb
  clear hb HN2
  go_wp2
  go_ret
  exact ⟨rfl,uy.still HI.out HB.out⟩
 | true =>
  rw [hb] at HN
  have HN2:Hid (Calls Tryz.prog 52 #[.string n] w (yi 0 w)):=HN.out
  have HNM:=z8 hb
  clear HN
  by_cases h0:m.size=0
  ·
   obtain rfl:m=⟨#[]⟩:=by
    obtain ⟨d⟩:=m
    obtain rfl:d=#[]:=Array.eq_empty_of_size_eq_zero h0
    rfl
   have e1:qO L n.data.toList (ByteArray.mk #[]).data.toList=0:=by unfold qO; rw [hb]; rfl
   rw [e1,if_pos rfl,if_pos (by rfl)]
   have HD:Hid (∀ W,vE W B p q L M→Calls Tryz.prog 120 #[.pointer (some ⟨B,0,none⟩),.string n] W fun e w'=>e=.returned (.bool (xn L n.data.toList))∧(∃ M',vE w' B p q (uH L n.data.toList) M')∧J4 B p q W w'):=fun W hW=>ZU B p q L M n W hW hn'
   clear hb h e1 hmz
   generalize xn L n.data.toList=r at *
   go_enter Tryz.func221,Tryz.ntmps221
   go_wp2_with fail
   with_reducible refine HN2.out.mono ?_
   rintro e w1 ⟨rfl,hb⟩
   have HB:=z8 hb
   have HD1:=z8 (HD.out w1 (HI.out.later hb))
   clear hb HN2 HD
   go_wp2_with fail
   with_reducible refine HD1.out.mono ?_
   rintro e w2 ⟨rfl,⟨M2,hi⟩,ht⟩
   have HF:Hid (uy w B p q (uH L n.data.toList) w2):=uy.ahead HB.out ⟨p,q,M2,hi,(fun _ e=>.inl e),(fun _ e=>.inl e),ht⟩
   clear hi ht HD1
   go_wp2
   go_ret
   exact ⟨rfl,HF.out⟩
  ·
   have hne:¬ m.toList=[]:=fun e=>h0 (by rw [← zh,← ByteArray.toList_eq,e]; rfl)
   have hne1:¬ m.data.toList=[]:=fun e=>h0 (by rw [← zh,e]; rfl)
   have hne2:m.toList.isEmpty=false:=by simpa using hne
   have HM:Hid (∀ W,vm W→Calls Tryz.prog 220 #[.string m] W (Mails5 (yV m.data.toList) (up m.data.toList) W)):=fun W hW=>X3 m W hmz hW
   have H5:=z8 h5
   cases hc:yV m.data.toList with
   | false =>
    have e1:qO L n.data.toList m.data.toList=11:=by unfold qO; rw [hb,if_pos rfl,if_neg hne1,hc]; rfl
    rw [e1,if_neg (by decide)]
    unfold up at HM
    rw [hc] at HM
    have HM2:Hid (∀ W,vm W→Calls Tryz.prog 220 #[.string m] W fun e w'=>e=.returned (.tuple #[.string ⟨#[]⟩,.int .i64 11])∧Below W.heap.size W w'):=HM.out
    clear HM hb h e1 hmz hc h5 hne1
    go_enter Tryz.func221,Tryz.ntmps221
    go_wp2_with fail
    with_reducible refine HN2.out.mono ?_
    rintro e w1 ⟨rfl,hb⟩
    have HB:=z8 hb
    have HM1:=z8 (HM2.out w1 (H5.out.later hb))
    clear hb HN2 HM2
    go_wp2_with fail
    with_reducible refine HM1.out.mono ?_
    rintro e w2 ⟨rfl,hb⟩
    have HF:=z8 (z7 HB.out hb)
    clear hb HM1
    go_wp2
    go_ret
    exact ⟨rfl,uy.still HI.out HF.out⟩
   | true =>
    unfold up at HM
    rw [hc] at HM
    have HM2:Hid (∀ W,vm W→Calls Tryz.prog 220 #[.string m] W fun e w'=>e=.returned (.tuple #[.string ⟨(zF m.data.toList).toArray⟩,.int .i64 0])∧Below W.heap.size W w'):=HM.out
    have hfz:(ByteArray.mk (zF m.data.toList).toArray).size≤maxLen:=by
     show (zF m.data.toList).toArray.size≤_
     rw [List.size_toArray,vh,zh]; exact Nat.le_trans hmz (by decide)
    have HLK:Hid (∀ W,vE W B p q L M→(Instr.lookup 76 (.map q) (.string ⟨(zF m.data.toList).toArray⟩) true).run Tryz.prog W=.ok (.tuple #[.string (tx7 (VW L (zF m.data.toList))),.bool (Up L (zF m.data.toList))]) W):=fun W hW=>by
     have:=look9 hW.mapq ⟨(zF m.data.toList).toArray⟩ hfz
     rw [ur,hW.mir.get,hW.mir.has] at this
     exact this
    have e0:qO L n.data.toList m.data.toList=if Vm L n.data.toList (zF m.data.toList) then 9 else 0:=by unfold qO; rw [hb,if_pos rfl,if_neg hne1,hc,if_pos rfl]
    have HP:Hid (Vm L n.data.toList (zF m.data.toList)=false→∀ W,Below w.heap.size w W→Calls Tryz.prog 222 #[.pointer (some ⟨B,0,none⟩),.string n,.string ⟨(zF m.data.toList).toArray⟩] W fun e w'=>e=.returned (.tuple #[])∧uy w B p q (vB L n.data.toList (zF m.data.toList)) w'):=fun hbd W hW=>by
     have hfr:=free9 h.mir hbd
     have:=JZ B p q L M n ⟨(zF m.data.toList).toArray⟩ W (h.later hW) (by rw [ur]; exact May9.of hb hc) (by rw [ur]; exact hfr) (by rw [ur]; exact Nat.le_trans (put_le9 h.rise _ _) hl)
     rw [ur] at this
     exact this.mono fun e w' ⟨he,hg⟩=>⟨he,hg.ahead hW⟩
    rw [if_neg hne1,e0]
    clear HM e0 hfz h5 hc
    cases hho:Up L (zF m.data.toList) with
    | false =>
     have hbd:Vm L n.data.toList (zF m.data.toList)=false:=by unfold Vm; rw [hho]; rfl
     have HP2:=z8 (HP.out hbd)
     rw [hbd,if_neg (by decide),if_pos rfl]
     rw [hho] at HLK
     clear HP hbd hho hb h hmz hne1
     generalize tx7 (VW L (zF m.data.toList))=o at *
     generalize (⟨(zF m.data.toList).toArray⟩:ByteArray)=f at *
     go_enter Tryz.func221,Tryz.ntmps221
     go_wp2_with fail
     with_reducible refine HN2.out.mono ?_
     rintro e w1 ⟨rfl,hb⟩
     have HB:=z8 hb
     have HM1:=z8 (HM2.out w1 (H5.out.later hb))
     clear hb HN2 HM2
     go_wp2_with fail
     with_reducible refine HM1.out.mono ?_
     rintro e w2 ⟨rfl,hb⟩
     have hb2:=z7 HB.out hb
     have l1:=HLK.out w2 (HI.out.later hb2)
     have c1:=(HI.out.later hb2).cell1
     have HP3:=z8 (HP2.out w2 hb2)
     clear hb HM1 HLK HP2 hb2
     go_wp2_with fail
     with_reducible refine HP3.out.mono ?_
     rintro e w3 ⟨rfl,hg⟩
     have HG:=z8 hg
     clear hg HP3 l1 c1
     go_wp2
     go_ret
     exact ⟨rfl,HG.out⟩
    | true =>
     rw [hho] at HLK
     by_cases ho:VW L (zF m.data.toList)=n.data.toList
     ·
      have hbd:Vm L n.data.toList (zF m.data.toList)=false:=by unfold Vm; rw [ho]; simp
      have HP2:=z8 (HP.out hbd)
      rw [hbd,if_neg (by decide),if_pos rfl]
      rw [ho,Z0] at HLK
      have n1:(n.toList != n.toList)=false:=by simp
      have n2:(n.toList == n.toList)=true:=by simp
      clear HP hbd hho hb h hmz ho hne1
      generalize (⟨(zF m.data.toList).toArray⟩:ByteArray)=f at *
      go_enter Tryz.func221,Tryz.ntmps221
      go_wp2_with fail
      with_reducible refine HN2.out.mono ?_
      rintro e w1 ⟨rfl,hb⟩
      have HB:=z8 hb
      have HM1:=z8 (HM2.out w1 (H5.out.later hb))
      clear hb HN2 HM2
      go_wp2_with fail
      with_reducible refine HM1.out.mono ?_
      rintro e w2 ⟨rfl,hb⟩
      have hb2:=z7 HB.out hb
      have l1:=HLK.out w2 (HI.out.later hb2)
      have c1:=(HI.out.later hb2).cell1
      have HP3:=z8 (HP2.out w2 hb2)
      clear hb HM1 HLK HP2 hb2
      go_wp2_with fail
      with_reducible refine HP3.out.mono ?_
      rintro e w3 ⟨rfl,hg⟩
      have HG:=z8 hg
      clear hg HP3 l1 c1
      go_wp2
      go_ret
      exact ⟨rfl,HG.out⟩
     ·
      have hbd:Vm L n.data.toList (zF m.data.toList)=true:=by unfold Vm; rw [hho,Bool.true_and,decide_eq_true ho]
      rw [hbd,if_pos rfl,if_neg (by decide)]
      have n1:¬ (tx7 (VW L (zF m.data.toList))).toList=n.toList:=by
       rw [Lib.toList_data,Lib.toList_data,yy]; exact ho
      have n2:((tx7 (VW L (zF m.data.toList))).toList == n.toList)=false:=by simpa using n1
      clear HP hbd hho hb h hmz ho hne1
      generalize tx7 (VW L (zF m.data.toList))=o at *
      generalize (⟨(zF m.data.toList).toArray⟩:ByteArray)=f at *
      go_enter Tryz.func221,Tryz.ntmps221
      go_wp2_with fail
      with_reducible refine HN2.out.mono ?_
      rintro e w1 ⟨rfl,hb⟩
      have HB:=z8 hb
      have HM1:=z8 (HM2.out w1 (H5.out.later hb))
      clear hb HN2 HM2
      go_wp2_with fail
      with_reducible refine HM1.out.mono ?_
      rintro e w2 ⟨rfl,hb⟩
      have hb2:=z7 HB.out hb
      have l1:=HLK.out w2 (HI.out.later hb2)
      have c1:=(HI.out.later hb2).cell1
      have HF:=z8 hb2
      clear hb HM1 HLK hb2
      go_wp2
      go_ret
      exact ⟨rfl,uy.still HI.out HF.out⟩


def New9 (w W:World) (b:Nat) (p q:Option Nat) (L M:zq):Prop:=vE W b p q L M∧w.heap.size≤b∧(∀ c,p=some c→w.heap.size≤c)∧(∀ c,q=some c→w.heap.size≤c)
theorem New9.later {w W W':World} {b:Nat} {p q:Option Nat} {L M:zq} (h:New9 w W b p q L M) (hb:Below W.heap.size W W'):New9 w W' b p q L M:=⟨h.1.later hb,h.2⟩
theorem vQ.later {w w':World} {p:Option Nat} {L:zq} (h:vQ w p L) (hb:Below w.heap.size w w'):vQ w' p L:=h.turns (zb.of_below hb (fun _=>False)) (fun _ _ f=>f)
theorem vQ.lt {w:World} {p:Option Nat} {L:zq} (h:vQ w p L):∀ b,p=some b→b<w.heap.size:=fun b hb=>(h.map b hb).lt

def YCp9 (B:Nat) (p q:Option Nat):Nat→Value→Prop
 | 2,v=>v=.pointer (some ⟨B,0,none⟩)
 | 3,v=>v=.map p
 | 7,v=>v=.pointer (some ⟨B,1,none⟩)
 | 8,v=>v=.map q
 | 4,_=>True
 | 9,_=>True
 | 10,_=>True
 | 11,_=>True
 | 12,_=>True
 | _,v=>v=.pointer (some ⟨B,0,none⟩)
def Cl9 (w W:World) (L:zq) (s:Bool) (p':Option Nat):Prop:=vQ W p' L∧p'.isSome=s∧∀ b,p'=some b→w.heap.size≤b
structure Cp9 (w:World) (B:Nat) (p q:Option Nat) (L M:zq) (D:Nat→Bool) (x:Nat→Value) (W:World):Prop where
 b:Below w.heap.size w W
 y:∀ {j:Nat},D j=true→YCp9 B p q j (x j)
 y4:D 4=true→∃ p',x 4=.map p'∧Cl9 w W L p.isSome p'
 y9:D 9=true→∃ q',x 9=.map q'∧Cl9 w W M q.isSome q'
 ne:D 4=true→D 9=true→∀ p' q',x 4=.map p'→x 9=.map q'→∀ b c,p'=some b→q'=some c→b≠c
 y10:D 10=true→∃ p' q',x 10=.agg #[.map p',.map q']∧Cl9 w W L p.isSome p'∧Cl9 w W M q.isSome q'∧∀ b c,p'=some b→q'=some c→b≠c
 y11:D 11=true→∃ b p' q',x 11=.pointer (some ⟨b,0,none⟩)∧New9 w W b p' q' L M
 y12:D 12=true→∃ b p' q',x 12=.pointer (some ⟨b,0,none⟩)∧New9 w W b p' q' L M
theorem Cl9.later {w W W':World} {L:zq} {s:Bool} {p':Option Nat} (h:Cl9 w W L s p') (hb:Below W.heap.size W W'):Cl9 w W' L s p':=⟨h.1.later hb,h.2⟩

section
variable {w W W':World} {B:Nat} {p q:Option Nat} {L M:zq} {D:Nat→Bool} {x:Nat→Value}
theorem vR {x:Nat→Value} {i:Nat} {v:Value}:upd x i v i=v:=if_pos rfl
theorem qM {x:Nat→Value} {i j:Nat} {v:Value} (h:j≠i):upd x i v j=x j:=if_neg h
theorem ub {D:Nat→Bool} {i j:Nat} (h:j≠i):yK D i j=D j:=if_neg h
theorem Cp9.more (h:Cp9 w B p q L M D x W) (i:Nat) (v:Value) (hb:Below W.heap.size W W') (hy:YCp9 B p q i v)
  (h4:i=4→∃ p',v=.map p'∧Cl9 w W' L p.isSome p'∧∀ b,p'=some b→W.heap.size≤b) (h9:i=9→∃ q',v=.map q'∧Cl9 w W' M q.isSome q'∧∀ b,q'=some b→W.heap.size≤b)
  (h10:i=10→∃ p' q',v=.agg #[.map p',.map q']∧Cl9 w W' L p.isSome p'∧Cl9 w W' M q.isSome q'∧∀ b c,p'=some b→q'=some c→b≠c)
  (h11:i=11→∃ b p' q',v=.pointer (some ⟨b,0,none⟩)∧New9 w W' b p' q' L M) (h12:i=12→∃ b p' q',v=.pointer (some ⟨b,0,none⟩)∧New9 w W' b p' q' L M):Cp9 w B p q L M (yK D i) (upd x i v) W':=by
 refine ⟨z7 h.b hb,fun {j} hd=>?_,fun hd=>?_,fun hd=>?_,fun hd4 hd9 p' q' e4 e9 b c eb ec=>?_,fun hd=>?_,fun hd=>?_,fun hd=>?_⟩
 ·
  by_cases e:j=i
  ·
   subst e; rw [vR]; exact hy
  ·
   rw [qM e]; rw [ub e] at hd; exact h.y hd
 ·
  by_cases e:4=i
  ·
   subst e; rw [vR]; obtain ⟨p',e1,e2,_⟩:=h4 rfl; exact ⟨p',e1,e2⟩
  ·
   rw [qM e]; rw [ub e] at hd; obtain ⟨p',e1,e2⟩:=h.y4 hd; exact ⟨p',e1,e2.later hb⟩
 ·
  by_cases e:9=i
  ·
   subst e; rw [vR]; obtain ⟨p',e1,e2,_⟩:=h9 rfl; exact ⟨p',e1,e2⟩
  ·
   rw [qM e]; rw [ub e] at hd; obtain ⟨p',e1,e2⟩:=h.y9 hd; exact ⟨p',e1,e2.later hb⟩
 ·
  subst eb ec
  by_cases i4:4=i
  ·
   subst i4
   rw [vR] at e4
   rw [qM (by decide)] at e9
   rw [ub (by decide)] at hd9
   obtain ⟨p',e1,_,e3⟩:=h4 rfl
   obtain ⟨q',f1,f2⟩:=h.y9 hd9
   rw [e4] at e1; rw [e9] at f1
   injection e1 with e1; injection f1 with f1
   have:=e3 b e1.symm
   have:=f2.1.lt c f1.symm
   omega
  ·
   by_cases i9:9=i
   ·
    subst i9
    rw [vR] at e9
    rw [qM (by decide)] at e4
    rw [ub (by decide)] at hd4
    obtain ⟨q',e1,_,e3⟩:=h9 rfl
    obtain ⟨p',f1,f2⟩:=h.y4 hd4
    rw [e9] at e1; rw [e4] at f1
    injection e1 with e1; injection f1 with f1
    have:=e3 c e1.symm
    have:=f2.1.lt b f1.symm
    omega
   ·
    rw [qM i4] at e4; rw [qM i9] at e9; rw [ub i4] at hd4; rw [ub i9] at hd9
    exact h.ne hd4 hd9 _ _ e4 e9 b c rfl rfl
 ·
  by_cases e:10=i
  ·
   subst e; rw [vR]; exact h10 rfl
  ·
   rw [qM e]; rw [ub e] at hd; obtain ⟨p',q',e1,e2,e3,e4⟩:=h.y10 hd; exact ⟨p',q',e1,e2.later hb,e3.later hb,e4⟩
 ·
  by_cases e:11=i
  ·
   subst e; rw [vR]; exact h11 rfl
  ·
   rw [qM e]; rw [ub e] at hd; obtain ⟨b,p',q',e1,e2⟩:=h.y11 hd; exact ⟨b,p',q',e1,e2.later hb⟩
 ·
  by_cases e:12=i
  ·
   subst e; rw [vR]; exact h12 rfl
  ·
   rw [qM e]; rw [ub e] at hd; obtain ⟨b,p',q',e1,e2⟩:=h.y12 hd; exact ⟨b,p',q',e1,e2.later hb⟩
theorem Cp9.quiet (h:Cp9 w B p q L M D x W) (i:Nat) {v:Value} (hy:YCp9 B p q i v) (hi:[4,9,10,11,12].contains i=false:=by rfl):Cp9 w B p q L M (yK D i) (upd x i v) W :=
 h.more i v (Below.refl _ _) hy (fun e=>by subst e; cases hi) (fun e=>by subst e; cases hi) (fun e=>by subst e; cases hi) (fun e=>by subst e; cases hi) (fun e=>by subst e; cases hi)
theorem Cp9.at12 (h:Cp9 w B p q L M D x W) {v:Value} (hv:∃ b p' q',v=.pointer (some ⟨b,0,none⟩)∧New9 w W b p' q' L M):Cp9 w B p q L M (yK D 12) (upd x 12 v) W :=
 h.more 12 v (Below.refl _ _) trivial (fun e=>absurd e (by decide)) (fun e=>absurd e (by decide)) (fun e=>absurd e (by decide)) (fun e=>absurd e (by decide)) (fun _=>hv)
theorem Cp9.start (w:World) (x:Nat→Value):Cp9 w B p q L M (fun _=>false) x w.drew :=
 ⟨zy (Below.refl _ _),(fun {_} h=>nomatch h),(fun h=>nomatch h),(fun h=>nomatch h),(fun h _=>nomatch h),(fun h=>nomatch h),(fun h=>nomatch h),(fun h=>nomatch h)⟩
end


end Go.Proofs.YthmomkjingcbiaaGreatDoor
