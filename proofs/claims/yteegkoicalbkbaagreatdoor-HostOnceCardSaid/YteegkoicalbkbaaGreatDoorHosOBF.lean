/-
  The texts that the laws of this seat share, part 6: what the code and the document's own answers tell, walked function by function.
  Conditions: each theorem's own.
-/
import Derived.WideKeyEntry
import Derived.Test.YteegkoicalbkbaaGreatDoorHosOBE
set_option maxHeartbeats 16000000
namespace Go.Proofs.YteegkoicalbkbaaGreatDoor
open Go.RowKit Go.Maps Go.Sort Go.Shelf



def JV (q:List UInt8×List UInt8):List UInt8:=ZK 1 (xy q)
def shotR (L:zl):List UInt8:=le 1 1++(le L.length 2++L.flatMap JV)

/-! ### The code's way -/


/-! ### What was read is what is written -/

/-! ### What is written is read -/
theorem Qt {q:List UInt8×List UInt8} (h:uQ 1 (xy q)=0):(JV q).length≤28:=by
 obtain ⟨hl,_⟩:=fT h
 have h1:=hl.nm
 have h2:=hl.hs
 show (xp (xy q).nm++xp (xy q).hs++[]).length≤28
 rw [List.append_nil,List.length_append,xJ,xJ]
 omega
theorem fo:∀ {L:zl},(∀ q∈L,uQ 1 (xy q)=0)→(L.flatMap JV).length≤28 * L.length
 | [],_=>Nat.le_refl _
 | q::L,h=>by
  have h1:=Qt (h q (List.mem_cons_self ..))
  have h2:=fo (L:=L) (fun x hx=>h x (List.mem_cons_of_mem _ hx))
  rw [List.flatMap_cons,List.length_append,List.length_cons]
  omega

structure May8 (l:List Us):Prop where
 all:∀ q∈rowU l,uQ 1 (xy q)=0
 of:ofE ((rowU l).map xy)=0
 few:(rowU l).length≤12

/-! ### The code's way is the document's -/

def Grows8 (w:World) (B:Nat) (bs:List UInt8) (e:Ending) (w':World):Prop:=e=.returned (.pointer (some ⟨B,0,none⟩))∧NW6 w B bs w'
theorem NW6.byte8 {w W:World} {B:Nat} {bs:List UInt8} (xi:Int) (x:Nat) (h:NW6 w B bs W) (ex:xi=x) (hx:x<256) (hr:bs.length≤500000) :
  Calls Tryz.prog 79 #[.pointer (some ⟨B,0,none⟩),.int .u8 xi] W (Grows8 w B (bs++le x 1)):=by
 subst ex
 obtain ⟨hB,⟨v,hw,hv⟩,ht⟩:=h
 exact (ff B v bs x W hw hx (by omega)).mono fun e w' ⟨he,hg⟩=>⟨he,hg.nw6 hB hv ht⟩
theorem NW6.two8 {w W:World} {B:Nat} {bs:List UInt8} (xi:Int) (x:Nat) (h:NW6 w B bs W) (ex:xi=x) (hx:x<65536) (hr:bs.length≤500000) :
  Calls Tryz.prog 113 #[.pointer (some ⟨B,0,none⟩),.int .u16 xi] W (Grows8 w B (bs++le x 2)):=by
 subst ex
 obtain ⟨hB,⟨v,hw,hv⟩,ht⟩:=h
 exact (jw B v bs x W hw hx (by omega)).mono fun e w' ⟨he,hg⟩=>⟨he,hg.nw6 hB hv ht⟩


set_option maxRecDepth 100000 in
theorem bytes8_calls (B:Nat) (p:Option Nat) (L:zl) (w:World) (hd:vh w B p L) (hk:∀ q∈L,uQ 1 (xy q)=0) (hm:vY w) :
  Calls Tryz.prog 308 #[.pointer (some ⟨B,0,none⟩)] w (qJ w (shotR L)):=by
 have HAL:=za (UY B p L w hd)
 have hfew:=hd.few
 have HALL:=za hd.all
 have HK:=za hk
 have HM:=za hm
 have hbl:∀ k,((L.take k).flatMap JV).length≤28 * 12:=fun k=>by
  have:=fo (L:=L.take k) (fun q hq=>hk q (List.mem_of_mem_take hq))
  have h2:(L.take k).length≤L.length:=by rw [List.length_take]; omega
  omega
 have HBL:=za hbl
 obtain ⟨n,hn⟩:∃ n,n=L.length:=⟨_,rfl⟩
 have HLN:Hid (n=L.length):=hn
 rw [← hn] at hfew
 obtain ⟨out,hout⟩:∃ out,out=shotR L:=⟨_,rfl⟩
 have HSH:Hid (out=le 1 1++le n 2++L.flatMap JV):=by show out=_; rw [hout,hn,List.append_assoc]; rfl
 rw [← hout]
 clear hd hk hm hn hbl hout
 go_enter Tryz.func308,Tryz.ntmps308
 go_wp2_with fail
 with_reducible refine HAL.out.mono ?_
 rintro e w1 ⟨v,rfl,hu,hb⟩
 obtain ⟨A,c,rfl⟩:∃ A c,v=.slice A n c:=by
  obtain ⟨A,c,e,_⟩:=Us7.of_users hu
  exact ⟨A,c,by rw [e,← HLN.out]⟩
 have HR:=za (Us7.of_users hu).rd.2
 have HB1:=za hb
 clear hu hb HAL
 have HZ:=za (NW6.zero w1)
 go_wp2_with fail
 with_reducible refine (NW6.byte8 _ 1 HZ.out (by simp) (by omega) (by simp)).mono ?_
 rintro e w2 ⟨rfl,h1⟩
 rw [List.nil_append] at h1
 have H1:=za h1
 clear h1 HZ
 go_wp2_with fail
 with_reducible refine (NW6.two8 _ n H1.out (by go_num) (by omega) (by rw [yi]; omega)).mono ?_
 rintro e w3 ⟨rfl,h1⟩
 have H2:=za h1
 have hpre:(le 1 1++le n 2).length=3:=by rw [List.length_append,yi,yi]
 clear h1 H1
 generalize le 1 1++le n 2=pre at *
 generalize hB:w1.heap.size=BW at *
 have HBW:=za hB
 clear hB
 go_wp2
 go_loopg [6,18] n (fun gg _ s18 wr=>∃ k:Nat,k≤n∧n - k≤gg∧s18=.int .i64 k∧Hid (NW6 w1 BW (pre++(L.take k).flatMap JV) wr))
 case atStart=>exact ⟨0,Nat.zero_le _,by omega,rfl,by show NW6 w1 BW (pre++[]) w3; rw [List.append_nil]; exact H2.out⟩
 case round =>
  clear H2
  obtain ⟨k,hk,hg,rfl,HW⟩:=hrel
  have hbw:=HW.out.2.2
  by_cases hlt:k<n
  ·
   have hltz:(k:Int)<(n:Int):=by omega
   have hkl:k<L.length:=HLN.out ▸ hlt
   have hkm:k<(L.map xy).length:=by rw [List.length_map]; exact hkl
   have hgm:(L.map xy)[k]'hkm=xy L[k]:=List.getElem_map _
   obtain ⟨b,off,rfl,hb,hc⟩:=(HR.out.later hbw) (by intro e; rw [e] at hkm; exact absurd hkm (Nat.not_lt_zero _))
   have hc':=hc k hkm
   rw [hgm] at hc'
   have c0:wr.cell? ⟨b,off+k * 5,none⟩=some (.string (tx7 L[k].1)):=hc' 0 _ rfl
   have c1:wr.cell? ⟨b,off+k * 5+1,none⟩=some (.string (tx7 L[k].2)):=hc' 1 _ rfl
   have c2:wr.cell? ⟨b,off+k * 5+2,none⟩=some (.string ⟨#[]⟩):=hc' 2 _ rfl
   have c3:wr.cell? ⟨b,off+k * 5+3,none⟩=some (.bool false):=hc' 3 _ rfl
   have c4:wr.cell? ⟨b,off+k * 5+4,none⟩=some (.slice none 0 0):=hc' 4 _ rfl
   have hb1:=zb (Below.refl wr.heap.size wr) (.cells #[.string (tx7 L[k].1),.string (tx7 L[k].2),.string ⟨#[]⟩,.bool false,.slice none 0 0] 192)
   have hq:=HALL.out L[k] (List.getElem_mem hkl)
   have hch:=HK.out L[k] (List.getElem_mem hkl)
   have hlen:(pre++(L.take k).flatMap JV).length≤1000:=by have:=HBL.out k; rw [List.length_append]; omega
   have HP:Hid (Calls Tryz.prog 310 #[.pointer (some ⟨BW,0,none⟩),.int .i64 1,.agg #[.string (tx7 L[k].1),.string (tx7 L[k].2),.string ⟨#[]⟩,.bool false,.slice none 0 0]] (wr.alloc (.cells #[.string (tx7 L[k].1),.string (tx7 L[k].2),.string ⟨#[]⟩,.bool false,.slice none 0 0] 192)) fun e w'=>e=.returned (.bool true)∧NW6 w1 BW (pre++(L.take (k+1)).flatMap JV) w'):=by
    refine (put6_calls w1 BW _ 1 (xy L[k]) _ (HW.out.below hb1) (bare7_ok hq) (HM.out.later HB1.out) hlen).mono fun e w' h=>?_
    rcases h with ⟨_,he,hn⟩ | ⟨h0,_⟩
    ·
     refine ⟨he,?_⟩
     rw [List.take_succ_eq_append_getElem hkl,List.flatMap_append,List.flatMap_singleton,← List.append_assoc]
     exact hn
    ·
     exact absurd hch h0
   clear hc hc' hb hb1 hq hch hlen hbw HW hgm
   generalize tx7 L[k].1=sn at *
   generalize tx7 L[k].2=sh at *
   go_wp2_with (go_at_call 310; (with_reducible refine HP.out.mono ?_); rintro e w4 ⟨rfl,h4⟩; have H4:=za h4; clear h4)
   go_roundg (n - (k+1))
   case measure=>omega
   case rel=>exact ⟨k+1,by omega,by omega,by go_num,H4⟩
  ·
   have hltz:¬ (k:Int)<(n:Int):=by omega
   obtain rfl:k=n:=by omega
   have hw:=HW.out
   rw [List.take_of_length_le (by have:=HLN.out; omega),← HSH.out] at hw
   have hol:out.length≤1000000:=by
    have:=HBL.out k
    rw [List.take_of_length_le (by have:=HLN.out; omega)] at this
    rw [HSH.out,List.length_append]
    omega
   have HBY:=za (hw.bytes hol)
   have HBB:=za (z7 HB1.out hw.2.2)
   have hszb:=HBB.out.size
   clear hw hol hbw HW
   go_wp2_with fail
   with_reducible refine HBY.out.mono ?_
   rintro e w5 ⟨v5,rfl,ho,hn,hb⟩
   have HF:Hid (qJ w out (.returned v5) w5):=⟨v5,rfl,ho,fun j hj=>Nat.le_trans hszb (hn j hj),z7 HBB.out hb⟩
   clear ho hn hb HBY
   go_wp2
   go_ret
   exact HF.out

end Go.Proofs.YteegkoicalbkbaaGreatDoor
namespace Go.Proofs.YteegkoicalbkbaaGreatDoor
open Go.RowKit Go.Maps

theorem FK (x:UInt8):Zs (Zs x)=Zs x:=by
 cases h:inR 65 90 x with
 | false=>rw [fe h,fe h]
 | true =>
  obtain ⟨e,h1,h2⟩:=FJ h
  refine fe ?_
  unfold inR
  have:¬ (Zs x).toNat≤90:=by omega
  rw [decide_eq_false this,Bool.and_false]
theorem YD (l:List UInt8):zN (zN l)=zN l:=by
 unfold zN
 rw [List.map_map]
 exact List.map_congr_left fun x _=>FK x
theorem mail5_fold {l m:List UInt8} (h:zN l=zN m):ve l=ve m:=by
 unfold ve Jg
 have hl:l.length=m.length:=by rw [← uv l,h,uv]
 rw [h,hl]
theorem Yx (l:List UInt8):ve (zN l)=ve l:=mail5_fold (YD l)
theorem Zg {l:List UInt8} (h:ve l=true):l.length≤20:=by
 unfold ve at h
 simp only [Bool.and_eq_true,decide_eq_true_eq] at h
 exact h.1.1.1
theorem Fo:ve []=false:=by decide
theorem jD {n:List UInt8} (h:zh n=true):n.length≤12:=by
 unfold zh uM at h
 simp only [Bool.and_eq_true,decide_eq_true_eq] at h
 exact h.1.1.2.1

def May9 (x:List UInt8×List UInt8):Prop:=zh x.1=true∧ve x.2=true∧zN x.2=x.2
theorem May9.of {n m:List UInt8} (hn:zh n=true) (hm:ve m=true):May9 (n,zN m):=⟨hn,by rw [Yx]; exact hm,YD m⟩
theorem May9.ne2 {x:List UInt8×List UInt8} (h:May9 x):x.2≠[]:=fun e=>by have:=h.2.1; rw [e,Fo] at this; cases this

structure vX (w:World) (p:Option Nat) (L:zl):Prop where
 nil:p=none→L=[]
 map:∀ b,p=some b→fA w b L
theorem vX.turns {w w':World} {p:Option Nat} {L:zl} {S:Nat→Prop} (h:vX w p L) (ht:zg S w w') (hp:∀ b,p=some b→¬ S b):vX w' p L :=
 ⟨h.nil,fun b hb=>(h.map b hb).kept (ht.block b (h.map b hb).lt (hp b hb))⟩

section
variable {w:World} {p:Option Nat} {L:zl}
theorem look9 (h:vX w p L) (s:ByteArray) (hs:s.size≤maxLen) :
  (Instr.lookup 118 (.map p) (.string s) true).run Tryz.prog w=.ok (.tuple #[.string (tx7 (yM L s.data.toList)),.bool (yE L s.data.toList)]) w:=by
 cases p with
 | none =>
  have hL:=h.nil rfl
  subst hL
  have:=Maps.look_nil (P:=Tryz.prog) (w:=w) (t:=118) true jn Tryz.underlying118 (Q7 w) (key7 s hs)
  exact this
 | some b =>
  obtain ⟨v,ps,hrun,hv⟩:=(h.map b rfl).look_ok jn Tryz.underlying118 (Q7 w) (plainElem_string (H:=Unit) Tryz.underlying9 (s:=⟨#[]⟩) (by decide)) (key7 s hs)
  obtain ⟨c,rfl,hc,_⟩:=plainElem_string_inv Tryz.underlying9 hv
  rw [hrun,datE_has]
  have e:(YR L).atKey (.string s.data.toList) (.lit (.string []))=.lit (.string (yM L s.data.toList)):=datE_at L _
  have hc':(YR L).atKey (.string s.data.toList) (.lit (.string []))=.lit (.string c.data.toList):=congrArg Prod.fst hc
  rw [e] at hc'
  have:yM L s.data.toList=c.data.toList:=by simpa using hc'
  rw [this,jQ]
theorem drop9 (h:vX w p L) (s:ByteArray) (hs:s.size≤maxLen) (ty:TypeId) :
  ∃ w',(Builtin.delete_ #[118,9] ty #[.map p,.string s]).run Tryz.prog w=.ok (.tuple #[]) w'∧vX w' p (vx L s.data.toList)∧zg (fun i=>p=some i) w w':=by
 cases p with
 | none =>
  have hL:=h.nil rfl
  subst hL
  exact ⟨w,Maps.drop_nil jn Tryz.underlying118 (key7 s hs) ty,⟨fun _=>rfl,(fun _ h=>nomatch h)⟩,zg.refl _ w⟩
 | some b =>
  obtain ⟨w',hrun,hown,ht⟩:=(h.map b rfl).drop jn Tryz.underlying118 (key7 s hs) ty
  rw [datE_del] at hown
  exact ⟨w',hrun,⟨(fun h=>nomatch h),fun b' hb'=>by cases hb'; exact fA.of hown⟩,(zg.refl _ w).grown ht.grown (fun k hk _=>hk.symm ▸ rfl)⟩
theorem nilmap9 (w:World) (p:Option Nat):(binOp .eql 118 (.map p) (.map none)).run Tryz.prog w=.ok (.bool p.isNone) w :=
 run_eql_map_nil_sl w 118 _ _ p Tryz.underlying118
end

def Half9 (W:World) (b:Nat) (L':zl) (st val:Value):Prop :=
 ∃ o,W.heap[b]? = some o∧∀ W2:World,W2.heap[b]? = some o→∃ W3,(Instr.entryStore 118 (.map (some b)) st val).run Tryz.prog W2=.ok () W3∧fA W3 b L'∧W2.mapTurned W3 b
theorem half9 {W:World} {b:Nat} {L:zl} (h:fA W b L) (hf:L.length≤1000) (k v:ByteArray) (hk:k.size≤maxLen) (hv:v.size≤maxLen) :
  ∃ (v0:Value) (st:Nat) (W1:World),(Instr.mapEntry 118 (.map (some b)) (.string k)).run Tryz.prog W=.ok (.tuple #[v0,.int .i64 (st:Int)]) W1∧Half9 W1 b (vl L k.data.toList v.data.toList) (.int .i64 (st:Int)) (.string v)∧W.mapTurned W1 b:=by
 obtain ⟨w',hrun,hown,_⟩:=h.store jn Tryz.underlying118 (Nat.lt_of_le_of_lt hf (by decide)) (key7 k hk) (plainElem_string (H:=Unit) Tryz.underlying9 hv)
 rw [datE_put] at hown
 have hM:=fA.of hown
 obtain ⟨es,clock,hb,F,_,_⟩:=h
 obtain ⟨v0,st,es1,clock1,h1,_,h3⟩:=WideElems.entry_then_store (t:=118) (WideMaps.string_law Tryz.underlying9) Tryz.underlying118 (z:=.string ⟨#[]⟩) (fun u=>Q7 u) hb F (key7 k hk)
 refine ⟨v0,st,_,h1,⟨_,ChangeMaps.heap_setBlock_same hb _,fun W2 hW2=>?_⟩,⟨es,clock,es1,clock1,hb,rfl⟩⟩
 obtain ⟨es',clock',r1,r2⟩:=h3 W2 (.string v) hW2
 rw [hrun] at r2
 injection r2 with _ r2
 refine ⟨_,r1,hM.kept ?_,⟨es1,clock1,es',clock',hW2,rfl⟩⟩
 rw [ChangeMaps.heap_setBlock_same hW2,r2,ChangeMaps.heap_setBlock_same hb]
theorem Half9.kept {W W':World} {b:Nat} {L':zl} {st val:Value} (h:Half9 W b L' st val) (hb:W'.heap[b]? = W.heap[b]?):Half9 W' b L' st val:=by
 obtain ⟨o,h1,h2⟩:=h
 exact ⟨o,hb.trans h1,h2⟩

structure ua (w:World) (B:Nat) (p q:Option Nat) (L M:zl):Prop where
 blk:w.heap[B]? = some (.cells #[.map p,.map q] 290 (0,0))
 mapp:vX w p L
 mapq:vX w q M
 both:p.isSome=q.isSome
 apt:∀ b c,p=some b→q=some c→b≠c
 mir:yo L M
 few:L.length≤100
 all:∀ x∈L,May9 x

section
variable {w w':World} {B:Nat} {p q:Option Nat} {L M:zl}
theorem ua.lt (h:ua w B p q L M):B<w.heap.size:=(Array.getElem?_eq_some_iff.1 h.blk).1
theorem ua.plt (h:ua w B p q L M):∀ b,p=some b→b<w.heap.size:=fun b hb=>(h.mapp.map b hb).lt
theorem ua.qlt (h:ua w B p q L M):∀ b,q=some b→b<w.heap.size:=fun b hb=>(h.mapq.map b hb).lt
theorem ua.cell0 (h:ua w B p q L M):w.cell? ⟨B,0,none⟩=some (.map p):=by simp [World.cell?,h.blk]
theorem ua.cell1 (h:ua w B p q L M):w.cell? ⟨B,1,none⟩=some (.map q):=by simp [World.cell?,h.blk]
theorem ua.frozen0 (h:ua w B p q L M):w.frozen? ⟨B,0,none⟩=false:=by simp [World.frozen?,h.blk]
theorem ua.frozen1 (h:ua w B p q L M):w.frozen? ⟨B,1,none⟩=false:=by simp [World.frozen?,h.blk]
theorem vK {b:Nat} {L:zl} {c:Array Value} {T:TypeId} {fr:Nat×Nat} (hm:fA w b L) (hB:w.heap[B]? = some (.cells c T fr)):b≠B:=fun e=>by
 obtain ⟨es,clock,h1,_⟩:=hm
 subst e
 rw [hB] at h1
 cases h1
theorem ua.pne (h:ua w B p q L M):∀ b,p=some b→b≠B:=fun b hb=>vK (h.mapp.map b hb) h.blk
theorem ua.qne (h:ua w B p q L M):∀ b,q=some b→b≠B:=fun b hb=>vK (h.mapq.map b hb) h.blk
theorem ua.turns {S:Nat→Prop} (h:ua w B p q L M) (ht:zg S w w') (hB:¬ S B) (hp:∀ b,p=some b→¬ S b) (hq:∀ b,q=some b→¬ S b):ua w' B p q L M :=
 ⟨(ht.block B h.lt hB).trans h.blk,h.mapp.turns ht hp,h.mapq.turns ht hq,h.both,h.apt,h.mir,h.few,h.all⟩
theorem ua.later (h:ua w B p q L M) (hb:Below w.heap.size w w'):ua w' B p q L M:=h.turns (zg.of_below hb (fun _=>False)) (fun f=>f) (fun _ _ f=>f) (fun _ _ f=>f)
theorem ua.rise (h:ua w B p q L M):uy L:=h.mir.rl
end

def Turn9 (B:Nat) (p q:Option Nat) (w w':World):Prop:=zg (fun i=>i=B∨p=some i∨q=some i) w w'
def uc (w:World) (B:Nat) (p q:Option Nat) (L':zl) (w':World):Prop :=
 ∃ p' q' M',ua w' B p' q' L' M'∧(∀ b,p'=some b→p=some b∨w.heap.size≤b)∧(∀ b,q'=some b→q=some b∨w.heap.size≤b)∧Turn9 B p q w w'
theorem uc.still {w w':World} {B:Nat} {p q:Option Nat} {L M:zl} (h:ua w B p q L M) (hb:Below w.heap.size w w'):uc w B p q L w' :=
 ⟨p,q,M,h.later hb,fun _ e=>.inl e,fun _ e=>.inl e,zg.of_below hb _⟩
theorem uc.ahead {w w1 w':World} {B:Nat} {p q:Option Nat} {L':zl} (hb:Below w.heap.size w w1) (h:uc w1 B p q L' w'):uc w B p q L' w':=by
 obtain ⟨p',q',M',hd,hp,hq,ht⟩:=h
 exact ⟨p',q',M',hd,fun b e=>(hp b e).imp id (fun h=>Nat.le_trans hb.size h),fun b e=>(hq b e).imp id (fun h=>Nat.le_trans hb.size h),(zg.of_below hb _).next ht (fun i _ h=>h)⟩
theorem uc.behind {w w1 w':World} {B:Nat} {p q:Option Nat} {L':zl} (h:uc w B p q L' w1) (hb:Below w1.heap.size w1 w'):uc w B p q L' w':=by
 obtain ⟨p',q',M',hd,hp,hq,ht⟩:=h
 exact ⟨p',q',M',hd.later hb,hp,hq,zg.next ht (zg.of_below hb (fun _=>False)) (fun _ _ f=>f.elim)⟩

set_option maxRecDepth 100000 in
theorem new9_calls (w:World):Calls Tryz.prog 193 #[] w fun e w'=>e=.returned (.pointer (some ⟨w.heap.size,0,none⟩))∧w'=w.alloc (.cells #[.map none,.map none] 290):=by
 go_enter Tryz.func193,Tryz.ntmps193
 go_wp2
 go_ret
 exact ⟨rfl,rfl⟩
theorem idx9_new (w:World):ua (w.alloc (.cells #[.map none,.map none] 290)) w.heap.size none none [] [] :=
 ⟨(MapKept.heap_alloc w _).1,⟨fun _=>rfl,(fun _ h=>nomatch h)⟩,⟨fun _=>rfl,(fun _ h=>nomatch h)⟩,rfl,(fun _ _ h=>nomatch h),yo.nil,by simp,(fun _ h=>nomatch h)⟩

set_option maxRecDepth 100000 in
theorem of9_calls (B:Nat) (p q:Option Nat) (L M:zl) (s:ByteArray) (w:World) (h:ua w B p q L M) (hs:s.size≤maxLen) :
  Calls Tryz.prog 375 #[.pointer (some ⟨B,0,none⟩),.string s] w fun e w'=>e=.returned (.tuple #[.string (tx7 (yM L s.data.toList)),.bool (yE L s.data.toList)])∧w'=w:=by
 have hc:=h.cell0
 have hl:=look9 h.mapp s hs
 generalize yE L s.data.toList=r at *
 generalize tx7 (yM L s.data.toList)=g at *
 clear h hs
 go_enter Tryz.func375,Tryz.ntmps375
 go_wp2
 go_ret2
 exact ⟨rfl,rfl⟩

def fiE9 (L:zl) (m:List UInt8):Int:=if ve m then (if YQ L (zN m) then 0 else 8) else 11
def fiS9 (L:zl) (m:List UInt8):List UInt8:=if fiE9 L m=0 then Vy L (zN m) else []

set_option maxRecDepth 100000 in
theorem find9_calls (B:Nat) (p q:Option Nat) (L M:zl) (s:ByteArray) (w:World) (h:ua w B p q L M) (hs:s.size≤9223372036854775807) (hm:vY w) :
  Calls Tryz.prog 372 #[.pointer (some ⟨B,0,none⟩),.string s] w fun e w'=>e=.returned (.tuple #[.string (tx7 (fiS9 L s.data.toList)),.int .i64 (fiE9 L s.data.toList)])∧Below w.heap.size w w':=by
 have HM:=za (fa s w hs hm)
 unfold fiS9 fiE9
 unfold fJ at HM
 cases hb:ve s.data.toList with
 | false =>
  rw [hb] at HM
  clear h
  show Calls _ _ _ _ fun e w'=>e=.returned (.tuple #[.string ⟨#[]⟩,.int .i64 11])∧Below w.heap.size w w'
  have HM2:Hid (Calls Tryz.prog 231 #[.string s] w fun e w'=>e=.returned (.tuple #[.string ⟨#[]⟩,.int .i64 11])∧Below w.heap.size w w'):=HM.out
  clear HM hb
  go_enter Tryz.func372,Tryz.ntmps372
  go_wp2_with fail
  with_reducible refine HM2.out.mono ?_
  rintro e w1 ⟨rfl,hb⟩
  have HB:=za hb
  clear hb HM2
  go_wp2
  go_ret2
  exact ⟨rfl,HB.out⟩
 | true =>
  rw [hb] at HM
  have HM2:Hid (Calls Tryz.prog 231 #[.string s] w fun e w'=>e=.returned (.tuple #[.string ⟨(zN s.data.toList).toArray⟩,.int .i64 0])∧Below w.heap.size w w'):=HM.out
  have hfz:(ByteArray.mk (zN s.data.toList).toArray).size≤maxLen:=by
   show (zN s.data.toList).toArray.size≤_
   rw [List.size_toArray,uv,zx]; exact Nat.le_trans hs (by decide)
  have HL:Hid (∀ W,ua W B p q L M→(Instr.lookup 118 (.map q) (.string ⟨(zN s.data.toList).toArray⟩) true).run Tryz.prog W=.ok (.tuple #[.string (tx7 (Vy L (zN s.data.toList))),.bool (YQ L (zN s.data.toList))]) W):=fun W hW=>by
   have:=look9 hW.mapq ⟨(zN s.data.toList).toArray⟩ hfz
   have e:(ByteArray.mk (zN s.data.toList).toArray).data.toList=zN s.data.toList:=by simp
   rw [e,hW.mir.get,hW.mir.has] at this
   exact this
  have HI:=za h
  clear HM hb h hfz
  simp only [if_true]
  have ho:YQ L (zN s.data.toList)=false→Vy L (zN s.data.toList)=[]:=JY
  generalize Vy L (zN s.data.toList)=o at *
  generalize YQ L (zN s.data.toList)=b at *
  generalize (⟨(zN s.data.toList).toArray⟩:ByteArray)=f at *
  cases b with
  | true =>
   show Calls _ _ _ _ fun e w'=>e=.returned (.tuple #[.string (tx7 o),.int .i64 0])∧Below w.heap.size w w'
   clear ho
   generalize tx7 o=t at *
   go_enter Tryz.func372,Tryz.ntmps372
   go_wp2_with fail
   with_reducible refine HM2.out.mono ?_
   rintro e w1 ⟨rfl,hb⟩
   have HB:=za hb
   have c1:=(HI.out.later hb).cell1
   have l1:=HL.out w1 (HI.out.later hb)
   clear hb HM2 HL
   go_wp2
   go_ret2
   exact ⟨rfl,HB.out⟩
  | false =>
   show Calls _ _ _ _ fun e w'=>e=.returned (.tuple #[.string ⟨#[]⟩,.int .i64 8])∧Below w.heap.size w w'
   clear ho
   generalize tx7 o=t at *
   go_enter Tryz.func372,Tryz.ntmps372
   go_wp2_with fail
   with_reducible refine HM2.out.mono ?_
   rintro e w1 ⟨rfl,hb⟩
   have HB:=za hb
   have c1:=(HI.out.later hb).cell1
   have l1:=HL.out w1 (HI.out.later hb)
   clear hb HM2 HL
   go_wp2
   go_ret2
   exact ⟨rfl,HB.out⟩

theorem ju.move9 {cs:List Nat} {St St':Nat→World→Prop} {L:Nat→Bool} {W W':World} (h:ju cs St L W) (q i:Nat) (hq:q<cs.length) (hi:cs.getD q 0=i) (hL:L i=false) (hp:q=0∨L (cs.getD (q - 1) 0)=true)
  (hnd:(List.range cs.length).all (fun r=>r == q || cs.getD r 0 != i)=true) (hS:St' (q+1) W'):ju cs St' (ud L i) W':=by
 obtain ⟨m,hm,hs,hr⟩:=h
 have h1:¬ q<m:=by have:=hr q hq; rw [hi,hL] at this; simpa using this.symm
 have h2:m=q:=by
  rcases hp with rfl | hp
  ·
   omega
  ·
   have:=hr (q - 1) (by omega)
   rw [hp] at this
   have:q - 1<m:=by simpa using this.symm
   omega
 subst h2
 have hX:ju cs (fun k V=>k=m+1→St' k V) L W':=⟨m,hm,fun e=>absurd e (by omega),hr⟩
 obtain ⟨k,hk,hs',hr'⟩:=hX.next m i hq hi hL hp hnd (fun _=>hS)
 have hkm:k=m+1:=by
  have e1:=hr' m hq
  rw [hi,show ud L i i=true from if_pos rfl] at e1
  have e1':m<k:=by simpa using e1.symm
  by_cases hlt:m+1<cs.length
  ·
   have h3:=List.all_eq_true.1 hnd (m+1) (List.mem_range.2 hlt)
   have e2:=hr' (m+1) hlt
   have hne:cs.getD (m+1) 0≠i:=by
    have e1:((m+1) == m)=false:=by simp
    rw [e1,Bool.false_or,bne_iff_ne] at h3
    exact h3
   rw [show ud L i (cs.getD (m+1) 0)=L (cs.getD (m+1) 0) from if_neg hne,hr (m+1) hlt] at e2
   have:¬ m+1<k:=by
    have e3:decide (m+1<m)=false:=by simp
    rw [e3] at e2
    simpa using e2.symm
   omega
  ·
   omega
 subst hkm
 exact ⟨m+1,hk,hs' rfl,hr'⟩
theorem ju.done9 {cs:List Nat} {St:Nat→World→Prop} {L:Nat→Bool} {W:World} (h:ju cs St L W) (hall:∀ r,r<cs.length→L (cs.getD r 0)=true):St cs.length W:=by
 obtain ⟨m,hm,hs,hr⟩:=h
 by_cases e:m=cs.length
 ·
  rw [← e]; exact hs
 ·
  have h1:=hr m (by omega)
  rw [hall m (by omega)] at h1
  simp at h1

set_option maxRecDepth 100000 in
theorem jf (B:Nat) (p q:Option Nat) (L M:zl) (s:ByteArray) (w:World) (h:ua w B p q L M) (hs:s.size≤maxLen) :
  Calls Tryz.prog 239 #[.pointer (some ⟨B,0,none⟩),.string s] w fun e w'=>e=.returned (.bool (yE L s.data.toList))∧(∃ M',ua w' B p q (vx L s.data.toList) M')∧Turn9 B p q w w':=by
 have hl:=look9 h.mapp s hs
 have c0:=h.cell0
 cases hh:yE L s.data.toList with
 | false =>
  rw [hh] at hl
  have HF:Hid ((∃ M',ua w B p q (vx L s.data.toList) M')∧Turn9 B p q w w):=⟨⟨M,by rw [qQ hh]; exact h⟩,zg.refl _ w⟩
  clear h
  generalize tx7 (yM L s.data.toList)=g at *
  go_enter Tryz.func239,Tryz.ntmps239
  go_wp2
  go_ret
  exact ⟨rfl,HF.out⟩
 | true =>
  rw [hh] at hl
  have hmem:=vm hh
  have hmay:=h.all _ hmem
  have hgs:(tx7 (yM L s.data.toList)).size≤maxLen:=by
   show (yM L s.data.toList).toArray.size≤_
   rw [List.size_toArray]; exact Nat.le_trans (Zg hmay.2.1) (by decide)
  obtain ⟨w1,r1,m1,t1⟩:=drop9 h.mapp s hs 0
  have hB1:w1.heap[B]? = _:=(t1.block B h.lt (fun e=>h.pne _ e rfl)).trans h.blk
  have c1:w1.cell? ⟨B,1,none⟩=some (.map q):=by simp [World.cell?,hB1]
  have q1:vX w1 q M:=h.mapq.turns t1 (fun b hb e=>h.apt b b e hb rfl)
  obtain ⟨w2,r2,m2,t2⟩:=drop9 q1 (tx7 (yM L s.data.toList)) hgs 0
  have ht:Turn9 B p q w w2:=(t1.mono (fun i _ e=>.inr (.inl e))).next t2 (fun i _ e=>.inr (.inr e))
  have HF:Hid ((∃ M',ua w2 B p q (vx L s.data.toList) M')∧Turn9 B p q w w2):=by
   rw [xz] at m2
   refine ⟨⟨_,⟨(t2.block B (Nat.lt_of_lt_of_le h.lt t1.size) (fun e=>h.qne _ e rfl)).trans hB1,m1.turns t2 (fun b hb e=>h.apt b b hb e rfl),m2,h.both,h.apt,h.mir.del hh,?_,fun x hx=>h.all x (yC.1 hx).1⟩⟩,ht⟩
   exact Nat.le_trans (List.length_filter_le _ _) h.few
  clear h hB1 q1 m1 m2 t1 t2 ht hmem hmay hgs
  generalize tx7 (yM L s.data.toList)=g at *
  go_enter Tryz.func239,Tryz.ntmps239
  go_wp2
  go_ret
  exact ⟨rfl,HF.out⟩

def YPut9 (B b c:Nat) (n a:ByteArray):Nat→Value→Prop
 | 2,v=>v=.pointer (some ⟨B,0,none⟩)
 | 3,v=>v=.map (some b)
 | 4,v=>v=.string n
 | 7,v=>v=.pointer (some ⟨B,1,none⟩)
 | 8,v=>v=.map (some c)
 | 9,v=>v=.string a
 | 10,v=>v=.string a
 | 11,v=>v=.string n
 | _,v=>v=.pointer (some ⟨B,0,none⟩)
def StPut9 (b c:Nat) (L M L' M':zl) (n a:ByteArray) (x12 x15:Value):Nat→World→Prop
 | 0,W=>fA W b L∧fA W c M
 | 1,W=>(∃ (v0:Value) (st:Nat),x12=.tuple #[v0,.int .i64 (st:Int)]∧Half9 W b L' (.int .i64 (st:Int)) (.string a))∧fA W c M
 | 2,W=>fA W b L'∧fA W c M
 | 3,W=>fA W b L'∧∃ (v0:Value) (st:Nat),x15=.tuple #[v0,.int .i64 (st:Int)]∧Half9 W c M' (.int .i64 (st:Int)) (.string n)
 | _,W=>fA W b L'∧fA W c M'
structure YX (w1:World) (B b c:Nat) (L M L' M':zl) (n a:ByteArray) (D:Nat→Bool) (x:Nat→Value) (W:World):Prop where
 y:∀ j,j<12→D j=true→YPut9 B b c n a j (x j)
 e12:D 12=true→∃ (v0:Value) (st:Nat),x 12=.tuple #[v0,.int .i64 (st:Int)]
 e15:D 15=true→∃ (v0:Value) (st:Nat),x 15=.tuple #[v0,.int .i64 (st:Int)]
 e13:D 13=true→D 12=true∧∃ v0,x 12=.tuple #[v0,x 13]
 e16:D 16=true→D 15=true∧∃ v0,x 15=.tuple #[v0,x 16]
 t:zg (fun i=>i=b∨i=c) w1 W
 s:ju [12,14,15,17] (StPut9 b c L M L' M' n a (x 12) (x 15)) D W

section
variable {w1:World} {B b c:Nat} {L M L' M':zl} {n a:ByteArray} {D:Nat→Bool} {x:Nat→Value} {W W':World}
theorem YX.start (x:Nat→Value) (hb:fA w1 b L) (hc:fA w1 c M):YX w1 B b c L M L' M' n a (fun _=>false) x w1.drew :=
 ⟨(fun _ _ h=>nomatch h),(fun h=>nomatch h),(fun h=>nomatch h),(fun h=>nomatch h),(fun h=>nomatch h),(zg.refl _ w1).drew,ju.start ⟨hb,hc⟩⟩
theorem YX.quiet (h:YX w1 B b c L M L' M' n a D x W) (i:Nat) (v:Value) (hi:[12,14,15,17].contains i=false) (hy:i<12→YPut9 B b c n a i v)
  (h13:i=13→D 12=true∧∃ v0,x 12=.tuple #[v0,v]) (h16:i=16→D 15=true∧∃ v0,x 15=.tuple #[v0,v]):YX w1 B b c L M L' M' n a (ud D i) (upd x i v) W:=by
 have n12:12≠i:=fun e=>by subst e; simp at hi
 have n15:15≠i:=fun e=>by subst e; simp at hi
 have u12:upd x i v 12=x 12:=if_neg n12
 have u15:upd x i v 15=x 15:=if_neg n15
 have d12:ud D i 12=D 12:=if_neg n12
 have d15:ud D i 15=D 15:=if_neg n15
 refine ⟨fun j hj hd=>?_,fun hd=>?_,fun hd=>?_,fun hd=>?_,fun hd=>?_,h.t,?_⟩
 ·
  by_cases e:j=i
  ·
   subst e; rw [show upd x j v j=v from if_pos rfl]; exact hy hj
  ·
   rw [show upd x i v j=x j from if_neg e]; rw [show ud D i j=D j from if_neg e] at hd; exact h.y j hj hd
 ·
  rw [u12]; rw [d12] at hd; exact h.e12 hd
 ·
  rw [u15]; rw [d15] at hd; exact h.e15 hd
 ·
  rw [u12,d12]
  by_cases e:13=i
  ·
   subst e; rw [show upd x 13 v 13=v from if_pos rfl]; exact h13 rfl
  ·
   rw [show upd x i v 13=x 13 from if_neg e]; rw [show ud D i 13=D 13 from if_neg e] at hd; exact h.e13 hd
 ·
  rw [u15,d15]
  by_cases e:16=i
  ·
   subst e; rw [show upd x 16 v 16=v from if_pos rfl]; exact h16 rfl
  ·
   rw [show upd x i v 16=x 16 from if_neg e]; rw [show ud D i 16=D 16 from if_neg e] at hd; exact h.e16 hd
 ·
  rw [u12,u15]; exact h.s.same i hi (fun _ h=>h)
theorem Qc {W W':World} {b i:Nat} (ht:W.mapTurned W' b) (hne:i≠b):W'.heap[i]? = W.heap[i]? := jx ht (fun e=>hne e.symm)
theorem YX.turn (h:YX w1 B b c L M L' M' n a D x W) {k:Nat} (hk:k=b∨k=c) (ht:W.mapTurned W' k):zg (fun i=>i=b∨i=c) w1 W' :=
 h.t.grown ht.grown (fun j hj _=>by cases hj; exact hk)
theorem YX.y2 (h:YX w1 B b c L M L' M' n a D x W) (i:Nat) (v:Value) (hi:¬ i<12):∀ j,j<12→ud D i j=true→YPut9 B b c n a j (upd x i v j):=fun j hj hd=>by
 have e:j≠i:=fun e=>hi (e ▸ hj)
 rw [show upd x i v j=x j from if_neg e]; rw [show ud D i j=D j from if_neg e] at hd; exact h.y j hj hd
theorem YX.at12 (h:YX w1 B b c L M L' M' n a D x W) (hD:D 12=false) {v0:Value} {st:Nat} (hH:Half9 W' b L' (.int .i64 (st:Int)) (.string a)) (ht:W.mapTurned W' b) (hbc:b≠c) :
  YX w1 B b c L M L' M' n a (ud D 12) (upd x 12 (.tuple #[v0,.int .i64 (st:Int)])) W':=by
 have u12:upd x 12 (.tuple #[v0,.int .i64 (st:Int)]) 12=.tuple #[v0,.int .i64 (st:Int)]:=if_pos rfl
 have hs:=h.s.at_ 0 (by decide) hD (.inl rfl)
 refine ⟨h.y2 12 _ (by decide),fun _=>⟨v0,st,u12⟩,fun hd=>h.e15 hd,fun hd=>?_,fun hd=>h.e16 hd,h.turn (.inl rfl) ht,?_⟩
 ·
  have:=(h.e13 hd).1
  rw [hD] at this; cases this
 ·
  refine h.s.move9 0 12 (by decide) rfl hD (.inl rfl) (by decide) ⟨⟨v0,st,u12,hH⟩,hs.2.kept (Qc ht hbc.symm)⟩
theorem YX.at14 (h:YX w1 B b c L M L' M' n a D x W) (hD:D 14=false) (h12:D 12=true) {v:Value} (hm:fA W' b L') (ht:W.mapTurned W' b) (hbc:b≠c) :
  YX w1 B b c L M L' M' n a (ud D 14) (upd x 14 v) W':=by
 have hs:=h.s.at_ 1 (by decide) hD (.inr h12)
 refine ⟨h.y2 14 _ (by decide),fun hd=>h.e12 hd,fun hd=>h.e15 hd,fun hd=>h.e13 hd,fun hd=>h.e16 hd,h.turn (.inl rfl) ht,?_⟩
 exact h.s.move9 1 14 (by decide) rfl hD (.inr h12) (by decide) ⟨hm,hs.2.kept (Qc ht hbc.symm)⟩
theorem YX.at15 (h:YX w1 B b c L M L' M' n a D x W) (hD:D 15=false) (h14:D 14=true) {v0:Value} {st:Nat} (hH:Half9 W' c M' (.int .i64 (st:Int)) (.string n)) (ht:W.mapTurned W' c) (hbc:b≠c) :
  YX w1 B b c L M L' M' n a (ud D 15) (upd x 15 (.tuple #[v0,.int .i64 (st:Int)])) W':=by
 have u15:upd x 15 (.tuple #[v0,.int .i64 (st:Int)]) 15=.tuple #[v0,.int .i64 (st:Int)]:=if_pos rfl
 have hs:=h.s.at_ 2 (by decide) hD (.inr h14)
 refine ⟨h.y2 15 _ (by decide),fun hd=>h.e12 hd,fun _=>⟨v0,st,u15⟩,fun hd=>h.e13 hd,fun hd=>?_,h.turn (.inr rfl) ht,?_⟩
 ·
  have:=(h.e16 hd).1
  rw [hD] at this; cases this
 ·
  exact h.s.move9 2 15 (by decide) rfl hD (.inr h14) (by decide) ⟨hs.1.kept (Qc ht hbc),⟨v0,st,u15,hH⟩⟩
theorem YX.at17 (h:YX w1 B b c L M L' M' n a D x W) (hD:D 17=false) (h15:D 15=true) {v:Value} (hm:fA W' c M') (ht:W.mapTurned W' c) (hbc:b≠c) :
  YX w1 B b c L M L' M' n a (ud D 17) (upd x 17 v) W':=by
 have hs:=h.s.at_ 3 (by decide) hD (.inr h15)
 refine ⟨h.y2 17 _ (by decide),fun hd=>h.e12 hd,fun hd=>h.e15 hd,fun hd=>h.e13 hd,fun hd=>h.e16 hd,h.turn (.inr rfl) ht,?_⟩
 exact h.s.move9 3 17 (by decide) rfl hD (.inr h15) (by decide) ⟨hs.1.kept (Qc ht hbc),hm⟩
end

theorem blk_set0 {W:World} {B:Nat} {u v:Value} {T:TypeId} (v':Value) (h:W.heap[B]? = some (.cells #[u,v] T (0,0))):(W.setCell ⟨B,0,none⟩ v').heap[B]? = some (.cells #[v',v] T (0,0)):=by
 obtain ⟨hlt,hk⟩:=Array.getElem?_eq_some_iff.1 h
 show (W.heap.modify B _)[B]? = _
 rw [Array.getElem?_eq_getElem (by rw [Array.size_modify]; exact hlt),Array.getElem_modify_self,hk]
 rfl
theorem blk_set1 {W:World} {B:Nat} {u v:Value} {T:TypeId} (v':Value) (h:W.heap[B]? = some (.cells #[u,v] T (0,0))):(W.setCell ⟨B,1,none⟩ v').heap[B]? = some (.cells #[u,v'] T (0,0)):=by
 obtain ⟨hlt,hk⟩:=Array.getElem?_eq_some_iff.1 h
 show (W.heap.modify B _)[B]? = _
 rw [Array.getElem?_eq_getElem (by rw [Array.size_modify]; exact hlt),Array.getElem_modify_self,hk]
 rfl

set_option maxRecDepth 100000 in
theorem Ux (B:Nat) (p q:Option Nat) (L M:zl) (n a:ByteArray) (w:World) (h:ua w B p q L M) (hm:May9 (n.data.toList,a.data.toList)) (hfree:YQ (vx L n.data.toList) a.data.toList=false) (hf:(vl L n.data.toList a.data.toList).length≤100) :
  Calls Tryz.prog 240 #[.pointer (some ⟨B,0,none⟩),.string n,.string a] w fun e w'=>e=.returned (.tuple #[])∧uc w B p q (vl L n.data.toList a.data.toList) w':=by
 have hn':n.size≤maxLen:=by have:=jD hm.1; rw [zx] at this; exact Nat.le_trans this (by decide)
 have ha':a.size≤maxLen:=by have:=Zg hm.2.1; rw [zx] at this; exact Nat.le_trans this (by decide)
 have HD:=za (jf B p q L M n w h hn')
 have hall:∀ y∈vl L n.data.toList a.data.toList,May9 y:=fun y hy=>by
  rcases vA.1 hy with rfl | ⟨hy,_⟩
  ·
   exact hm
  ·
   exact h.all y hy
 have hpd:=put_del h.rise n.data.toList a.data.toList
 have HPD:Hid (vl (vx L n.data.toList) n.data.toList a.data.toList=vl L n.data.toList a.data.toList):=hpd
 have HF:Hid ((vx L n.data.toList).length≤1000):=Nat.le_trans (List.length_filter_le _ _) (Nat.le_trans h.few (by decide))
 have HALL:=za hall
 have HLN:=za hf
 have hlt0:=h.lt
 have hlp:=h.plt
 have hlq:=h.qlt
 clear h hm hall hpd hf
 go_enter Tryz.func240,Tryz.ntmps240
 go_wp2_with fail
 with_reducible refine HD.out.mono ?_
 rintro e w1 ⟨rfl,⟨M1,hi⟩,ht⟩
 have HI:=za hi
 have HT:=za ht
 have hfr:YQ (vx L n.data.toList) a.data.toList=false:=hfree
 have hmir:=hi.mir.put (J1 L n.data.toList) hfr
 rw [HPD.out] at hmir
 have HMIR:=za hmir
 have HG:Hid (M1.length≤1000):=by show _≤_; rw [hi.mir.length]; exact HF.out
 have hq:=nilmap9 w1 p
 have hc0:=hi.cell0
 clear ht hmir hfr HD
 cases p with
 | none =>
  have hqn:q=none:=by
   have:=hi.both
   cases q with
   | none=>rfl
   | some c=>cases this
  subst hqn
  have hL1:=hi.mapp.nil rfl
  have hM1:=hi.mapq.nil rfl
  have f0:=hi.frozen0
  have f1:=hi.frozen1
  have hc1:=hi.cell1
  have hblk:=hi.blk
  have hblt:=hi.lt
  have hmm:=@run_makeMap Tryz.prog
  have hs0:((w1.setCell ⟨B,0,none⟩ (.map (some w1.heap.size))).setCell ⟨B,1,none⟩ (.map (some (w1.heap.size+1)))).heap.size=w1.heap.size:=by simp [World.setCell]
  have hb0:=blk_set1 (.map (some (w1.heap.size+1))) (blk_set0 (.map (some w1.heap.size)) hblk)
  have hb2:(((w1.setCell ⟨B,0,none⟩ (.map (some w1.heap.size))).setCell ⟨B,1,none⟩ (.map (some (w1.heap.size+1)))).alloc (.map #[] 0)).heap[B]? = _:=(Below.heap_alloc _ _ B (by omega)).trans hb0
  have hb3:((((w1.setCell ⟨B,0,none⟩ (.map (some w1.heap.size))).setCell ⟨B,1,none⟩ (.map (some (w1.heap.size+1)))).alloc (.map #[] 0)).alloc (.map #[] 0)).heap[B]? = _:=(Below.heap_alloc _ _ B (by simp; omega)).trans hb2
  have m1:=World.ownsMap_made (H:=Unit) ((w1.setCell ⟨B,0,none⟩ (.map (some w1.heap.size))).setCell ⟨B,1,none⟩ (.map (some (w1.heap.size+1)))) Tryz.prog 9 (plainElem Tryz.prog 9)
  have m2:=World.ownsMap_made (H:=Unit) (((w1.setCell ⟨B,0,none⟩ (.map (some w1.heap.size))).setCell ⟨B,1,none⟩ (.map (some (w1.heap.size+1)))).alloc (.map #[] 0)) Tryz.prog 9 (plainElem Tryz.prog 9)
  have m1':=m1.alloc (.map #[] 0)
  rw [hs0] at m1'
  rw [World.size_alloc,hs0] at m2
  have e0:(.map []:DataW Unit)=YR []:=rfl
  rw [e0] at m1' m2
  have hT2:zg (fun i=>i=B) w1 ((((w1.setCell ⟨B,0,none⟩ (.map (some w1.heap.size))).setCell ⟨B,1,none⟩ (.map (some (w1.heap.size+1)))).alloc (.map #[] 0)).alloc (.map #[] 0)):=((((zg.refl (fun i=>i=B) w1).setCell (p:=⟨B,0,none⟩) (fun _=>rfl) _).setCell (p:=⟨B,1,none⟩) (fun _=>rfl) _).alloc _).alloc _
  have hB1:=fA.of (L:=[]) m1'
  rw [← hL1] at hB1
  have hB2:=fA.of (L:=[]) m2
  rw [← hM1] at hB2
  have HB1:=za hB1
  have HB2:=za hB2
  clear hB1 hB2
  have hz:((((w1.setCell ⟨B,0,none⟩ (.map (some w1.heap.size))).setCell ⟨B,1,none⟩ (.map (some (w1.heap.size+1)))).alloc (.map #[] 0)).alloc (.map #[] 0)).heap.size=w1.heap.size+2:=by rw [World.size_alloc,World.size_alloc,hs0]
  clear m1 m2 m1' e0 hb2 hb0 hs0 hi hlp hlq
  go_wp2
  clear hc0 hc1 hq f0 f1 hmm hblk
  generalize ((((w1.setCell ⟨B,0,none⟩ (.map (some w1.heap.size))).setCell ⟨B,1,none⟩ (.map (some (w1.heap.size+1)))).alloc (.map #[] 0)).alloc (.map #[] 0))=w2 at *
  have hsz:=HT.out.size
  generalize hc:w1.heap.size+1=c at *
  generalize hb:w1.heap.size=b at *
  have hbc:b≠c:=by omega
  have HBL:Hid (B<w2.heap.size):=by show _<_; omega
  have HBN:Hid (¬ (B=b∨B=c)):=by show ¬ _; omega
  have HC0:Hid (w2.cell? ⟨B,0,none⟩=some (.map (some b))):=by show _=_; simp [World.cell?,hb3]
  have HC1:Hid (w2.cell? ⟨B,1,none⟩=some (.map (some c))):=by show _=_; simp [World.cell?,hb3]
  have HEND:Hid (∀ W,zg (fun i=>i=b∨i=c) w2 W→fA W b (vl L n.data.toList a.data.toList)→fA W c (vl M1 a.data.toList n.data.toList)→uc w B none none (vl L n.data.toList a.data.toList) W):=fun W hW h1 h2=>by
   refine ⟨some b,some c,_,⟨(hW.block B HBL.out HBN.out).trans hb3,⟨(fun h=>nomatch h),fun b' e=>by cases e; exact h1⟩,⟨(fun h=>nomatch h),fun b' e=>by cases e; exact h2⟩,rfl,(fun _ _ e1 e2=>by cases e1; cases e2; exact hbc),HMIR.out,HLN.out,HALL.out⟩,(fun _ e=>.inr (by cases e; omega)),(fun _ e=>.inr (by cases e; omega)),?_⟩
   exact (HT.out.next hT2 (fun i _ e=>.inl e)).next hW (fun i hi e=>by omega)
  clear HI HT HMIR HLN HALL hT2 hb3 hL1 hM1
  refine vi (by kernel_rfl) (YX w2 B b c (vx L n.data.toList) M1 (vl L n.data.toList a.data.toList) (vl M1 a.data.toList n.data.toList) n a) ?F ?hF (by kernel_rfl) (by kernel_rfl) (fun x=>YX.start x HB1.out HB2.out) ?step ?fin
  case hF =>
   intro x
   simp only [List.map_cons,List.map_nil,xU,Act.put,List.setIfInBounds_toArray,List.set_cons_zero,List.set_cons_succ,Nat.zero_add,Nat.reduceAdd]
   exact rfl
  case step =>
   rw [← HPD.out]
   refine ⟨?_,?_,?_,?_,?_,?_,?_,?_,?_,?_,?_,?_,?_,?_,?_,?_,?_,?_,trivial⟩
   ·
    intro D x W hi hd hI K hK
    clear hd
    go_simp
    exact hK _ _ (hI.quiet 0 _ rfl (fun _=>rfl) (fun h=>absurd h (by decide)) (fun h=>absurd h (by decide)))
   ·
    intro D x W hi hd hI K hK
    have h0:x 0=_:=hI.y 0 (by decide) (hd 0 rfl)
    clear hd
    simp only [h0] at hK
    go_simp
    exact hK _ _ (hI.quiet 1 _ rfl (fun _=>rfl) (fun h=>absurd h (by decide)) (fun h=>absurd h (by decide)))
   ·
    intro D x W hi hd hI K hK
    have h1:x 1=_:=hI.y 1 (by decide) (hd 1 rfl)
    clear hd
    simp only [h1] at hK
    go_simp
    exact hK _ _ (hI.quiet 2 _ rfl (fun _=>rfl) (fun h=>absurd h (by decide)) (fun h=>absurd h (by decide)))
   ·
    intro D x W hi hd hI K hK
    have h2:x 2=_:=hI.y 2 (by decide) (hd 2 rfl)
    have c:=(hI.t.cell (p:=⟨B,0,none⟩) HBL.out HBN.out).trans HC0.out
    clear hd
    simp only [h2] at hK
    go_simp
    exact hK _ _ (hI.quiet 3 _ rfl (fun _=>rfl) (fun h=>absurd h (by decide)) (fun h=>absurd h (by decide)))
   ·
    intro D x W hi hd hI K hK
    clear hd
    go_simp
    exact hK _ _ (hI.quiet 4 _ rfl (fun _=>rfl) (fun h=>absurd h (by decide)) (fun h=>absurd h (by decide)))
   ·
    intro D x W hi hd hI K hK
    clear hd
    go_simp
    exact hK _ _ (hI.quiet 5 _ rfl (fun _=>rfl) (fun h=>absurd h (by decide)) (fun h=>absurd h (by decide)))
   ·
    intro D x W hi hd hI K hK
    have h5:x 5=_:=hI.y 5 (by decide) (hd 5 rfl)
    clear hd
    simp only [h5] at hK
    go_simp
    exact hK _ _ (hI.quiet 6 _ rfl (fun _=>rfl) (fun h=>absurd h (by decide)) (fun h=>absurd h (by decide)))
   ·
    intro D x W hi hd hI K hK
    have h6:x 6=_:=hI.y 6 (by decide) (hd 6 rfl)
    clear hd
    simp only [h6] at hK
    go_simp
    exact hK _ _ (hI.quiet 7 _ rfl (fun _=>rfl) (fun h=>absurd h (by decide)) (fun h=>absurd h (by decide)))
   ·
    intro D x W hi hd hI K hK
    have h7:x 7=_:=hI.y 7 (by decide) (hd 7 rfl)
    have c:=(hI.t.cell (p:=⟨B,1,none⟩) HBL.out HBN.out).trans HC1.out
    clear hd
    simp only [h7] at hK
    go_simp
    exact hK _ _ (hI.quiet 8 _ rfl (fun _=>rfl) (fun h=>absurd h (by decide)) (fun h=>absurd h (by decide)))
   ·
    intro D x W hi hd hI K hK
    clear hd
    go_simp
    exact hK _ _ (hI.quiet 9 _ rfl (fun _=>rfl) (fun h=>absurd h (by decide)) (fun h=>absurd h (by decide)))
   ·
    intro D x W hi hd hI K hK
    clear hd
    go_simp
    exact hK _ _ (hI.quiet 10 _ rfl (fun _=>rfl) (fun h=>absurd h (by decide)) (fun h=>absurd h (by decide)))
   ·
    intro D x W hi hd hI K hK
    clear hd
    go_simp
    exact hK _ _ (hI.quiet 11 _ rfl (fun _=>rfl) (fun h=>absurd h (by decide)) (fun h=>absurd h (by decide)))
   ·
    intro D x W hi hd hI K hK
    have h3:x 3=_:=hI.y 3 (by decide) (hd 3 rfl)
    have h4:x 4=_:=hI.y 4 (by decide) (hd 4 rfl)
    obtain ⟨v0,st,W1,hrun,hH,hT⟩:=half9 (hI.s.at_ 0 (by decide) hi (.inl rfl)).1 HF.out n a hn' ha'
    clear hd
    simp only [h3,h4] at hK
    go_simp
    exact hK _ _ (hI.at12 hi hH hT hbc)
   ·
    intro D x W hi hd hI K hK
    have hp:=hd 12 rfl
    obtain ⟨v0,st,h12⟩:=hI.e12 hp
    clear hd
    simp only [h12] at hK
    go_simp
    exact hK _ _ (hI.quiet 13 _ rfl (fun h=>absurd h (by decide)) (fun _=>⟨hp,v0,by rw [h12]⟩) (fun h=>absurd h (by decide)))
   ·
    intro D x W hi hd hI K hK
    have h3:x 3=_:=hI.y 3 (by decide) (hd 3 rfl)
    have h10:x 10=_:=hI.y 10 (by decide) (hd 10 rfl)
    obtain ⟨⟨v0,st,e12,hH⟩,hM⟩:=hI.s.at_ 1 (by decide) hi (.inr (hd 12 rfl))
    obtain ⟨_,v1,e13⟩:=hI.e13 (hd 13 rfl)
    have h13:x 13=.int .i64 (st:Int):=(by rw [e12] at e13; simpa using e13.symm:v1=v0∧x 13=_).2
    obtain ⟨o,ho,hst⟩:=hH
    obtain ⟨W3,hrun,hm3,hT⟩:=hst W ho
    have hd12:=hd 12 rfl
    clear hd e13 e12 hst
    simp only [h3,h13,h10] at hK
    go_simp
    exact hK undef _ (hI.at14 hi hd12 hm3 hT hbc)
   ·
    intro D x W hi hd hI K hK
    have h8:x 8=_:=hI.y 8 (by decide) (hd 8 rfl)
    have h9:x 9=_:=hI.y 9 (by decide) (hd 9 rfl)
    obtain ⟨v0,st,W1,hrun,hH,hT⟩:=half9 (hI.s.at_ 2 (by decide) hi (.inr (hd 14 rfl))).2 HG.out a n ha' hn'
    have hd14:=hd 14 rfl
    clear hd
    simp only [h8,h9] at hK
    go_simp
    exact hK _ _ (hI.at15 hi hd14 hH hT hbc)
   ·
    intro D x W hi hd hI K hK
    have hp:=hd 15 rfl
    obtain ⟨v0,st,h15⟩:=hI.e15 hp
    clear hd
    simp only [h15] at hK
    go_simp
    exact hK _ _ (hI.quiet 16 _ rfl (fun h=>absurd h (by decide)) (fun h=>absurd h (by decide)) (fun _=>⟨hp,v0,by rw [h15]⟩))
   ·
    intro D x W hi hd hI K hK
    have h8:x 8=_:=hI.y 8 (by decide) (hd 8 rfl)
    have h11:x 11=_:=hI.y 11 (by decide) (hd 11 rfl)
    obtain ⟨hM,v0,st,e15,hH⟩:=hI.s.at_ 3 (by decide) hi (.inr (hd 15 rfl))
    obtain ⟨_,v1,e16⟩:=hI.e16 (hd 16 rfl)
    have h16:x 16=.int .i64 (st:Int):=(by rw [e15] at e16; simpa using e16.symm:v1=v0∧x 16=_).2
    obtain ⟨o,ho,hst⟩:=hH
    obtain ⟨W3,hrun,hm3,hT⟩:=hst W ho
    have hd15:=hd 15 rfl
    clear hd e16 e15 hst
    simp only [h8,h16,h11] at hK
    go_simp
    exact hK undef _ (hI.at17 hi hd15 hm3 hT hbc)
  case fin =>
   intro D x W hall hI
   have HZ:=za (HEND.out W hI.t (hI.s.done9 (fun r hr=>hall _ (by simp at hr; rcases r with _ | _ | _ | _ | r <;> first | decide | omega))).1 (hI.s.done9 (fun r hr=>hall _ (by simp at hr; rcases r with _ | _ | _ | _ | r <;> first | decide | omega))).2)
   clear hI hall
   go_end0
   exact ⟨rfl,HZ.out⟩
 | some b =>
  obtain ⟨c,rfl⟩:∃ c,q=some c:=by
   have:=hi.both
   cases q with
   | none=>cases this
   | some c=>exact ⟨c,rfl⟩
  have hbc:=hi.apt b c rfl rfl
  have HB1:=za (hi.mapp.map b rfl)
  have HB2:=za (hi.mapq.map c rfl)
  have HBL:=za hi.lt
  have HBN:Hid (¬ (B=b∨B=c)):=fun e=>e.elim (fun e=>hi.pne b rfl e.symm) (fun e=>hi.qne c rfl e.symm)
  have HC0:=za hi.cell0
  have HC1:=za hi.cell1
  have HEND:Hid (∀ W,zg (fun i=>i=b∨i=c) w1 W→fA W b (vl L n.data.toList a.data.toList)→fA W c (vl M1 a.data.toList n.data.toList)→uc w B (some b) (some c) (vl L n.data.toList a.data.toList) W):=fun W hW h1 h2=>by
   refine ⟨some b,some c,_,⟨(hW.block B HBL.out HBN.out).trans HI.out.blk,⟨(fun h=>nomatch h),fun b' e=>by cases e; exact h1⟩,⟨(fun h=>nomatch h),fun b' e=>by cases e; exact h2⟩,rfl,(fun _ _ e1 e2=>by cases e1; cases e2; exact hbc),HMIR.out,HLN.out,HALL.out⟩,(fun _ e=>.inl e),(fun _ e=>.inl e),?_⟩
   exact HT.out.next hW (fun i _ e=>e.elim (fun e=>.inr (.inl (by rw [e]))) (fun e=>.inr (.inr (by rw [e]))))
  clear hi HI HT HMIR HLN HALL hlp hlq hlt0
  go_wp2
  clear hc0 hq
  generalize w1=w2 at *
  refine vi (by kernel_rfl) (YX w2 B b c (vx L n.data.toList) M1 (vl L n.data.toList a.data.toList) (vl M1 a.data.toList n.data.toList) n a) ?F2 ?hF2 (by kernel_rfl) (by kernel_rfl) (fun x=>YX.start x HB1.out HB2.out) ?step2 ?fin2
  case hF2 =>
   intro x
   simp only [List.map_cons,List.map_nil,xU,Act.put,List.setIfInBounds_toArray,List.set_cons_zero,List.set_cons_succ,Nat.zero_add,Nat.reduceAdd]
   exact rfl
  case step2 =>
   rw [← HPD.out]
   refine ⟨?_,?_,?_,?_,?_,?_,?_,?_,?_,?_,?_,?_,?_,?_,?_,?_,?_,?_,trivial⟩
   ·
    intro D x W hi hd hI K hK
    clear hd
    go_simp
    exact hK _ _ (hI.quiet 0 _ rfl (fun _=>rfl) (fun h=>absurd h (by decide)) (fun h=>absurd h (by decide)))
   ·
    intro D x W hi hd hI K hK
    have h0:x 0=_:=hI.y 0 (by decide) (hd 0 rfl)
    clear hd
    simp only [h0] at hK
    go_simp
    exact hK _ _ (hI.quiet 1 _ rfl (fun _=>rfl) (fun h=>absurd h (by decide)) (fun h=>absurd h (by decide)))
   ·
    intro D x W hi hd hI K hK
    have h1:x 1=_:=hI.y 1 (by decide) (hd 1 rfl)
    clear hd
    simp only [h1] at hK
    go_simp
    exact hK _ _ (hI.quiet 2 _ rfl (fun _=>rfl) (fun h=>absurd h (by decide)) (fun h=>absurd h (by decide)))
   ·
    intro D x W hi hd hI K hK
    have h2:x 2=_:=hI.y 2 (by decide) (hd 2 rfl)
    have c:=(hI.t.cell (p:=⟨B,0,none⟩) HBL.out HBN.out).trans HC0.out
    clear hd
    simp only [h2] at hK
    go_simp
    exact hK _ _ (hI.quiet 3 _ rfl (fun _=>rfl) (fun h=>absurd h (by decide)) (fun h=>absurd h (by decide)))
   ·
    intro D x W hi hd hI K hK
    clear hd
    go_simp
    exact hK _ _ (hI.quiet 4 _ rfl (fun _=>rfl) (fun h=>absurd h (by decide)) (fun h=>absurd h (by decide)))
   ·
    intro D x W hi hd hI K hK
    clear hd
    go_simp
    exact hK _ _ (hI.quiet 5 _ rfl (fun _=>rfl) (fun h=>absurd h (by decide)) (fun h=>absurd h (by decide)))
   ·
    intro D x W hi hd hI K hK
    have h5:x 5=_:=hI.y 5 (by decide) (hd 5 rfl)
    clear hd
    simp only [h5] at hK
    go_simp
    exact hK _ _ (hI.quiet 6 _ rfl (fun _=>rfl) (fun h=>absurd h (by decide)) (fun h=>absurd h (by decide)))
   ·
    intro D x W hi hd hI K hK
    have h6:x 6=_:=hI.y 6 (by decide) (hd 6 rfl)
    clear hd
    simp only [h6] at hK
    go_simp
    exact hK _ _ (hI.quiet 7 _ rfl (fun _=>rfl) (fun h=>absurd h (by decide)) (fun h=>absurd h (by decide)))
   ·
    intro D x W hi hd hI K hK
    have h7:x 7=_:=hI.y 7 (by decide) (hd 7 rfl)
    have c:=(hI.t.cell (p:=⟨B,1,none⟩) HBL.out HBN.out).trans HC1.out
    clear hd
    simp only [h7] at hK
    go_simp
    exact hK _ _ (hI.quiet 8 _ rfl (fun _=>rfl) (fun h=>absurd h (by decide)) (fun h=>absurd h (by decide)))
   ·
    intro D x W hi hd hI K hK
    clear hd
    go_simp
    exact hK _ _ (hI.quiet 9 _ rfl (fun _=>rfl) (fun h=>absurd h (by decide)) (fun h=>absurd h (by decide)))
   ·
    intro D x W hi hd hI K hK
    clear hd
    go_simp
    exact hK _ _ (hI.quiet 10 _ rfl (fun _=>rfl) (fun h=>absurd h (by decide)) (fun h=>absurd h (by decide)))
   ·
    intro D x W hi hd hI K hK
    clear hd
    go_simp
    exact hK _ _ (hI.quiet 11 _ rfl (fun _=>rfl) (fun h=>absurd h (by decide)) (fun h=>absurd h (by decide)))
   ·
    intro D x W hi hd hI K hK
    have h3:x 3=_:=hI.y 3 (by decide) (hd 3 rfl)
    have h4:x 4=_:=hI.y 4 (by decide) (hd 4 rfl)
    obtain ⟨v0,st,W1,hrun,hH,hT⟩:=half9 (hI.s.at_ 0 (by decide) hi (.inl rfl)).1 HF.out n a hn' ha'
    clear hd
    simp only [h3,h4] at hK
    go_simp
    exact hK _ _ (hI.at12 hi hH hT hbc)
   ·
    intro D x W hi hd hI K hK
    have hp:=hd 12 rfl
    obtain ⟨v0,st,h12⟩:=hI.e12 hp
    clear hd
    simp only [h12] at hK
    go_simp
    exact hK _ _ (hI.quiet 13 _ rfl (fun h=>absurd h (by decide)) (fun _=>⟨hp,v0,by rw [h12]⟩) (fun h=>absurd h (by decide)))
   ·
    intro D x W hi hd hI K hK
    have h3:x 3=_:=hI.y 3 (by decide) (hd 3 rfl)
    have h10:x 10=_:=hI.y 10 (by decide) (hd 10 rfl)
    obtain ⟨⟨v0,st,e12,hH⟩,hM⟩:=hI.s.at_ 1 (by decide) hi (.inr (hd 12 rfl))
    obtain ⟨_,v1,e13⟩:=hI.e13 (hd 13 rfl)
    have h13:x 13=.int .i64 (st:Int):=(by rw [e12] at e13; simpa using e13.symm:v1=v0∧x 13=_).2
    obtain ⟨o,ho,hst⟩:=hH
    obtain ⟨W3,hrun,hm3,hT⟩:=hst W ho
    have hd12:=hd 12 rfl
    clear hd e13 e12 hst
    simp only [h3,h13,h10] at hK
    go_simp
    exact hK undef _ (hI.at14 hi hd12 hm3 hT hbc)
   ·
    intro D x W hi hd hI K hK
    have h8:x 8=_:=hI.y 8 (by decide) (hd 8 rfl)
    have h9:x 9=_:=hI.y 9 (by decide) (hd 9 rfl)
    obtain ⟨v0,st,W1,hrun,hH,hT⟩:=half9 (hI.s.at_ 2 (by decide) hi (.inr (hd 14 rfl))).2 HG.out a n ha' hn'
    have hd14:=hd 14 rfl
    clear hd
    simp only [h8,h9] at hK
    go_simp
    exact hK _ _ (hI.at15 hi hd14 hH hT hbc)
   ·
    intro D x W hi hd hI K hK
    have hp:=hd 15 rfl
    obtain ⟨v0,st,h15⟩:=hI.e15 hp
    clear hd
    simp only [h15] at hK
    go_simp
    exact hK _ _ (hI.quiet 16 _ rfl (fun h=>absurd h (by decide)) (fun h=>absurd h (by decide)) (fun _=>⟨hp,v0,by rw [h15]⟩))
   ·
    intro D x W hi hd hI K hK
    have h8:x 8=_:=hI.y 8 (by decide) (hd 8 rfl)
    have h11:x 11=_:=hI.y 11 (by decide) (hd 11 rfl)
    obtain ⟨hM,v0,st,e15,hH⟩:=hI.s.at_ 3 (by decide) hi (.inr (hd 15 rfl))
    obtain ⟨_,v1,e16⟩:=hI.e16 (hd 16 rfl)
    have h16:x 16=.int .i64 (st:Int):=(by rw [e15] at e16; simpa using e16.symm:v1=v0∧x 16=_).2
    obtain ⟨o,ho,hst⟩:=hH
    obtain ⟨W3,hrun,hm3,hT⟩:=hst W ho
    have hd15:=hd 15 rfl
    clear hd e16 e15 hst
    simp only [h8,h16,h11] at hK
    go_simp
    exact hK undef _ (hI.at17 hi hd15 hm3 hT hbc)
  case fin2 =>
   intro D x W hall hI
   have HZ:=za (HEND.out W hI.t (hI.s.done9 (fun r hr=>hall _ (by simp at hr; rcases r with _ | _ | _ | _ | r <;> first | decide | omega))).1 (hI.s.done9 (fun r hr=>hall _ (by simp at hr; rcases r with _ | _ | _ | _ | r <;> first | decide | omega))).2)
   clear hI hall
   go_end0
   exact ⟨rfl,HZ.out⟩
end Go.Proofs.YteegkoicalbkbaaGreatDoor
namespace Go.Proofs.YteegkoicalbkbaaGreatDoor
open Go.RowKit Go.Maps Go.Shelf

theorem uc.after {w w1 w':World} {B:Nat} {p q:Option Nat} {L':zl} (ht:Turn9 B p q w w1) (h:uc w1 B p q L' w'):uc w B p q L' w':=by
 obtain ⟨p',q',M',hd,hp,hq,hu⟩:=h
 exact ⟨p',q',M',hd,fun b e=>(hp b e).imp id (fun h=>Nat.le_trans ht.size h),fun b e=>(hq b e).imp id (fun h=>Nat.le_trans ht.size h),zg.next ht hu (fun i _ h=>h)⟩

def Jv (L:zl) (n a:List UInt8):Bool:=YQ L a && decide (Vy L a≠n)
def jy (L:zl) (n m:List UInt8):Int:=if zh n then (if m=[] then 0 else if ve m then (if Jv L n (zN m) then 9 else 0) else 11) else 10
def Uu (L:zl) (n m:List UInt8):zl:=if jy L n m=0 then (if m=[] then vx L n else vl L n (zN m)) else L
def reE9 (L:zl) (o n:List UInt8):Int:=if zh n then (if yE L o then (if yE L n && decide (n≠o) then 9 else 0) else 8) else 10
def reL9 (L:zl) (o n:List UInt8):zl:=if reE9 L o n=0 then vl (vx L o) n (yM L o) else L

theorem free9 {L M:zl} (h:yo L M) {n a:List UInt8} (hb:Jv L n a=false):YQ (vx L n) a=false:=by
 cases hd:YQ (vx L n) a
 ·
  rfl
 ·
  obtain ⟨h1,h2⟩:=yC.1 (jc hd)
  have h3:YQ L a=true:=Ze h1
  have h4:Vy L a=Vy (vx L n) a:=h.own h1
  unfold Jv at hb
  rw [h3,Bool.true_and,decide_eq_false_iff_not] at hb
  have h5:Vy L a=n:=by
   by_cases e:Vy L a=n
   ·
    exact e
   ·
    exact absurd e hb
  exact absurd (h4.symm.trans h5) h2
theorem free9b {L M:zl} (h:yo L M) {o n:List UInt8} (ho:yE L o=true):YQ (vx (vx L o) n) (yM L o)=false:=by
 cases hd:YQ (vx (vx L o) n) (yM L o)
 ·
  rfl
 ·
  obtain ⟨h1,_⟩:=yC.1 (jc hd)
  obtain ⟨h1,h2⟩:=yC.1 h1
  exact absurd (h.one h1 (vm ho)) h2
theorem put_le9 {L:zl} (hr:uy L) (n a:List UInt8):(vl L n a).length≤L.length+1:=by
 rw [vI hr]; split <;> omega
theorem qP (l:List UInt8):(ByteArray.mk (zN l).toArray).data.toList=zN l:=by simp

set_option maxRecDepth 100000 in
theorem set9_calls (B:Nat) (p q:Option Nat) (L M:zl) (n m:ByteArray) (w:World) (h:ua w B p q L M) (hn:n.size≤9223372036854775807) (hmz:m.size≤9223372036854775807) (hl:L.length<100) (h5:vY w) :
  Calls Tryz.prog 226 #[.pointer (some ⟨B,0,none⟩),.string n,.string m] w fun e w'=>e=.returned (.int .i64 (jy L n.data.toList m.data.toList))∧uc w B p q (Uu L n.data.toList m.data.toList) w':=by
 have hn':n.size≤maxLen:=Nat.le_trans hn (by decide)
 have HN:=za (zW n w hn)
 have HI:=za h
 unfold Uu
 cases hb:zh n.data.toList with
 | false =>
  rw [hb] at HN
  have HN2:Hid (Calls Tryz.prog 159 #[.string n] w (yG 10 w)):=HN.out
  have e1:jy L n.data.toList m.data.toList=10:=by unfold jy; rw [hb]; rfl
  rw [e1,if_neg (by decide)]
  clear HN hb h e1
  go_enter Tryz.func226,Tryz.ntmps226
  go_wp2_with fail
  with_reducible refine HN2.out.mono ?_
  rintro e w1 ⟨rfl,hb⟩
  have HB:=za hb
  clear hb HN2
  go_wp2
  go_ret
  exact ⟨rfl,uc.still HI.out HB.out⟩
 | true =>
  rw [hb] at HN
  have HN2:Hid (Calls Tryz.prog 159 #[.string n] w (yG 0 w)):=HN.out
  have HNM:=za hb
  clear HN
  by_cases h0:m.size=0
  ·
   obtain rfl:m=⟨#[]⟩:=by
    obtain ⟨d⟩:=m
    obtain rfl:d=#[]:=Array.eq_empty_of_size_eq_zero h0
    rfl
   have e1:jy L n.data.toList (ByteArray.mk #[]).data.toList=0:=by unfold jy; rw [hb]; rfl
   rw [e1,if_pos rfl,if_pos (by rfl)]
   have HD:Hid (∀ W,ua W B p q L M→Calls Tryz.prog 239 #[.pointer (some ⟨B,0,none⟩),.string n] W fun e w'=>e=.returned (.bool (yE L n.data.toList))∧(∃ M',ua w' B p q (vx L n.data.toList) M')∧Turn9 B p q W w'):=fun W hW=>jf B p q L M n W hW hn'
   clear hb h e1 hmz
   generalize yE L n.data.toList=r at *
   go_enter Tryz.func226,Tryz.ntmps226
   go_wp2_with fail
   with_reducible refine HN2.out.mono ?_
   rintro e w1 ⟨rfl,hb⟩
   have HB:=za hb
   have HD1:=za (HD.out w1 (HI.out.later hb))
   clear hb HN2 HD
   go_wp2_with fail
   with_reducible refine HD1.out.mono ?_
   rintro e w2 ⟨rfl,⟨M2,hi⟩,ht⟩
   have HF:Hid (uc w B p q (vx L n.data.toList) w2):=uc.ahead HB.out ⟨p,q,M2,hi,(fun _ e=>.inl e),(fun _ e=>.inl e),ht⟩
   clear hi ht HD1
   go_wp2
   go_ret
   exact ⟨rfl,HF.out⟩
  ·
   have hne:¬ m.toList=[]:=fun e=>h0 (by rw [← zx,← ByteArray.toList_eq,e]; rfl)
   have hne1:¬ m.data.toList=[]:=fun e=>h0 (by rw [← zx,e]; rfl)
   have hne2:m.toList.isEmpty=false:=by simpa using hne
   have HM:Hid (∀ W,vY W→Calls Tryz.prog 231 #[.string m] W (Mails5 (ve m.data.toList) (fJ m.data.toList) W)):=fun W hW=>fa m W hmz hW
   have H5:=za h5
   cases hc:ve m.data.toList with
   | false =>
    have e1:jy L n.data.toList m.data.toList=11:=by unfold jy; rw [hb,if_pos rfl,if_neg hne1,hc]; rfl
    rw [e1,if_neg (by decide)]
    unfold fJ at HM
    rw [hc] at HM
    have HM2:Hid (∀ W,vY W→Calls Tryz.prog 231 #[.string m] W fun e w'=>e=.returned (.tuple #[.string ⟨#[]⟩,.int .i64 11])∧Below W.heap.size W w'):=HM.out
    clear HM hb h e1 hmz hc h5 hne1
    go_enter Tryz.func226,Tryz.ntmps226
    go_wp2_with fail
    with_reducible refine HN2.out.mono ?_
    rintro e w1 ⟨rfl,hb⟩
    have HB:=za hb
    have HM1:=za (HM2.out w1 (H5.out.later hb))
    clear hb HN2 HM2
    go_wp2_with fail
    with_reducible refine HM1.out.mono ?_
    rintro e w2 ⟨rfl,hb⟩
    have HF:=za (z7 HB.out hb)
    clear hb HM1
    go_wp2
    go_ret
    exact ⟨rfl,uc.still HI.out HF.out⟩
   | true =>
    unfold fJ at HM
    rw [hc] at HM
    have HM2:Hid (∀ W,vY W→Calls Tryz.prog 231 #[.string m] W fun e w'=>e=.returned (.tuple #[.string ⟨(zN m.data.toList).toArray⟩,.int .i64 0])∧Below W.heap.size W w'):=HM.out
    have hfz:(ByteArray.mk (zN m.data.toList).toArray).size≤maxLen:=by
     show (zN m.data.toList).toArray.size≤_
     rw [List.size_toArray,uv,zx]; exact Nat.le_trans hmz (by decide)
    have HLK:Hid (∀ W,ua W B p q L M→(Instr.lookup 118 (.map q) (.string ⟨(zN m.data.toList).toArray⟩) true).run Tryz.prog W=.ok (.tuple #[.string (tx7 (Vy L (zN m.data.toList))),.bool (YQ L (zN m.data.toList))]) W):=fun W hW=>by
     have:=look9 hW.mapq ⟨(zN m.data.toList).toArray⟩ hfz
     rw [qP,hW.mir.get,hW.mir.has] at this
     exact this
    have e0:jy L n.data.toList m.data.toList=if Jv L n.data.toList (zN m.data.toList) then 9 else 0:=by unfold jy; rw [hb,if_pos rfl,if_neg hne1,hc,if_pos rfl]
    have HP:Hid (Jv L n.data.toList (zN m.data.toList)=false→∀ W,Below w.heap.size w W→Calls Tryz.prog 240 #[.pointer (some ⟨B,0,none⟩),.string n,.string ⟨(zN m.data.toList).toArray⟩] W fun e w'=>e=.returned (.tuple #[])∧uc w B p q (vl L n.data.toList (zN m.data.toList)) w'):=fun hbd W hW=>by
     have hfr:=free9 h.mir hbd
     have:=Ux B p q L M n ⟨(zN m.data.toList).toArray⟩ W (h.later hW) (by rw [qP]; exact May9.of hb hc) (by rw [qP]; exact hfr) (by rw [qP]; exact Nat.le_trans (put_le9 h.rise _ _) hl)
     rw [qP] at this
     exact this.mono fun e w' ⟨he,hg⟩=>⟨he,hg.ahead hW⟩
    rw [if_neg hne1,e0]
    clear HM e0 hfz h5 hc
    cases hho:YQ L (zN m.data.toList) with
    | false =>
     have hbd:Jv L n.data.toList (zN m.data.toList)=false:=by unfold Jv; rw [hho]; rfl
     have HP2:=za (HP.out hbd)
     rw [hbd,if_neg (by decide),if_pos rfl]
     rw [hho] at HLK
     clear HP hbd hho hb h hmz hne1
     generalize tx7 (Vy L (zN m.data.toList))=o at *
     generalize (⟨(zN m.data.toList).toArray⟩:ByteArray)=f at *
     go_enter Tryz.func226,Tryz.ntmps226
     go_wp2_with fail
     with_reducible refine HN2.out.mono ?_
     rintro e w1 ⟨rfl,hb⟩
     have HB:=za hb
     have HM1:=za (HM2.out w1 (H5.out.later hb))
     clear hb HN2 HM2
     go_wp2_with fail
     with_reducible refine HM1.out.mono ?_
     rintro e w2 ⟨rfl,hb⟩
     have hb2:=z7 HB.out hb
     have l1:=HLK.out w2 (HI.out.later hb2)
     have c1:=(HI.out.later hb2).cell1
     have HP3:=za (HP2.out w2 hb2)
     clear hb HM1 HLK HP2 hb2
     go_wp2_with fail
     with_reducible refine HP3.out.mono ?_
     rintro e w3 ⟨rfl,hg⟩
     have HG:=za hg
     clear hg HP3 l1 c1
     go_wp2
     go_ret
     exact ⟨rfl,HG.out⟩
    | true =>
     rw [hho] at HLK
     by_cases ho:Vy L (zN m.data.toList)=n.data.toList
     ·
      have hbd:Jv L n.data.toList (zN m.data.toList)=false:=by unfold Jv; rw [ho]; simp
      have HP2:=za (HP.out hbd)
      rw [hbd,if_neg (by decide),if_pos rfl]
      rw [ho,jQ] at HLK
      have n1:(n.toList != n.toList)=false:=by simp
      have n2:(n.toList == n.toList)=true:=by simp
      clear HP hbd hho hb h hmz ho hne1
      generalize (⟨(zN m.data.toList).toArray⟩:ByteArray)=f at *
      go_enter Tryz.func226,Tryz.ntmps226
      go_wp2_with fail
      with_reducible refine HN2.out.mono ?_
      rintro e w1 ⟨rfl,hb⟩
      have HB:=za hb
      have HM1:=za (HM2.out w1 (H5.out.later hb))
      clear hb HN2 HM2
      go_wp2_with fail
      with_reducible refine HM1.out.mono ?_
      rintro e w2 ⟨rfl,hb⟩
      have hb2:=z7 HB.out hb
      have l1:=HLK.out w2 (HI.out.later hb2)
      have c1:=(HI.out.later hb2).cell1
      have HP3:=za (HP2.out w2 hb2)
      clear hb HM1 HLK HP2 hb2
      go_wp2_with fail
      with_reducible refine HP3.out.mono ?_
      rintro e w3 ⟨rfl,hg⟩
      have HG:=za hg
      clear hg HP3 l1 c1
      go_wp2
      go_ret
      exact ⟨rfl,HG.out⟩
     ·
      have hbd:Jv L n.data.toList (zN m.data.toList)=true:=by unfold Jv; rw [hho,Bool.true_and,decide_eq_true ho]
      rw [hbd,if_pos rfl,if_neg (by decide)]
      have n1:¬ (tx7 (Vy L (zN m.data.toList))).toList=n.toList:=by
       rw [Lib.toList_data,Lib.toList_data,xz]; exact ho
      have n2:((tx7 (Vy L (zN m.data.toList))).toList == n.toList)=false:=by simpa using n1
      clear HP hbd hho hb h hmz ho hne1
      generalize tx7 (Vy L (zN m.data.toList))=o at *
      generalize (⟨(zN m.data.toList).toArray⟩:ByteArray)=f at *
      go_enter Tryz.func226,Tryz.ntmps226
      go_wp2_with fail
      with_reducible refine HN2.out.mono ?_
      rintro e w1 ⟨rfl,hb⟩
      have HB:=za hb
      have HM1:=za (HM2.out w1 (H5.out.later hb))
      clear hb HN2 HM2
      go_wp2_with fail
      with_reducible refine HM1.out.mono ?_
      rintro e w2 ⟨rfl,hb⟩
      have hb2:=z7 HB.out hb
      have l1:=HLK.out w2 (HI.out.later hb2)
      have c1:=(HI.out.later hb2).cell1
      have HF:=za hb2
      clear hb HM1 HLK hb2
      go_wp2
      go_ret
      exact ⟨rfl,uc.still HI.out HF.out⟩

set_option maxRecDepth 100000 in
theorem Qq (B:Nat) (p q:Option Nat) (L M:zl) (o n:ByteArray) (w:World) (h:ua w B p q L M) (ho:o.size≤9223372036854775807) (hn:n.size≤9223372036854775807) :
  Calls Tryz.prog 362 #[.pointer (some ⟨B,0,none⟩),.string o,.string n] w fun e w'=>e=.returned (.int .i64 (reE9 L o.data.toList n.data.toList))∧uc w B p q (reL9 L o.data.toList n.data.toList) w':=by
 have hn':n.size≤maxLen:=Nat.le_trans hn (by decide)
 have ho':o.size≤maxLen:=Nat.le_trans ho (by decide)
 have HN:=za (zW n w hn)
 have HI:=za h
 have HLO:Hid (∀ W,ua W B p q L M→(Instr.lookup 118 (.map p) (.string o) true).run Tryz.prog W=.ok (.tuple #[.string (tx7 (yM L o.data.toList)),.bool (yE L o.data.toList)]) W):=fun W hW=>look9 hW.mapp o ho'
 have HLN:Hid (∀ W,ua W B p q L M→(Instr.lookup 118 (.map p) (.string n) true).run Tryz.prog W=.ok (.tuple #[.string (tx7 (yM L n.data.toList)),.bool (yE L n.data.toList)]) W):=fun W hW=>look9 hW.mapp n hn'
 unfold reL9
 cases hb:zh n.data.toList with
 | false =>
  rw [hb] at HN
  have HN2:Hid (Calls Tryz.prog 159 #[.string n] w (yG 10 w)):=HN.out
  have e1:reE9 L o.data.toList n.data.toList=10:=by unfold reE9; rw [hb]; rfl
  rw [e1,if_neg (by decide)]
  clear HN hb h e1 HLO HLN
  go_enter Tryz.func362,Tryz.ntmps362
  go_wp2_with fail
  with_reducible refine HN2.out.mono ?_
  rintro e w1 ⟨rfl,hb⟩
  have HB:=za hb
  clear hb HN2
  go_wp2
  go_ret
  exact ⟨rfl,uc.still HI.out HB.out⟩
 | true =>
  rw [hb] at HN
  have HN2:Hid (Calls Tryz.prog 159 #[.string n] w (yG 0 w)):=HN.out
  clear HN
  have hnot:∀ (x:Bool) (w:World),(Op.unary .not (.bool x)).run Tryz.prog w=.ok (.bool (!x)) w:=fun _ _=>rfl
  cases hh:yE L o.data.toList with
  | false =>
   have e1:reE9 L o.data.toList n.data.toList=8:=by unfold reE9; rw [hb,if_pos rfl,hh]; rfl
   rw [e1,if_neg (by decide)]
   rw [hh] at HLO
   clear hb h e1 HLN hh
   generalize tx7 (yM L o.data.toList)=g at *
   go_enter Tryz.func362,Tryz.ntmps362
   go_wp2_with fail
   with_reducible refine HN2.out.mono ?_
   rintro e w1 ⟨rfl,hb⟩
   have HB:=za hb
   have l0:=HLO.out w1 (HI.out.later hb)
   have c0:=(HI.out.later hb).cell0
   clear hb HN2 HLO
   go_wp2
   go_ret
   exact ⟨rfl,uc.still HI.out HB.out⟩
  | true =>
   have hmay:=h.all _ (vm hh)
   rw [hh] at HLO
   have e0:reE9 L o.data.toList n.data.toList=if yE L n.data.toList && decide (n.data.toList≠o.data.toList) then 9 else 0:=by unfold reE9; rw [hb,if_pos rfl,hh,if_pos rfl]
   rw [e0]
   cases hx:(yE L n.data.toList && decide (n.data.toList≠o.data.toList)) with
   | true =>
    rw [if_pos rfl,if_neg (by decide)]
    rw [Bool.and_eq_true,decide_eq_true_eq] at hx
    rw [hx.1] at HLN
    have n1:¬ n.toList=o.toList:=by rw [Lib.toList_data,Lib.toList_data]; exact hx.2
    have n2:(n.toList == o.toList)=false:=by simpa using n1
    clear hb h hmay e0 hx hh
    generalize tx7 (yM L o.data.toList)=g at *
    generalize tx7 (yM L n.data.toList)=g2 at *
    go_enter Tryz.func362,Tryz.ntmps362
    go_wp2_with fail
    with_reducible refine HN2.out.mono ?_
    rintro e w1 ⟨rfl,hb⟩
    have HB:=za hb
    have l0:=HLO.out w1 (HI.out.later hb)
    have l1:=HLN.out w1 (HI.out.later hb)
    have c0:=(HI.out.later hb).cell0
    clear hb HN2 HLO HLN
    go_wp2
    go_ret
    exact ⟨rfl,uc.still HI.out HB.out⟩
   | false =>
    rw [if_neg (by decide),if_pos rfl]
    have hfit:(vl (vx L o.data.toList) n.data.toList (yM L o.data.toList)).length≤100:=by
     have h1:=put_le9 (uL h.rise o.data.toList) n.data.toList (yM L o.data.toList)
     have h2:=UT h.rise hh
     have:=h.few
     omega
    have hfr:=free9b h.mir (n:=n.data.toList) hh
    have HD:Hid (∀ W,ua W B p q L M→Calls Tryz.prog 239 #[.pointer (some ⟨B,0,none⟩),.string o] W fun e w'=>e=.returned (.bool (yE L o.data.toList))∧(∃ M',ua w' B p q (vx L o.data.toList) M')∧Turn9 B p q W w'):=fun W hW=>jf B p q L M o W hW ho'
    have HP:Hid (∀ W M',ua W B p q (vx L o.data.toList) M'→Calls Tryz.prog 240 #[.pointer (some ⟨B,0,none⟩),.string n,.string (tx7 (yM L o.data.toList))] W fun e w'=>e=.returned (.tuple #[])∧uc W B p q (vl (vx L o.data.toList) n.data.toList (yM L o.data.toList)) w'):=fun W M' hW=>by
     have:=Ux B p q _ M' n (tx7 (yM L o.data.toList)) W hW (by rw [xz]; exact ⟨hb,hmay.2⟩) (by rw [xz]; exact hfr) (by rw [xz]; exact hfit)
     rw [xz] at this
     exact this
    rw [hh] at HD
    have hcase:yE L n.data.toList=false∨(yE L n.data.toList=true∧n=o):=by
     cases hz:yE L n.data.toList
     ·
      exact .inl rfl
     ·
      rw [hz,Bool.true_and,decide_eq_false_iff_not] at hx
      refine .inr ⟨rfl,?_⟩
      have:n.data.toList=o.data.toList:=by
       by_cases e:n.data.toList=o.data.toList
       ·
        exact e
       ·
        exact absurd e hx
      rw [← jQ n,this,jQ]
    clear hb h hmay e0 hx hh hfr hfit
    generalize tx7 (yM L o.data.toList)=g at *
    rcases hcase with hz | ⟨hz,rfl⟩
    ·
     rw [hz] at HLN
     clear hz
     generalize tx7 (yM L n.data.toList)=g2 at *
     go_enter Tryz.func362,Tryz.ntmps362
     go_wp2_with fail
     with_reducible refine HN2.out.mono ?_
     rintro e w1 ⟨rfl,hb⟩
     have HB:=za hb
     have l0:=HLO.out w1 (HI.out.later hb)
     have l1:=HLN.out w1 (HI.out.later hb)
     have c0:=(HI.out.later hb).cell0
     have HD1:=za (HD.out w1 (HI.out.later hb))
     clear hb HN2 HLO HLN HD
     go_wp2_with fail
     with_reducible refine HD1.out.mono ?_
     rintro e w2 ⟨rfl,⟨M2,hi⟩,ht⟩
     have HT:=za ht
     have HP1:=za (HP.out w2 M2 hi)
     clear hi ht HP HD1
     go_wp2_with fail
     with_reducible refine HP1.out.mono ?_
     rintro e w3 ⟨rfl,hg⟩
     have HF:=za ((hg.after HT.out).ahead HB.out)
     clear hg HP1 HT
     go_wp2
     go_ret
     exact ⟨rfl,HF.out⟩
    ·
     rw [hz] at HLN
     clear hz
     have n1:(n.toList != n.toList)=false:=by simp
     have n2:(n.toList == n.toList)=true:=by simp
     generalize tx7 (yM L n.data.toList)=g2 at *
     go_enter Tryz.func362,Tryz.ntmps362
     go_wp2_with fail
     with_reducible refine HN2.out.mono ?_
     rintro e w1 ⟨rfl,hb⟩
     have HB:=za hb
     have l0:=HLO.out w1 (HI.out.later hb)
     have c0:=(HI.out.later hb).cell0
     have HD1:=za (HD.out w1 (HI.out.later hb))
     clear hb HN2 HLO HLN HD
     go_wp2_with fail
     with_reducible refine HD1.out.mono ?_
     rintro e w2 ⟨rfl,⟨M2,hi⟩,ht⟩
     have HT:=za ht
     have HP1:=za (HP.out w2 M2 hi)
     clear hi ht HP HD1
     go_wp2_with fail
     with_reducible refine HP1.out.mono ?_
     rintro e w3 ⟨rfl,hg⟩
     have HF:=za ((hg.after HT.out).ahead HB.out)
     clear hg HP1 HT
     go_wp2
     go_ret
     exact ⟨rfl,HF.out⟩

theorem Zx (p:Option Nat) (L:zl) (w:World) (h:vX w p L):Calls Tryz.prog 309 #[.map p] w fun e w' =>
  ∃ p',e=.returned (.map p')∧vX w' p' L∧p'.isSome=p.isSome∧(∀ b,p'=some b→w.heap.size≤b)∧Below w.heap.size w w':=by
 cases p with
 | none=>exact (AnyW.maps_Clone_nil Tryz.clone7 w).mono fun e w' ⟨he,hw⟩=>⟨none,he,⟨fun _=>h.nil rfl,(fun _ h=>nomatch h)⟩,rfl,(fun _ h=>nomatch h),by rw [hw]; exact Below.refl _ _⟩
 | some b =>
  refine (AnyW.maps_Clone_owns Tryz.clone7 9 _ b _ _ w (h.map b rfl)).mono fun e w' ⟨he,h1,_,hb⟩=>⟨_,he,⟨(fun h=>nomatch h),fun b' hb'=>?_⟩,rfl,fun b' hb'=>?_,hb⟩
  ·
   cases hb'; exact h1
  ·
   cases hb'; exact Nat.le_refl _

def New9 (w W:World) (b:Nat) (p q:Option Nat) (L M:zl):Prop:=ua W b p q L M∧w.heap.size≤b∧(∀ c,p=some c→w.heap.size≤c)∧(∀ c,q=some c→w.heap.size≤c)
theorem New9.later {w W W':World} {b:Nat} {p q:Option Nat} {L M:zl} (h:New9 w W b p q L M) (hb:Below W.heap.size W W'):New9 w W' b p q L M:=⟨h.1.later hb,h.2⟩
theorem vX.later {w w':World} {p:Option Nat} {L:zl} (h:vX w p L) (hb:Below w.heap.size w w'):vX w' p L:=h.turns (zg.of_below hb (fun _=>False)) (fun _ _ f=>f)
theorem vX.lt {w:World} {p:Option Nat} {L:zl} (h:vX w p L):∀ b,p=some b→b<w.heap.size:=fun b hb=>(h.map b hb).lt

def YCp9 (B:Nat) (p q:Option Nat):Nat→Value→Prop
 | 2,v=>v=.pointer (some ⟨B,0,none⟩)
 | 3,v=>v=.map p
 | 7,v=>v=.pointer (some ⟨B,1,none⟩)
 | 8,v=>v=.map q
 | 4,_=>True
 | 9,_=>True
 | 10,_=>True
 | 11,_=>True
 | 12,_=>True
 | _,v=>v=.pointer (some ⟨B,0,none⟩)
def Cl9 (w W:World) (L:zl) (s:Bool) (p':Option Nat):Prop:=vX W p' L∧p'.isSome=s∧∀ b,p'=some b→w.heap.size≤b
structure Cp9 (w:World) (B:Nat) (p q:Option Nat) (L M:zl) (D:Nat→Bool) (x:Nat→Value) (W:World):Prop where
 b:Below w.heap.size w W
 y:∀ {j:Nat},D j=true→YCp9 B p q j (x j)
 y4:D 4=true→∃ p',x 4=.map p'∧Cl9 w W L p.isSome p'
 y9:D 9=true→∃ q',x 9=.map q'∧Cl9 w W M q.isSome q'
 ne:D 4=true→D 9=true→∀ p' q',x 4=.map p'→x 9=.map q'→∀ b c,p'=some b→q'=some c→b≠c
 y10:D 10=true→∃ p' q',x 10=.agg #[.map p',.map q']∧Cl9 w W L p.isSome p'∧Cl9 w W M q.isSome q'∧∀ b c,p'=some b→q'=some c→b≠c
 y11:D 11=true→∃ b p' q',x 11=.pointer (some ⟨b,0,none⟩)∧New9 w W b p' q' L M
 y12:D 12=true→∃ b p' q',x 12=.pointer (some ⟨b,0,none⟩)∧New9 w W b p' q' L M
theorem Cl9.later {w W W':World} {L:zl} {s:Bool} {p':Option Nat} (h:Cl9 w W L s p') (hb:Below W.heap.size W W'):Cl9 w W' L s p':=⟨h.1.later hb,h.2⟩

section
variable {w W W':World} {B:Nat} {p q:Option Nat} {L M:zl} {D:Nat→Bool} {x:Nat→Value}
theorem qq {x:Nat→Value} {i:Nat} {v:Value}:upd x i v i=v:=if_pos rfl
theorem fl {x:Nat→Value} {i j:Nat} {v:Value} (h:j≠i):upd x i v j=x j:=if_neg h
theorem qB {D:Nat→Bool} {i j:Nat} (h:j≠i):ud D i j=D j:=if_neg h
theorem Cp9.more (h:Cp9 w B p q L M D x W) (i:Nat) (v:Value) (hb:Below W.heap.size W W') (hy:YCp9 B p q i v)
  (h4:i=4→∃ p',v=.map p'∧Cl9 w W' L p.isSome p'∧∀ b,p'=some b→W.heap.size≤b) (h9:i=9→∃ q',v=.map q'∧Cl9 w W' M q.isSome q'∧∀ b,q'=some b→W.heap.size≤b)
  (h10:i=10→∃ p' q',v=.agg #[.map p',.map q']∧Cl9 w W' L p.isSome p'∧Cl9 w W' M q.isSome q'∧∀ b c,p'=some b→q'=some c→b≠c)
  (h11:i=11→∃ b p' q',v=.pointer (some ⟨b,0,none⟩)∧New9 w W' b p' q' L M) (h12:i=12→∃ b p' q',v=.pointer (some ⟨b,0,none⟩)∧New9 w W' b p' q' L M):Cp9 w B p q L M (ud D i) (upd x i v) W':=by
 refine ⟨z7 h.b hb,fun {j} hd=>?_,fun hd=>?_,fun hd=>?_,fun hd4 hd9 p' q' e4 e9 b c eb ec=>?_,fun hd=>?_,fun hd=>?_,fun hd=>?_⟩
 ·
  by_cases e:j=i
  ·
   subst e; rw [qq]; exact hy
  ·
   rw [fl e]; rw [qB e] at hd; exact h.y hd
 ·
  by_cases e:4=i
  ·
   subst e; rw [qq]; obtain ⟨p',e1,e2,_⟩:=h4 rfl; exact ⟨p',e1,e2⟩
  ·
   rw [fl e]; rw [qB e] at hd; obtain ⟨p',e1,e2⟩:=h.y4 hd; exact ⟨p',e1,e2.later hb⟩
 ·
  by_cases e:9=i
  ·
   subst e; rw [qq]; obtain ⟨p',e1,e2,_⟩:=h9 rfl; exact ⟨p',e1,e2⟩
  ·
   rw [fl e]; rw [qB e] at hd; obtain ⟨p',e1,e2⟩:=h.y9 hd; exact ⟨p',e1,e2.later hb⟩
 ·
  subst eb ec
  by_cases i4:4=i
  ·
   subst i4
   rw [qq] at e4
   rw [fl (by decide)] at e9
   rw [qB (by decide)] at hd9
   obtain ⟨p',e1,_,e3⟩:=h4 rfl
   obtain ⟨q',f1,f2⟩:=h.y9 hd9
   rw [e4] at e1; rw [e9] at f1
   injection e1 with e1; injection f1 with f1
   have:=e3 b e1.symm
   have:=f2.1.lt c f1.symm
   omega
  ·
   by_cases i9:9=i
   ·
    subst i9
    rw [qq] at e9
    rw [fl (by decide)] at e4
    rw [qB (by decide)] at hd4
    obtain ⟨q',e1,_,e3⟩:=h9 rfl
    obtain ⟨p',f1,f2⟩:=h.y4 hd4
    rw [e9] at e1; rw [e4] at f1
    injection e1 with e1; injection f1 with f1
    have:=e3 c e1.symm
    have:=f2.1.lt b f1.symm
    omega
   ·
    rw [fl i4] at e4; rw [fl i9] at e9; rw [qB i4] at hd4; rw [qB i9] at hd9
    exact h.ne hd4 hd9 _ _ e4 e9 b c rfl rfl
 ·
  by_cases e:10=i
  ·
   subst e; rw [qq]; exact h10 rfl
  ·
   rw [fl e]; rw [qB e] at hd; obtain ⟨p',q',e1,e2,e3,e4⟩:=h.y10 hd; exact ⟨p',q',e1,e2.later hb,e3.later hb,e4⟩
 ·
  by_cases e:11=i
  ·
   subst e; rw [qq]; exact h11 rfl
  ·
   rw [fl e]; rw [qB e] at hd; obtain ⟨b,p',q',e1,e2⟩:=h.y11 hd; exact ⟨b,p',q',e1,e2.later hb⟩
 ·
  by_cases e:12=i
  ·
   subst e; rw [qq]; exact h12 rfl
  ·
   rw [fl e]; rw [qB e] at hd; obtain ⟨b,p',q',e1,e2⟩:=h.y12 hd; exact ⟨b,p',q',e1,e2.later hb⟩
theorem Cp9.quiet (h:Cp9 w B p q L M D x W) (i:Nat) {v:Value} (hy:YCp9 B p q i v) (hi:[4,9,10,11,12].contains i=false:=by rfl):Cp9 w B p q L M (ud D i) (upd x i v) W :=
 h.more i v (Below.refl _ _) hy (fun e=>by subst e; cases hi) (fun e=>by subst e; cases hi) (fun e=>by subst e; cases hi) (fun e=>by subst e; cases hi) (fun e=>by subst e; cases hi)
theorem Cp9.at4 (h:Cp9 w B p q L M D x W) {p':Option Nat} (hm:vX W' p' L) (hs:p'.isSome=p.isSome) (hz:∀ b,p'=some b→W.heap.size≤b) (hb:Below W.heap.size W W'):Cp9 w B p q L M (ud D 4) (upd x 4 (.map p')) W' :=
 h.more 4 _ hb trivial (fun _=>⟨p',rfl,⟨hm,hs,fun b e=>Nat.le_trans h.b.size (hz b e)⟩,hz⟩) (fun e=>absurd e (by decide)) (fun e=>absurd e (by decide)) (fun e=>absurd e (by decide)) (fun e=>absurd e (by decide))
theorem Cp9.at9 (h:Cp9 w B p q L M D x W) {q':Option Nat} (hm:vX W' q' M) (hs:q'.isSome=q.isSome) (hz:∀ b,q'=some b→W.heap.size≤b) (hb:Below W.heap.size W W'):Cp9 w B p q L M (ud D 9) (upd x 9 (.map q')) W' :=
 h.more 9 _ hb trivial (fun e=>absurd e (by decide)) (fun _=>⟨q',rfl,⟨hm,hs,fun b e=>Nat.le_trans h.b.size (hz b e)⟩,hz⟩) (fun e=>absurd e (by decide)) (fun e=>absurd e (by decide)) (fun e=>absurd e (by decide))
theorem Cp9.at10 (h:Cp9 w B p q L M D x W) {v:Value} (hv:∃ p' q',v=.agg #[.map p',.map q']∧Cl9 w W L p.isSome p'∧Cl9 w W M q.isSome q'∧∀ b c,p'=some b→q'=some c→b≠c):Cp9 w B p q L M (ud D 10) (upd x 10 v) W :=
 h.more 10 v (Below.refl _ _) trivial (fun e=>absurd e (by decide)) (fun e=>absurd e (by decide)) (fun _=>hv) (fun e=>absurd e (by decide)) (fun e=>absurd e (by decide))
theorem Cp9.at11 (h:Cp9 w B p q L M D x W) {p' q':Option Nat} (hp:Cl9 w W L p.isSome p') (hq:Cl9 w W M q.isSome q') (hne:∀ b c,p'=some b→q'=some c→b≠c) {w1:World} (hr:ua w1 B p q L M) :
  Cp9 w B p q L M (ud D 11) (upd x 11 (.pointer (some ⟨W.heap.size,0,none⟩))) (W.alloc (.cells #[.map p',.map q'] 290)):=by
 have hb:=zb (Below.refl W.heap.size W) (.cells #[.map p',.map q'] 290)
 refine h.more 11 _ hb trivial (fun e=>absurd e (by decide)) (fun e=>absurd e (by decide)) (fun e=>absurd e (by decide)) (fun _=>⟨_,p',q',rfl,⟨(MapKept.heap_alloc W _).1,hp.1.later hb,hq.1.later hb,?_,hne,hr.mir,hr.few,hr.all⟩,h.b.size,hp.2.2,hq.2.2⟩) (fun e=>absurd e (by decide))
 rw [hp.2.1,hq.2.1,hr.both]
theorem Cp9.at12 (h:Cp9 w B p q L M D x W) {v:Value} (hv:∃ b p' q',v=.pointer (some ⟨b,0,none⟩)∧New9 w W b p' q' L M):Cp9 w B p q L M (ud D 12) (upd x 12 v) W :=
 h.more 12 v (Below.refl _ _) trivial (fun e=>absurd e (by decide)) (fun e=>absurd e (by decide)) (fun e=>absurd e (by decide)) (fun e=>absurd e (by decide)) (fun _=>hv)
theorem Cp9.start (w:World) (x:Nat→Value):Cp9 w B p q L M (fun _=>false) x w.drew :=
 ⟨zQ (Below.refl _ _),(fun {_} h=>nomatch h),(fun h=>nomatch h),(fun h=>nomatch h),(fun h _=>nomatch h),(fun h=>nomatch h),(fun h=>nomatch h),(fun h=>nomatch h)⟩
end

def Apart9 (L:zl) (w:World) (e:Ending) (w':World):Prop:=∃ b p q M,e=.returned (.pointer (some ⟨b,0,none⟩))∧New9 w w' b p q L M∧Below w.heap.size w w'

set_option maxRecDepth 100000 in
theorem copy9_calls (B:Nat) (p q:Option Nat) (L M:zl) (w:World) (h:ua w B p q L M):Calls Tryz.prog 358 #[.pointer (some ⟨B,0,none⟩)] w (Apart9 L w):=by
 have HR:=za h
 clear h
 go_enter Tryz.func358,Tryz.ntmps358
 go_wp2_with fail
 refine vi (by kernel_rfl) (Cp9 w B p q L M) ?F ?hF (by kernel_rfl) (by kernel_rfl) (fun x=>Cp9.start w x) ?step ?fin
 case hF =>
  intro x
  simp only [List.map_cons,List.map_nil,xU,Act.put,List.setIfInBounds_toArray,List.set_cons_zero,List.set_cons_succ,Nat.zero_add,Nat.reduceAdd]
  exact rfl
 case step =>
  refine ⟨?_,?_,?_,?_,?_,?_,?_,?_,?_,?_,?_,?_,?_,trivial⟩
  ·
   intro D x W hi hd hI K hK
   clear hd
   go_simp
   exact hK _ _ (hI.quiet 0 rfl)
  ·
   intro D x W hi hd hI K hK
   have h0:x 0=_:=hI.y (hd 0 rfl)
   clear hd
   simp only [h0] at hK
   go_simp
   exact hK _ _ (hI.quiet 1 rfl)
  ·
   intro D x W hi hd hI K hK
   have h1:x 1=_:=hI.y (hd 1 rfl)
   clear hd
   simp only [h1] at hK
   go_simp
   exact hK _ _ (hI.quiet 2 rfl)
  ·
   intro D x W hi hd hI K hK
   have h2:x 2=_:=hI.y (hd 2 rfl)
   have c:=(HR.out.later hI.b).cell0
   clear hd
   simp only [h2] at hK
   go_simp
   exact hK _ _ (hI.quiet 3 rfl)
  ·
   intro D x W hi hd hI K hK
   have h3:x 3=_:=hI.y (hd 3 rfl)
   have hc:=Zx _ _ W (HR.out.later hI.b).mapp
   clear hd
   simp only [h3] at hK
   go_simp
   refine hc.mono ?_
   rintro e W' ⟨p',rfl,hm,hs,hz,hb⟩
   exact hK _ _ (hI.at4 hm hs hz hb)
  ·
   intro D x W hi hd hI K hK
   clear hd
   go_simp
   exact hK _ _ (hI.quiet 5 rfl)
  ·
   intro D x W hi hd hI K hK
   have h5:x 5=_:=hI.y (hd 5 rfl)
   clear hd
   simp only [h5] at hK
   go_simp
   exact hK _ _ (hI.quiet 6 rfl)
  ·
   intro D x W hi hd hI K hK
   have h6:x 6=_:=hI.y (hd 6 rfl)
   clear hd
   simp only [h6] at hK
   go_simp
   exact hK _ _ (hI.quiet 7 rfl)
  ·
   intro D x W hi hd hI K hK
   have h7:x 7=_:=hI.y (hd 7 rfl)
   have c:=(HR.out.later hI.b).cell1
   clear hd
   simp only [h7] at hK
   go_simp
   exact hK _ _ (hI.quiet 8 rfl)
  ·
   intro D x W hi hd hI K hK
   have h8:x 8=_:=hI.y (hd 8 rfl)
   have hc:=Zx _ _ W (HR.out.later hI.b).mapq
   clear hd
   simp only [h8] at hK
   go_simp
   refine hc.mono ?_
   rintro e W' ⟨p',rfl,hm,hs,hz,hb⟩
   exact hK _ _ (hI.at9 hm hs hz hb)
  ·
   intro D x W hi hd hI K hK
   obtain ⟨p',h4,hp'⟩:=hI.y4 (hd 4 rfl)
   obtain ⟨q',h9,hq'⟩:=hI.y9 (hd 9 rfl)
   have hne:=hI.ne (hd 4 rfl) (hd 9 rfl) p' q' h4 h9
   clear hd
   simp only [h4,h9] at hK
   go_simp
   exact hK _ _ (hI.at10 ⟨p',q',rfl,hp',hq',hne⟩)
  ·
   intro D x W hi hd hI K hK
   obtain ⟨p',q',h10,hp',hq',hne⟩:=hI.y10 (hd 10 rfl)
   clear hd
   simp only [h10] at hK
   go_simp
   exact hK _ _ (hI.at11 hp' hq' hne HR.out)
  ·
   intro D x W hi hd hI K hK
   obtain ⟨b,p',q',h11,hz⟩:=hI.y11 (hd 11 rfl)
   clear hd
   simp only [h11] at hK
   go_simp
   exact hK _ _ (hI.at12 ⟨b,p',q',rfl,hz⟩)
 case fin =>
  intro D x W hall hI
  obtain ⟨b,p',q',h12,hz⟩:=hI.y12 (hall 12 (by decide))
  have HZ:Hid (Apart9 L w (.returned (.pointer (some ⟨b,0,none⟩))) W):=⟨b,p',q',M,rfl,hz,hI.b⟩
  clear hI hall hz HR
  rw [h12]
  go_wp2
  go_ret
  exact HZ.out
end Go.Proofs.YteegkoicalbkbaaGreatDoor
