/-
  The texts that the laws of this seat share, part 10: what the code and the document's own answers tell, walked function by function.
  Conditions: each theorem's own.
-/
import Derived.WideKeyPair
import Derived.WideKeyMaps2
import Derived.Deep.MidRow
import Derived.Test.YteegkoicalbkbaaGreatDoorHosOBI
set_option maxHeartbeats 16000000
set_option linter.unusedVariables false
namespace Go.Proofs.YteegkoicalbkbaaGreatDoor
open Go.RowKit

def Iters14 (w w':World):Prop:=∀ (k:Nat) (s:ByteArray) (p:Nat),w.heap[k]? = some (Obj.stringIter s p)→w'.heap[k]? = some (Obj.stringIter s p)
theorem Wtr.no_iter14 {w:World} {B:Nat} {v:Value} {bs:List UInt8} (h:Wtr w B v bs) {k:Nat} {s:ByteArray} {p:Nat} (hk:w.heap[k]? = some (.stringIter s p)):¬ (k=B∨v.ownBlock=some k):=by
 rintro (rfl | hv)
 ·
  rw [h.1] at hk; cases hk
 ·
  rcases h.2.2 with ⟨rfl,_⟩ | ⟨g,cap,cur,rfl,_,hg,_⟩
  ·
   simp [Value.ownBlock] at hv
  ·
   have:g=k:=by simpa [Value.ownBlock] using hv
   subst this
   rw [hg] at hk; cases hk
def ZI (w:World) (B:Nat) (bs:List UInt8) (wr:World):Prop :=
 w.heap.size≤B∧(∃ v,Wtr wr B v bs∧∀ k,v.ownBlock=some k→w.heap.size≤k)∧Below w.heap.size w wr
theorem ZI.zero (w:World):ZI w w.heap.size [] (w.alloc (.cells #[.slice none 0 0] 156)) :=
 ⟨Nat.le_refl _,⟨_,⟨heap_alloc_new w _,World.ownsRow_nil _ _ _ _⟩,fun k hk=>by simp [Value.ownBlock] at hk⟩,ze (Below.refl _ _) _⟩
theorem fy.nw14 {w w1 w2:World} {B:Nat} {v:Value} {bs:List UInt8} (hB:w.heap.size≤B) (hv:∀ k,v.ownBlock=some k→w.heap.size≤k) (ht:Below w.heap.size w w1) (h:fy w1 B v bs w2):ZI w B bs w2:=by
 obtain ⟨v',hw,ho,ht2⟩:=h
 refine ⟨hB,⟨v',hw,fun k hk=>?_⟩,ht.trans ((ht2.below_at ht.size (fun i hs=>?_)))⟩
 ·
  rcases ho with ho | ⟨k',ho,hk'⟩
  ·
   exact hv k (ho ▸ hk)
  ·
   rw [ho] at hk; injection hk with hk; have:=ht.size; omega
 ·
  rcases hs with hs | hs
  ·
   omega
  ·
   exact hv i hs
theorem Wtr.below14 {w W:World} {B:Nat} {v:Value} {bs:List UInt8} (h:Wtr w B v bs) (hb:Below w.heap.size w W):Wtr W B v bs :=
 ⟨(hb.block B h.lt).trans h.1,(vC hb).owns h.2 (fun _ _ f=>f)⟩
theorem ZI.below {w w1 w2:World} {B:Nat} {bs:List UInt8} (h:ZI w B bs w1) (hb:Below w1.heap.size w1 w2):ZI w B bs w2:=by
 obtain ⟨hB,⟨v,hw,hv⟩,ht⟩:=h
 exact ⟨hB,⟨v,hw.below14 hb,hv⟩,zj ht hb⟩
theorem ZI.iter {w w1:World} {B:Nat} {bs:List UInt8} (h:ZI w B bs w1) {k:Nat} {s:ByteArray} {p:Nat} (hk:w1.heap[k]? = some (.stringIter s p)) (hw:w.heap.size≤k) (q:Nat):ZI w B bs (w1.iterAt k s q):=by
 obtain ⟨hB,⟨v,hv,ho⟩,ht⟩:=h
 have hn:=hv.no_iter14 hk
 refine ⟨hB,⟨v,⟨?_,hv.2.1,?_⟩,ho⟩,Lib.below_iterAt ht hw s q⟩
 ·
  rw [Lib.iterAt_other _ _ _ _ _ (fun e=>hn (.inl e.symm))]; exact hv.1
 ·
  rcases hv.2.2 with h0 | ⟨g,cap,cur,rfl,hb,hg,rest⟩
  ·
   exact .inl h0
  ·
   exact .inr ⟨g,cap,cur,rfl,hb,by rw [Lib.iterAt_other _ _ _ _ _ (fun e=>hn (.inr (by rw [← e]; rfl)))]; exact hg,rest⟩
theorem fy.iters14 {w w':World} {B:Nat} {v:Value} {bs bs':List UInt8} (hw:Wtr w B v bs) (h:fy w B v bs' w'):Iters14 w w':=by
 intro k s p hk
 obtain ⟨_,_,_,ht⟩:=h
 exact (ht.block k (Array.getElem?_eq_some_iff.1 hk).1 (hw.no_iter14 hk)).trans hk

def Grows14 (w W:World) (B:Nat) (bs:List UInt8) (e:Ending) (w':World):Prop:=e=.returned (.pointer (some ⟨B,0,none⟩))∧ZI w B bs w'∧Iters14 W w'
theorem ZI.byte {w W:World} {B:Nat} {bs:List UInt8} (xi:Int) (x:Nat) (h:ZI w B bs W) (ex:xi=x) (hx:x<256) (hr:bs.length≤500000) :
  Calls Tryz.prog 79 #[.pointer (some ⟨B,0,none⟩),.int .u8 xi] W (Grows14 w W B (bs++le x 1)):=by
 subst ex
 obtain ⟨hB,⟨v,hw,hv⟩,ht⟩:=h
 exact (ff B v bs x W hw hx (by omega)).mono fun e w' ⟨he,hg⟩=>⟨he,hg.nw14 hB hv ht,hg.iters14 hw⟩
theorem ZI.text {w W:World} {B:Nat} {bs:List UInt8} (s:ByteArray) (h:ZI w B bs W) (hs:s.size≤65535) (hr:bs.length≤500000) :
  Calls Tryz.prog 80 #[.pointer (some ⟨B,0,none⟩),.string s] W (Grows14 w W B (bs++xp s)):=by
 obtain ⟨hB,⟨v,hw,hv⟩,ht⟩:=h
 exact (jS B v bs s W hw hs (by omega)).mono fun e w' ⟨he,hg⟩=>⟨he,hg.nw14 hB hv ht,hg.iters14 hw⟩
theorem ZI.row {w W:World} {B:Nat} {bs:List UInt8} (A:Option Addr) (N c:Nat) (ss:List ByteArray) (h:ZI w B bs W) (hc:N≤c) (hm:c≤9223372036854775807) (hN:ss.length=min N 65535) (hr:RdS W A ss)
  (hA:ss≠[]→∀ a,A=some a→a.block<w.heap.size) (hs:∀ s∈ss,s.size≤65535) (hl:bs.length≤500000) :
  Calls Tryz.prog 179 #[.pointer (some ⟨B,0,none⟩),.slice A N c] W (Grows14 w W B (bs++rowB ss)):=by
 obtain ⟨hB,⟨v,hw,hv⟩,ht⟩:=h
 exact (Xr B v bs A N c ss W hw hc hm hN hr (fun hne a ha=>by
  have:=hA hne a ha
  rintro (h1 | h1)
  ·
   omega
  ·
   have:=hv _ h1; omega) hs (by omega)).mono fun e w' ⟨he,hg⟩=>⟨he,hg.nw14 hB hv ht,hg.iters14 hw⟩
def Told14 (w:World) (l:List UInt8) (e:Ending) (w':World):Prop:=∃ v,e=.returned v∧w'.ownsRow 0 5 1 v l.length (cellsOf l)∧(∀ k,v.ownBlock=some k→w.heap.size≤k)∧Below w.heap.size w w'
theorem ZI.bytes {w W:World} {B:Nat} {bs:List UInt8} (h:ZI w B bs W) (hr:bs.length≤1000000) :
  Calls Tryz.prog 81 #[.pointer (some ⟨B,0,none⟩)] W (Told14 w bs):=by
 obtain ⟨hB,⟨v,hw,hv⟩,ht⟩:=h
 exact (Vk B v bs W hw (by omega)).mono fun e w' ⟨v',he,ho,hb,ht'⟩=>⟨v',he,ho,fun k hk=>Nat.le_trans ht.size (hb k hk),zj ht (still14 ht')⟩

def vS (o:O14) (c:UInt8):List UInt8:=if c=97 then xp o.a else if c=98 then xp o.b else if c=110 then le o.nd.toNat 1 else le o.rl.toNat 1
def opB14 (o:O14):List UInt8:=le o.kd.toNat 1++(qX o.kd.toNat).flatMap (vS o)
def Lit14 (o:O14):Prop:=o.a.size≤65535∧o.b.size≤65535
theorem Qs {o:O14} (h:Lit14 o) (c:UInt8):(vS o c).length≤65537:=by
 obtain ⟨h1,h2⟩:=h
 unfold vS
 split
 ·
  rw [xJ]; omega
 ·
  split
  ·
   rw [xJ]; omega
  ·
   split
   ·
    rw [yi]; omega
   ·
    rw [yi]; omega
theorem qD {o:O14} (h:Lit14 o):∀ l:List UInt8,(l.flatMap (vS o)).length≤65537 * l.length
 | []=>by simp
 | c::l=>by
  have h1:=Qs h c
  have h2:=qD h l
  simp only [List.flatMap_cons,List.length_append,List.length_cons]
  omega

set_option maxRecDepth 100000 in
theorem Xa (o:O14) (w:World) (h:yc w) (hlit:Lit14 o):Calls Tryz.prog 52 #[o.v] w (Told14 w (opB14 o)):=by
 obtain ⟨l,hl⟩:∃ l,l=qX o.kd.toNat:=⟨_,rfl⟩
 have hsg:=fC o.kd.toNat
 have hfew:=JN o.kd.toNat
 rw [← hl] at hsg hfew
 have HS:=za hsg
 obtain ⟨r,hr⟩:∃ r,r=opB14 o:=⟨_,rfl⟩
 rw [← hr]
 have HR:Hid (r=le o.kd.toNat 1++l.flatMap (vS o)):=by rw [hr,hl]; rfl
 have HF:=fun W (hw:yc W)=>jV o.kd.toNat W hw
 unfold trt14 at HF
 rw [← hl] at HF
 clear hr hsg hl
 generalize xT (YM o.kd.toNat)=s0 at *
 generalize vn o.kd.toNat=f at *
 have hf:=fun W=>J4 s0 (xT l) f W
 have hw64:wrap64 (o.kd.toNat:Int)=o.kd.toNat:=IntWalk.wrap64_in _ (by have:=o.kd.toNat_lt; omega)
 have HFF:=za HF
 have HLT1:Hid (o.a.size≤65535):=hlit.1
 have HLT2:Hid (o.b.size≤65535):=hlit.2
 have HPL:Hid (∀ k,(le o.kd.toNat 1++(l.take k).flatMap (vS o)).length≤131075):=fun k=>by
  have h1:=qD hlit (l.take k)
  have h2:(l.take k).length≤2:=by rw [List.length_take]; omega
  rw [List.length_append,yi]
  omega
 have hb1:=ze (Below.refl _ w) (.cells #[.int .u8 o.kd.toNat,.string o.a,.string o.b,.int .u8 o.nd.toNat,.int .u8 o.rl.toNat] 47)
 have ha1:xB (w.alloc (.cells #[.int .u8 o.kd.toNat,.string o.a,.string o.b,.int .u8 o.nd.toNat,.int .u8 o.rl.toNat] 47)) w.heap.size o:=heap_alloc_new w _
 obtain ⟨w1,hw1⟩:∃ w1,w1=w.alloc (.cells #[.int .u8 o.kd.toNat,.string o.a,.string o.b,.int .u8 o.nd.toNat,.int .u8 o.rl.toNat] 47):=⟨_,rfl⟩
 have hs1:w1.heap.size=w.heap.size+1:=by rw [hw1]; simp
 rw [← hw1] at hb1 ha1
 have HL:=za (h.later hb1)
 have HB1:=za hb1
 have HA1:=za ha1
 have hz:=ZI.zero w1
 rw [hs1,hw1] at hz
 rw [← hw1] at hz
 have HZ:Hid (ZI w1 (w.heap.size+1) [] ((w.alloc (.cells #[.int .u8 o.kd.toNat,.string o.a,.string o.b,.int .u8 o.nd.toNat,.int .u8 o.rl.toNat] 47)).alloc (.cells #[.slice none 0 0] 156))):=by rw [← hw1]; exact hz
 have HOA:Hid (∀ W B bs,ZI w1 B bs W→xB W w.heap.size o):=fun W B bs hn=>ha1.later (by omega) hn.2.2
 have HLA:Hid (∀ W B bs,ZI w1 B bs W→yc W):=fun W B bs hn=>HL.out.later hn.2.2
 clear HF h hz hb1 ha1 hw1
 unfold O14.v O14.cells
 obtain ⟨n,hn⟩:∃ n,n=l.length:=⟨_,rfl⟩
 have HN:=za hn
 clear hn
 go_enter Tryz.func52,Tryz.ntmps52
 go_wp2_with fail
 with_reducible refine (ZI.byte _ o.kd.toNat HZ.out rfl o.kd.toNat_lt (by simp)).mono ?_
 rintro e w2 ⟨rfl,hn2,_⟩
 rw [List.nil_append] at hn2
 have HN2:=za hn2
 have q2:=HOA.out _ _ _ hn2
 have z0:=q2.c0
 have HL2:=za (HLA.out _ _ _ hn2)
 clear hn2 q2 HZ
 go_wp2_with fail
 with_reducible refine (HFF.out _ HL2.out).mono ?_
 rintro e w3 ⟨rfl,hb⟩
 have HN3:=za (HN2.out.below hb)
 have hs3:w1.heap.size≤w3.heap.size:=HN3.out.2.2.size
 clear hb HN2 HL2 z0
 go_wp2
 go_loopg [5] n (fun gg _ wr=>∃ k:Nat,k≤n∧n - k≤gg∧Hid (wr.heap[w3.heap.size]? = some (.stringIter (xT l) k))∧Hid (ZI w1 (w.heap.size+1) (le o.kd.toNat 1++(l.take k).flatMap (vS o)) wr))
 case atStart =>
  have hi:=World.iter_heap w3 (xT l) 0
  have hz:=ze (Below.refl _ w3) (.stringIter (xT l) 0)
  exact ⟨0,Nat.zero_le _,by omega,hi,by show ZI w1 _ (_++[]) _; rw [List.append_nil]; exact HN3.out.below hz⟩
 case round =>
  obtain ⟨k,hk,hg,HI,HW⟩:=hrel
  by_cases hlt:k<n
  ·
   have hkl:k<l.length:=HN.out ▸ hlt
   have hc:=HS.out l[k] (List.getElem_mem hkl)
   have hst:le o.kd.toNat 1++(l.take (k+1)).flatMap (vS o)=(le o.kd.toNat 1++(l.take k).flatMap (vS o))++vS o l[k]:=by
    rw [List.take_succ_eq_append_getElem hkl,List.flatMap_append,List.flatMap_singleton,List.append_assoc]
   have hit:=Lib.iterAt_heap wr w3.heap.size (xT l) k (k+1) HI.out
   have hnx:=fG HI.out hkl (by rcases hc with h | h | h | h <;> rw [h] <;> decide)
   have HIT:=za hit
   have HV:=za (HW.out.iter HI.out (by omega) (k+1))
   have HST:=za hst
   have HPK:=za (HPL.out k)
   clear hst hit HI HW
   generalize le o.kd.toNat 1++(l.take k).flatMap (vS o)=acc at *
   generalize l[k]=c at *
   generalize wr.iterAt w3.heap.size (xT l) (k+1)=wi at *
   have q2:=HOA.out _ _ _ HV.out
   have z1:=q2.c1
   have z2:=q2.c2
   have z3:=q2.c3
   have z4:=q2.c4
   have hroom:acc.length≤500000:=by have:=HPK.out; omega
   have HRM:=za hroom
   clear q2 hroom
   rcases hc with rfl | rfl | rfl | rfl
   ·
    have e:((97:UInt8).toNat:Int)=97:=rfl
    rw [e] at hnx
    clear e
    have hput:vS o 97=xp o.a:=by unfold vS; simp
    rw [hput] at HST
    go_wp2_with fail
    with_reducible refine (HV.out.text o.a HLT1.out HRM.out).mono ?_
    rintro e w4 ⟨rfl,hw4,hi4⟩
    have HI4:=za (hi4 _ _ _ HIT.out)
    have HW4:=za hw4
    clear hw4 hi4 z1 z2 z3 z4 hput
    go_wp2
    go_roundg (n - (k+1))
    case measure=>omega
    case rel=>exact ⟨k+1,by omega,by omega,HI4.out,by rw [HST.out]; exact HW4.out⟩
   ·
    have e:((98:UInt8).toNat:Int)=98:=rfl
    rw [e] at hnx
    clear e
    have hput:vS o 98=xp o.b:=by unfold vS; simp
    rw [hput] at HST
    go_wp2_with fail
    with_reducible refine (HV.out.text o.b HLT2.out HRM.out).mono ?_
    rintro e w4 ⟨rfl,hw4,hi4⟩
    have HI4:=za (hi4 _ _ _ HIT.out)
    have HW4:=za hw4
    clear hw4 hi4 z1 z2 z3 z4 hput
    go_wp2
    go_roundg (n - (k+1))
    case measure=>omega
    case rel=>exact ⟨k+1,by omega,by omega,HI4.out,by rw [HST.out]; exact HW4.out⟩
   ·
    have e:((110:UInt8).toNat:Int)=110:=rfl
    rw [e] at hnx
    clear e
    have hput:vS o 110=le o.nd.toNat 1:=by unfold vS; simp
    rw [hput] at HST
    go_wp2_with fail
    with_reducible refine (HV.out.byte _ o.nd.toNat rfl o.nd.toNat_lt HRM.out).mono ?_
    rintro e w4 ⟨rfl,hw4,hi4⟩
    have HI4:=za (hi4 _ _ _ HIT.out)
    have HW4:=za hw4
    clear hw4 hi4 z1 z2 z3 z4 hput
    go_wp2
    go_roundg (n - (k+1))
    case measure=>omega
    case rel=>exact ⟨k+1,by omega,by omega,HI4.out,by rw [HST.out]; exact HW4.out⟩
   ·
    have e:((114:UInt8).toNat:Int)=114:=rfl
    rw [e] at hnx
    clear e
    have hput:vS o 114=le o.rl.toNat 1:=by unfold vS; simp
    rw [hput] at HST
    go_wp2_with fail
    with_reducible refine (HV.out.byte _ o.rl.toNat rfl o.rl.toNat_lt HRM.out).mono ?_
    rintro e w4 ⟨rfl,hw4,hi4⟩
    have HI4:=za (hi4 _ _ _ HIT.out)
    have HW4:=za hw4
    clear hw4 hi4 z1 z2 z3 z4 hput
    go_wp2
    go_roundg (n - (k+1))
    case measure=>omega
    case rel=>exact ⟨k+1,by omega,by omega,HI4.out,by rw [HST.out]; exact HW4.out⟩
  ·
   obtain rfl:k=n:=by omega
   have HK:=HN.out
   subst HK
   have hnx:=ZX HI.out
   rw [List.take_length,← HR.out] at HW
   have hroom:r.length≤1000000:=by
    have:=HPL.out l.length
    rw [List.take_length,← HR.out] at this
    omega
   have HRM:=za hroom
   clear hroom
   go_wp2_with fail
   with_reducible refine (HW.out.bytes HRM.out).mono ?_
   rintro e w4 ⟨v,rfl,ho,hv,hb⟩
   obtain ⟨A,c,rfl⟩:=yI ho
   have HO:=za ho
   have HV:=za hv
   have HB4:=za (zj HB1.out hb)
   clear ho hv hb
   go_wp2
   go_ret
   exact ⟨_,rfl,HO.out,fun k hk=>Nat.le_trans HB1.out.size (HV.out k hk),HB4.out⟩

def uk (o:O14):Int:=if FH o=true then (if 64<(opB14 o).length then 3 else 0) else 4
theorem opB14_few {o:O14} (h:Lit14 o):(opB14 o).length≤131075:=by
 have h1:=qD h (qX o.kd.toNat)
 have h2:=JN o.kd.toNat
 unfold opB14
 rw [List.length_append,yi]
 omega

set_option maxRecDepth 100000 in
theorem vV (o:O14) (w:World) (h:yc w) (hlit:Lit14 o):Calls Tryz.prog 26 #[o.v] w (zC (.int .i64 (uk o)) w):=by
 obtain ⟨r,hr⟩:∃ r,r=uk o:=⟨_,rfl⟩
 rw [← hr]
 unfold uk at hr
 have HFO:=za (fun W (hw:yc W)=>VX o W hw)
 have HWR:=za (fun W (hw:yc W)=>Xa o W hw hlit)
 have hb1:=ze (Below.refl _ w) (.cells #[.int .u8 o.kd.toNat,.string o.a,.string o.b,.int .u8 o.nd.toNat,.int .u8 o.rl.toNat] 47)
 have ha1:xB (w.alloc (.cells #[.int .u8 o.kd.toNat,.string o.a,.string o.b,.int .u8 o.nd.toNat,.int .u8 o.rl.toNat] 47)) w.heap.size o:=heap_alloc_new w _
 have HB1:=za hb1
 have HA1:=za ha1
 have HL:=za (h.later hb1)
 have HLEN:=za (opB14_few hlit)
 clear hb1 ha1 h hlit
 generalize opB14 o=bs at *
 generalize FH o=b at *
 unfold O14.v O14.cells at HFO HWR ⊢
 cases b
 ·
  rw [if_neg (by decide)] at hr
  subst hr
  go_enter Tryz.func26,Tryz.ntmps26
  go_wp2_with (go_at_call 51; (with_reducible refine (HFO.out _ HL.out).mono ?_); rintro e w2 ⟨rfl,hb⟩; have HB2:=za (zj HB1.out hb); clear hb)
  go_wp2
  go_ret
  exact ⟨rfl,HB2.out⟩
 ·
  rw [if_pos rfl] at hr
  have HRR:=za hr
  clear hr
  go_enter Tryz.func26,Tryz.ntmps26
  go_wp2_with (go_at_call 51; (with_reducible refine (HFO.out _ HL.out).mono ?_); rintro e w2 ⟨rfl,hb⟩; have HB2:=za (zj HB1.out hb); have HA2:=za (HA1.out.below hb); have HL2:=za (HL.out.later hb); have z0:=HA2.out.c0; have z1:=HA2.out.c1; have z2:=HA2.out.c2; have z3:=HA2.out.c3; have z4:=HA2.out.c4; clear hb)
  go_wp2_with fail
  with_reducible refine (HWR.out _ HL2.out).mono ?_
  rintro e w3 ⟨v,rfl,ho,hv,hb⟩
  obtain ⟨A,c,rfl⟩:=yI ho
  have HB3:=za (zj HB2.out hb)
  have hr:=HRR.out
  clear ho hv hb z0 z1 z2 z3 z4 HLEN HRR
  generalize bs.length=n at *
  by_cases hn:64<n
  ·
   rw [if_pos hn] at hr
   subst hr
   have hd:decide ((n:Int) > 64)=true:=by simp; omega
   clear hn
   go_wp2
   go_ret
   exact ⟨rfl,HB3.out⟩
  ·
   rw [if_neg hn] at hr
   subst hr
   have hd:decide ((n:Int) > 64)=false:=by simp; omega
   clear hn
   go_wp2
   go_ret
   exact ⟨rfl,HB3.out⟩

section
variable {w w':World} {B:Nat} {o:O14}
end


def ug (w:World) (B:Nat) (e:Int) (v:Value):Prop:=w.heap[B]? = some (.cells #[.int .i64 e,v] 56 (0,0))
section
variable {w w':World} {B:Nat} {e:Int} {v:Value}
theorem ug.lt (h:ug w B e v):B<w.heap.size:=(Array.getElem?_eq_some_iff.1 h).1
theorem ug.c0 (h:ug w B e v):w.cell? ⟨B,0,none⟩=some (.int .i64 e):=by rw [cell_of_row w B 0 _ _ (0,0) h]; rfl
theorem ug.c1 (h:ug w B e v):w.cell? ⟨B,1,none⟩=some v:=by rw [cell_of_row w B 1 _ _ (0,0) h]; rfl
theorem ug.fr (h:ug w B e v) (i:Nat):w.frozen? ⟨B,i,none⟩=false:=by unfold ug at h; simp [World.frozen?,h]
theorem ug.later (h:ug w B e v) {n:Nat} (hn:B<n) (hb:Below n w w'):ug w' B e v:=(hb.block B hn).trans h
theorem ug.below (h:ug w B e v) (hb:Below w.heap.size w w'):ug w' B e v:=h.later h.lt hb
theorem ug.turns {S:Nat→Prop} (h:ug w B e v) (ht:zg S w w') (hn:¬ S B):ug w' B e v:=(ht.block B h.lt hn).trans h
theorem ug.far (h:ug w B e v) {p:Addr} (hp:B≠p.block) (u:Value):ug (w.setCell p u) B e v:=(Below.heap_setCell w p u B hp).trans h
theorem ug.set1 (h:ug w B e v) (u:Value):ug (w.setCell ⟨B,1,none⟩ u) B e u:=by
 unfold ug at h ⊢; simp [World.setCell,Array.getElem?_modify,h]
theorem ug.setAll (h:ug w B e v) (e':Int) (u:Value):ug ((w.setCell ⟨B,0,none⟩ (.int .i64 e')).setCell ⟨B,1,none⟩ u) B e' u:=by
 unfold ug at h ⊢; simp [World.setCell,Array.getElem?_modify,h]
end
theorem ZI.drew {w w1:World} {B:Nat} {bs:List UInt8} (h:ZI w B bs w1):ZI w B bs w1.drew:=by
 obtain ⟨hB,⟨v,hw,hv⟩,ht⟩:=h
 exact ⟨hB,⟨v,hw,hv⟩,ht.drew⟩


theorem Rdr.shift14 {S:Nat→Prop} {w w':World} {B:Nat} {st:St} (h:Rdr w B st) (ht:zg S w w') (hB:¬ S B) (hS:∀ g,Ym w g→¬ S g):Rdr w' B st:=by
 obtain ⟨v,h1,h2⟩:=h
 refine ⟨v,(ht.block B (Array.getElem?_eq_some_iff.1 h1).1 hB).trans h1,?_⟩
 rcases h2 with h | ⟨g,off,c,rfl,h1,h2,h3,h4,hbk,h5⟩
 ·
  exact .inl h
 ·
  have hn:=hS g hbk
  exact .inr ⟨g,off,c,rfl,h1,h2,Nat.lt_of_lt_of_le h3 ht.size,h4,hbk.keep ht hn,fun j hj=>(ht.cell (p:=⟨g,off+j,none⟩) h3 hn).trans (h5 j hj)⟩
theorem JE (w:World) (it:Nat) (s:ByteArray) (p:Nat):zg (fun i=>i=it) w (w.iterAt it s p) :=
 ⟨rfl,rfl,rfl,by rw [Lib.iterAt_size]; exact Nat.le_refl _,fun k _ hn=>Lib.iterAt_other w it k s p hn⟩
theorem Rdr.iter14 {w:World} {B it:Nat} {st:St} {s:ByteArray} {p:Nat} (h:Rdr w B st) (hi:w.heap[it]? = some (Obj.stringIter s p)) (q:Nat):Rdr (w.iterAt it s q) B st:=by
 refine h.shift14 (JE w it s q) ?_ ?_
 ·
  rintro rfl
  obtain ⟨v,h1,_⟩:=h
  rw [h1] at hi
  cases hi
 ·
  rintro g ⟨cur,fr,hg⟩ rfl
  rw [hg] at hi
  cases hi
theorem Rdr.no_iter14 {w:World} {B k:Nat} {st:St} {s:ByteArray} {p:Nat} (h:Rdr w B st) (hi:w.heap[k]? = some (Obj.stringIter s p)):k≠B:=by
 rintro rfl
 obtain ⟨v,h1,_⟩:=h
 rw [h1] at hi
 cases hi
theorem xB.no_iter {w:World} {Q k:Nat} {o:O14} {s:ByteArray} {p:Nat} (h:xB w Q o) (hi:w.heap[k]? = some (Obj.stringIter s p)):k≠Q:=by
 rintro rfl
 unfold xB at h
 rw [h] at hi
 cases hi

theorem yV {P:Program} {fn:Func} {p u:Tmp} {ty:TypeId} (h:fn.results=#[.cell p ty,.tmp u]) (tmps:Array Value) (w:World) (g:Nat) (t:TypeId) (cs:Array Value) (fr:Nat×Nat) (d:TypeDesc)
  (hp:tmps.getD p undef=.pointer (some ⟨g,0,none⟩)) (hg:w.heap[g]? = some (.cells cs t fr))
  (hu:P.underlying ty=some d) (hd:(match d with | .struct _ | .array _ _=>true | _=>false)=true) (hi:(P.info? ty).map (·.size)=some cs.size) :
  (results fn tmps).run P w=.ok (.tuple #[.agg cs,tmps.getD u undef]) w:=by
 have hp':tmps[p]?.getD undef=.pointer (some ⟨g,0,none⟩):=by simpa using hp
 rw [results_cell_tmp h]
 simp [hp',asAddr,run_loadVar_row w g t ty cs fr d hg hu hd hi,Result.andThen]

def hd14 (bs:List UInt8):St:=if uf (numS ⟨bs,0⟩ 1).2=true then (numS ⟨bs,0⟩ 1).1 else failS (numS ⟨bs,0⟩ 1).1 4

structure Rd14 (w:World) (B Q:Nat) (st:St) (o:O14) (W:World):Prop where
 r:Rdr W B st
 o:xB W Q o
 z:xB W w.heap.size (jm 0)
 b:Below w.heap.size w W
theorem Rd14.below {w W W':World} {B Q:Nat} {st:St} {o:O14} (h:Rd14 w B Q st o W) (hb:Below W.heap.size W W'):Rd14 w B Q st o W' :=
 ⟨h.r.still (vC hb),h.o.below hb,h.z.below hb,zj h.b hb⟩
theorem Rd14.iter {w W:World} {B Q it:Nat} {st:St} {o:O14} {s:ByteArray} {p:Nat} (h:Rd14 w B Q st o W) (hi:W.heap[it]? = some (Obj.stringIter s p)) (hw:w.heap.size<it) (q:Nat):Rd14 w B Q st o (W.iterAt it s q) :=
 ⟨h.r.iter14 hi q,h.o.iter (fun e=>h.o.no_iter hi e.symm) s q,h.z.iter (by omega) s q,Lib.below_iterAt h.b (by omega) s q⟩


theorem Rdr.setR14 {w:World} {B P:Nat} {st:St} {e:Int} {v:Value} (h:Rdr w B st) (hp:ug w P e v) (hne:B≠P) (i:Nat) (u:Value):Rdr (w.setCell ⟨P,i,none⟩ u) B st:=by
 refine h.shift14 (S:=fun k=>k=P) ((zg.refl (fun k=>k=P) w).setCell (p:=⟨P,i,none⟩) (fun _=>rfl) u) hne ?_
 rintro g ⟨cur,fr,hg⟩ rfl
 have:=hp.symm.trans hg
 simp at this
theorem cap_own14 {w:World} {A:Option Addr} {c n:Nat} {ss:List Value} (h:w.ownsRow 0 9 1 (.slice A n c) n ss):n≤c∧c≤9223372036854775807:=by
 rcases h.2 with ⟨h1,h2⟩ | ⟨g,cap,cur,h1,_,_,h2,h3,_⟩
 ·
  injection h1 with _ _ h3
  subst h3
  omega
 ·
  injection h1 with _ _ h4
  subst h4
  exact ⟨h2,by simpa [maxLen] using h3⟩
theorem xA:(Tryz.prog.info? 56).map (·.size)=some 2:=by kernel_rfl

structure Gr14 (w:World) (B P:Nat) (st:St) (e:Int) (v:Value) (W:World):Prop where
 r:Rdr W B st
 p:ug W P e v
 z:ug W w.heap.size 0 (.slice none 0 0)
 b:Below w.heap.size w W
theorem Gr14.below {w W W':World} {B P:Nat} {st:St} {e:Int} {v:Value} (h:Gr14 w B P st e v W) (hb:Below W.heap.size W W'):Gr14 w B P st e v W' :=
 ⟨h.r.still (vC hb),h.p.below hb,h.z.below hb,zj h.b hb⟩
theorem Gr14.set {w W:World} {B P:Nat} {st:St} {e:Int} {v:Value} (h:Gr14 w B P st e v W) (hP:w.heap.size<P) (hne:B≠P) (u:Value):Gr14 w B P st e u (W.setCell ⟨P,1,none⟩ u) :=
 ⟨h.r.setR14 h.p hne 1 u,h.p.set1 u,h.z.far (by show _≠P; omega) u,h.b.setCell (by show _≤P; omega) u⟩

section
variable {w W W':World} {X Q:Nat} {b b':ByteArray} {e e':Int} {o:O14}
end


section
variable {w w':World} {B:Nat} {e:Int} {v:Value}
end

section
variable {w W W':World} {Q:Nat} {b:ByteArray} {e:Int} {A:Option Addr} {ss:List ByteArray}
end


structure R15 where
 n:Nat
 e:Nat
 A:Option Addr
 c:Nat
 ss:List ByteArray
def R15.cell (r:R15):Nat→Value
 | 0=>.int .u64 r.n
 | 1=>.int .i64 r.e
 | _=>.slice r.A r.ss.length r.c
def R15.v (r:R15):Value:=.agg #[.int .u64 r.n,.int .i64 r.e,.slice r.A r.ss.length r.c]
def uF:R15:=⟨0,0,none,0,[]⟩
def Ys (T:Nat→R15):Array Value:=((List.range 24).map fun k=>(T (k / 3)).cell (k % 3)).toArray
def setT (T:Nat→R15) (i:Nat) (r:R15):Nat→R15:=fun j=>if j=i then r else T j
theorem Z6 (T:Nat→R15):(Ys T).size=24:=by simp [Ys]
theorem X4 (T:Nat→R15) (k:Nat) (hk:k<24):(Ys T)[k]? = some ((T (k / 3)).cell (k % 3)):=by simp [Ys,hk]
theorem tabA_at (T:Nat→R15) (i j:Nat) (hi:i<8) (hj:j<3):(Ys T)[i * 3+j]? = some ((T i).cell j):=by
 rw [X4 T _ (by omega),show (i * 3+j) / 3=i by omega,show (i * 3+j) % 3=j by omega]
theorem tabA_set (T:Nat→R15) (i:Nat) (r:R15) (hi:i<8) :
  (((Ys T).setIfInBounds (i * 3) (r.cell 0)).setIfInBounds (i * 3+1) (r.cell 1)).setIfInBounds (i * 3+2) (r.cell 2)=Ys (setT T i r):=by
 apply Array.ext
 ·
  simp [Ys]
 ·
  intro k h1 h2
  have hk:k<24:=by simpa [Ys] using h2
  have e2:(Ys (setT T i r))[k]? = some ((setT T i r (k / 3)).cell (k % 3)):=X4 _ k hk
  have e1:((((Ys T).setIfInBounds (i * 3) (r.cell 0)).setIfInBounds (i * 3+1) (r.cell 1)).setIfInBounds (i * 3+2) (r.cell 2))[k]? = some ((setT T i r (k / 3)).cell (k % 3)):=by
   have hs:=Z6 T
   rw [Array.getElem?_setIfInBounds,Array.getElem?_setIfInBounds,Array.getElem?_setIfInBounds,X4 T k hk]
   simp only [Array.size_setIfInBounds,hs]
   unfold setT
   by_cases hq:k / 3=i
   ·
    rw [if_pos hq]
    have:k=i * 3∨k=i * 3+1∨k=i * 3+2:=by omega
    rcases this with rfl | rfl | rfl
    ·
     rw [if_neg (by omega),if_neg (by omega),if_pos rfl,if_pos (by omega),show i * 3 % 3=0 by omega]
    ·
     rw [if_neg (by omega),if_pos rfl,if_pos (by omega),show (i * 3+1) % 3=1 by omega]
    ·
     rw [if_pos rfl,if_pos (by omega),show (i * 3+2) % 3=2 by omega]
   ·
    rw [if_neg hq,if_neg (by omega),if_neg (by omega),if_neg (by omega)]
  rw [Array.getElem?_eq_getElem h1] at e1
  rw [Array.getElem?_eq_getElem h2] at e2
  exact Option.some.inj (e1.trans e2.symm)

def qk (w:World) (B:Nat) (t:TypeId) (T:Nat→R15):Prop:=w.heap[B]? = some (.cells (Ys T) t (0,0))
section
variable {w w':World} {B:Nat} {t:TypeId} {T:Nat→R15}
theorem qk.lt (h:qk w B t T):B<w.heap.size:=(Array.getElem?_eq_some_iff.1 h).1
theorem qk.cell (h:qk w B t T) (i j:Nat) (hi:i<8) (hj:j<3):w.cell? ⟨B,i * 3+j,none⟩=some ((T i).cell j) :=
 (cell_of_row w B _ _ t (0,0) h).trans (tabA_at T i j hi hj)
theorem qk.free (h:qk w B t T) (i:Nat):w.frozen? ⟨B,i,none⟩=false:=by unfold qk at h; simp [World.frozen?,h]
theorem qk.set (h:qk w B t T) (i:Nat) (_hi:i<8) (r:R15):qk (((w.setCell ⟨B,i * 3,none⟩ (r.cell 0)).setCell ⟨B,i * 3+1,none⟩ (r.cell 1)).setCell ⟨B,i * 3+2,none⟩ (r.cell 2)) B t (setT T i r):=by
 unfold qk at h ⊢
 rw [← tabA_set T i r _hi]
 simp [World.setCell,Array.getElem?_modify,h]
theorem qk.turns {S:Nat→Prop} (h:qk w B t T) (ht:zg S w w') (hn:¬ S B):qk w' B t T:=(ht.block B h.lt hn).trans h
theorem qk.later (h:qk w B t T) (hb:Below w.heap.size w w'):qk w' B t T:=(hb.block B h.lt).trans h
end

structure vG (w:World) (A:Option Addr) (c:Nat) (ss:List ByteArray):Prop where
 rd:RdS w A ss
 len:ss.length≤c
 cap:c≤9223372036854775807
 nil:A=none→c=0
theorem vG.later {w w':World} {A:Option Addr} {c:Nat} {ss:List ByteArray} (h:vG w A c ss) (hb:Below w.heap.size w w'):vG w' A c ss:=⟨h.rd.later14 hb,h.len,h.cap,h.nil⟩
theorem vG.none (w:World):vG w none 0 []:=⟨fun h=>absurd rfl h,Nat.le_refl _,Nat.zero_le _,fun _=>rfl⟩
def vO (P:Nat) (A:Option Addr) (ss:List ByteArray):Prop:=ss≠[]→∀ a,A=some a→P≤a.block∧a=⟨a.block,0,none⟩

def Cl15 (e:Nat) (ss:List ByteArray) (w:World) (en:Ending) (w':World):Prop :=
 ∃ A c,en=.returned (.agg #[.int .i64 e,.slice A (yP e ss).length c])∧vG w' A c (yP e ss)∧vO w.heap.size A (yP e ss)∧Below w.heap.size w w'

set_option maxRecDepth 100000 in
theorem Zj (c:Nat) (w:World):Calls Tryz.prog 68 #[.int .u8 c] w fun e w'=>e=.returned (.bool (decide (c<8)))∧w=w':=by
 have d:decide ((c:Int)<8)=decide (c<8):=by simp; omega
 generalize decide (c<8)=b at *
 go_enter Tryz.func68,Tryz.ntmps68
 go_wp2
 go_ret
 exact ⟨rfl,rfl⟩
def YU (n:Nat):Bool:=decide (0<n) && decide (n≤1099511627776)
set_option maxRecDepth 100000 in
theorem Vc (n:Nat) (w:World):Calls Tryz.prog 69 #[.int .u64 n] w fun e w'=>e=.returned (.bool (YU n))∧w=w':=by
 by_cases h0:0<n
 ·
  have d0:decide ((n:Int) > 0)=true:=by simp; omega
  have d1:decide ((n:Int)≤1099511627776)=YU n:=by unfold YU; simp [h0]; omega
  generalize YU n=b at *
  go_enter Tryz.func69,Tryz.ntmps69
  go_wp2
  go_ret
  exact ⟨rfl,rfl⟩
 ·
  have d0:decide ((n:Int) > 0)=false:=by simp; omega
  have e:YU n=false:=by unfold YU; simp [h0]
  rw [e]
  clear e
  go_enter Tryz.func69,Tryz.ntmps69
  go_wp2
  go_ret
  exact ⟨rfl,rfl⟩

def qT (T:Nat→R15) (c:Nat):R15:=if c<8 then T c else uF
theorem Xm:(Tryz.prog.info? 107).map (·.size)=some 3:=by kernel_rfl
set_option maxRecDepth 100000 in
theorem UB (B:Nat) (T:Nat→R15) (c:Nat) (w:World) (h:qk w B 123 T):Calls Tryz.prog 49 #[.pointer (some ⟨B,0,none⟩),.int .u8 c] w (zC (qT T c).v w):=by
 have HK:=za (Zj c w)
 unfold qT R15.v
 by_cases hc:c<8
 ·
  rw [if_pos hc]
  rw [decide_eq_true hc] at HK
  have c0:=h.cell c 0 hc (by decide)
  have c1:=h.cell c 1 hc (by decide)
  have c2:=h.cell c 2 hc (by decide)
  simp only [R15.cell,Nat.add_zero] at c0 c1 c2
  have d8:decide ((c:Int)<8)=true:=by simp; omega
  have hlt:=h.lt
  clear h
  generalize (T c).ss.length=m at *
  generalize (T c).A=A at *
  generalize (T c).n=n at *
  generalize (T c).e=e at *
  generalize (T c).c=q at *
  go_enter Tryz.func49,Tryz.ntmps49
  go_wp2_with (go_at_call 68; (with_reducible refine HK.out.mono ?_); rintro e w2 ⟨rfl,rfl⟩)
  go_wp2
  exact bodyPost_ret (results_cell_row Tryz.results49 _ _ w.heap.size _ #[.int .u64 n,.int .i64 e,.slice A m q] (0,0) _ rfl (heap_alloc_new w _) Tryz.underlying107 rfl Xm) rfl ⟨rfl,(Below.refl _ w).alloc (Nat.le_refl _) _⟩
 ·
  rw [if_neg hc]
  rw [decide_eq_false hc] at HK
  have d8:decide ((c:Int)<8)=false:=by simp; omega
  clear h hc
  unfold uF
  go_enter Tryz.func49,Tryz.ntmps49
  go_wp2_with (go_at_call 68; (with_reducible refine HK.out.mono ?_); rintro e w2 ⟨rfl,rfl⟩)
  go_wp2
  exact bodyPost_ret (results_cell_row Tryz.results49 _ _ w.heap.size _ #[.int .u64 0,.int .i64 0,.slice none 0 0] (0,0) _ rfl (heap_alloc_new w _) Tryz.underlying107 rfl Xm) rfl ⟨rfl,(Below.refl _ w).alloc (Nat.le_refl _) _⟩

theorem fieldN15 (n e:Int) (v:Value) (w:World):(Instr.field 107 (.agg #[.int .u64 n,.int .i64 e,v]) 0).run Tryz.prog w=.ok (.int .u64 n) w:=by kernel_rfl
theorem fieldR15 (n e:Int) (v:Value) (w:World):(Instr.field 107 (.agg #[.int .u64 n,.int .i64 e,v]) 1).run Tryz.prog w=.ok (.agg #[.int .i64 e,v]) w:=by kernel_rfl
set_option maxRecDepth 100000 in
theorem Last15_calls (B:Nat) (T:Nat→R15) (c:Nat) (w:World) (h:qk w B 123 T):Calls Tryz.prog 23 #[.pointer (some ⟨B,0,none⟩),.int .u8 c] w (zC (.int .u64 (qT T c).n) w):=by
 have HO:=za (UB B T c w h)
 clear h
 unfold R15.v at HO
 generalize (qT T c).ss.length=m at *
 generalize (qT T c).A=A at *
 generalize (qT T c).n=n at *
 generalize (qT T c).e=e at *
 generalize (qT T c).c=q at *
 have hf:=fun W=>fieldN15 n e (.slice A m q) W
 go_enter Tryz.func23,Tryz.ntmps23
 go_wp2_with (go_at_call 49; (with_reducible refine HO.out.mono ?_); rintro e w2 ⟨rfl,hb⟩; have HB:=za hb; clear hb)
 go_wp2
 go_ret
 exact ⟨rfl,HB.out⟩

def J15 (last c n:Nat):Nat:=if c<8∧YU n=true then (if n<last then 1 else if n=last then 2 else 3) else 0
set_option maxRecDepth 100000 in
theorem vZ (B:Nat) (T:Nat→R15) (c n:Nat) (w:World) (h:qk w B 123 T):Calls Tryz.prog 39 #[.pointer (some ⟨B,0,none⟩),.int .u8 c,.int .u64 n] w (zC (.int .i64 (J15 (qT T c).n c n)) w):=by
 have HL:=za (Last15_calls B T c w h)
 have HK:=za (fun W=>Zj c W)
 have HC:=za (fun W=>Vc n W)
 clear h
 unfold J15
 generalize (qT T c).n=l at *
 by_cases hc:c<8
 case neg =>
  rw [if_neg (fun h=>hc h.1)]
  rw [decide_eq_false hc] at HK
  clear hc
  go_enter Tryz.func39,Tryz.ntmps39
  go_wp2_with (first
   | (go_at_call 23; (with_reducible refine HL.out.mono ?_); rintro e w2 ⟨rfl,hb⟩; have HB:=za hb; clear hb)
   | (go_at_call 68; (with_reducible refine (HK.out _).mono ?_); rintro e w3 ⟨rfl,rfl⟩))
  go_wp2
  go_ret
  exact ⟨rfl,HB.out⟩
 rw [decide_eq_true hc] at HK
 cases hn:YU n with
 | false =>
  rw [if_neg (by simp)]
  rw [hn] at HC
  clear hc hn
  go_enter Tryz.func39,Tryz.ntmps39
  go_wp2_with (first
   | (go_at_call 23; (with_reducible refine HL.out.mono ?_); rintro e w2 ⟨rfl,hb⟩; have HB:=za hb; clear hb)
   | (go_at_call 68; (with_reducible refine (HK.out _).mono ?_); rintro e w3 ⟨rfl,rfl⟩)
   | (go_at_call 69; (with_reducible refine (HC.out _).mono ?_); rintro e w3 ⟨rfl,rfl⟩))
  go_wp2
  go_ret
  exact ⟨rfl,HB.out⟩
 | true =>
  rw [if_pos ⟨hc,rfl⟩]
  rw [hn] at HC
  clear hc hn
  by_cases h1:n<l
  ·
   rw [if_pos h1]
   have d1:decide ((n:Int)<l)=true:=by simp; omega
   have e1:decide (n<l)=true:=by simp; omega
   clear h1
   go_enter Tryz.func39,Tryz.ntmps39
   go_wp2_with (first
    | (go_at_call 23; (with_reducible refine HL.out.mono ?_); rintro e w2 ⟨rfl,hb⟩; have HB:=za hb; clear hb)
    | (go_at_call 68; (with_reducible refine (HK.out _).mono ?_); rintro e w3 ⟨rfl,rfl⟩)
    | (go_at_call 69; (with_reducible refine (HC.out _).mono ?_); rintro e w3 ⟨rfl,rfl⟩))
   go_wp2
   go_ret
   exact ⟨rfl,HB.out⟩
  ·
   rw [if_neg h1]
   have d1:decide ((n:Int)<l)=false:=by simp; omega
   have e1:decide (n<l)=false:=by simp; omega
   by_cases h2:n=l
   ·
    rw [if_pos h2]
    subst h2
    have d2:((n:Int) == n)=true:=by simp
    clear h1
    go_enter Tryz.func39,Tryz.ntmps39
    go_wp2_with (first
     | (go_at_call 23; (with_reducible refine HL.out.mono ?_); rintro e w2 ⟨rfl,hb⟩; have HB:=za hb; clear hb)
     | (go_at_call 68; (with_reducible refine (HK.out _).mono ?_); rintro e w3 ⟨rfl,rfl⟩)
     | (go_at_call 69; (with_reducible refine (HC.out _).mono ?_); rintro e w3 ⟨rfl,rfl⟩))
    go_wp2
    go_ret
    exact ⟨rfl,HB.out⟩
   ·
    rw [if_neg h2]
    have d2:((n:Int) == l)=false:=by simp; omega
    have e2:(n == l)=false:=by simp; omega
    have e3:decide (n=l)=false:=by simp; omega
    clear h1 h2
    go_enter Tryz.func39,Tryz.ntmps39
    go_wp2_with (first
     | (go_at_call 23; (with_reducible refine HL.out.mono ?_); rintro e w2 ⟨rfl,hb⟩; have HB:=za hb; clear hb)
     | (go_at_call 68; (with_reducible refine (HK.out _).mono ?_); rintro e w3 ⟨rfl,rfl⟩)
     | (go_at_call 69; (with_reducible refine (HC.out _).mono ?_); rintro e w3 ⟨rfl,rfl⟩))
    go_wp2
    go_ret
    exact ⟨rfl,HB.out⟩

/-! ### clone -/
theorem rds_cells15 {ss:List ByteArray} {b off:Nat} {w:World} (h:∀ j (hj:j<ss.length),w.cell? ⟨b,off+j,none⟩=some (.string ss[j])) (j:Nat) (hj:j<ss.length):w.cell? ⟨b,off+j,none⟩=some (.string (ss.getD j ByteArray.empty)):=by
 rw [h j hj]
 simp [List.getD_eq_getElem?_getD,hj]
theorem VD (A:Option Addr) (c:Nat) (ss:List ByteArray) (w:World) (h:RdS w A ss) (hb:ss.length≤1000) :
  Calls Tryz.prog 97 #[.slice A ss.length c] w fun e w'=>∃ A' c',e=.returned (.slice A' ss.length c')∧vG w' A' c' ss∧vO w.heap.size A' ss∧Below w.heap.size w w':=by
 have hown:∀ (v':Value) (w':World),w'.ownsRow w.heap.size 9 1 v' ss.length (ss.map Value.string)→∃ A' c',v'=.slice A' ss.length c'∧vG w' A' c' ss∧vO w.heap.size A' ss:=by
  intro v' w' ho
  have h0:w'.ownsRow 0 9 1 v' ss.length (ss.map Value.string):=by
   refine ⟨ho.1,?_⟩
   rcases ho.2 with h0 | ⟨g,cap,cur,e,hg,r⟩
   ·
    exact .inl h0
   ·
    exact .inr ⟨g,cap,cur,e,Nat.zero_le _,r⟩
  obtain ⟨A',c',rfl⟩:=yI h0
  have hc:=cap_own14 h0
  refine ⟨A',c',rfl,⟨jU h0,hc.1,hc.2,fun hA=>?_⟩,fun hne a ha=>?_⟩
  ·
   rcases ho.2 with ⟨e,_⟩ | ⟨g,cap,cur,e,_⟩
   ·
    injection e
   ·
    injection e with e
    rw [hA] at e; cases e
  ·
   rcases ho.2 with ⟨e,hn⟩ | ⟨g,cap,cur,e,hg,_⟩
   ·
    exact absurd (by simpa using hn) hne
   ·
    injection e with e
    rw [ha] at e
    injection e with e
    subst e
    exact ⟨hg,rfl⟩
 cases A with
 | none =>
  have h0:ss=[]:=by
   by_cases h0:ss=[]
   ·
    exact h0
   ·
    obtain ⟨_,_,e,_⟩:=h h0
    cases e
  subst h0
  exact (Tryz.slices_Clone_string_nil 0 c w).mono fun e w' ⟨he,hw⟩=>by
   subst hw
   exact ⟨none,0,he,vG.none _,fun h=>absurd rfl h,Below.refl _ _⟩
 | some a =>
  by_cases h0:ss=[]
  ·
   subst h0
   exact (Tryz.slices_Clone_string_zero a c w).mono fun e w' ⟨v',he,ho,_,hb⟩=>by
    obtain ⟨A',c',rfl,h1,h2⟩:=hown v' w' ho
    exact ⟨A',c',he,h1,h2,hb⟩
  ·
   obtain ⟨b,off,e,_,hcell⟩:=h h0
   injection e with e
   subst e
   have:=Tryz.slices_Clone_string b off ss.length c ss w (Nat.le_refl _) (by omega) (rds_cells15 hcell)
   rw [List.take_length] at this
   exact this.mono fun e w' ⟨v',he,ho,_,hb⟩=>by
    obtain ⟨A',c',rfl,h1,h2⟩:=hown v' w' ho
    exact ⟨A',c',he,h1,h2,hb⟩

set_option maxRecDepth 100000 in
theorem jh (e:Nat) (A:Option Addr) (c:Nat) (ss:List ByteArray) (w:World) (h:RdS w A ss) (hb:ss.length≤1000) :
  Calls Tryz.prog 70 #[.agg #[.int .i64 e,.slice A ss.length c]] w (Cl15 e ss w):=by
 unfold Cl15
 by_cases he:e=0
 ·
  have ht:yP e ss=ss:=by unfold yP; rw [if_pos (by omega)]
  rw [ht]
  subst he
  have HC:Hid (∀ W,Below w.heap.size w W→Calls Tryz.prog 97 #[.slice A ss.length c] W fun e w'=>∃ A' c',e=.returned (.slice A' ss.length c')∧vG w' A' c' ss∧vO W.heap.size A' ss∧Below W.heap.size W w'):=fun W hW=>VD A c ss W (h.later14 hW) hb
  clear h hb ht
  have hb1:=ze (Below.refl _ w) (.cells #[.int .i64 0,.slice A ss.length c] 56)
  generalize hm:ss.length=m at *
  clear hm
  have hb2:=ze hb1 (.cells #[.int .i64 0,.slice none 0 0] 56)
  have hr2:ug ((w.alloc (.cells #[.int .i64 0,.slice A m c] 56)).alloc (.cells #[.int .i64 0,.slice none 0 0] 56)) (w.heap.size+1) 0 (.slice none 0 0):=heap_alloc2_new w _ _
  have hs2:((w.alloc (.cells #[.int .i64 0,.slice A m c] 56)).alloc (.cells #[.int .i64 0,.slice none 0 0] 56)).heap.size=w.heap.size+2:=by simp
  have HB2:=za hb2
  have HR2:=za hr2
  have HS2:=za hs2
  clear hb1 hb2 hr2 hs2
  go_enter Tryz.func70,Tryz.ntmps70
  go_wp2_with fail
  generalize (w.alloc (.cells #[.int .i64 0,.slice A m c] 56)).alloc (.cells #[.int .i64 0,.slice none 0 0] 56)=w2 at *
  with_reducible refine (HC.out _ HB2.out).mono ?_
  rintro e w3 ⟨A',c',rfl,ht,hf,hb⟩
  have hr3:=HR2.out.below hb
  have x0:=hr3.c0
  have x1:=hr3.c1
  have xf:=hr3.fr
  have HR3:=za hr3
  have HT:Hid (vG ((w3.setCell ⟨w.heap.size+1,0,none⟩ (.int .i64 0)).setCell ⟨w.heap.size+1,1,none⟩ (.slice A' m c')) A' c' ss):=by
   refine ⟨ht.rd.turns (((zg.refl (fun i=>i=w.heap.size+1) w3).setCell (p:=⟨w.heap.size+1,0,none⟩) (fun _=>rfl) _).setCell (p:=⟨w.heap.size+1,1,none⟩) (fun _=>rfl) _) (fun hne a ha he=>?_),ht.len,ht.cap,ht.nil⟩
   have:=(hf hne a ha).1
   have:=HS2.out
   omega
  have HF:Hid (vO w.heap.size A' ss):=fun hne a ha=>⟨by have:=(hf hne a ha).1; have:=HS2.out; omega,(hf hne a ha).2⟩
  have HB3:=za (zj HB2.out hb)
  clear ht hf hb hr3 HR2 HC HB2
  go_wp2
  exact bodyPost_ret (results_cell_row Tryz.results70 _ _ (w.heap.size+1) _ _ (0,0) _ rfl (HR3.out.setAll 0 (.slice A' m c')) Tryz.underlying56 rfl xA) rfl
   ⟨A',c',rfl,HT.out,HF.out,(HB3.out.setCell (Nat.le_succ _) _).setCell (Nat.le_succ _) _⟩
 ·
  have ht:yP e ss=[]:=by unfold yP; rw [if_neg (by omega)]
  rw [ht]
  have hd:((e:Int) != 0)=true:=by simp; omega
  clear h hb ht he
  generalize ss.length=m at *
  have hr2:ug ((w.alloc (.cells #[.int .i64 e,.slice A m c] 56)).alloc (.cells #[.int .i64 e,.slice none 0 0] 56)) (w.heap.size+1) e (.slice none 0 0):=heap_alloc2_new w _ _
  have HR2:=za hr2
  clear hr2
  go_enter Tryz.func70,Tryz.ntmps70
  go_wp2
  exact bodyPost_ret (results_cell_row Tryz.results70 _ _ (w.heap.size+1) _ _ (0,0) _ rfl HR2.out Tryz.underlying56 rfl xA) rfl
   ⟨none,0,rfl,vG.none _,fun h=>absurd rfl h,ze (ze (Below.refl _ w) _) _⟩

/-! ### A table of one's own -/
structure May15 (r:R15):Prop where
 n:r.n≤1099511627776
 e:r.e≤18
 z:r.n=0→r.e=0∧r.ss=[]
 t:r.e≠0→r.ss=[]
 few:r.ss.length≤14
 lit:∀ s∈r.ss,s.size≤50
theorem ZZ:May15 uF:=⟨Nat.zero_le _,Nat.zero_le _,fun _=>⟨rfl,rfl⟩,fun h=>absurd rfl h,Nat.zero_le _,fun s hs=>by cases hs⟩
structure vH (w:World) (P B:Nat) (T:Nat→R15):Prop where
 lt:B<P
 le:P≤w.heap.size
 at_:qk w B 123 T
 tx:∀ i,i<8→vG w (T i).A (T i).c (T i).ss
 far:∀ i,i<8→vO P (T i).A (T i).ss
 may:∀ i,i<8→May15 (T i)
section
variable {w w':World} {P B:Nat} {T:Nat→R15}
theorem vG.turns {A:Option Addr} {c:Nat} {ss:List ByteArray} {S:Nat→Prop} (h:vG w A c ss) (ht:zg S w w') (hn:ss≠[]→∀ a,A=some a→¬ S a.block):vG w' A c ss:=⟨h.rd.turns ht hn,h.len,h.cap,h.nil⟩
theorem vH.turns {S:Nat→Prop} (h:vH w P B T) (ht:zg S w w') (hB:¬ S B) (hP:∀ k,P≤k→¬ S k):vH w' P B T :=
 ⟨h.lt,Nat.le_trans h.le ht.size,h.at_.turns ht hB,fun i hi=>(h.tx i hi).turns ht (fun hne a ha=>hP _ (h.far i hi hne a ha).1),h.far,h.may⟩
theorem vH.later (h:vH w P B T) (hb:Below w.heap.size w w'):vH w' P B T:=h.turns (vC hb) (fun f=>f) (fun _ _ f=>f)
theorem vH.get (h:vH w P B T) (c:Nat):vG w (qT T c).A (qT T c).c (qT T c).ss∧vO P (qT T c).A (qT T c).ss∧May15 (qT T c):=by
 unfold qT
 split
 ·
  exact ⟨h.tx c (by assumption),h.far c (by assumption),h.may c (by assumption)⟩
 ·
  exact ⟨vG.none _,fun h=>absurd rfl h,ZZ⟩
theorem tls_may15 {r:R15} (h:May15 r):yP r.e r.ss=r.ss:=by
 unfold yP
 by_cases he:r.e=0
 ·
  rw [if_pos (by omega)]
 ·
  rw [if_neg (by omega),h.t he]
set_option maxRecDepth 100000 in
theorem Ul (h:vH w P B T) (c:Nat):Calls Tryz.prog 41 #[.pointer (some ⟨B,0,none⟩),.int .u8 c] w fun e w' =>
  ∃ A q,e=.returned (.agg #[.int .i64 (qT T c).e,.slice A (qT T c).ss.length q])∧vG w' A q (qT T c).ss∧vO w.heap.size A (qT T c).ss∧Below w.heap.size w w':=by
 have HO:Hid (∀ W,Below w.heap.size w W→Calls Tryz.prog 49 #[.pointer (some ⟨B,0,none⟩),.int .u8 c] W (zC (qT T c).v W)):=fun W hW=>UB B T c W (h.at_.later hW)
 obtain ⟨htx,_,hm⟩:=h.get c
 have ht:=tls_may15 hm
 have HC:Hid (∀ W,Below w.heap.size w W→Calls Tryz.prog 70 #[.agg #[.int .i64 (qT T c).e,.slice (qT T c).A (qT T c).ss.length (qT T c).c]] W (Cl15 (qT T c).e (qT T c).ss W)):=fun W hW=>jh _ _ _ _ W (htx.later hW).rd (by have:=hm.few; omega)
 unfold Cl15 at HC
 rw [ht] at HC
 clear h htx hm ht
 unfold R15.v at HO
 generalize (qT T c).ss=ss at *
 generalize ss.length=m at *
 generalize (qT T c).A=A at *
 generalize (qT T c).n=n at *
 generalize (qT T c).e=e at *
 generalize (qT T c).c=q at *
 have hf:=fun W=>fieldR15 n e (.slice A m q) W
 have hb1:=ze (Below.refl _ w) (.cells #[.int .i64 0,.slice none 0 0] 56)
 have hr1:ug (w.alloc (.cells #[.int .i64 0,.slice none 0 0] 56)) w.heap.size 0 (.slice none 0 0):=heap_alloc_new w _
 have HB1:=za hb1
 have HR1:=za hr1
 clear hb1 hr1
 go_enter Tryz.func41,Tryz.ntmps41
 go_wp2_with fail
 have hs1:(w.alloc (.cells #[.int .i64 0,.slice none 0 0] 56)).heap.size=w.heap.size+1:=by simp
 have HS1:=za hs1
 clear hs1
 generalize w.alloc (.cells #[.int .i64 0,.slice none 0 0] 56)=w1 at *
 with_reducible refine (HO.out _ HB1.out).mono ?_
 rintro e w2 ⟨rfl,hb⟩
 have HR2:=za (HR1.out.below hb)
 have HB2:=za (zj HB1.out hb)
 clear hb HB1 HR1 HO
 go_wp2_with fail
 with_reducible refine (HC.out _ HB2.out).mono ?_
 rintro e w3 ⟨A',c',rfl,ht,hf3,hb⟩
 have hr3:=HR2.out.below hb
 have x0:=hr3.c0
 have x1:=hr3.c1
 have xf:=hr3.fr
 have HR3:=za hr3
 have hlt:w.heap.size<w2.heap.size:=HR2.out.lt
 have HT:Hid (vG ((w3.setCell ⟨w.heap.size,0,none⟩ (.int .i64 e)).setCell ⟨w.heap.size,1,none⟩ (.slice A' m c')) A' c' ss):=by
  refine ⟨ht.rd.turns (((zg.refl (fun i=>i=w.heap.size) w3).setCell (p:=⟨w.heap.size,0,none⟩) (fun _=>rfl) _).setCell (p:=⟨w.heap.size,1,none⟩) (fun _=>rfl) _) (fun hne a ha he=>?_),ht.len,ht.cap,ht.nil⟩
  have:=(hf3 hne a ha).1
  omega
 have HB3:=za (zj HB2.out hb)
 have HF3:Hid (vO w.heap.size A' ss):=fun hne a ha=>⟨by have:=(hf3 hne a ha).1; omega,(hf3 hne a ha).2⟩
 clear ht hf3 hb hr3 HR2 HC HB2
 go_wp2
 exact bodyPost_ret (results_cell_row Tryz.results41 _ _ w.heap.size _ _ (0,0) _ rfl (HR3.out.setAll e (.slice A' m c')) Tryz.underlying56 rfl xA) rfl
  ⟨A',c',rfl,HT.out,HF3.out,(HB3.out.setCell (Nat.le_refl _) _).setCell (Nat.le_refl _) _⟩
end

structure P15 where
 n:Nat
 e:Nat
 ss:List ByteArray
def R15.p (r:R15):P15:=⟨r.n,r.e,r.ss⟩
def noP15:P15:=⟨0,0,[]⟩
def errJ15 (j:Nat):Nat:=if j=0 then 1 else if j=3 then 0 else 12
def vJ (X:Nat→P15) (c n e:Nat) (ss:List ByteArray):Nat→P15:=fun i=>if i=c∧J15 (X c).n c n=3 then ⟨n,e,yP e ss⟩ else X i
theorem jP {l c n:Nat} (h:J15 l c n=3):c<8∧0<n∧n≤1099511627776∧l<n:=by
 unfold J15 at h
 split at h
 ·
  rename_i h1
  have h2:=h1.2
  unfold YU at h2
  simp at h2
  split at h
  ·
   omega
  ·
   split at h
   ·
    omega
   ·
    exact ⟨h1.1,h2.1,h2.2,by omega⟩
 ·
  omega
theorem getT_n15 {T:Nat→R15} {c n:Nat}:J15 (qT T c).n c n=J15 (T c).n c n:=by
 unfold qT
 split
 ·
  rfl
 ·
  unfold J15
  rw [if_neg (fun h=>by omega),if_neg (fun h=>by omega)]

def Did15 (w:World) (P B:Nat) (X:Nat→P15) (w':World):Prop:=∃ T',vH w' P B T'∧zg (fun k=>k=B) w w'∧∀ i,i<8→(T' i).p=X i

theorem vH.put {w w' w3:World} {P B:Nat} {T:Nat→R15} (h:vH w P B T) (hb:Below w.heap.size w w') {c n e:Nat} {A:Option Addr} {q:Nat} {ss:List ByteArray} (hc:c<8)
  (htx:vG w' A q (yP e ss)) (hf:vO w.heap.size A (yP e ss)) (he:e≤18) (hn:n≤1099511627776) (hn0:0<n) (hl:ss.length≤14∧∀ s∈ss,s.size≤50)
  (hw:w3=((w'.setCell ⟨B,c * 3,none⟩ (.int .u64 n)).setCell ⟨B,c * 3+1,none⟩ (.int .i64 e)).setCell ⟨B,c * 3+2,none⟩ (.slice A (yP e ss).length q)) :
  vH w3 P B (setT T c ⟨n,e,A,q,yP e ss⟩)∧zg (fun k=>k=B) w w3:=by
 have ht:zg (fun k=>k=B) w' w3:=by
  rw [hw]
  exact ((((zg.refl (fun k=>k=B) w').setCell (p:=⟨B,c * 3,none⟩) (fun _=>rfl) _).setCell (p:=⟨B,c * 3+1,none⟩) (fun _=>rfl) _).setCell (p:=⟨B,c * 3+2,none⟩) (fun _=>rfl) _)
 have h1:=h.later hb
 have hm:May15 ⟨n,e,A,q,yP e ss⟩:=by
  refine ⟨hn,he,fun h=>?_,fun h=>?_,?_,?_⟩
  ·
   have:n=0:=h
   omega
  ·
   show yP e ss=[]
   unfold yP
   have:e≠0:=h
   rw [if_neg (by omega)]
  ·
   show (yP e ss).length≤14
   unfold yP
   split
   ·
    exact hl.1
   ·
    exact Nat.zero_le _
  ·
   show ∀ s∈yP e ss,s.size≤50
   unfold yP
   split
   ·
    exact hl.2
   ·
    intro s hs; cases hs
 have hne:∀ (A':Option Addr) (ss':List ByteArray),vO P A' ss'→ss'≠[]→∀ a,A'=some a→¬ a.block=B:=fun A' ss' hf hne a ha he=>by
  have:=(hf hne a ha).1
  have:=h.lt
  omega
 refine ⟨⟨h1.lt,Nat.le_trans h1.le ht.size,?_,fun i hi=>?_,fun i hi=>?_,fun i hi=>?_⟩,(zg.of_below hb _).next ht (fun k _ hk=>hk)⟩
 ·
  rw [hw]
  exact h1.at_.set c hc ⟨n,e,A,q,yP e ss⟩
 ·
  unfold setT
  by_cases e1:i=c
  ·
   rw [if_pos e1]
   exact htx.turns ht (hne _ _ (fun h1 a ha=>⟨Nat.le_trans h.le (hf h1 a ha).1,(hf h1 a ha).2⟩))
  ·
   rw [if_neg e1]
   exact (h1.tx i hi).turns ht (hne _ _ (h1.far i hi))
 ·
  unfold setT
  by_cases e1:i=c
  ·
   rw [if_pos e1]
   exact fun h1 a ha=>⟨Nat.le_trans h.le (hf h1 a ha).1,(hf h1 a ha).2⟩
  ·
   rw [if_neg e1]
   exact h1.far i hi
 ·
  unfold setT
  by_cases e1:i=c
  ·
   rw [if_pos e1]
   exact hm
  ·
   rw [if_neg e1]
   exact h1.may i hi

def YPt15 (B c n e:Nat) (A:Option Addr) (m0 q:Nat) (ls:List ByteArray) (m n0:Nat):Nat→Value→World→Prop
 | 0,v,_=>v=.pointer (some ⟨B,0,none⟩)
 | 1,v,_=>v=.int .u8 c
 | 2,v,_=>v=.int .u64 n
 | 3,v,_=>v=.agg #[.int .i64 e,.slice A m0 q]
 | 4,v,W=>∃ A' c',v=.agg #[.int .i64 e,.slice A' m c']∧vG W A' c' ls∧vO n0 A' ls
 | 5,v,W=>∃ A' c',v=.agg #[.int .u64 n,.int .i64 e,.slice A' m c']∧vG W A' c' ls∧vO n0 A' ls
 | 6,v,_=>v=.pointer (some ⟨B,0,none⟩)
 | 7,v,_=>v=.pointer (some ⟨B,0,none⟩)
 | 8,v,_=>v=.pointer (some ⟨B,c * 3,none⟩)
 | _,_,_=>True
theorem YPt15_keep {B c n e:Nat} {A:Option Addr} {m0 q:Nat} {ls:List ByteArray} {m n0:Nat} {W W':World} (hb:Below W.heap.size W W') (j:Nat) (z:Value) (h:YPt15 B c n e A m0 q ls m n0 j z W):YPt15 B c n e A m0 q ls m n0 j z W':=by
 match j,h with
 | 0,h=>exact h
 | 1,h=>exact h
 | 2,h=>exact h
 | 3,h=>exact h
 | 4,⟨A',c',h1,h2,h3⟩=>exact ⟨A',c',h1,h2.later hb,h3⟩
 | 5,⟨A',c',h1,h2,h3⟩=>exact ⟨A',c',h1,h2.later hb,h3⟩
 | 6,h=>exact h
 | 7,h=>exact h
 | 8,h=>exact h
 | _+9,_=>trivial

set_option maxRecDepth 100000 in
theorem Put15_calls {w:World} {P B:Nat} {T:Nat→R15} (h:vH w P B T) (c n e:Nat) (A:Option Addr) (q:Nat) (ss:List ByteArray) (htx:RdS w A ss) (he:e≤18) (hl:ss.length≤14∧∀ s∈ss,s.size≤50) :
  Calls Tryz.prog 43 #[.pointer (some ⟨B,0,none⟩),.int .u8 c,.int .u64 n,.agg #[.int .i64 e,.slice A ss.length q]] w fun en w' =>
   en=.returned (.int .i64 (errJ15 (J15 (T c).n c n)))∧Did15 w P B (vJ (fun i=>(T i).p) c n e ss) w':=by
 have HJ:Hid (∀ W,Below w.heap.size w W→Calls Tryz.prog 39 #[.pointer (some ⟨B,0,none⟩),.int .u8 c,.int .u64 n] W (zC (.int .i64 (J15 (qT T c).n c n)) W)):=fun W hW=>vZ B T c n W (h.at_.later hW)
 have HB1:=za (ze (Below.refl _ w) (.cells #[.int .i64 e,.slice A ss.length q] 56))
 rw [getT_n15] at HJ
 by_cases h3:J15 (T c).n c n=3
 ·
  obtain ⟨hc,hn0,hn,_⟩:=jP h3
  rw [h3] at HJ ⊢
  have HD:Hid (∀ w' w3 A' q',Below w.heap.size w w'→vG w' A' q' (yP e ss)→vO w.heap.size A' (yP e ss)→w3=((w'.setCell ⟨B,c * 3,none⟩ (.int .u64 n)).setCell ⟨B,c * 3+1,none⟩ (.int .i64 e)).setCell ⟨B,c * 3+2,none⟩ (.slice A' (yP e ss).length q')→Did15 w P B (vJ (fun i=>(T i).p) c n e ss) w3):=fun w' w3 A' q' hb ht hf hw=>by
   obtain ⟨h1,h2⟩:=h.put hb hc ht hf he hn hn0 hl hw
   refine ⟨_,h1,h2,fun i hi=>?_⟩
   unfold setT vJ
   by_cases e1:i=c
   ·
    rw [if_pos e1,if_pos ⟨e1,h3⟩]
    rfl
   ·
    rw [if_neg e1,if_neg (fun h=>e1 h.1)]
  have HC:Hid (∀ W,Below w.heap.size w W→Calls Tryz.prog 70 #[.agg #[.int .i64 e,.slice A ss.length q]] W (Cl15 e ss W)):=fun W hW=>jh e A q ss W (htx.later14 hW) (by have:=hl.1; omega)
  have HA:Hid (∀ W,Below w.heap.size w W→qk W B 123 T):=fun W hW=>h.at_.later hW
  have d8:decide ((c:Int)<8)=true:=by simp; omega
  clear h htx he hl h3 hn0 hn
  generalize vJ (fun i=>(T i).p) c n e ss=X at *
  unfold Cl15 at HC
  generalize yP e ss=ls at *
  generalize ls.length=m at *
  generalize ss.length=m0 at *
  go_enter Tryz.func43,Tryz.ntmps43
  go_wp2_with fail
  have hr1:ug (w.alloc (.cells #[.int .i64 e,.slice A m0 q] 56)) w.heap.size e (.slice A m0 q):=heap_alloc_new w _
  generalize w.alloc (.cells #[.int .i64 e,.slice A m0 q] 56)=w1 at *
  with_reducible refine (HJ.out _ HB1.out).mono ?_
  rintro en w2 ⟨rfl,hb⟩
  have HR2:=za (hr1.below hb)
  have HB2:=za (zj HB1.out hb)
  have x0:=HR2.out.c0
  have x1:=HR2.out.c1
  clear hb HJ hr1 HB1
  go_wp2
  refine zB (by kernel_rfl) 9 (fun W=>Below w2.heap.size w2 W) (fun W=>Did15 w P B X W) (YPt15 B c n e A m0 q ls m w.heap.size) (fun v=>True) ?F ?hF (by kernel_rfl) (by kernel_rfl) (by kernel_rfl) (by kernel_rfl) (by decide) (qf (Below.refl _ _)) ?step ?fin
  case hF =>
   intro x
   simp only [List.map_cons,List.map_nil,xU,Act.put,List.setIfInBounds_toArray,List.set_cons_zero,List.set_cons_succ,Nat.zero_add,Nat.reduceAdd]
   exact rfl
  case step =>
   refine ⟨?_,?_,?_,?_,?_,?_,?_,?_,?_,?_,trivial⟩
   ·
    intro x W
    refine ⟨fun _ hW hdep K hK=>?_,(fun h=>absurd h (by decide)),(fun h=>absurd h (by decide))⟩
    clear hdep
    go_simp
    exact hK _ _ rfl hW (fun _ _ h=>h)
   ·
    intro x W
    refine ⟨fun _ hW hdep K hK=>?_,(fun h=>absurd h (by decide)),(fun h=>absurd h (by decide))⟩
    clear hdep
    go_simp
    exact hK _ _ rfl hW (fun _ _ h=>h)
   ·
    intro x W
    refine ⟨fun _ hW hdep K hK=>?_,(fun h=>absurd h (by decide)),(fun h=>absurd h (by decide))⟩
    clear hdep
    go_simp
    exact hK _ _ rfl hW (fun _ _ h=>h)
   ·
    intro x W
    refine ⟨fun _ hW hdep K hK=>?_,(fun h=>absurd h (by decide)),(fun h=>absurd h (by decide))⟩
    have k0:=(HR2.out.below hW).c0
    have k1:=(HR2.out.below hW).c1
    clear hdep
    go_simp
    exact hK _ _ rfl hW (fun _ _ h=>h)
   ·
    intro x W
    refine ⟨fun _ hW hdep K hK=>?_,(fun h=>absurd h (by decide)),(fun h=>absurd h (by decide))⟩
    have h3:x 3=_:=hdep 3 rfl
    clear hdep
    simp only [h3] at hK
    go_simp
    refine (HC.out W (zj HB2.out hW)).mono ?_
    rintro en W' ⟨A',c',rfl,ht,hf,hb⟩
    exact hK _ _ ⟨A',c',rfl,ht,fun hne a ha=>⟨Nat.le_trans (zj HB2.out hW).size (hf hne a ha).1,(hf hne a ha).2⟩⟩ (zj hW hb) (fun j z h=>YPt15_keep hb j z h)
   ·
    intro x W
    refine ⟨fun _ hW hdep K hK=>?_,(fun h=>absurd h (by decide)),(fun h=>absurd h (by decide))⟩
    have h2:x 2=_:=hdep 2 rfl
    obtain ⟨A',c',h4,ht,hf⟩:=hdep 4 rfl
    clear hdep
    simp only [h2,h4] at hK
    go_simp
    exact hK _ _ ⟨A',c',rfl,ht,hf⟩ hW (fun _ _ h=>h)
   ·
    intro x W
    refine ⟨fun _ hW hdep K hK=>?_,(fun h=>absurd h (by decide)),(fun h=>absurd h (by decide))⟩
    have h0:x 0=_:=hdep 0 rfl
    clear hdep
    simp only [h0] at hK
    go_simp
    exact hK _ _ rfl hW (fun _ _ h=>h)
   ·
    intro x W
    refine ⟨fun _ hW hdep K hK=>?_,(fun h=>absurd h (by decide)),(fun h=>absurd h (by decide))⟩
    have h6:x 6=_:=hdep 6 rfl
    clear hdep
    simp only [h6] at hK
    go_simp
    exact hK _ _ rfl hW (fun _ _ h=>h)
   ·
    intro x W
    refine ⟨fun _ hW hdep K hK=>?_,(fun h=>absurd h (by decide)),(fun h=>absurd h (by decide))⟩
    have h7:x 7=_:=hdep 7 rfl
    have h1:x 1=_:=hdep 1 rfl
    clear hdep
    simp only [h7,h1] at hK
    go_simp
    rw [if_pos (show (c:Int)<8 by omega)]
    go_simp
    exact hK _ _ rfl hW (fun _ _ h=>h)
   ·
    intro x W
    refine ⟨(fun h=>absurd h (by decide)),fun _ hW hdep K hK=>?_,(fun h=>absurd h (by decide))⟩
    have h8:x 8=_:=hdep 8 rfl
    obtain ⟨A',c',h5,ht,hf⟩:=hdep 5 rfl
    have ha:=HA.out W (zj HB2.out hW)
    have a0:=ha.cell c 0 hc (by decide)
    have a1:=ha.cell c 1 hc (by decide)
    have a2:=ha.cell c 2 hc (by decide)
    have af:=ha.free
    simp only [R15.cell,Nat.add_zero] at a0 a1 a2
    have HT:=za ht
    have HF:=za hf
    clear ht hf ha
    clear hdep
    simp only [h8,h5] at hK
    go_simp
    exact hK (.bool true) _ trivial (HD.out W _ A' c' (zj HB2.out hW) HT.out HF.out rfl)
  case fin =>
   intro x W hD _
   have HD2:=za hD
   clear hD
   go_wp2
   go_ret
   exact ⟨rfl,HD2.out⟩
 ·
  have hno:Hid (∀ w',Below w.heap.size w w'→Did15 w P B (vJ (fun i=>(T i).p) c n e ss) w'):=fun w' hb=>⟨T,h.later hb,zg.of_below hb _,fun i hi=>by
   unfold vJ
   rw [if_neg (fun h=>h3 h.2)]⟩
  clear h htx
  generalize vJ (fun i=>(T i).p) c n e ss=X at *
  unfold errJ15
  rw [if_neg h3]
  generalize hj:J15 (T c).n c n=j at *
  clear hj
  by_cases h0:j=0
  ·
   subst h0
   rw [if_pos rfl]
   go_enter Tryz.func43,Tryz.ntmps43
   go_wp2_with fail
   with_reducible refine (HJ.out _ HB1.out).mono ?_
   rintro en w2 ⟨rfl,hb⟩
   have HB2:=za (zj HB1.out hb)
   clear hb HJ
   go_wp2
   go_ret
   exact ⟨rfl,hno.out _ HB2.out⟩
  ·
   rw [if_neg h0]
   have d0:((j:Int) == 0)=false:=by simp; omega
   have d3:((j:Int) == 3)=false:=by simp; omega
   have e0:(j == 0)=false:=by simp; omega
   have e3:(j == 3)=false:=by simp; omega
   go_enter Tryz.func43,Tryz.ntmps43
   go_wp2_with fail
   with_reducible refine (HJ.out _ HB1.out).mono ?_
   rintro en w2 ⟨rfl,hb⟩
   have HB2:=za (zj HB1.out hb)
   clear hb HJ
   go_wp2
   go_ret
   exact ⟨rfl,hno.out _ HB2.out⟩

theorem infoTab15:(Tryz.prog.info? 123).map (fun i=>(i.zero,i.size,i.bytes))=some (some (.agg (Ys fun _=>uF)),24,320):=by kernel_rfl
theorem Q4 (w:World):(zeroValue 123).run Tryz.prog w=.ok (.agg (Ys fun _=>uF)) w:=by
 obtain ⟨i0,hi,hz0,hz1,hz2⟩:=info_parts infoTab15
 simp [zeroValue,typeInfo,hi,hz0]
set_option maxRecDepth 100000 in
theorem Vq (w:World):Calls Tryz.prog 30 #[] w fun e w'=>e=.returned (.pointer (some ⟨w.heap.size,0,none⟩))∧w'=w.alloc (.cells (Ys fun _=>uF) 123):=by
 have hz:=Q4
 go_enter Tryz.func30,Tryz.ntmps30
 go_wp2
 go_ret
 exact ⟨rfl,rfl⟩
theorem JX (w:World) (P:Nat) (hP:P=w.heap.size+1):vH (w.alloc (.cells (Ys fun _=>uF) 123)) P w.heap.size (fun _=>uF) :=
 ⟨by omega,by simp; omega,heap_alloc_new w _,fun _ _=>vG.none _,fun _ _ h=>absurd rfl h,fun _ _=>ZZ⟩

end Go.Proofs.YteegkoicalbkbaaGreatDoor
namespace Go.Proofs.YteegkoicalbkbaaGreatDoor
open Go.ChangeShapes Go.WideShapes Go.ChangeAt Go.RowKit Go.Deep

structure AcT where
 kd:Nat
 cl:Nat
 nm:Nat
 er:Nat
 A:Option Addr
 c:Nat
 ss:List ByteArray
def AcT.cells (t:AcT):List Value:=[.int .u8 (t.kd:Int),.int .u8 (t.cl:Int),.int .u64 (t.nm:Int),.int .u8 (t.er:Int),.slice t.A t.ss.length t.c]
structure AcT.Ok (w:World) (t:AcT):Prop where
 kd:t.kd<256
 cl:t.cl<256
 nm:t.nm<18446744073709551616
 er:t.er<256
 tx:vG w t.A t.c t.ss

section
variable {H:Type} {enc:TypeId×Value→H} {W:World} {base:Nat} {sp:Nat→Bool} {hd:Bool} {fuel:Nat}

end
end Go.Proofs.YteegkoicalbkbaaGreatDoor
namespace Go.Proofs.YteegkoicalbkbaaGreatDoor
open Go.RowKit


end Go.Proofs.YteegkoicalbkbaaGreatDoor
namespace Go.Proofs.YteegkoicalbkbaaGreatDoor
open Go.RowKit Go.MapKept Go.ChangeMaps Go.WideMaps

def key15 (c n:Nat):Value:=.agg #[.int .u64 c,.int .u64 n]
theorem key15_inj {c n c' n':Nat} (h:key15 c n=key15 c' n'):c=c'∧n=n':=by
 unfold key15 at h
 injection h with h
 have h1:=congrArg (fun a:Array Value=>a.toList) h
 simp at h1
 exact ⟨by omega,by omega⟩

structure Ent15 (X:Nat→Nat) (es:Array MapEntry) (clock:Nat):Prop where
 st:Stamped es clock
 ks:∀ x∈es.toList,∃ c n:Nat,x.key=key15 c n∧c<8∧n≤X c∧n<18446744073709551616
theorem Ent15.mono {X X':Nat→Nat} {es:Array MapEntry} {clock:Nat} (h:Ent15 X es clock) (hX:∀ c,c<8→X c≤X' c):Ent15 X' es clock:=⟨h.st,fun x hx=>by
 obtain ⟨c,n,e,hc,h1,hn⟩:=h.ks x hx
 exact ⟨c,n,e,hc,Nat.le_trans h1 (hX c hc),hn⟩⟩
theorem Ent15.none {X:Nat→Nat} {es:Array MapEntry} {clock:Nat} (h:Ent15 X es clock) {c n:Nat} (hn:X c<n):∀ x∈es.toList,x.key≠key15 c n:=fun x hx e=>by
 obtain ⟨c',n',e',hc,h1,_⟩:=h.ks x hx
 obtain ⟨rfl,rfl⟩:=key15_inj (e.symm.trans e')
 omega

section
variable {w:World} {S:Nat} {es:Array MapEntry} {clock c n:Nat} {v:Value}
end
end Go.Proofs.YteegkoicalbkbaaGreatDoor
namespace Go.Proofs.YteegkoicalbkbaaGreatDoor
open Go.RowKit

section
variable {w w':World} {C:Nat} {f:Nat→Nat}
end
section
variable {w w':World} {D:Nat} {t:AcT}
end

structure MayP15 (p:P15):Prop where
 n:p.n≤1099511627776
 e:p.e≤18
 z:p.n=0→p.e=0∧p.ss=[]
 t:p.e≠0→p.ss=[]
 few:p.ss.length≤14
 lit:∀ s∈p.ss,s.size≤50
theorem May15.p {r:R15} (h:May15 r):MayP15 r.p:=⟨h.n,h.e,h.z,h.t,h.few,h.lit⟩
theorem tls_mayP15 {p:P15} (h:MayP15 p):yP p.e p.ss=p.ss:=by
 unfold yP
 by_cases he:p.e=0
 ·
  rw [if_pos (by omega)]
 ·
  rw [if_neg (by omega),h.t he]


theorem sizeRows15:(Tryz.prog.info? 121).map (·.size)=some 24:=by kernel_rfl
theorem index15_run (T:Nat→R15) (k:Nat) (hk:k<8) (w:World):(Instr.index 121 (.agg (Ys T)) (.int .i64 (k:Int))).run Tryz.prog w=.ok (T k).v w:=by
 obtain ⟨i0,hi,hz1⟩:∃ i0,Tryz.prog.info? 107=some i0∧i0.size=3:=by
  have:=Xm
  rw [Option.map_eq_some_iff] at this
  exact this
 have hex:(Ys T).extract (k * 3) (k * 3+3)=#[(T k).cell 0,(T k).cell 1,(T k).cell 2]:=by
  apply Array.ext
  ·
   simp [Z6]; omega
  ·
   intro j h1 h2
   have hj:j<3:=by simpa using h2
   have e1:=tabA_at T k j hk hj
   rw [Array.getElem?_eq_getElem (by rw [Z6]; omega)] at e1
   rw [Array.getElem_extract,Option.some.inj e1]
   match j,hj with
   | 0,_=>rfl
   | 1,_=>rfl
   | 2,_=>rfl
 have hu:=Tryz.underlying121
 have hu1:=Tryz.underlying107
 simp [Instr.index,asIntOf,run_underlying hu,part,isAgg,run_underlying hu1,sizeOf,typeInfo,hi,hz1,hex,R15.v,R15.cell]
 intro h
 omega

def Vp (w:World) (X:Nat) (n e:Nat) (v:Value):Prop:=w.heap[X]? = some (.cells #[.int .u64 n,.int .i64 e,v] 107 (0,0))
theorem Vp.cells {w:World} {X n e:Nat} {v:Value} (h:Vp w X n e v):w.cell? ⟨X,0,none⟩=some (.int .u64 n)∧w.cell? ⟨X,1,none⟩=some (.int .i64 e)∧w.cell? ⟨X,2,none⟩=some v:=by
 refine ⟨?_,?_,?_⟩
 all_goals rw [cell_of_row w X _ _ _ (0,0) h]; rfl



theorem vH.set {w w' w3:World} {P B:Nat} {V:Nat→R15} (h:vH w P B V) (hb:Below w.heap.size w w') {c:Nat} {r:R15} (hc:c<8) (hm:May15 r) (htx:vG w' r.A r.c r.ss) (hf:vO P r.A r.ss)
  (hw:w3=((w'.setCell ⟨B,c * 3,none⟩ (r.cell 0)).setCell ⟨B,c * 3+1,none⟩ (r.cell 1)).setCell ⟨B,c * 3+2,none⟩ (r.cell 2)) :
  vH w3 P B (setT V c r)∧zg (fun k=>k=B) w' w3:=by
 have ht:zg (fun k=>k=B) w' w3:=by
  rw [hw]
  exact ((((zg.refl (fun k=>k=B) w').setCell (p:=⟨B,c * 3,none⟩) (fun _=>rfl) _).setCell (p:=⟨B,c * 3+1,none⟩) (fun _=>rfl) _).setCell (p:=⟨B,c * 3+2,none⟩) (fun _=>rfl) _)
 have h1:=h.later hb
 have hne:∀ (A':Option Addr) (ss':List ByteArray),vO P A' ss'→ss'≠[]→∀ a,A'=some a→¬ a.block=B:=fun A' ss' hf hne a ha he=>by
  have:=(hf hne a ha).1
  have:=h.lt
  omega
 refine ⟨⟨h1.lt,Nat.le_trans h1.le ht.size,?_,fun i hi=>?_,fun i hi=>?_,fun i hi=>?_⟩,ht⟩
 ·
  rw [hw]
  exact h1.at_.set c hc r
 ·
  unfold setT
  by_cases e1:i=c
  ·
   rw [if_pos e1]
   exact htx.turns ht (hne _ _ hf)
  ·
   rw [if_neg e1]
   exact (h1.tx i hi).turns ht (hne _ _ (h1.far i hi))
 ·
  unfold setT
  by_cases e1:i=c
  ·
   rw [if_pos e1]; exact hf
  ·
   rw [if_neg e1]; exact h1.far i hi
 ·
  unfold setT
  by_cases e1:i=c
  ·
   rw [if_pos e1]; exact hm
  ·
   rw [if_neg e1]; exact h1.may i hi

def YCp15 (C X k n e:Nat) (A:Option Addr) (m q:Nat) (ls:List ByteArray) (n0:Nat):Nat→Value→World→Prop
 | 0,v,_=>v=.pointer (some ⟨C,0,none⟩)
 | 1,v,_=>v=.int .i64 k
 | 2,v,_=>v=.pointer (some ⟨X,0,none⟩)
 | 3,v,_=>v=.int .u64 n
 | 4,v,_=>v=.pointer (some ⟨X,1,none⟩)
 | 5,v,_=>v=.agg #[.int .i64 e,.slice A m q]
 | 6,v,W=>∃ A' c',v=.agg #[.int .i64 e,.slice A' m c']∧vG W A' c' ls∧vO n0 A' ls
 | 7,v,W=>∃ A' c',v=.agg #[.int .u64 n,.int .i64 e,.slice A' m c']∧vG W A' c' ls∧vO n0 A' ls
 | 8,v,_=>v=.pointer (some ⟨C,0,none⟩)
 | 9,v,_=>v=.pointer (some ⟨C,0,none⟩)
 | 10,v,_=>v=.pointer (some ⟨C,k * 3,none⟩)
 | _,_,_=>True
theorem YCp15_keep {C:Nat} {X:Nat} {k:Nat} {n:Nat} {e:Nat} {A:Option Addr} {m:Nat} {q:Nat} {ls:List ByteArray} {n0:Nat} {W W':World} (hb:Below W.heap.size W W') (j:Nat) (z:Value) (h:YCp15 C X k n e A m q ls n0 j z W):YCp15 C X k n e A m q ls n0 j z W':=by
 match j,h with
 | 0,h=>exact h
 | 1,h=>exact h
 | 2,h=>exact h
 | 3,h=>exact h
 | 4,h=>exact h
 | 5,h=>exact h
 | 6,h=>exact by obtain ⟨A',c',h1,h2,h3⟩:=h; exact ⟨A',c',h1,h2.later hb,h3⟩
 | 7,h=>exact by obtain ⟨A',c',h1,h2,h3⟩:=h; exact ⟨A',c',h1,h2.later hb,h3⟩
 | 8,h=>exact h
 | 9,h=>exact h
 | 10,h=>exact h
 | _+11,h=>exact h

def Cps15 (w:World) (C:Nat) (T:Nat→R15) (k:Nat) (W:World):Prop:=Below w.heap.size w W∧∃ V,vH W (C+1) C V∧∀ i,i<8→i<k→(V i).p=(T i).p

set_option maxRecDepth 100000 in
theorem Copy15_calls {w:World} {P B:Nat} {T:Nat→R15} (h:vH w P B T) :
  Calls Tryz.prog 45 #[.pointer (some ⟨B,0,none⟩)] w fun e w'=>e=.returned (.pointer (some ⟨w.heap.size,0,none⟩))∧Cps15 w w.heap.size T 8 w':=by
 have HT:=za h
 clear h
 go_enter Tryz.func45,Tryz.ntmps45
 go_wp2_with fail
 with_reducible refine (Vq w).mono ?_
 rintro e w1 ⟨rfl,hw⟩
 have HX:Hid (w1.heap[B]? = some (.cells (Ys T) 123 (0,0))):=by
  rw [hw]
  exact ((ze (Below.refl _ w) _).block B HT.out.at_.lt).trans HT.out.at_
 have HC:Hid (Cps15 w w.heap.size T 0 w1):=by
  refine ⟨by rw [hw]; exact ze (Below.refl _ w) _,fun _=>uF,?_,fun i _ hi=>absurd hi (Nat.not_lt_zero _)⟩
  rw [hw]
  exact JX w _ rfl
 clear hw
 go_wp2_with (with_reducible refine wpList_load_row rfl 121 (.tmp 9) rfl B rfl 123 (Ys T) (0,0) _ HX.out Tryz.underlying121 rfl (by rw [Z6]; exact sizeRows15) ?_)
 generalize hCC:w.heap.size=C at *
 go_loopg [11] 8 (fun gg s11 wr=>∃ k:Nat,k≤8∧8 - k≤gg∧s11=.int .i64 k∧Hid (Cps15 w C T k wr))
 case atStart=>exact ⟨0,Nat.zero_le _,by omega,rfl,HC.out⟩
 case round =>
  clear HC HX
  obtain ⟨k,hk,hg,rfl,HK⟩:=hrel
  generalize wr=wo at *
  by_cases hlt:k<8
  case neg =>
   obtain rfl:k=8:=by omega
   go_wp2
   go_ret
   exact ⟨by rw [hCC]; rfl,by rw [hCC]; exact HK.out⟩
  have hltz:(k:Int)<8:=by omega
  have hi:=fun W=>index15_run T k hlt W
  unfold R15.v at hi
  have hm:MayP15 (T k).p:=(HT.out.may k hlt).p
  have htl:yP (T k).e (T k).ss=(T k).ss:=tls_mayP15 hm
  obtain ⟨hbo,V,hV,hVP⟩:=HK.out
  have HTX:Hid (∀ W,Below wo.heap.size wo W→vG W (T k).A (T k).c (T k).ss):=fun W hW=>((HT.out.tx k hlt).later (hCC.symm ▸ hbo)).later hW
  have HCL:Hid (∀ W,Below wo.heap.size wo W→Calls Tryz.prog 70 #[.agg #[.int .i64 (T k).e,.slice (T k).A (T k).ss.length (T k).c]] W (Cl15 (T k).e (T k).ss W)):=fun W hW=>jh _ _ _ _ W (HTX.out W hW).rd (by have:(T k).ss.length≤14:=hm.few; omega)
  unfold Cl15 at HCL
  rw [htl] at HCL
  have HDD:Hid (∀ W W3 A' c',Below wo.heap.size wo W→vG W A' c' (T k).ss→vO wo.heap.size A' (T k).ss→W3=((W.setCell ⟨C,k * 3,none⟩ (.int .u64 (T k).n)).setCell ⟨C,k * 3+1,none⟩ (.int .i64 (T k).e)).setCell ⟨C,k * 3+2,none⟩ (.slice A' (T k).ss.length c')→Cps15 w C T (k+1) W3):=fun W W3 A' c' hb ht hf hw=>by
   obtain ⟨h1,h2⟩:=hV.set (r:=⟨(T k).n,(T k).e,A',c',(T k).ss⟩) hb hlt ⟨hm.n,hm.e,hm.z,hm.t,hm.few,hm.lit⟩ ht (fun hne a ha=>⟨Nat.le_trans hV.le (hf hne a ha).1,(hf hne a ha).2⟩) hw
   refine ⟨(hbo.trans (hb.mono hbo.size)).trans (h2.below_at (Nat.le_trans hbo.size hb.size) (fun j e=>by omega)),_,h1,fun i hi hik=>?_⟩
   unfold setT
   by_cases e1:i=k
   ·
    rw [if_pos e1,e1]; rfl
   ·
    rw [if_neg e1]; exact hVP i hi (by omega)
  have HVA:Hid (∀ W,Below wo.heap.size wo W→qk W C 123 V):=fun W hW=>hV.at_.later hW
  clear hm htl hbo hV hVP HTX
  generalize (T k).n=n at *
  generalize (T k).e=e at *
  generalize (T k).A=A at *
  generalize (T k).c=q at *
  generalize (T k).ss=ss at *
  generalize ss.length=m at *
  have hRX:Vp (wo.alloc (.cells #[.int .u64 n,.int .i64 e,.slice A m q] 107)) wo.heap.size n e (.slice A m q):=heap_alloc_new wo _
  have HRX:=za hRX
  have HB5:=za (ze (Below.refl _ wo) (.cells #[.int .u64 n,.int .i64 e,.slice A m q] 107))
  clear hRX
  go_wp2
  generalize wo.alloc (.cells #[.int .u64 n,.int .i64 e,.slice A m q] 107)=w5 at *
  generalize hXX:wo.heap.size=X at *
  have hXl:X<w5.heap.size:=(Array.getElem?_eq_some_iff.1 HRX.out).1
  refine zB (by kernel_rfl) 11 (fun W=>Below w5.heap.size w5 W) (fun W=>Cps15 w C T (k+1) W) (YCp15 C X k n e A m q ss X) (fun _=>True) ?F ?hF (by kernel_rfl) (by kernel_rfl) (by kernel_rfl) (by kernel_rfl) (by decide) (qf (Below.refl _ _)) ?step ?fin
  case hF =>
   intro x
   simp only [List.map_cons,List.map_nil,xU,Act.put,List.setIfInBounds_toArray,List.set_cons_zero,List.set_cons_succ,Nat.zero_add,Nat.reduceAdd]
   exact rfl
  case step =>
   refine ⟨?_,?_,?_,?_,?_,?_,?_,?_,?_,?_,?_,?_,trivial⟩
   ·
    intro x W
    refine ⟨fun _ hW hdep K hK=>?_,(fun h=>absurd h (by decide)),(fun h=>absurd h (by decide))⟩
    clear hdep
    go_simp
    exact hK _ _ rfl hW (fun _ _ h=>h)
   ·
    intro x W
    refine ⟨fun _ hW hdep K hK=>?_,(fun h=>absurd h (by decide)),(fun h=>absurd h (by decide))⟩
    clear hdep
    go_simp
    exact hK _ _ rfl hW (fun _ _ h=>h)
   ·
    intro x W
    refine ⟨fun _ hW hdep K hK=>?_,(fun h=>absurd h (by decide)),(fun h=>absurd h (by decide))⟩
    clear hdep
    go_simp
    exact hK _ _ rfl hW (fun _ _ h=>h)
   ·
    intro x W
    refine ⟨fun _ hW hdep K hK=>?_,(fun h=>absurd h (by decide)),(fun h=>absurd h (by decide))⟩
    have h2:x 2=_:=hdep 2 rfl
    have k3:=Vp.cells ((hW.block X hXl).trans HRX.out)
    obtain ⟨k0,k1,k2⟩:=k3
    clear hdep
    simp only [h2] at hK
    go_simp
    exact hK _ _ rfl hW (fun _ _ h=>h)
   ·
    intro x W
    refine ⟨fun _ hW hdep K hK=>?_,(fun h=>absurd h (by decide)),(fun h=>absurd h (by decide))⟩
    clear hdep
    go_simp
    exact hK _ _ rfl hW (fun _ _ h=>h)
   ·
    intro x W
    refine ⟨fun _ hW hdep K hK=>?_,(fun h=>absurd h (by decide)),(fun h=>absurd h (by decide))⟩
    have h4:x 4=_:=hdep 4 rfl
    have k3:=Vp.cells ((hW.block X hXl).trans HRX.out)
    obtain ⟨k0,k1,k2⟩:=k3
    clear hdep
    simp only [h4] at hK
    go_simp
    exact hK _ _ rfl hW (fun _ _ h=>h)
   ·
    intro x W
    refine ⟨fun _ hW hdep K hK=>?_,(fun h=>absurd h (by decide)),(fun h=>absurd h (by decide))⟩
    have h5:x 5=_:=hdep 5 rfl
    clear hdep
    simp only [h5] at hK
    go_simp
    refine (HCL.out W (hXX ▸ (HB5.out.trans (hW.mono (by omega))))).mono ?_
    rintro en W' ⟨A',c',rfl,ht,hf,hb⟩
    exact hK _ _ ⟨A',c',rfl,ht,fun hne a ha=>⟨Nat.le_trans (by have:=hW.size; omega) (hf hne a ha).1,(hf hne a ha).2⟩⟩ (zj hW hb) (fun j z h=>YCp15_keep hb j z h)
   ·
    intro x W
    refine ⟨fun _ hW hdep K hK=>?_,(fun h=>absurd h (by decide)),(fun h=>absurd h (by decide))⟩
    have h3:x 3=_:=hdep 3 rfl
    obtain ⟨A',c',h6,ht,hf⟩:=hdep 6 rfl
    have HT6:=za ht
    have HF6:=za hf
    clear ht hf
    simp only [h6] at hK
    clear hdep
    simp only [h3] at hK
    go_simp
    exact hK _ _ ⟨A',c',rfl,HT6.out,HF6.out⟩ hW (fun _ _ h=>h)
   ·
    intro x W
    refine ⟨fun _ hW hdep K hK=>?_,(fun h=>absurd h (by decide)),(fun h=>absurd h (by decide))⟩
    have h0:x 0=_:=hdep 0 rfl
    clear hdep
    simp only [h0] at hK
    go_simp
    exact hK _ _ rfl hW (fun _ _ h=>h)
   ·
    intro x W
    refine ⟨fun _ hW hdep K hK=>?_,(fun h=>absurd h (by decide)),(fun h=>absurd h (by decide))⟩
    have h8:x 8=_:=hdep 8 rfl
    clear hdep
    simp only [h8] at hK
    go_simp
    exact hK _ _ rfl hW (fun _ _ h=>h)
   ·
    intro x W
    refine ⟨fun _ hW hdep K hK=>?_,(fun h=>absurd h (by decide)),(fun h=>absurd h (by decide))⟩
    have h9:x 9=_:=hdep 9 rfl
    have h1:x 1=_:=hdep 1 rfl
    have g0:(0:Int)≤k∧(k:Int)<8:=by omega
    clear hdep
    simp only [h9,h1] at hK
    go_simp
    exact hK _ _ rfl hW (fun _ _ h=>h)
   ·
    intro x W
    refine ⟨(fun h=>absurd h (by decide)),fun _ hW hdep K hK=>?_,(fun h=>absurd h (by decide))⟩
    have h10:x 10=_:=hdep 10 rfl
    obtain ⟨A',c',h7,ht,hf⟩:=hdep 7 rfl
    have hbw:Below X wo W:=HB5.out.trans (hW.mono (by omega))
    have ha:=HVA.out W hbw
    have a0:=ha.cell k 0 hlt (by decide)
    have a1:=ha.cell k 1 hlt (by decide)
    have a2:=ha.cell k 2 hlt (by decide)
    have af:=ha.free
    simp only [R15.cell,Nat.add_zero] at a0 a1 a2
    have HT7:=za ht
    have HF7:=za hf
    have HBW:=za hbw
    clear ht hf ha hbw
    simp only [h7] at hK
    clear hdep
    simp only [h10] at hK
    go_simp
    exact hK (.bool true) _ trivial (HDD.out W _ A' c' HBW.out HT7.out HF7.out rfl)
  case fin =>
   intro x w6 hD _
   have HD:=za hD
   clear hD
   go_wp2
   go_roundg (8 - (k+1))
   case measure=>omega
   case rel=>exact ⟨k+1,by omega,by omega,by go_num,HD.out⟩
end Go.Proofs.YteegkoicalbkbaaGreatDoor
namespace Go.Proofs.YteegkoicalbkbaaGreatDoor

def Yb (r a:Nat):Bool:=(r &&& a) == a

def Qz (L:List UInt8) (node:Nat):Nat:=(L.getD node 0).toNat
def xS (L:List UInt8) (r k:Nat):List UInt8:=((List.range k).filter fun i=>!Yb (Qz L i) r).map UInt8.ofNat
theorem XR {L:List UInt8} {r k:Nat} (h:Yb (Qz L k) r=true):xS L r (k+1)=xS L r k:=by
 unfold xS
 rw [List.range_succ,List.filter_append,List.map_append]
 simp [h]
theorem Y8 {L:List UInt8} {r k:Nat} (h:Yb (Qz L k) r=false):xS L r (k+1)=xS L r k++[UInt8.ofNat k]:=by
 unfold xS
 rw [List.range_succ,List.filter_append,List.map_append]
 simp [h]
theorem lacks16_len (L:List UInt8) (r k:Nat):(xS L r k).length≤k:=by
 unfold xS
 rw [List.length_map]
 exact Nat.le_trans (List.length_filter_le _ _) (by simp)
def YI (L:List UInt8) (r k:Nat):Bool:=(List.range k).all fun i=>Yb (Qz L i) r
theorem allK16_succ (L:List UInt8) (r k:Nat):YI L r (k+1)=(YI L r k && Yb (Qz L k) r):=by
 unfold YI
 rw [List.range_succ,List.all_append]
 simp
theorem YB (L:List UInt8) (r k:Nat):decide ((xS L r k).length=0)=YI L r k:=by
 induction k with
 | zero=>rfl
 | succ k ih =>
  rw [allK16_succ,← ih]
  cases h:Yb (Qz L k) r with
  | true=>rw [XR h]; simp
  | false=>rw [Y8 h]; simp
theorem QP (L:List UInt8) (r k:Nat):(((xS L r k).length:Int) == 0)=YI L r k:=by
 rw [← YB]
 by_cases h:(xS L r k).length=0
 ·
  rw [h]; rfl
 ·
  simp [h]

def XN (n:Int):Bool:=n == 3 || (n == 5 || n == 7)
theorem XM {n:Int} (h:XN n=true):n=3∨n=5∨n=7:=by
 simpa [XN] using h
def uB (L:List UInt8) (node r:Nat):Bool:=decide (node<L.length) && (decide (1≤r) && decide (r≤3))
def ut (L:List UInt8) (node r:Nat):List UInt8:=if uB L node r=true then L.set node (UInt8.ofNat r) else L
def Zt (L:List UInt8) (node r:Nat):Nat:=if uB L node r=true then 0 else 1
theorem QA (L:List UInt8) (node r:Nat):(ut L node r).length=L.length:=by
 unfold ut
 split
 ·
  simp
 ·
  rfl
theorem ja {r:Nat} (h:r<256):(UInt8.ofNat r).toNat=r:=by
 simp
 omega
structure qS (L:List UInt8):Prop where
 may:XN L.length=true
 low:∀ x∈L,x.toNat≤3
theorem qS.len {L:List UInt8} (h:qS L):0<L.length∧L.length≤7:=by
 rcases XM h.may with e | e | e <;> omega
theorem qS.new {n:Nat} (h:XN n=true):qS (List.replicate n 0):=⟨by simpa using h,fun x hx=>by rw [List.eq_of_mem_replicate hx]; decide⟩
theorem qS.note {L:List UInt8} (h:qS L) (node:Nat) {r:Nat} (hr:r<256):qS (ut L node r):=by
 refine ⟨by rw [QA]; exact h.may,fun x hx=>?_⟩
 unfold ut at hx
 split at hx
 ·
  rename_i ht
  rcases List.mem_or_eq_of_mem_set hx with hx | rfl
  ·
   exact h.low x hx
  ·
   rw [ja hr]
   unfold uB at ht
   simp at ht
   omega
 ·
  exact h.low x hx
theorem qS.of {L:List UInt8} (h:qS L) (i:Nat):Qz L i≤3:=by
 unfold Qz
 rw [List.getD_eq_getElem?_getD]
 cases e:L[i]? with
 | none=>exact Nat.zero_le _
 | some x=>exact h.low x (List.mem_of_getElem? e)
end Go.Proofs.YteegkoicalbkbaaGreatDoor
namespace Go.Proofs.YteegkoicalbkbaaGreatDoor
open Go.RowKit

theorem infoRel:(Tryz.prog.info? 45).map (fun i=>(i.zero,i.size,i.bytes))=some (some (.int .u8 0),1,1):=by kernel_rfl

structure qp (w:World) (B A c:Nat) (L:List UInt8):Prop where
 blk:w.heap[B]? = some (.cells #[.slice (some ⟨A,0,none⟩) L.length c] 117 (0,0))
 own:w.ownsRow 0 45 1 (.slice (some ⟨A,0,none⟩) L.length c) L.length (cellsOf L)
 ne:A≠B
 good:qS L

section
variable {w w':World} {B A c:Nat} {L:List UInt8}
theorem qp.lt (h:qp w B A c L):B<w.heap.size:=(Array.getElem?_eq_some_iff.1 h.blk).1
theorem qp.row (h:qp w B A c L):∃ cur:Array Value,w.heap[A]? = some (.cells cur 45 (0,0))∧L.length≤c∧c≤maxLen∧cur.size=c∧cur.toList.take L.length=cellsOf L:=by
 rcases h.own.2 with ⟨e,_⟩ | ⟨g,cap,cur,e,_,hg,h1,h2,h3,h4⟩
 ·
  cases e
 ·
  injection e with e1 e2 e3
  injection e1 with e1
  injection e1 with e1
  subst e1 e3
  exact ⟨cur,hg,h1,h2,by simpa using h3,by simpa using h4⟩
theorem qp.ltA (h:qp w B A c L):A<w.heap.size:=by
 obtain ⟨_,h,_⟩:=h.row
 exact (Array.getElem?_eq_some_iff.1 h).1
theorem qp.cell (h:qp w B A c L):w.cell? ⟨B,0,none⟩=some (.slice (some ⟨A,0,none⟩) L.length c):=by
 rw [cell_of_row w B 0 _ _ (0,0) h.blk]; rfl
theorem qp.at_ (h:qp w B A c L) (i:Nat) (hi:i<L.length):w.cell? ⟨A,i,none⟩=some (.int .u8 (Qz L i:Nat)):=by
 have:=h.own.cells (g:=A) rfl i (.int .u8 (L[i].toNat:Int)) (by simp [cellsOf,List.getElem?_eq_getElem hi])
 rw [Addr.add_lit,Nat.zero_add] at this
 rw [this]
 unfold Qz
 rw [List.getD_eq_getElem?_getD,List.getElem?_eq_getElem hi]
 rfl
theorem qp.free (h:qp w B A c L) (i:Nat):w.frozen? ⟨A,i,none⟩=false:=by
 obtain ⟨_,h,_⟩:=h.row
 simp [World.frozen?,h]
theorem qp.turns {S:Nat→Prop} (h:qp w B A c L) (ht:zg S w w') (hB:¬ S B) (hA:¬ S A):qp w' B A c L :=
 ⟨(ht.block B h.lt hB).trans h.blk,ht.owns h.own (fun k hk he=>hA (by have h1:A=k:=(by simpa [Value.ownBlock] using hk); exact h1 ▸ he)),h.ne,h.good⟩
theorem qp.later (h:qp w B A c L) (hb:Below w.heap.size w w'):qp w' B A c L:=h.turns (vC hb) (fun f=>f) (fun f=>f)
theorem qp.rd (h:qp w B A c L):Rd w (.slice (some ⟨A,0,none⟩) L.length c) L:=Rd.of_own h.own
theorem Jn (L:List UInt8) (i:Nat) {r:Nat} (hr:r<256):cellsOf (L.set i (UInt8.ofNat r))=(cellsOf L).set i (.int .u8 (r:Int)):=by
 unfold cellsOf
 rw [List.map_set]
 have:=ja hr
 rw [this]
theorem qp.set (h:qp w B A c L) {i r:Nat} (hi:i<L.length) (hr1:1≤r) (hr3:r≤3):qp (w.setCell ⟨A,i,none⟩ (.int .u8 (r:Int))) B A c (ut L i r):=by
 have ht:uB L i r=true:=by unfold uB; simp; omega
 have e:ut L i r=L.set i (UInt8.ofNat r):=by unfold ut; rw [if_pos ht]
 have hl:(L.set i (UInt8.ofNat r)).length=L.length:=by simp
 have hg:=h.good.note i (r:=r) (by omega)
 rw [e] at hg ⊢
 refine ⟨?_,?_,h.ne,hg⟩
 ·
  rw [hl,Below.heap_setCell _ _ _ _ (fun k=>h.ne k.symm)]
  exact h.blk
 ·
  rw [hl,Jn L i (by omega)]
  exact (h.own.stored i _).1
theorem turns_set16 (w:World) (A i:Nat) (u:Value):zg (fun k=>k=A) w (w.setCell ⟨A,i,none⟩ u):=(zg.refl (fun k=>k=A) w).setCell (p:=⟨A,i,none⟩) (fun _=>rfl) u
end

set_option maxRecDepth 100000 in
theorem Zf (n:Int) (w:World):Calls Tryz.prog 54 #[.int .i64 n] w fun e w'=>e=.returned (.bool (XN n))∧w=w':=by
 unfold XN
 cases h3:n == 3
 case true =>
  rw [Bool.true_or]
  go_enter Tryz.func54,Tryz.ntmps54
  go_wp2
  go_ret
  exact ⟨rfl,rfl⟩
 case false =>
  rw [Bool.false_or]
  cases h5:n == 5
  case true =>
   rw [Bool.true_or]
   go_enter Tryz.func54,Tryz.ntmps54
   go_wp2
   go_ret
   exact ⟨rfl,rfl⟩
  case false =>
   rw [Bool.false_or]
   cases h7:n == 7
   all_goals
    go_enter Tryz.func54,Tryz.ntmps54
    go_wp2
    go_ret
    exact ⟨rfl,rfl⟩

set_option maxRecDepth 100000 in
theorem Jr {w:World} {B A c:Nat} {L:List UInt8} (h:qp w B A c L):Calls Tryz.prog 64 #[.pointer (some ⟨B,0,none⟩)] w fun e w'=>e=.returned (.int .i64 (L.length:Nat))∧w=w':=by
 have hc:=h.cell
 generalize L.length=n at *
 clear h
 go_enter Tryz.func64,Tryz.ntmps64
 go_wp2
 go_ret
 exact ⟨rfl,rfl⟩

set_option maxRecDepth 100000 in
theorem QQ {w:World} {B A c:Nat} {L:List UInt8} (h:qp w B A c L) (node:Nat) (hnd:node<256):Calls Tryz.prog 96 #[.pointer (some ⟨B,0,none⟩),.int .u8 (node:Int)] w fun e w'=>e=.returned (.bool (decide (node<L.length)))∧w=w':=by
 have HN:=za (Jr h)
 generalize L.length=n at *
 have hcv:wrap64 (node:Int)=node:=IntWalk.wrap64_in _ (by omega)
 clear h
 go_enter Tryz.func96,Tryz.ntmps96
 go_wp2_with fail
 with_reducible refine HN.out.mono ?_
 rintro e w1 ⟨rfl,rfl⟩
 clear HN
 go_wp2
 go_ret
 exact ⟨rfl,rfl⟩

set_option maxRecDepth 100000 in
theorem Has16_calls (r a:Nat) (w:World) (hr:r<256) (ha:a<256):Calls Tryz.prog 75 #[.int .u8 (r:Int),.int .u8 (a:Int)] w fun e w'=>e=.returned (.bool (Yb r a))∧w=w':=by
 have h1:=u8_and_nat r a hr ha
 have h2:(((r &&& a:Nat):Int) == (a:Int))=Yb r a:=by
  unfold Yb
  by_cases h:r &&& a=a
  ·
   rw [h]; simp
  ·
   have h3:¬ ((r &&& a:Nat):Int)=a:=by omega
   rw [beq_eq_false_iff_ne.2 h,beq_eq_false_iff_ne.2 h3]
 generalize r &&& a=x at *
 generalize Yb r a=q at *
 clear hr ha
 go_enter Tryz.func75,Tryz.ntmps75
 go_wp2
 go_ret
 exact ⟨rfl,rfl⟩

set_option maxRecDepth 100000 in
theorem New16_none (n:Int) (w:World) (h:XN n=false):Calls Tryz.prog 28 #[.int .i64 n] w fun e w'=>e=.returned (.pointer none)∧w=w':=by
 have HM:=za (Zf n w)
 rw [h] at HM
 clear h
 go_enter Tryz.func28,Tryz.ntmps28
 go_wp2_with fail
 with_reducible refine HM.out.mono ?_
 rintro e w1 ⟨rfl,rfl⟩
 clear HM
 go_wp2
 go_ret
 exact ⟨rfl,rfl⟩

def Newly16 (n:Nat) (w:World) (e:Ending) (w':World):Prop:=∃ B A,e=.returned (.pointer (some ⟨B,0,none⟩))∧w.heap.size≤A∧w.heap.size≤B∧Below w.heap.size w w'∧qp w' B A n (List.replicate n 0)
set_option maxRecDepth 100000 in
theorem New16_calls (n:Nat) (w:World) (h:XN n=true):Calls Tryz.prog 28 #[.int .i64 (n:Int)] w (Newly16 n w):=by
 have HM:=za (Zf n w)
 rw [h] at HM
 have hn:n≤7:=by rcases XM h with e | e | e <;> omega
 obtain ⟨i0,hi,hz0,hz1,hz2⟩:=info_parts infoRel
 obtain ⟨w1,hmk,hown,hg⟩:=run_makeSlice_full (P:=Tryz.prog) w 0 115 45 i0 (.int .u8 0) 1 Tryz.underlying115 hi hz0 hz1 .i64 .i64 n (by omega) (by rw [hz2]; omega) (by simp [maxLen]; omega) (Nat.zero_le _)
 have e1:(madeCells (Value.int .u8 0).cells (n * 1)).toList=cellsOf (List.replicate n 0):=by
  rw [show (Value.int .u8 0).cells=#[.int .u8 0] from rfl,toList_madeCells_one,Nat.mul_one,cellsOf,List.map_replicate]
  rfl
 rw [e1] at hown
 have hlr:(List.replicate n (0:UInt8)).length=n:=by simp
 have hA:w.heap.size<w1.heap.size:=by
  rcases hown.2 with ⟨e,_⟩ | ⟨g,_,cur,e,_,hgg,_⟩
  ·
   cases e
  ·
   injection e with e _ _
   injection e with e
   injection e with e
   rw [e]
   exact (Array.getElem?_eq_some_iff.1 hgg).1
 have hb1:Below w.heap.size w w1:=⟨hg.os,hg.tape,hg.output,hg.size,fun k hk=>hg.block k hk (fun e=>by cases e)⟩
 have hbd:qp (w1.alloc (.cells #[.slice (some ⟨w.heap.size,0,none⟩) n n] 117)) w1.heap.size w.heap.size n (List.replicate n 0):=by
  refine ⟨by rw [hlr]; exact heap_alloc_new w1 _,?_,by omega,qS.new h⟩
  rw [hlr]
  exact ((zg.refl (fun _=>False) w1).alloc _).owns hown (fun _ _ f=>f)
 have HBD:=za hbd
 have HB:=za (ze hb1 (.cells #[.slice (some ⟨w.heap.size,0,none⟩) n n] 117))
 have HA:=za hA
 have HS:=za hb1.size
 clear h hn hi hz0 hz1 hz2 hown hg e1 hlr hA hb1 hbd
 go_enter Tryz.func28,Tryz.ntmps28
 go_wp2_with fail
 with_reducible refine HM.out.mono ?_
 rintro e w2 ⟨rfl,rfl⟩
 clear HM
 go_wp2
 go_ret
 exact ⟨_,_,rfl,Nat.le_refl _,HS.out,HB.out,HBD.out⟩


def jO (w:World) (B A c:Nat) (L:List UInt8) (node r:Nat) (e:Ending) (w':World):Prop:=e=.returned (.int .i64 (Zt L node r:Nat))∧qp w' B A c (ut L node r)∧zg (fun k=>k=A) w w'
theorem jO.no {w:World} {B A c:Nat} {L:List UInt8} {node r:Nat} (h:qp w B A c L) (ht:uB L node r=false):jO w B A c L node r (.returned (.int .i64 1)) w:=by
 have e1:Zt L node r=1:=by unfold Zt; rw [ht]; rfl
 have e2:ut L node r=L:=by unfold ut; rw [ht]; rfl
 unfold jO
 rw [e1,e2]
 exact ⟨rfl,h,zg.refl _ _⟩
set_option maxRecDepth 100000 in
theorem Note16_calls {w:World} {B A c:Nat} {L:List UInt8} (h:qp w B A c L) (node r:Nat) (hnd:node<256):Calls Tryz.prog 139 #[.pointer (some ⟨B,0,none⟩),.int .u8 (node:Int),.int .u8 (r:Int)] w (jO w B A c L node r):=by
 have HK:=za (QQ h node hnd)
 by_cases hl:node<L.length
 case neg =>
  rw [decide_eq_false hl] at HK
  have HZ:=za (jO.no (node:=node) (r:=r) h (by unfold uB; simp [hl]))
  clear h hnd hl
  go_enter Tryz.func139,Tryz.ntmps139
  go_wp2_with fail
  with_reducible refine HK.out.mono ?_
  rintro e w1 ⟨rfl,rfl⟩
  clear HK
  go_wp2
  go_ret
  exact HZ.out
 rw [decide_eq_true hl] at HK
 by_cases h0:r=0
 case pos =>
  subst h0
  have HZ:=za (jO.no (node:=node) (r:=0) h (by unfold uB; simp))
  clear h hnd hl
  go_enter Tryz.func139,Tryz.ntmps139
  go_wp2_with fail
  with_reducible refine HK.out.mono ?_
  rintro e w1 ⟨rfl,rfl⟩
  clear HK
  go_wp2
  go_ret
  exact HZ.out
 have z1:((r:Int) == 0)=false:=by simp; omega
 have z2:(r == 0)=false:=by simp; omega
 by_cases h3:r≤3
 case neg =>
  have g1:decide ((r:Int) > 3)=true:=by simp; omega
  have g2:decide (3<r)=true:=by simp; omega
  have HZ:=za (jO.no (node:=node) (r:=r) h (by unfold uB; simp; omega))
  clear h hnd hl h0 h3
  go_enter Tryz.func139,Tryz.ntmps139
  go_wp2_with fail
  with_reducible refine HK.out.mono ?_
  rintro e w1 ⟨rfl,rfl⟩
  clear HK
  go_wp2
  go_ret
  exact HZ.out
 have g1:decide ((r:Int) > 3)=false:=by simp; omega
 have g2:decide (3<r)=false:=by simp; omega
 have hc:=h.cell
 have ha:=h.at_ node hl
 have hf:=h.free
 have d1:(0:Int)≤node∧(node:Int)<L.length:=by omega
 have HZ:Hid (jO w B A c L node r (.returned (.int .i64 0)) (w.setCell ⟨A,node,none⟩ (.int .u8 (r:Int)))):=by
  have ht:uB L node r=true:=by unfold uB; simp; omega
  refine ⟨?_,h.set hl (by omega) h3,turns_set16 _ _ _ _⟩
  unfold Zt
  rw [if_pos ht]
  rfl
 generalize hn:L.length=n at *
 generalize Qz L node=x at *
 clear h hnd h0 h3 hn
 go_enter Tryz.func139,Tryz.ntmps139
 go_wp2_with fail
 with_reducible refine HK.out.mono ?_
 rintro e w1 ⟨rfl,rfl⟩
 clear HK
 go_wp2
 go_ret
 exact HZ.out

theorem src_byte16 (w:World) (x:Int):Src Tryz.prog 1 62 (.slice (some ⟨w.heap.size,0,none⟩) 1 1) 1 [.int .u8 x] (w.alloc (.cells #[.int .u8 x] 5)) :=
 Src.ofSlice _ Tryz.underlying62 _ 1 1 _ rfl (cell_one_new _ _ _) (fun u hu=>by rw [List.mem_singleton.1 hu]; rfl)
def Lk16 (w:World) (L:List UInt8) (r k m:Nat) (A:Option Addr) (c:Nat) (wr:World):Prop :=
 m=(xS L r k).length∧wr.ownsRow 0 5 1 (.slice A m c) m (cellsOf (xS L r k))∧(∀ b,Value.ownBlock (.slice A m c)=some b→w.heap.size≤b)∧Below w.heap.size w wr
section
variable {w wr W w2:World} {L:List UInt8} {r k m c:Nat} {A:Option Addr}
theorem Lk16.zero {w w1:World} (L:List UInt8) (r:Nat) (hb:Below w.heap.size w w1):Lk16 w L r 0 0 none 0 w1:=⟨rfl,World.ownsRow_nil _ _ _ _,fun b h=>by simp [Value.ownBlock] at h,hb⟩
theorem Lk16.yes (h:Lk16 w L r k m A c wr) (hh:Yb (Qz L k) r=true):Lk16 w L r (k+1) m A c wr:=by
 unfold Lk16
 rw [XR hh]
 exact h
theorem Lk16.no {A2:Option Addr} {c2:Nat} (h:Lk16 w L r k m A c wr) (hh:Yb (Qz L k) r=false) (hk:k<256) (hW:Below wr.heap.size wr W) (ho:w2.ownsRow 0 5 1 (.slice A2 (m+1) c2) (m+1) (cellsOf (xS L r k)++[.int .u8 (k:Int)]))
  (hg:W.grownBy w2 (Value.ownBlock (.slice A m c))) (ha:Value.ownBlock (.slice A2 (m+1) c2)=Value.ownBlock (.slice A m c)∨Value.ownBlock (.slice A2 (m+1) c2)=some W.heap.size):Lk16 w L r (k+1) (m+1) A2 c2 w2:=by
 obtain ⟨h1,_,h3,h4⟩:=h
 have e:cellsOf (xS L r (k+1))=cellsOf (xS L r k)++[.int .u8 (k:Int)]:=by
  rw [Y8 hh,fw]
  have:=ja hk
  simp only [cellsOf,List.map_cons,List.map_nil,this]
 have hb:=zj h4 hW
 refine ⟨by rw [Y8 hh,List.length_append,← h1]; rfl,by rw [e]; exact ho,fun b hb'=>?_,?_⟩
 ·
  rcases ha with ha | ha
  ·
   exact h3 b (ha ▸ hb')
  ·
   rw [ha] at hb'
   injection hb' with hb'
   have:=hb.size
   omega
 ·
  exact ((zg.of_below hb (fun k=>w.heap.size≤k)).grown hg (fun k hk _=>h3 k hk)).below (fun i h=>h)
end

set_option maxRecDepth 100000 in
theorem Vs {w:World} {B A c:Nat} {L:List UInt8} (h:qp w B A c L) (r:Nat) (hr:r<256):Calls Tryz.prog 50 #[.pointer (some ⟨B,0,none⟩),.int .u8 (r:Int)] w (Fresh w (xS L r L.length)):=by
 obtain ⟨i0,hi,hz0,hz1,hz2⟩:=info_parts X6
 have hc:=h.cell
 have hlen:=h.good.len
 have hlow:∀ i,Qz L i≤3:=h.good.of
 have HH:=za h
 have HLOW:=za hlow
 clear h hlow
 unfold Fresh
 obtain ⟨n,hn⟩:∃ n,n=L.length:=⟨_,rfl⟩
 rw [← hn] at hc hlen ⊢
 have HN:=za hn
 clear hn
 go_enter Tryz.func50,Tryz.ntmps50
 go_wp2
 go_loopg [5,13] n (fun gg s5 s13 wr=>∃ k m A' c':Nat,∃ AA:Option Addr,k≤n∧n - k≤gg∧s13=.int .i64 k∧s5=.slice AA m c'∧Hid (Lk16 w L r k m AA c' wr))
 case atStart=>exact ⟨0,0,0,0,none,Nat.zero_le _,by omega,rfl,rfl,Lk16.zero L r (Below.refl _ _)⟩
 case round =>
  clear hc
  obtain ⟨k,m,_,c',AA,hk,hg,rfl,rfl,HK⟩:=hrel
  generalize wr=wo at *
  by_cases hlt:k<n
  case neg =>
   obtain rfl:k=n:=by omega
   go_wp2
   go_ret
   obtain ⟨h1,h2,h3,h4⟩:=HK.out
   exact ⟨_,rfl,h1 ▸ h2,h3,vC h4⟩
  have hb:=HH.out.later HK.out.2.2.2
  have hcl:=hb.at_ k (by rw [← HN.out]; exact hlt)
  have hlo:Qz L k≤3:=HLOW.out k
  have HHAS:=za (fun W=>Has16_calls (Qz L k) r W (by omega) hr)
  have d1:(0:Int)≤k∧(k:Int)<n:=by omega
  have HOWN:=za HK.out.2.1
  have hcv:IntKind.u8.wrap (k:Int)=k:=by rw [IntKind.wrap_u8']; omega
  have hml:m≤7:=by have h1:=HK.out.1; have h2:=lacks16_len L r k; omega
  cases hh:Yb (Qz L k) r with
  | true =>
   rw [hh] at HHAS
   have HK2:=za (HK.out.yes hh)
   generalize Qz L k=x at *
   clear hb hh HK HOWN hlo
   go_wp2_with fail
   with_reducible refine (HHAS.out _).mono ?_
   rintro e w1 ⟨rfl,rfl⟩
   clear HHAS
   go_wp2
   go_roundg (n - (k+1))
   case measure=>omega
   case rel=>exact ⟨k+1,m,0,c',AA,by omega,by omega,by go_num,rfl,HK2.out⟩
  | false =>
   rw [hh] at HHAS
   have HK2:Hid (∀ W w2 A2 c2,_→_→_→_→Lk16 w L r (k+1) (m+1) A2 c2 w2):=fun W w2 A2 c2 a1 a2 a3 a4=>Lk16.no (W:=W) HK.out hh (by omega) a1 a2 a3 a4
   generalize Qz L k=x at *
   clear hb hh HK hlo
   go_wp2_with fail
   with_reducible refine (HHAS.out _).mono ?_
   rintro e w1 ⟨rfl,rfl⟩
   clear HHAS
   go_wp2_with (at_builtin; refine vj _ rfl (.tmp 22) (.tmp 25) 62 62 (by rfl) 5 i0 _ 1 1 Tryz.underlying62 hi hz0 hz1 hz2 rfl (.slice AA m c') m _ (by rfl) (HOWN.out.alloc _) (.slice (some ⟨wo.heap.size,0,none⟩) 1 1) 1 [.int .u8 (k:Int)] (by rfl) (src_byte16 wo k) (by simp only [maxLen]; omega) (by omega) ?_; intro A2 c2 w2 ho2 hg2 ha2; have HK3:=za (HK2.out _ w2 A2 c2 ((Below.refl _ _).alloc (Nat.le_refl _) _) ho2 hg2 ha2); clear ho2 hg2 ha2 HK2)
   go_roundg (n - (k+1))
   case measure=>omega
   case rel=>exact ⟨k+1,m+1,0,c2,A2,by omega,by omega,by go_num,rfl,HK3.out⟩

set_option maxRecDepth 100000 in
theorem Vx {w:World} {B A c:Nat} {L:List UInt8} (h:qp w B A c L) (r:Nat) (hr:r<256):Calls Tryz.prog 25 #[.pointer (some ⟨B,0,none⟩),.int .u8 (r:Int)] w fun e w'=>e=.returned (.bool (YI L r L.length))∧Below w.heap.size w w':=by
 have HL:=za (Vs h r hr)
 have h1:=QP L r L.length
 have h2:=YB L r L.length
 unfold Fresh at HL
 generalize xS L r L.length=l at *
 generalize YI L r L.length=q at *
 clear h hr
 go_enter Tryz.func25,Tryz.ntmps25
 go_wp2_with fail
 with_reducible refine HL.out.mono ?_
 rintro e w1 ⟨v,rfl,ho,_,ht⟩
 obtain ⟨A',c',rfl⟩:=yI ho
 have HB:=za (still14 ht)
 clear ho ht HL
 generalize l.length=m at *
 go_wp2
 go_ret
 exact ⟨by rw [← h1]; rfl,HB.out⟩



section
variable {w w':World} {D:Nat} {L:List UInt8}
end

def Cl16 (w:World) (L:List UInt8) (e:Ending) (w':World):Prop :=
 ∃ v,e=.returned v∧w'.ownsRow 0 45 1 v L.length (cellsOf L)∧(∀ k,v.ownBlock=some k→w.heap.size≤k)∧zg (fun _=>False) w w'
set_option maxRecDepth 100000 in
theorem Jk {w:World} {B A c:Nat} {L:List UInt8} (h:qp w B A c L):Calls Tryz.prog 74 #[.slice (some ⟨A,0,none⟩) L.length c] w (Cl16 w L):=by
 obtain ⟨i0,hi,hz0,hz1,hz2⟩:=info_parts infoRel
 have hlen:=h.good.len
 have hsrc:Src Tryz.prog 1 115 (.slice (some ⟨A,0,none⟩) L.length c) L.length (cellsOf L) (w.alloc (.cells #[] 45)):=(h.rd.still ((zg.refl _ _).alloc _)).src Tryz.underlying115
 have HSRC:=za hsrc
 have hnil:=fun W=>Lib.run_eql_slice_nil (P:=Tryz.prog) W 115 45 (some ⟨A,0,none⟩) L.length c 0 0 Tryz.underlying115
 have hmade:(w.alloc (.cells #[] 45)).ownsRow 0 45 1 (.slice (some ⟨w.heap.size,0,none⟩) 0 0) 0 []:=World.ownsRow_made w #[] 0 (Nat.zero_le _) (Nat.zero_le _) rfl
 have HM:=za hmade
 clear hmade hsrc h
 unfold Cl16
 generalize L.length=n at *
 generalize cellsOf L=cs at *
 go_enter Tryz.func74,Tryz.ntmps74
 go_wp2_with (at_builtin; refine vj _ rfl (.tmp 5) (.tmp 6) 115 115 (by rfl) 45 i0 _ 1 1 Tryz.underlying115 hi hz0 hz1 hz2 rfl (.slice (some ⟨w.heap.size,0,none⟩) 0 0) 0 [] (by rfl) HM.out (.slice (some ⟨A,0,none⟩) n c) n cs (by rfl) HSRC.out (by simp only [maxLen]; omega) (by omega) ?_; intro A2 c2 w2 ho2 hg2 ha2)
 rw [Nat.zero_add] at ho2 ha2
 go_ret
 refine ⟨_,by simp,ho2,?_,?_⟩
 ·
  intro k hk
  rcases ha2 with h2 | h2
  ·
   rw [h2] at hk
   simp [Value.ownBlock] at hk
   omega
  ·
   rw [h2] at hk
   simp at hk
   omega
 ·
  exact ((zg.refl _ _).alloc _).grown hg2 (fun k hk hlt=>by simp [Value.ownBlock] at hk; omega)

def Copied16 (w:World) (L:List UInt8) (e:Ending) (w':World):Prop:=∃ B A c,e=.returned (.pointer (some ⟨B,0,none⟩))∧w.heap.size≤A∧w.heap.size≤B∧Below w.heap.size w w'∧qp w' B A c L
set_option maxRecDepth 100000 in
theorem Copy16_calls {w:World} {B A c:Nat} {L:List UInt8} (h:qp w B A c L):Calls Tryz.prog 46 #[.pointer (some ⟨B,0,none⟩)] w (Copied16 w L):=by
 have HC:=za (Jk h)
 unfold Cl16 at HC
 have hc:=h.cell
 have HG:=za h.good
 have hlen:=h.good.len
 have HF:Hid (∀ w1 v,w1.ownsRow 0 45 1 v L.length (cellsOf L)→(∀ k,v.ownBlock=some k→w.heap.size≤k)→zg (fun _=>False) w w1 →
   ∃ A2 c2,v=.slice (some ⟨A2,0,none⟩) L.length c2∧w.heap.size≤A2∧qp (w1.alloc (.cells #[.slice (some ⟨A2,0,none⟩) L.length c2] 117)) w1.heap.size A2 c2 L):=fun w1 v ho hn ht=>by
  obtain ⟨g,cap,rfl,_,hlt⟩:=ho.form hlen.1
  refine ⟨g,cap,rfl,hn g rfl,heap_alloc_new w1 _,((zg.refl (fun _=>False) w1).alloc _).owns ho (fun _ _ f=>f),by omega,HG.out⟩
 have HS:=za (fun (w1:World) (ht:zg (fun _=>False) w w1)=>ht.size)
 clear h hlen HG
 unfold Copied16
 obtain ⟨n,hn⟩:∃ n,n=L.length:=⟨_,rfl⟩
 rw [← hn] at hc HC HF
 clear hn
 go_enter Tryz.func46,Tryz.ntmps46
 go_wp2_with fail
 with_reducible refine HC.out.mono ?_
 rintro e w1 ⟨v,rfl,ho,hn,ht⟩
 obtain ⟨A2,c2,rfl,hA2,hbd⟩:=HF.out w1 v ho hn ht
 have HBD:=za hbd
 have HB:=za (ze (still14 ht) (.cells #[.slice (some ⟨A2,0,none⟩) n c2] 117))
 have HSZ:=za ht.size
 have HA2:=za hA2
 clear ho hn ht hbd HC HF HS hA2
 go_wp2
 go_ret
 exact ⟨_,A2,c2,rfl,HA2.out,HSZ.out,HB.out,HBD.out⟩
end Go.Proofs.YteegkoicalbkbaaGreatDoor
namespace Go.Proofs.YteegkoicalbkbaaGreatDoor

def oE17 (kd:Nat) (L:zl) (a b:List UInt8):Int:=if kd=0 then crE L a b else if kd=1 then deE L a else if kd=2 then seE L a b else if kd=3 then deE L a else liE a
def oL17 (kd:Nat) (L:zl) (a b:List UInt8):zl:=if kd=0 then crL L a b else if kd=1 then deL L a else if kd=2 then seL L a b else L
def oT17 (kd:Nat) (L:zl) (a:List UInt8):List (List UInt8):=if kd<3 then [] else if kd=3 then [loS L a] else liL L a

def nE17 (kd:Nat) (A:zu) (L:zl) (S:zo) (a b:List UInt8):Int:=match kd with
 | 0=>Jh A a b
 | 1=>xY A a
 | 2=>Ql A a b
 | 3=>xY A a
 | 4=>zi (uM a) 10
 | 5=>fi A L a b
 | 6=>U1 A a true
 | 7=>U1 A a false
 | 8=>Za A a b
 | 9=>qE S a
 | 10=>qg S a
 | 11=>YO A S a b
 | 12=>YN A S a b
 | 13=>fiE9 L a
 | _=>qg S a
def nA17 (kd:Nat) (A:zu) (a b:List UInt8):zu:=match kd with
 | 0=>crA11 A a b
 | 1=>if xY A a=0 then xK A a else A
 | 2=>shA11 A a b
 | 6=>diA11 A a true
 | 7=>diA11 A a false
 | 8=>rnA11 A a b
 | _=>A
def nL17 (kd:Nat) (A:zu) (L:zl) (a b:List UInt8):zl:=match kd with
 | 1=>if xY A a=0 then vx L a else L
 | 5=>VB A L a b
 | 8=>rnL11 A L a b
 | _=>L
def nS17 (kd:Nat) (A:zu) (S:zo) (a b:List UInt8):zo:=match kd with
 | 1=>if xY A a=0 then qY S a else S
 | 8=>rnS11 A S a b
 | 9=>jr S a
 | 10=>fP S a
 | 11=>joS11 A S a b
 | 12=>leS11 A S a b
 | _=>S
def nU17 (kd:Nat) (l:xo) (N:List (List UInt8)) (a b:List UInt8):xo:=match kd with
 | 0=>dcrL l a b
 | 1=>ddeL l a
 | 2=>dshL l a b
 | 5=>dsmL l a b
 | 6=>ddiL l a true
 | 7=>ddiL l a false
 | 8=>drnL l a b
 | 10=>ddrL11 l N a
 | 11=>djoL11 l N a b
 | 12=>dleL11 l N a b
 | _=>l
def nN17 (kd:Nat) (N:List (List UInt8)) (a:List UInt8):List (List UInt8):=match kd with
 | 9=>dmaN11 N a
 | 10=>ddrN11 N a
 | _=>N
def us17 (u:U11):List (List UInt8):=[u.hs,u.ml,if u.dis then [49] else [48]]++u.gs
def nT17 (kd:Nat) (A:zu) (L:zl) (S:zo) (a:List UInt8):List (List UInt8):=match kd with
 | 3=>match qn (zm A L S) a with
  | some u=>us17 u
  | none=>[]
 | 4=>QM (zc (zm A L S)) a
 | 13=>[fiS9 L a]
 | 14=>fI S a
 | _=>[]
theorem qm.stay {A:zu} {L:zl} {S:zo} {k:Nat} (h:zn A L S k):qm A L S (zm A L S) (zc S) (k+1):=⟨h.mono (Nat.le_succ k),rfl,rfl⟩
theorem now17_one {A:zu} {L:zl} {S:zo} {k:Nat} (h:zn A L S k) (kd:Nat) (a b:List UInt8) :
  qm (nA17 kd A a b) (nL17 kd A L a b) (nS17 kd A S a b) (nU17 kd (zm A L S) (zc S) a b) (nN17 kd (zc S) a) (k+1):=by
 match kd with
 | 0=>exact cr_one h a b
 | 1 =>
  by_cases e:xY A a=0
  ·
   have:=de_one h a e
   show qm (if xY A a=0 then xK A a else A) (if xY A a=0 then vx L a else L) (if xY A a=0 then qY S a else S) (ddeL (zm A L S) a) (zc S) (k+1)
   rw [if_pos e,if_pos e,if_pos e]
   exact this
  ·
   have e2:ddeL (zm A L S) a=zm A L S:=by
    unfold ddeL
    rw [if_neg (by rw [de_same]; exact e)]
   show qm (if xY A a=0 then xK A a else A) (if xY A a=0 then vx L a else L) (if xY A a=0 then qY S a else S) (ddeL (zm A L S) a) (zc S) (k+1)
   rw [if_neg e,if_neg e,if_neg e,e2]
   exact qm.stay h
 | 2=>exact sh_one h a b
 | 3=>exact qm.stay h
 | 4=>exact qm.stay h
 | 5=>exact sm_one h a b
 | 6=>exact di_one h a true
 | 7=>exact di_one h a false
 | 8=>exact rn_one h a b
 | 9=>exact ma_one h a
 | 10=>exact dr_one h a
 | 11=>exact jo_one h a b
 | 12=>exact le_one h a b
 | 13=>exact qm.stay h
 | 14=>exact qm.stay h
 | _+15=>exact qm.stay h

inductive D17 where
 | old (E:zl)
 | new (A:zu) (L:zl) (S:zo)
def D17.ver:D17→Nat
 | .old _=>1
 | .new _ _ _=>2
def D17.Good:D17→Prop
 | .old E=>xe E
 | .new A L S=>zn A L S 12
def xh (d:D17) (kd:Nat) (a b:List UInt8):Int:=match d with
 | .old E=>oE17 kd E a b
 | .new A L S=>nE17 kd A L S a b
def xx (d:D17) (kd:Nat) (a b:List UInt8):D17:=match d with
 | .old E=>.old (oL17 kd E a b)
 | .new A L S=>.new (nA17 kd A a b) (nL17 kd A L a b) (nS17 kd A S a b)
def xI (d:D17) (kd:Nat) (a:List UInt8):List (List UInt8):=match d with
 | .old E=>oT17 kd E a
 | .new A L S=>nT17 kd A L S a
def upA17 (E:zl):zu:=E.map fun q=>(q.1,(q.2,false))
def upD17:D17→D17
 | .old E=>.new (upA17 E) [] []
 | d=>d
structure H17 where
 d:D17
 X:Nat→P15
 b:List UInt8
structure H17.Good (s:H17):Prop where
 d:s.d.Good
 b:qS s.b
 x:∀ i,i<8→MayP15 (s.X i)
def rdy17 (b:List UInt8):Bool:=YI b 2 b.length
def zL (s:H17) (cl:Nat) (o:O14):Int :=
 if (s.d.ver:Int)<vn o.kd.toNat then 6
 else if o.kd.toNat=15 then (match s.d with
  | .old _=>if rdy17 s.b=true then 0 else 13
  | .new _ _ _=>14)
 else if o.kd.toNat=16 then (if cl=255 then (Zt s.b o.nd.toNat o.rl.toNat:Nat) else 1)
 else xh s.d o.kd.toNat o.a.data.toList o.b.data.toList
def yt (s:H17) (cl:Nat) (o:O14):H17 :=
 if zL s cl o≠0 then s
 else if o.kd.toNat=15 then { s with d:=upD17 s.d }
 else if o.kd.toNat=16 then { s with b:=ut s.b o.nd.toNat o.rl.toNat }
 else { s with d:=xx s.d o.kd.toNat o.a.data.toList o.b.data.toList }
def xD (s:H17) (o:O14):List ByteArray:=if o.kd.toNat≤14 then (xI s.d o.kd.toNat o.a.data.toList).map xT else []
def yv (s:H17) (cl:Nat) (o:O14):Int:=if uk o≠0 then uk o else zL s cl o
def xQ (s:H17) (cl:Nat) (o:O14):H17:=if uk o≠0 then s else yt s cl o
def yS (s:H17) (cl:Nat) (o:O14):List ByteArray:=if yv s cl o=0 then xD s o else []
def zY (s:H17) (cl n:Nat) (o:O14):Bool :=
 if cl=255 then decide (n=0) && (decide (o.kd.toNat=16) && decide (uk o=0)) else decide (J15 (s.X cl).n cl n=3)
def yu (s:H17) (cl n:Nat) (o:O14):Int :=
 if cl=255 then (if zY s cl n o=true then yv s 255 o else 1)
 else if J15 (s.X cl).n cl n=0 then 1 else if J15 (s.X cl).n cl n=1 then 12 else if J15 (s.X cl).n cl n=2 then ((s.X cl).e:Nat) else yv s cl o
def yZ (s:H17) (cl n:Nat) (o:O14):List ByteArray :=
 if cl=255 then []
 else if J15 (s.X cl).n cl n=0 then [] else if J15 (s.X cl).n cl n=1 then [] else if J15 (s.X cl).n cl n=2 then (s.X cl).ss else yS s cl o
def zF (s:H17) (cl n:Nat) (o:O14):H17 :=
 if zY s cl n o=true then
  (if cl=255 then xQ s 255 o else { xQ s cl o with X:=vJ s.X cl n (yv s cl o).toNat (yS s cl o) })
 else s
def VL (n:Nat):H17:=⟨.old [],fun _=>noP15,List.replicate n 0⟩
end Go.Proofs.YteegkoicalbkbaaGreatDoor
namespace Go.Proofs.YteegkoicalbkbaaGreatDoor
open Go.RowKit Go.Maps
set_option linter.unusedVariables false

def TyF17 (T:TypeId):Prop:=T=120∨T=240∨T=290∨T=278∨T=84∨T=123∨T=117∨T=45
instance tyF17_dec (T:TypeId):Decidable (TyF17 T):=by unfold TyF17; exact inferInstance
def yX (W w':World):Prop:=∀ (k:Nat) (c:Array Value) (T:TypeId) (fr:Nat×Nat),W.heap[k]? = some (.cells c T fr)→¬ TyF17 T→w'.heap[k]? = some (.cells c T fr)
theorem yX.of_below {W w':World} (hb:Below W.heap.size W w'):yX W w':=fun k _ _ _ h _=>(hb.block k (Array.getElem?_eq_some_iff.1 h).1).trans h
theorem yX.trans {a b c:World} (h:yX a b) (k:yX b c):yX a c:=fun i x T fr hi hT=>k i x T fr (h i x T fr hi hT) hT
theorem yX.refl (w:World):yX w w:=fun _ _ _ _ h _=>h
def fW (W:World) (i:Nat):Prop:=∀ s,W.cell? ⟨i,0,none⟩≠some (.string s)
theorem xR {W:World} {i:Nat} {cs:Array Value} {T:TypeId} {fr:Nat×Nat} (h:W.heap[i]? = some (.cells cs T fr)) (hn:∀ s:ByteArray,cs[0]? ≠ some (.string s)):fW W i:=fun s e=>by
 rw [cell_of_row W i 0 _ _ fr h] at e
 exact hn s e
theorem jY {W:World} {i:Nat} (h:∀ c T fr,W.heap[i]? ≠ some (.cells c T fr)):fW W i:=fun s e=>by
 unfold World.cell? at e
 split at e
 ·
  rename_i hh
  exact h _ _ _ hh
 all_goals cases e
def vB (W:World) (A:Option Addr) (ss:List ByteArray):Prop:=RdS W A ss∧vO 0 A ss
theorem vB.turns {W W':World} {S:Nat→Prop} {A:Option Addr} {ss:List ByteArray} (h:vB W A ss) (ht:zg S W W') (hN:∀ i,S i→fW W i):vB W' A ss :=
 ⟨h.1.turns ht (fun hne a ha hs=>by
  obtain ⟨b,off,e,hb,hc⟩:=h.1 hne
  have h0:=(h.2 hne a ha).2
  rw [ha] at e
  injection e with e
  rw [e] at h0 hs
  injection h0 with _ h0
  subst h0
  exact hN _ hs _ (hc 0 (List.length_pos_iff.2 hne))),h.2⟩
theorem vB.later {W W':World} {A:Option Addr} {ss:List ByteArray} (h:vB W A ss) (hb:Below W.heap.size W W'):vB W' A ss:=⟨h.1.later14 hb,h.2⟩
theorem vB.none (W:World) (A:Option Addr):vB W A []:=⟨fun h=>absurd rfl h,fun h=>absurd rfl h⟩

/-! ### the directory -/
def yA (B:Nat):Value:=.iface 80 (.agg #[.pointer (some ⟨B,0,none⟩)])
def zH (D:Nat):Value:=.iface 150 (.agg #[.pointer (some ⟨D,0,none⟩)])
def yY (W:World) (v:Value) (F:Nat→Prop) (d:D17):Prop:=match d with
 | .old E=>∃ B p,v=yA B∧vh W B p E∧∀ i,F i↔(i=B∨p=some i)
 | .new A L S=>∃ D P M G p q LM pg T,v=zH D∧ye W D P A M p q L LM G pg T∧z8 T=S∧∀ i,F i↔xg D P M p q G pg T i
def zw (W:World) (v:Value) (F:Nat→Prop) (d':D17) (w':World):Prop:=∃ F',yY w' v F' d'∧(∀ i,F' i→F i∨W.heap.size≤i)∧zg F W w'
section
variable {W W' w':World} {v:Value} {F:Nat→Prop} {d d':D17}
theorem yY.lt (h:yY W v F d) {i:Nat} (hi:F i):i<W.heap.size:=by
 cases d with
 | old E =>
  obtain ⟨B,p,_,hd,hF⟩:=h
  rcases (hF i).1 hi with rfl | e
  ·
   exact hd.lt
  ·
   exact hd.mlt i e
 | new A L S =>
  obtain ⟨D,P,M,G,p,q,LM,pg,T,_,hn,_,hF⟩:=h
  exact hn.foot_lt ((hF i).1 hi)
theorem yY.ty (h:yY W v F d) {i:Nat} (hi:F i) {c:Array Value} {X:TypeId} {fr:Nat×Nat} (hb:W.heap[i]? = some (.cells c X fr)):X=120∨X=240∨X=290∨X=278:=by
 cases d with
 | old E =>
  obtain ⟨B,p,_,hd,hF⟩:=h
  rcases (hF i).1 hi with rfl | e
  ·
   rw [hd.blk] at hb
   injection hb with hb
   injection hb with _ h2
   exact .inl h2.symm
  ·
   exact (XO hd e hb).elim
 | new A L S =>
  obtain ⟨D,P,M,G,p,q,LM,pg,T,_,hn,_,hF⟩:=h
  exact .inr (hn.foot_ty ((hF i).1 hi) hb)
theorem idx_nos17 {M:Nat} {p q:Option Nat} {L LM:zl} (h:ua W M p q L LM):fW W M:=xR h.blk (fun s e=>by simp at e)
theorem grp_nos17 {G:Nat} {pg:Option Nat} {T:zp} (h:zO W G pg T):fW W G:=xR h.blk (fun s e=>by simp at e)
theorem yY.nos (h:yY W v F d) {i:Nat} (hi:F i):fW W i:=by
 cases d with
 | old E =>
  obtain ⟨B,p,_,hd,hF⟩:=h
  rcases (hF i).1 hi with rfl | e
  ·
   exact xR hd.blk (fun s e=>by simp at e)
  ·
   exact jY (fun c T fr hb=>XO hd e hb)
 | new A L S =>
  obtain ⟨D,P,M,G,p,q,LM,pg,T,_,hn,_,hF⟩:=h
  rcases (hF i).1 hi with rfl | rfl | (rfl | e | e) | (rfl | e | ⟨x,hx,rfl⟩)
  ·
   exact xR hn.blk (fun s e=>by simp at e)
  ·
   exact jY (fun c T fr hb=>ZC hn.acc hb rfl)
  ·
   exact idx_nos17 hn.idx
  ·
   exact jY (fun c T fr hb=>vK (hn.idx.mapp.map i e) hb rfl)
  ·
   exact jY (fun c T fr hb=>vK (hn.idx.mapq.map i e) hb rfl)
  ·
   exact grp_nos17 hn.grp
  ·
   exact jY (fun c T fr hb=>zP (hn.grp.map i e) hb rfl)
  ·
   exact jY (fun c T fr hb=>zP (hn.grp.sets x hx) hb rfl)
theorem yY.turns {S:Nat→Prop} (h:yY W v F d) (ht:zg S W W') (hn:∀ i,F i→¬ S i):yY W' v F d:=by
 cases d with
 | old E =>
  obtain ⟨B,p,hv,hd,hF⟩:=h
  exact ⟨B,p,hv,hd.turns ht (hn B ((hF B).2 (.inl rfl))) (fun b e=>hn b ((hF b).2 (.inr e))),hF⟩
 | new A L S0 =>
  obtain ⟨D,P,M,G,p,q,LM,pg,T,hv,hd,hS,hF⟩:=h
  exact ⟨D,P,M,G,p,q,LM,pg,T,hv,hd.kept (ht.mono fun i _ hi f=>hn i ((hF i).2 f) hi),hS,hF⟩
theorem yY.later (h:yY W v F d) (hb:Below W.heap.size W W'):yY W' v F d:=h.turns (vC hb) (fun _ _ f=>f)
theorem zw.still (h:yY W v F d) (hb:Below W.heap.size W w'):zw W v F d w':=⟨F,h.later hb,fun _ e=>.inl e,zg.of_below hb _⟩
theorem zw.ahead (hb:Below W.heap.size W W') (h:zw W' v F d' w'):zw W v F d' w':=by
 obtain ⟨F',h1,h2,h3⟩:=h
 exact ⟨F',h1,fun i e=>(h2 i e).imp id (fun h=>Nat.le_trans hb.size h),(zg.of_below hb _).next h3 (fun _ _ h=>h)⟩
theorem zw.behind (h:zw W v F d' W') (hb:Below W'.heap.size W' w'):zw W v F d' w':=by
 obtain ⟨F',h1,h2,h3⟩:=h
 exact ⟨F',h1.later hb,h2,h3.next (vC hb) (fun _ _ f=>f.elim)⟩
end

/-! ### a deed of the newer one,whatever stands beside it -/
section
variable {W W' w':World} {D P M G:Nat} {A A':zu} {p q pg:Option Nat} {L LM L':zl} {T:zp} {S':zo}
def jM (W:World):World:={ W with heap:=#[] }
theorem jL (W:World):Below (jM W).heap.size (jM W) W:=⟨rfl,rfl,rfl,Nat.zero_le _,fun k h=>absurd h (Nat.not_lt_zero k)⟩
abbrev qt (W:World) (D P M:Nat) (p q:Option Nat) (G:Nat) (pg:Option Nat) (T:zp):Fr11 :=
 ⟨fun i=>i<W.heap.size∧¬ xg D P M p q G pg T i∧∀ c X fr,W.heap[i]? = some (.cells c X fr)→X=240∨X=290∨X=278,
  fun i=>W.heap[i]?,W.heap.size,fun _ hi=>hi.1,fun _ c X fr hi hb=>hi.2.2 c X fr hb⟩
theorem ye.all17 (h:ye W D P A M p q L LM G pg T):@zt (qt W D P M p q G pg T) (jM W) W D P M G A L (z8 T) :=
 ⟨p,q,LM,pg,T,h,rfl,fun i hi=>⟨Nat.zero_le _,fun f=>f.2.1 hi⟩,jL W,Nat.le_refl _,fun _ _=>rfl⟩
theorem ye.goes17 (h:ye W D P A M p q L LM G pg T) (hg:@zE (qt W D P M p q G pg T) (jM W) W D P M G A' L' S' w') :
  ∃ p' q' LM' pg' T',ye w' D P A' M p' q' L' LM' G pg' T'∧z8 T'=S'∧(∀ i,xg D P M p' q' G pg' T' i→xg D P M p q G pg T i∨W.heap.size≤i)∧zg (xg D P M p q G pg T) W w':=by
 obtain ⟨⟨p',q',LM',pg',T',n1,n2,n3,n4⟩,hk⟩:=hg
 have hblk:∀ i,i<W.heap.size→¬ xg D P M p q G pg T i→w'.heap[i]? = W.heap[i]? := fun i hi hn=>by
  by_cases hc:∀ c X fr,W.heap[i]? = some (.cells c X fr)→X=240∨X=290∨X=278
  ·
   exact n4.2.2 i ⟨hi,hn,hc⟩
  ·
   obtain ⟨c,hc⟩:=Classical.not_forall.1 hc
   obtain ⟨X,hc⟩:=Classical.not_forall.1 hc
   obtain ⟨fr,hc⟩:=Classical.not_forall.1 hc
   obtain ⟨h1,h2⟩:=Classical.not_imp.1 hc
   rw [h1]
   exact hk i c X fr h1 (fun e=>h2 (.inl e)) (fun e=>h2 (.inr (.inl e))) (fun e=>h2 (.inr (.inr e)))
 refine ⟨p',q',LM',pg',T',n1,n2,fun i hi=>?_,⟨n4.1.os,n4.1.tape,n4.1.output,n4.2.1,hblk⟩⟩
 by_cases hl:W.heap.size≤i
 ·
  exact .inr hl
 ·
  refine .inl (Classical.byContradiction fun hn=>?_)
  have hl':i<W.heap.size:=by omega
  have hnf:=(n3 i hi).2
  refine hnf ⟨hl',hn,fun c X fr hb=>?_⟩
  exact n1.foot_ty hi ((hblk i hl' hn).trans hb)
end

/-! ### the host -/
def zS (W:World) (H:Nat) (F:Nat→Prop) (s:H17):Prop :=
 ∃ v FD TB T BB BA c,W.heap[H]? = some (.cells #[v,.pointer (some ⟨TB,0,none⟩),.pointer (some ⟨BB,0,none⟩)] 84 (0,0))∧yY W v FD s.d ∧
  vH W (TB+1) TB T∧(∀ i,i<8→(T i).p=s.X i)∧qp W BB BA c s.b∧(∀ i,F i↔(i=H∨FD i∨i=TB∨i=BB∨i=BA))
section
variable {W W' w':World} {H:Nat} {F:Nat→Prop} {s:H17}
theorem JH {W:World} {TB:Nat} {T:Nat→R15} (h:vH W (TB+1) TB T):fW W TB:=xR h.at_ (fun s e=>by
 rw [X4 T 0 (by decide)] at e
 cases e)
theorem bd_nos17 {W:World} {BB BA c:Nat} {b:List UInt8} (h:qp W BB BA c b):fW W BB:=xR h.blk (fun s e=>by simp at e)
theorem JO {W:World} {BB BA c:Nat} {b:List UInt8} (h:qp W BB BA c b):fW W BA:=fun s e=>by
 rw [h.at_ 0 h.good.len.1] at e
 cases e
theorem yY.v_nos {v:Value} {FD:Nat→Prop} {d:D17} (h:yY W v FD d) (s:ByteArray):v≠.string s:=by
 cases d with
 | old E=>obtain ⟨B,p,rfl,_⟩:=h; exact fun e=>by cases e
 | new A L S=>obtain ⟨D,P,M,G,p,q,LM,pg,T,rfl,_⟩:=h; exact fun e=>by cases e
theorem vH.turnsN17 {S:Nat→Prop} {P B:Nat} {T:Nat→R15} (h:vH W P B T) (ht:zg S W W') (hB:¬ S B) (hN:∀ i,S i→fW W i):vH W' P B T :=
 ⟨h.lt,Nat.le_trans h.le ht.size,h.at_.turns ht hB,fun i hi=>⟨(vB.turns ⟨(h.tx i hi).rd,fun hne a ha=>⟨Nat.zero_le _,(h.far i hi hne a ha).2⟩⟩ ht hN).1,(h.tx i hi).len,(h.tx i hi).cap,(h.tx i hi).nil⟩,h.far,h.may⟩
theorem zS.lt (h:zS W H F s) {i:Nat} (hi:F i):i<W.heap.size:=by
 obtain ⟨v,FD,TB,T,BB,BA,c,hb,hd,ht,_,hbd,hF⟩:=h
 rcases (hF i).1 hi with rfl | e | rfl | rfl | rfl
 ·
  exact (Array.getElem?_eq_some_iff.1 hb).1
 ·
  exact hd.lt e
 ·
  exact ht.at_.lt
 ·
  exact hbd.lt
 ·
  exact hbd.ltA
theorem zS.nos (h:zS W H F s) {i:Nat} (hi:F i):fW W i:=by
 obtain ⟨v,FD,TB,T,BB,BA,c,hb,hd,ht,_,hbd,hF⟩:=h
 rcases (hF i).1 hi with rfl | e | rfl | rfl | rfl
 ·
  exact xR hb (fun s e=>hd.v_nos s (by simpa using e))
 ·
  exact hd.nos e
 ·
  exact JH ht
 ·
  exact bd_nos17 hbd
 ·
  exact JO hbd
theorem zS.ty (h:zS W H F s) {i:Nat} (hi:F i) {c:Array Value} {X:TypeId} {fr:Nat×Nat} (hX:W.heap[i]? = some (.cells c X fr)):TyF17 X:=by
 have same:∀ {c':Array Value} {X':TypeId} {fr':Nat×Nat},W.heap[i]? = some (.cells c' X' fr')→X=X':=fun h'=>by
  rw [h'] at hX
  injection hX with hX
  injection hX with _ h2
  exact h2.symm
 obtain ⟨v,FD,TB,T,BB,BA,c,hb,hd,ht,_,hbd,hF⟩:=h
 unfold TyF17
 rcases (hF i).1 hi with rfl | e | rfl | rfl | rfl
 ·
  rw [same hb]; simp
 ·
  rcases hd.ty e hX with e | e | e | e <;> rw [e] <;> simp
 ·
  rw [same ht.at_]; simp
 ·
  rw [same hbd.blk]; simp
 ·
  obtain ⟨cur,hc,_⟩:=hbd.row
  rw [same hc]; simp
theorem zS.keeps {S:Nat→Prop} (h:zS W H F s) (ht:zg S W w') (hS:∀ i,S i→F i):yX W w':=fun k c T fr hk hT =>
 (ht.block k (Array.getElem?_eq_some_iff.1 hk).1 (fun e=>hT (h.ty (hS k e) hk))).trans hk
theorem zS.turns {S:Nat→Prop} (h:zS W H F s) (ht:zg S W W') (hn:∀ i,F i→¬ S i) (hN:∀ i,S i→fW W i):zS W' H F s:=by
 obtain ⟨v,FD,TB,T,BB,BA,c,hb,hd,hta,hx,hbd,hF⟩:=h
 exact ⟨v,FD,TB,T,BB,BA,c,(ht.block H (Array.getElem?_eq_some_iff.1 hb).1 (hn H ((hF H).2 (.inl rfl)))).trans hb,hd.turns ht (fun i e=>hn i ((hF i).2 (.inr (.inl e)))),
  hta.turnsN17 ht (hn TB ((hF TB).2 (.inr (.inr (.inl rfl))))) hN,hx,hbd.turns ht (hn BB ((hF BB).2 (.inr (.inr (.inr (.inl rfl)))))) (hn BA ((hF BA).2 (.inr (.inr (.inr (.inr rfl)))))),hF⟩
theorem zS.later (h:zS W H F s) (hb:Below W.heap.size W W'):zS W' H F s:=h.turns (vC hb) (fun _ _ f=>f) (fun _ f=>f.elim)
end
def zq (W:World) (H:Nat) (F:Nat→Prop) (s':H17) (w':World):Prop:=∃ F',zS w' H F' s'∧(∀ i,F' i→F i∨W.heap.size≤i)∧zg F W w'
section
variable {W W' w':World} {H:Nat} {F:Nat→Prop} {s s':H17}
theorem zq.still (h:zS W H F s) (hb:Below W.heap.size W w'):zq W H F s w':=⟨F,h.later hb,fun _ e=>.inl e,zg.of_below hb _⟩
theorem zq.ahead (hb:Below W.heap.size W W') (h:zq W' H F s' w'):zq W H F s' w':=by
 obtain ⟨F',h1,h2,h3⟩:=h
 exact ⟨F',h1,fun i e=>(h2 i e).imp id (fun h=>Nat.le_trans hb.size h),(zg.of_below hb _).next h3 (fun _ _ h=>h)⟩
theorem zq.behind (h:zq W H F s' W') (hb:Below W'.heap.size W' w'):zq W H F s' w':=by
 obtain ⟨F',h1,h2,h3⟩:=h
 exact ⟨F',h1.later hb,h2,h3.next (vC hb) (fun _ _ f=>f.elim)⟩
theorem zS.dir (h:zS W H F s):∃ v FD,W.cell? ⟨H,0,none⟩=some v∧yY W v FD s.d∧(∀ d' w',zw W v FD d' w'→zq W H F { s with d:=d' } w'):=by
 have h':=h
 obtain ⟨v,FD,TB,T,BB,BA,c,hb,hd,hta,hx,hbd,hF⟩:=h'
 refine ⟨v,FD,by rw [cell_of_row W H 0 _ _ (0,0) hb]; rfl,hd,fun d' w' hg=>?_⟩
 obtain ⟨F',h1,h2,h3⟩:=hg
 have hne:∀ {i:Nat} {cs:Array Value} {X:TypeId} {fr:Nat×Nat},W.heap[i]? = some (.cells cs X fr)→X≠120→X≠240→X≠290→X≠278→¬ FD i:=fun hi a1 a2 a3 a4 e=>by
  rcases hd.ty e hi with e | e | e | e
  ·
   exact a1 e
  ·
   exact a2 e
  ·
   exact a3 e
  ·
   exact a4 e
 obtain ⟨cur,hrow,_⟩:=hbd.row
 refine ⟨fun i=>i=H∨F' i∨i=TB∨i=BB∨i=BA,⟨v,F',TB,T,BB,BA,c,(h3.block H (Array.getElem?_eq_some_iff.1 hb).1 (hne hb (by decide) (by decide) (by decide) (by decide))).trans hb,h1,
  hta.turnsN17 h3 (hne hta.at_ (by decide) (by decide) (by decide) (by decide)) (fun i e=>hd.nos e),hx,
  hbd.turns h3 (hne hbd.blk (by decide) (by decide) (by decide) (by decide)) (hne hrow (by decide) (by decide) (by decide) (by decide)),fun _=>Iff.rfl⟩,fun i hi=>?_,h3.mono fun i _ e=>(hF i).2 (.inr (.inl e))⟩
 rcases hi with e | e | e
 ·
  exact .inl ((hF i).2 (.inl e))
 ·
  rcases h2 i e with e | e
  ·
   exact .inl ((hF i).2 (.inr (.inl e)))
  ·
   exact .inr e
 ·
  exact .inl ((hF i).2 (.inr (.inr e)))
end
end Go.Proofs.YteegkoicalbkbaaGreatDoor
namespace Go.Proofs.YteegkoicalbkbaaGreatDoor
open Go.RowKit Go.Maps
set_option linter.unusedVariables false

section
variable {W W' w':World} {H:Nat} {F:Nat→Prop} {s s':H17}
theorem zS.tab (h:zS W H F s):∃ TB T,W.cell? ⟨H,1,none⟩=some (.pointer (some ⟨TB,0,none⟩))∧vH W (TB+1) TB T∧(∀ i,i<8→(T i).p=s.X i) ∧
  ∀ T' X' w',vH w' (TB+1) TB T'→zg (fun i=>i=TB) W w'→(∀ i,i<8→(T' i).p=X' i)→zq W H F { s with X:=X' } w':=by
 obtain ⟨v,FD,TB,T,BB,BA,c,hb,hd,hta,hx,hbd,hF⟩:=h
 refine ⟨TB,T,by rw [cell_of_row W H 1 _ _ (0,0) hb]; rfl,hta,hx,fun T' X' w' h1 h2 h3=>?_⟩
 have hne:∀ {i:Nat} {cs:Array Value} {X:TypeId} {fr:Nat×Nat},W.heap[i]? = some (.cells cs X fr)→X≠123→¬ i=TB:=fun hi a1=>ul hi hta.at_ a1
 obtain ⟨cur,hrow,_⟩:=hbd.row
 have hnd:∀ i,FD i→¬ i=TB:=fun i hi e=>by
  subst e
  rcases hd.ty hi hta.at_ with e | e | e | e <;> exact absurd e (by decide)
 exact ⟨F,⟨v,FD,TB,T',BB,BA,c,(h2.block H (Array.getElem?_eq_some_iff.1 hb).1 (hne hb (by decide))).trans hb,hd.turns h2 hnd,h1,h3,hbd.turns h2 (hne hbd.blk (by decide)) (hne hrow (by decide)),hF⟩,
  fun i hi=>.inl hi,h2.mono fun i _ e=>(hF i).2 (.inr (.inr (.inl e)))⟩
theorem zS.board (h:zS W H F s):∃ BB BA c,W.cell? ⟨H,2,none⟩=some (.pointer (some ⟨BB,0,none⟩))∧qp W BB BA c s.b ∧
  ∀ b' w',qp w' BB BA c b'→zg (fun i=>i=BA) W w'→zq W H F { s with b:=b' } w':=by
 obtain ⟨v,FD,TB,T,BB,BA,c,hb,hd,hta,hx,hbd,hF⟩:=h
 refine ⟨BB,BA,c,by rw [cell_of_row W H 2 _ _ (0,0) hb]; rfl,hbd,fun b' w' h1 h2=>?_⟩
 obtain ⟨cur,hrow,_⟩:=hbd.row
 have hne:∀ {i:Nat} {cs:Array Value} {X:TypeId} {fr:Nat×Nat},W.heap[i]? = some (.cells cs X fr)→X≠45→¬ i=BA:=fun hi a1=>ul hi hrow a1
 have hnd:∀ i,FD i→¬ i=BA:=fun i hi e=>by
  subst e
  rcases hd.ty hi hrow with e | e | e | e <;> exact absurd e (by decide)
 exact ⟨F,⟨v,FD,TB,T,BB,BA,c,(h2.block H (Array.getElem?_eq_some_iff.1 hb).1 (hne hb (by decide))).trans hb,hd.turns h2 hnd,hta.turnsN17 h2 (hne hta.at_ (by decide)) (fun i e=>e ▸ JO hbd),hx,h1,hF⟩,
  fun i hi=>.inl hi,h2.mono fun i _ e=>(hF i).2 (.inr (.inr (.inr (.inr e))))⟩
theorem zS.store (h:zS W H F s) (hb:Below W.heap.size W W') {v':Value} {F':Nat→Prop} {d':D17} (hd:yY W' v' F' d') (hn:∀ i,F' i→W.heap.size≤i) :
  zq W H F { s with d:=d' } (W'.setCell ⟨H,0,none⟩ v'):=by
 obtain ⟨v,FD,TB,T,BB,BA,c,hblk,hd0,hta,hx,hbd,hF⟩:=h.later hb
 have hH:H<W.heap.size:=h.lt ((hF H).2 (.inl rfl))
 have ht:zg (fun i=>i=H) W' (W'.setCell ⟨H,0,none⟩ v'):=(zg.refl (fun i=>i=H) W').setCell (p:=⟨H,0,none⟩) (fun _=>rfl) v'
 have hne:∀ {i:Nat} {cs:Array Value} {X:TypeId} {fr:Nat×Nat},W'.heap[i]? = some (.cells cs X fr)→X≠84→¬ i=H:=fun hi a1=>ul hi hblk a1
 obtain ⟨cur,hrow,_⟩:=hbd.row
 have hset:=heap_setCell_same W' H 0 _ _ v' hblk
 refine ⟨fun i=>i=H∨F' i∨i=TB∨i=BB∨i=BA,⟨v',F',TB,T,BB,BA,c,hset,hd.turns ht (fun i e e2=>by have:=hn i e; omega),
  hta.turnsN17 ht (hne hta.at_ (by decide)) (fun i e=>e ▸ xR hblk (fun s e=>hd0.v_nos s (by simpa using e))),hx,hbd.turns ht (hne hbd.blk (by decide)) (hne hrow (by decide)),fun _=>Iff.rfl⟩,fun i hi=>?_,(zg.of_below hb _).next ht (fun i _ e=>(hF i).2 (.inl e))⟩
 rcases hi with e | e | e
 ·
  exact .inl ((hF i).2 (.inl e))
 ·
  exact .inr (hn i e)
 ·
  exact .inl ((hF i).2 (.inr (.inr e)))
theorem zS.make {v:Value} {FD:Nat→Prop} {TB BB BA c:Nat} {T:Nat→R15} {d:D17} {X:Nat→P15} {b:List UInt8} (hd:yY W v FD d) (ht:vH W (TB+1) TB T) (hx:∀ i,i<8→(T i).p=X i) (hb:qp W BB BA c b) :
  zS (W.alloc (.cells #[v,.pointer (some ⟨TB,0,none⟩),.pointer (some ⟨BB,0,none⟩)] 84)) W.heap.size (fun i=>i=W.heap.size∨FD i∨i=TB∨i=BB∨i=BA) ⟨d,X,b⟩:=by
 have hbl:Below W.heap.size W (W.alloc (.cells #[v,.pointer (some ⟨TB,0,none⟩),.pointer (some ⟨BB,0,none⟩)] 84)):=ze (Below.refl _ W) _
 exact ⟨v,FD,TB,T,BB,BA,c,heap_alloc_new W _,hd.later hbl,ht.later hbl,hx,hb.later hbl,fun _=>Iff.rfl⟩
end
end Go.Proofs.YteegkoicalbkbaaGreatDoor
namespace Go.Proofs.YteegkoicalbkbaaGreatDoor
open Go.RowKit Go.Maps
set_option linter.unusedVariables false

/-! ### methods -/
section
variable (B:Nat) (w:World)
theorem XG:(method 499 80 (.agg #[.pointer (some ⟨B,0,none⟩)]) "interrex/host.version").run Tryz.prog w=.ok (305,.agg #[.pointer (some ⟨B,0,none⟩)]) w:=by kernel_rfl
theorem QE:(method 499 80 (.agg #[.pointer (some ⟨B,0,none⟩)]) "interrex/host.bytes").run Tryz.prog w=.ok (304,.agg #[.pointer (some ⟨B,0,none⟩)]) w:=by kernel_rfl
theorem QG:(method 499 80 (.agg #[.pointer (some ⟨B,0,none⟩)]) "interrex/host.apart").run Tryz.prog w=.ok (302,.agg #[.pointer (some ⟨B,0,none⟩)]) w:=by kernel_rfl
theorem mth_ask_old:(method 499 80 (.agg #[.pointer (some ⟨B,0,none⟩)]) "interrex/host.ask").run Tryz.prog w=.ok (303,.agg #[.pointer (some ⟨B,0,none⟩)]) w:=by kernel_rfl
theorem VM:(method 499 80 (.agg #[.pointer (some ⟨B,0,none⟩)]) "interrex/host.lookup").run Tryz.prog w=.ok (402,.agg #[.pointer (some ⟨B,0,none⟩)]) w:=by kernel_rfl
theorem VQ:(method 499 80 (.agg #[.pointer (some ⟨B,0,none⟩)]) "Create").run Tryz.prog w=.ok (382,.pointer (some ⟨B,0,none⟩)) w:=by kernel_rfl
theorem VO:(method 499 80 (.agg #[.pointer (some ⟨B,0,none⟩)]) "Delete").run Tryz.prog w=.ok (383,.pointer (some ⟨B,0,none⟩)) w:=by kernel_rfl
theorem XI:(method 499 80 (.agg #[.pointer (some ⟨B,0,none⟩)]) "SetHash").run Tryz.prog w=.ok (385,.pointer (some ⟨B,0,none⟩)) w:=by kernel_rfl
theorem Fj:(method 499 80 (.agg #[.pointer (some ⟨B,0,none⟩)]) "List").run Tryz.prog w=.ok (384,.pointer (some ⟨B,0,none⟩)) w:=by kernel_rfl
theorem XH:(method 499 150 (.agg #[.pointer (some ⟨B,0,none⟩)]) "interrex/host.version").run Tryz.prog w=.ok (343,.agg #[.pointer (some ⟨B,0,none⟩)]) w:=by kernel_rfl
theorem QF:(method 499 150 (.agg #[.pointer (some ⟨B,0,none⟩)]) "interrex/host.bytes").run Tryz.prog w=.ok (341,.agg #[.pointer (some ⟨B,0,none⟩)]) w:=by kernel_rfl
theorem QH:(method 499 150 (.agg #[.pointer (some ⟨B,0,none⟩)]) "interrex/host.apart").run Tryz.prog w=.ok (339,.agg #[.pointer (some ⟨B,0,none⟩)]) w:=by kernel_rfl
theorem mth_ask_new:(method 499 150 (.agg #[.pointer (some ⟨B,0,none⟩)]) "interrex/host.ask").run Tryz.prog w=.ok (340,.agg #[.pointer (some ⟨B,0,none⟩)]) w:=by kernel_rfl
theorem VN:(method 499 150 (.agg #[.pointer (some ⟨B,0,none⟩)]) "interrex/host.lookup").run Tryz.prog w=.ok (342,.agg #[.pointer (some ⟨B,0,none⟩)]) w:=by kernel_rfl
theorem VR:(method 499 150 (.agg #[.pointer (some ⟨B,0,none⟩)]) "Create").run Tryz.prog w=.ok (313,.pointer (some ⟨B,0,none⟩)) w:=by kernel_rfl
theorem VP:(method 499 150 (.agg #[.pointer (some ⟨B,0,none⟩)]) "Delete").run Tryz.prog w=.ok (314,.pointer (some ⟨B,0,none⟩)) w:=by kernel_rfl
theorem XJ:(method 499 150 (.agg #[.pointer (some ⟨B,0,none⟩)]) "SetHash").run Tryz.prog w=.ok (317,.pointer (some ⟨B,0,none⟩)) w:=by kernel_rfl
theorem Fk:(method 499 150 (.agg #[.pointer (some ⟨B,0,none⟩)]) "List").run Tryz.prog w=.ok (316,.pointer (some ⟨B,0,none⟩)) w:=by kernel_rfl
end

theorem yU.dir17 {W w':World} {B:Nat} {p:Option Nat} {E':zl} {F:Nat→Prop} (hF:∀ i,F i↔(i=B∨p=some i)) (h:yU W B p E' w'):zw W (yA B) F (.old E') w':=by
 obtain ⟨p',hd,hp,ht⟩:=h
 refine ⟨fun i=>i=B∨p'=some i,⟨B,p',rfl,hd,fun _=>Iff.rfl⟩,fun i hi=>?_,ht.mono fun i _ hi=>(hF i).2 hi⟩
 rcases hi with e | e
 ·
  exact .inl ((hF i).2 (.inl e))
 ·
  exact (hp i e).imp (fun e=>(hF i).2 (.inr e)) id
theorem ye.dir17 {W w':World} {D P M G:Nat} {A A':zu} {p q pg:Option Nat} {L LM L':zl} {T:zp} {S':zo} {F:Nat→Prop} (h:ye W D P A M p q L LM G pg T) (hF:∀ i,F i↔xg D P M p q G pg T i)
  (hg:@zE (qt W D P M p q G pg T) (jM W) W D P M G A' L' S' w'):zw W (zH D) F (.new A' L' S') w':=by
 obtain ⟨p',q',LM',pg',T',n1,n2,n3,n4⟩:=h.goes17 hg
 exact ⟨fun i=>xg D P M p' q' G pg' T' i,⟨D,P,M,G,p',q',LM',pg',T',rfl,n1,n2,fun _=>Iff.rfl⟩,fun i hi=>(n3 i hi).imp (fun e=>(hF i).2 e) id,n4.mono fun i _ hi=>(hF i).2 hi⟩
def zv (W:World) (v:Value) (F:Nat→Prop) (d:D17) (kd:Nat) (a b:ByteArray) (en:Ending) (w':World):Prop :=
 ∃ A n c,en=.returned (.tuple #[.slice A n c,.int .i64 (xh d kd a.data.toList b.data.toList)])∧(xh d kd a.data.toList b.data.toList=0→n=(xI d kd a.data.toList).length∧vB w' A ((xI d kd a.data.toList).map xT)) ∧
  zw W v F (xx d kd a.data.toList b.data.toList) w'
theorem Jw.tx17 {W:World} {v:Value} {ls:List (List UInt8)} (h:Jw W v ls):∃ A c,v=.slice A ls.length c∧vB W A (ls.map xT):=by
 obtain ⟨A,c,rfl,hc⟩:=h
 refine ⟨A,c,rfl,fun hne=>?_,fun hne a ha=>?_⟩
 ·
  have h0:0<ls.length:=by
   rw [← List.length_map (f:=xT)]
   exact List.length_pos_iff.2 hne
  obtain ⟨g,hA,hg⟩:=hc 0 h0
  refine ⟨g,0,hA,World.block_lt_of_cell? W _ hg,fun j hj=>?_⟩
  obtain ⟨g2,hA2,hg2⟩:=hc j (by simpa using hj)
  rw [hA] at hA2
  injection hA2 with e
  injection e with e _
  subst e
  rw [Nat.zero_add,hg2]
  simp [tx7,xT]
 ·
  have h0:0<ls.length:=by
   rw [← List.length_map (f:=xT)]
   exact List.length_pos_iff.2 hne
  obtain ⟨g,hA,hg⟩:=hc 0 h0
  rw [ha] at hA
  injection hA with hA
  subst hA
  exact ⟨Nat.zero_le _,rfl⟩
def qz (d:D17) (a:ByteArray) (W:World) (en:Ending) (w':World):Prop :=
 ∃ A n c,en=.returned (.tuple #[.slice A n c,.int .i64 (xh d 3 a.data.toList [])])∧(xh d 3 a.data.toList []=0→n=(xI d 3 a.data.toList).length∧vB w' A ((xI d 3 a.data.toList).map xT))∧Below W.heap.size W w'
theorem ye.plain17 {W:World} {D P M G:Nat} {A:zu} {p q pg:Option Nat} {L LM:zl} {T:zp} (h:ye W D P A M p q L LM G pg T):zt (jM W) W D P M G A L (z8 T) :=
 ⟨p,q,LM,pg,T,h,rfl,fun i hi=>⟨Nat.zero_le _,fun f=>f.elim⟩,jL W,Nat.zero_le _,fun _ f=>f.elim⟩
set_option maxRecDepth 100000 in
theorem Uc (W:World) (B:Nat) (p:Option Nat) (E:zl) (F:Nat→Prop) (hd:vh W B p E) (hF:∀ i,F i↔(i=B∨p=some i)) (kd:Nat) (a b:ByteArray) (nd rl:Int) (ha:a.size≤1000) (hb:b.size≤1000) (hk:kd=0) :
  Calls Tryz.prog 307 #[yA B,.agg #[.int .u8 (kd:Int),.string a,.string b,.int .u8 nd,.int .u8 rl]] W (zv W (yA B) F (.old E) kd a b):=by
 have HC:Hid (∀ W',Below W.heap.size W W'→Calls Tryz.prog 382 #[.pointer (some ⟨B,0,none⟩),.string a,.string b] W' fun e w'=>e=.returned (.int .i64 (xh (.old E) 0 a.data.toList b.data.toList))∧zw W (yA B) F (xx (.old E) 0 a.data.toList b.data.toList) w'):=fun W' hW=>(Zw B p E a b W' (hd.later hW) (by omega) (by omega)).mono fun e w' ⟨he,hg⟩=>⟨he,(yU.dir17 hF hg).ahead hW⟩
 have HKD:=za hk
 have hmt:=VQ B
 have HB1:Hid (Below W.heap.size W (W.alloc (.cells #[.int .u8 (kd:Int),.string a,.string b,.int .u8 nd,.int .u8 rl] 47))):=ze (Below.refl _ W) _
 have q0:((kd:Int) == 0)=true:=by rw [HKD.out]; rfl
 have q1:((kd:Int) == 1)=false:=by rw [HKD.out]; rfl
 have q2:((kd:Int) == 2)=false:=by rw [HKD.out]; rfl
 have q3:((kd:Int) == 3)=false:=by rw [HKD.out]; rfl
 clear hd hF ha hb hk
 unfold zv
 have ek:kd=0:=HKD.out
 rw [show xh (.old E) kd a.data.toList b.data.toList=xh (.old E) 0 a.data.toList b.data.toList by rw [ek],show xI (.old E) kd a.data.toList=xI (.old E) 0 a.data.toList by rw [ek],show xx (.old E) kd a.data.toList b.data.toList=xx (.old E) 0 a.data.toList b.data.toList by rw [ek]]
 clear ek
 have hdt:xI (.old E) 0 a.data.toList=[]:=rfl
 rw [hdt]
 clear hdt
 generalize xh (.old E) 0 a.data.toList b.data.toList=er at *
 generalize xx (.old E) 0 a.data.toList b.data.toList=dd at *
 show Calls _ _ #[.iface 80 (.agg #[.pointer (some ⟨B,0,none⟩)]),_] _ _
 go_enter Tryz.func307,Tryz.ntmps307
 go_wp2_with fail
 generalize W.alloc (.cells #[.int .u8 (kd:Int),.string a,.string b,.int .u8 nd,.int .u8 rl] 47)=w1 at *
 with_reducible refine (HC.out _ HB1.out).mono ?_
 rintro e w2 ⟨rfl,hg⟩
 have HGO:=za hg
 clear hg HC HB1 hmt
 go_wp2
 go_ret2
 exact ⟨none,0,0,rfl,fun _=>⟨rfl,vB.none _ _⟩,HGO.out⟩
set_option maxRecDepth 100000 in
theorem Ub (W:World) (B:Nat) (p:Option Nat) (E:zl) (F:Nat→Prop) (hd:vh W B p E) (hF:∀ i,F i↔(i=B∨p=some i)) (kd:Nat) (a b:ByteArray) (nd rl:Int) (ha:a.size≤1000) (hb:b.size≤1000) (hk:kd=1) :
  Calls Tryz.prog 307 #[yA B,.agg #[.int .u8 (kd:Int),.string a,.string b,.int .u8 nd,.int .u8 rl]] W (zv W (yA B) F (.old E) kd a b):=by
 have HC:Hid (∀ W',Below W.heap.size W W'→Calls Tryz.prog 383 #[.pointer (some ⟨B,0,none⟩),.string a] W' fun e w'=>e=.returned (.int .i64 (xh (.old E) 1 a.data.toList b.data.toList))∧zw W (yA B) F (xx (.old E) 1 a.data.toList b.data.toList) w'):=fun W' hW=>(Zu B p E a W' (hd.later hW) (by omega)).mono fun e w' ⟨he,hg⟩=>⟨he,(yU.dir17 hF hg).ahead hW⟩
 have HKD:=za hk
 have hmt:=VO B
 have HB1:Hid (Below W.heap.size W (W.alloc (.cells #[.int .u8 (kd:Int),.string a,.string b,.int .u8 nd,.int .u8 rl] 47))):=ze (Below.refl _ W) _
 have q0:((kd:Int) == 0)=false:=by rw [HKD.out]; rfl
 have q1:((kd:Int) == 1)=true:=by rw [HKD.out]; rfl
 have q2:((kd:Int) == 2)=false:=by rw [HKD.out]; rfl
 have q3:((kd:Int) == 3)=false:=by rw [HKD.out]; rfl
 clear hd hF ha hb hk
 unfold zv
 have ek:kd=1:=HKD.out
 rw [show xh (.old E) kd a.data.toList b.data.toList=xh (.old E) 1 a.data.toList b.data.toList by rw [ek],show xI (.old E) kd a.data.toList=xI (.old E) 1 a.data.toList by rw [ek],show xx (.old E) kd a.data.toList b.data.toList=xx (.old E) 1 a.data.toList b.data.toList by rw [ek]]
 clear ek
 have hdt:xI (.old E) 1 a.data.toList=[]:=rfl
 rw [hdt]
 clear hdt
 generalize xh (.old E) 1 a.data.toList b.data.toList=er at *
 generalize xx (.old E) 1 a.data.toList b.data.toList=dd at *
 show Calls _ _ #[.iface 80 (.agg #[.pointer (some ⟨B,0,none⟩)]),_] _ _
 go_enter Tryz.func307,Tryz.ntmps307
 go_wp2_with fail
 generalize W.alloc (.cells #[.int .u8 (kd:Int),.string a,.string b,.int .u8 nd,.int .u8 rl] 47)=w1 at *
 with_reducible refine (HC.out _ HB1.out).mono ?_
 rintro e w2 ⟨rfl,hg⟩
 have HGO:=za hg
 clear hg HC HB1 hmt
 go_wp2
 go_ret2
 exact ⟨none,0,0,rfl,fun _=>⟨rfl,vB.none _ _⟩,HGO.out⟩
set_option maxRecDepth 100000 in
theorem Ua (W:World) (B:Nat) (p:Option Nat) (E:zl) (F:Nat→Prop) (hd:vh W B p E) (hF:∀ i,F i↔(i=B∨p=some i)) (kd:Nat) (a b:ByteArray) (nd rl:Int) (ha:a.size≤1000) (hb:b.size≤1000) (hk:kd=2) :
  Calls Tryz.prog 307 #[yA B,.agg #[.int .u8 (kd:Int),.string a,.string b,.int .u8 nd,.int .u8 rl]] W (zv W (yA B) F (.old E) kd a b):=by
 have HC:Hid (∀ W',Below W.heap.size W W'→Calls Tryz.prog 385 #[.pointer (some ⟨B,0,none⟩),.string a,.string b] W' fun e w'=>e=.returned (.int .i64 (xh (.old E) 2 a.data.toList b.data.toList))∧zw W (yA B) F (xx (.old E) 2 a.data.toList b.data.toList) w'):=fun W' hW=>(VC B p E a b W' (hd.later hW) (by omega) (by omega)).mono fun e w' ⟨he,hg⟩=>⟨he,(yU.dir17 hF hg).ahead hW⟩
 have HKD:=za hk
 have hmt:=XI B
 have HB1:Hid (Below W.heap.size W (W.alloc (.cells #[.int .u8 (kd:Int),.string a,.string b,.int .u8 nd,.int .u8 rl] 47))):=ze (Below.refl _ W) _
 have q0:((kd:Int) == 0)=false:=by rw [HKD.out]; rfl
 have q1:((kd:Int) == 1)=false:=by rw [HKD.out]; rfl
 have q2:((kd:Int) == 2)=true:=by rw [HKD.out]; rfl
 have q3:((kd:Int) == 3)=false:=by rw [HKD.out]; rfl
 clear hd hF ha hb hk
 unfold zv
 have ek:kd=2:=HKD.out
 rw [show xh (.old E) kd a.data.toList b.data.toList=xh (.old E) 2 a.data.toList b.data.toList by rw [ek],show xI (.old E) kd a.data.toList=xI (.old E) 2 a.data.toList by rw [ek],show xx (.old E) kd a.data.toList b.data.toList=xx (.old E) 2 a.data.toList b.data.toList by rw [ek]]
 clear ek
 have hdt:xI (.old E) 2 a.data.toList=[]:=rfl
 rw [hdt]
 clear hdt
 generalize xh (.old E) 2 a.data.toList b.data.toList=er at *
 generalize xx (.old E) 2 a.data.toList b.data.toList=dd at *
 show Calls _ _ #[.iface 80 (.agg #[.pointer (some ⟨B,0,none⟩)]),_] _ _
 go_enter Tryz.func307,Tryz.ntmps307
 go_wp2_with fail
 generalize W.alloc (.cells #[.int .u8 (kd:Int),.string a,.string b,.int .u8 nd,.int .u8 rl] 47)=w1 at *
 with_reducible refine (HC.out _ HB1.out).mono ?_
 rintro e w2 ⟨rfl,hg⟩
 have HGO:=za hg
 clear hg HC HB1 hmt
 go_wp2
 go_ret2
 exact ⟨none,0,0,rfl,fun _=>⟨rfl,vB.none _ _⟩,HGO.out⟩
set_option maxRecDepth 100000 in
theorem U9 (W:World) (B:Nat) (p:Option Nat) (E:zl) (F:Nat→Prop) (hd:vh W B p E) (hF:∀ i,F i↔(i=B∨p=some i)) (kd:Nat) (a b:ByteArray) (nd rl:Int) (ha:a.size≤1000) (hb:b.size≤1000) (hk:kd=3) (hlk:∀ W',Below W.heap.size W W'→Calls Tryz.prog 402 #[.agg #[.pointer (some ⟨B,0,none⟩)],.string a] W' (qz (.old E) a W')) :
  Calls Tryz.prog 307 #[yA B,.agg #[.int .u8 (kd:Int),.string a,.string b,.int .u8 nd,.int .u8 rl]] W (zv W (yA B) F (.old E) kd a b):=by
 have HC:=za hlk
 have HKD:=za hk
 have hmt:=VM B
 have HB1:Hid (Below W.heap.size W (W.alloc (.cells #[.int .u8 (kd:Int),.string a,.string b,.int .u8 nd,.int .u8 rl] 47))):=ze (Below.refl _ W) _
 have q0:((kd:Int) == 0)=false:=by rw [HKD.out]; rfl
 have q1:((kd:Int) == 1)=false:=by rw [HKD.out]; rfl
 have q2:((kd:Int) == 2)=false:=by rw [HKD.out]; rfl
 have q3:((kd:Int) == 3)=true:=by rw [HKD.out]; rfl
 have HG:Hid (∀ w',Below W.heap.size W w'→zw W (yA B) F (xx (.old E) 3 a.data.toList b.data.toList) w'):=fun w' hw=>zw.still (d:=(.old E)) ⟨B,p,rfl,hd,hF⟩ hw
 clear hd hF ha hb hk
 clear hlk
 unfold zv
 have ek:kd=3:=HKD.out
 unfold qz at HC
 rw [show xh (.old E) kd a.data.toList b.data.toList=xh (.old E) 3 a.data.toList b.data.toList by rw [ek],show xI (.old E) kd a.data.toList=xI (.old E) 3 a.data.toList by rw [ek],show xx (.old E) kd a.data.toList b.data.toList=xx (.old E) 3 a.data.toList b.data.toList by rw [ek]]
 clear ek
 rw [show xh (.old E) 3 a.data.toList b.data.toList=xh (.old E) 3 a.data.toList [] from rfl]
 generalize xI (.old E) 3 a.data.toList=tx at *
 generalize xh (.old E) 3 a.data.toList []=er at *
 generalize xx (.old E) 3 a.data.toList b.data.toList=dd at *
 show Calls _ _ #[.iface 80 (.agg #[.pointer (some ⟨B,0,none⟩)]),_] _ _
 go_enter Tryz.func307,Tryz.ntmps307
 go_wp2_with fail
 generalize W.alloc (.cells #[.int .u8 (kd:Int),.string a,.string b,.int .u8 nd,.int .u8 rl] 47)=w1 at *
 with_reducible refine (HC.out _ HB1.out).mono ?_
 rintro e w2 ⟨A5,n5,c5,rfl,ht,hbl⟩
 have HT5:=za ht
 have HGO:=za (HG.out _ (zj HB1.out hbl))
 clear ht hbl HG HC HB1 hmt
 go_wp2
 go_ret2
 exact ⟨A5,n5,c5,rfl,HT5.out,HGO.out⟩
set_option maxRecDepth 100000 in
theorem U8 (W:World) (B:Nat) (p:Option Nat) (E:zl) (F:Nat→Prop) (hd:vh W B p E) (hF:∀ i,F i↔(i=B∨p=some i)) (kd:Nat) (a b:ByteArray) (nd rl:Int) (ha:a.size≤1000) (hb:b.size≤1000) (hk:kd=4) :
  Calls Tryz.prog 307 #[yA B,.agg #[.int .u8 (kd:Int),.string a,.string b,.int .u8 nd,.int .u8 rl]] W (zv W (yA B) F (.old E) kd a b):=by
 have HC:Hid (∀ W',Below W.heap.size W W'→Calls Tryz.prog 384 #[.pointer (some ⟨B,0,none⟩),.string a] W' fun e w'=>∃ v,e=.returned (.tuple #[v,.int .i64 (xh (.old E) 4 a.data.toList b.data.toList)])∧Jw w' v (xI (.old E) 4 a.data.toList)∧Below W'.heap.size W' w'):=fun W' hW=>list7_calls B p E a W' (hd.later hW) (by omega)
 have HKD:=za hk
 have hmt:=Fj B
 have HB1:Hid (Below W.heap.size W (W.alloc (.cells #[.int .u8 (kd:Int),.string a,.string b,.int .u8 nd,.int .u8 rl] 47))):=ze (Below.refl _ W) _
 have q0:((kd:Int) == 0)=false:=by rw [HKD.out]; rfl
 have q1:((kd:Int) == 1)=false:=by rw [HKD.out]; rfl
 have q2:((kd:Int) == 2)=false:=by rw [HKD.out]; rfl
 have q3:((kd:Int) == 3)=false:=by rw [HKD.out]; rfl
 have HG:Hid (∀ w',Below W.heap.size W w'→zw W (yA B) F (xx (.old E) 4 a.data.toList b.data.toList) w'):=fun w' hw=>zw.still (d:=(.old E)) ⟨B,p,rfl,hd,hF⟩ hw
 clear hd hF ha hb hk
 unfold zv
 have ek:kd=4:=HKD.out
 rw [show xh (.old E) kd a.data.toList b.data.toList=xh (.old E) 4 a.data.toList b.data.toList by rw [ek],show xI (.old E) kd a.data.toList=xI (.old E) 4 a.data.toList by rw [ek],show xx (.old E) kd a.data.toList b.data.toList=xx (.old E) 4 a.data.toList b.data.toList by rw [ek]]
 clear ek
 generalize xI (.old E) 4 a.data.toList=tx at *
 generalize xh (.old E) 4 a.data.toList b.data.toList=er at *
 generalize xx (.old E) 4 a.data.toList b.data.toList=dd at *
 show Calls _ _ #[.iface 80 (.agg #[.pointer (some ⟨B,0,none⟩)]),_] _ _
 go_enter Tryz.func307,Tryz.ntmps307
 go_wp2_with fail
 generalize W.alloc (.cells #[.int .u8 (kd:Int),.string a,.string b,.int .u8 nd,.int .u8 rl] 47)=w1 at *
 with_reducible refine (HC.out _ HB1.out).mono ?_
 rintro e w2 ⟨v,rfl,ht,hbl⟩
 obtain ⟨A5,c5,rfl,ht5⟩:=ht.tx17
 generalize hn5:tx.length=n5 at *
 have HN5:=za hn5
 clear hn5
 have HT5:=za ht5
 have HGO:=za (HG.out _ (zj HB1.out hbl))
 clear ht ht5 hbl HG HC HB1 hmt
 go_wp2
 go_ret2
 exact ⟨A5,_,c5,rfl,fun _=>⟨HN5.out.symm,HT5.out⟩,HGO.out⟩
set_option maxRecDepth 100000 in
theorem Uh (W:World) {D P M G:Nat} {A:zu} {p q pg:Option Nat} {L LM:zl} {T:zp} (F:Nat→Prop) (hd:ye W D P A M p q L LM G pg T) (hgo:zn A L (z8 T) 12) (hF:∀ i,F i↔xg D P M p q G pg T i) (kd:Nat) (a b:ByteArray) (nd rl:Int) (ha:a.size≤1000) (hb:b.size≤1000) (hk:kd=0) :
  Calls Tryz.prog 307 #[zH D,.agg #[.int .u8 (kd:Int),.string a,.string b,.int .u8 nd,.int .u8 rl]] W (zv W (zH D) F (.new A L (z8 T)) kd a b):=by
 have HC:Hid (∀ W',Below W.heap.size W W'→Calls Tryz.prog 313 #[.pointer (some ⟨D,0,none⟩),.string a,.string b] W' fun e w'=>e=.returned (.int .i64 (xh (.new A L (z8 T)) 0 a.data.toList b.data.toList))∧zw W (zH D) F (xx (.new A L (z8 T)) 0 a.data.toList b.data.toList) w'):=fun W' hW=>by
  have h:=hd.later hW
  letI:Fr11:=qt W' D P M p q G pg T
  exact (U6 a b h.all17 hgo (by omega) (by omega)).mono fun e w' ⟨he,hg⟩=>⟨he,(h.dir17 hF hg).ahead hW⟩
 have HKD:=za hk
 have hmt:=VR D
 have HB1:Hid (Below W.heap.size W (W.alloc (.cells #[.int .u8 (kd:Int),.string a,.string b,.int .u8 nd,.int .u8 rl] 47))):=ze (Below.refl _ W) _
 have q0:((kd:Int) == 0)=true:=by rw [HKD.out]; rfl
 have q1:((kd:Int) == 1)=false:=by rw [HKD.out]; rfl
 have q2:((kd:Int) == 2)=false:=by rw [HKD.out]; rfl
 have q3:((kd:Int) == 3)=false:=by rw [HKD.out]; rfl
 clear hd hF ha hb hk hgo
 unfold zv
 have ek:kd=0:=HKD.out
 rw [show xh (.new A L (z8 T)) kd a.data.toList b.data.toList=xh (.new A L (z8 T)) 0 a.data.toList b.data.toList by rw [ek],show xI (.new A L (z8 T)) kd a.data.toList=xI (.new A L (z8 T)) 0 a.data.toList by rw [ek],show xx (.new A L (z8 T)) kd a.data.toList b.data.toList=xx (.new A L (z8 T)) 0 a.data.toList b.data.toList by rw [ek]]
 clear ek
 have hdt:xI (.new A L (z8 T)) 0 a.data.toList=[]:=rfl
 rw [hdt]
 clear hdt
 generalize xh (.new A L (z8 T)) 0 a.data.toList b.data.toList=er at *
 generalize xx (.new A L (z8 T)) 0 a.data.toList b.data.toList=dd at *
 show Calls _ _ #[.iface 150 (.agg #[.pointer (some ⟨D,0,none⟩)]),_] _ _
 go_enter Tryz.func307,Tryz.ntmps307
 go_wp2_with fail
 generalize W.alloc (.cells #[.int .u8 (kd:Int),.string a,.string b,.int .u8 nd,.int .u8 rl] 47)=w1 at *
 with_reducible refine (HC.out _ HB1.out).mono ?_
 rintro e w2 ⟨rfl,hg⟩
 have HGO:=za hg
 clear hg HC HB1 hmt
 go_wp2
 go_ret2
 exact ⟨none,0,0,rfl,fun _=>⟨rfl,vB.none _ _⟩,HGO.out⟩
set_option maxRecDepth 100000 in
theorem Ug (W:World) {D P M G:Nat} {A:zu} {p q pg:Option Nat} {L LM:zl} {T:zp} (F:Nat→Prop) (hd:ye W D P A M p q L LM G pg T) (hgo:zn A L (z8 T) 12) (hF:∀ i,F i↔xg D P M p q G pg T i) (kd:Nat) (a b:ByteArray) (nd rl:Int) (ha:a.size≤1000) (hb:b.size≤1000) (hk:kd=1) :
  Calls Tryz.prog 307 #[zH D,.agg #[.int .u8 (kd:Int),.string a,.string b,.int .u8 nd,.int .u8 rl]] W (zv W (zH D) F (.new A L (z8 T)) kd a b):=by
 have HC:Hid (∀ W',Below W.heap.size W W'→Calls Tryz.prog 314 #[.pointer (some ⟨D,0,none⟩),.string a] W' fun e w'=>e=.returned (.int .i64 (xh (.new A L (z8 T)) 1 a.data.toList b.data.toList))∧zw W (zH D) F (xx (.new A L (z8 T)) 1 a.data.toList b.data.toList) w'):=fun W' hW=>by
  have h:=hd.later hW
  letI:Fr11:=qt W' D P M p q G pg T
  exact (U4 a h.all17 hgo (by omega)).mono fun e w' ⟨he,hg⟩=>⟨he,(h.dir17 hF hg).ahead hW⟩
 have HKD:=za hk
 have hmt:=VP D
 have HB1:Hid (Below W.heap.size W (W.alloc (.cells #[.int .u8 (kd:Int),.string a,.string b,.int .u8 nd,.int .u8 rl] 47))):=ze (Below.refl _ W) _
 have q0:((kd:Int) == 0)=false:=by rw [HKD.out]; rfl
 have q1:((kd:Int) == 1)=true:=by rw [HKD.out]; rfl
 have q2:((kd:Int) == 2)=false:=by rw [HKD.out]; rfl
 have q3:((kd:Int) == 3)=false:=by rw [HKD.out]; rfl
 clear hd hF ha hb hk hgo
 unfold zv
 have ek:kd=1:=HKD.out
 rw [show xh (.new A L (z8 T)) kd a.data.toList b.data.toList=xh (.new A L (z8 T)) 1 a.data.toList b.data.toList by rw [ek],show xI (.new A L (z8 T)) kd a.data.toList=xI (.new A L (z8 T)) 1 a.data.toList by rw [ek],show xx (.new A L (z8 T)) kd a.data.toList b.data.toList=xx (.new A L (z8 T)) 1 a.data.toList b.data.toList by rw [ek]]
 clear ek
 have hdt:xI (.new A L (z8 T)) 1 a.data.toList=[]:=rfl
 rw [hdt]
 clear hdt
 generalize xh (.new A L (z8 T)) 1 a.data.toList b.data.toList=er at *
 generalize xx (.new A L (z8 T)) 1 a.data.toList b.data.toList=dd at *
 show Calls _ _ #[.iface 150 (.agg #[.pointer (some ⟨D,0,none⟩)]),_] _ _
 go_enter Tryz.func307,Tryz.ntmps307
 go_wp2_with fail
 generalize W.alloc (.cells #[.int .u8 (kd:Int),.string a,.string b,.int .u8 nd,.int .u8 rl] 47)=w1 at *
 with_reducible refine (HC.out _ HB1.out).mono ?_
 rintro e w2 ⟨rfl,hg⟩
 have HGO:=za hg
 clear hg HC HB1 hmt
 go_wp2
 go_ret2
 exact ⟨none,0,0,rfl,fun _=>⟨rfl,vB.none _ _⟩,HGO.out⟩
set_option maxRecDepth 100000 in
theorem Uf (W:World) {D P M G:Nat} {A:zu} {p q pg:Option Nat} {L LM:zl} {T:zp} (F:Nat→Prop) (hd:ye W D P A M p q L LM G pg T) (hgo:zn A L (z8 T) 12) (hF:∀ i,F i↔xg D P M p q G pg T i) (kd:Nat) (a b:ByteArray) (nd rl:Int) (ha:a.size≤1000) (hb:b.size≤1000) (hk:kd=2) :
  Calls Tryz.prog 307 #[zH D,.agg #[.int .u8 (kd:Int),.string a,.string b,.int .u8 nd,.int .u8 rl]] W (zv W (zH D) F (.new A L (z8 T)) kd a b):=by
 have HC:Hid (∀ W',Below W.heap.size W W'→Calls Tryz.prog 317 #[.pointer (some ⟨D,0,none⟩),.string a,.string b] W' fun e w'=>e=.returned (.int .i64 (xh (.new A L (z8 T)) 2 a.data.toList b.data.toList))∧zw W (zH D) F (xx (.new A L (z8 T)) 2 a.data.toList b.data.toList) w'):=fun W' hW=>by
  have h:=hd.later hW
  letI:Fr11:=qt W' D P M p q G pg T
  exact (Xp a b h.all17 hgo (by omega) (by omega)).mono fun e w' ⟨he,hg⟩=>⟨he,(h.dir17 hF hg).ahead hW⟩
 have HKD:=za hk
 have hmt:=XJ D
 have HB1:Hid (Below W.heap.size W (W.alloc (.cells #[.int .u8 (kd:Int),.string a,.string b,.int .u8 nd,.int .u8 rl] 47))):=ze (Below.refl _ W) _
 have q0:((kd:Int) == 0)=false:=by rw [HKD.out]; rfl
 have q1:((kd:Int) == 1)=false:=by rw [HKD.out]; rfl
 have q2:((kd:Int) == 2)=true:=by rw [HKD.out]; rfl
 have q3:((kd:Int) == 3)=false:=by rw [HKD.out]; rfl
 clear hd hF ha hb hk hgo
 unfold zv
 have ek:kd=2:=HKD.out
 rw [show xh (.new A L (z8 T)) kd a.data.toList b.data.toList=xh (.new A L (z8 T)) 2 a.data.toList b.data.toList by rw [ek],show xI (.new A L (z8 T)) kd a.data.toList=xI (.new A L (z8 T)) 2 a.data.toList by rw [ek],show xx (.new A L (z8 T)) kd a.data.toList b.data.toList=xx (.new A L (z8 T)) 2 a.data.toList b.data.toList by rw [ek]]
 clear ek
 have hdt:xI (.new A L (z8 T)) 2 a.data.toList=[]:=rfl
 rw [hdt]
 clear hdt
 generalize xh (.new A L (z8 T)) 2 a.data.toList b.data.toList=er at *
 generalize xx (.new A L (z8 T)) 2 a.data.toList b.data.toList=dd at *
 show Calls _ _ #[.iface 150 (.agg #[.pointer (some ⟨D,0,none⟩)]),_] _ _
 go_enter Tryz.func307,Tryz.ntmps307
 go_wp2_with fail
 generalize W.alloc (.cells #[.int .u8 (kd:Int),.string a,.string b,.int .u8 nd,.int .u8 rl] 47)=w1 at *
 with_reducible refine (HC.out _ HB1.out).mono ?_
 rintro e w2 ⟨rfl,hg⟩
 have HGO:=za hg
 clear hg HC HB1 hmt
 go_wp2
 go_ret2
 exact ⟨none,0,0,rfl,fun _=>⟨rfl,vB.none _ _⟩,HGO.out⟩
set_option maxRecDepth 100000 in
theorem Ue (W:World) {D P M G:Nat} {A:zu} {p q pg:Option Nat} {L LM:zl} {T:zp} (F:Nat→Prop) (hd:ye W D P A M p q L LM G pg T) (hgo:zn A L (z8 T) 12) (hF:∀ i,F i↔xg D P M p q G pg T i) (kd:Nat) (a b:ByteArray) (nd rl:Int) (ha:a.size≤1000) (hb:b.size≤1000) (hk:kd=3) (hlk:∀ W',Below W.heap.size W W'→Calls Tryz.prog 342 #[.agg #[.pointer (some ⟨D,0,none⟩)],.string a] W' (qz (.new A L (z8 T)) a W')) :
  Calls Tryz.prog 307 #[zH D,.agg #[.int .u8 (kd:Int),.string a,.string b,.int .u8 nd,.int .u8 rl]] W (zv W (zH D) F (.new A L (z8 T)) kd a b):=by
 have HC:=za hlk
 have HKD:=za hk
 have hmt:=VN D
 have HB1:Hid (Below W.heap.size W (W.alloc (.cells #[.int .u8 (kd:Int),.string a,.string b,.int .u8 nd,.int .u8 rl] 47))):=ze (Below.refl _ W) _
 have q0:((kd:Int) == 0)=false:=by rw [HKD.out]; rfl
 have q1:((kd:Int) == 1)=false:=by rw [HKD.out]; rfl
 have q2:((kd:Int) == 2)=false:=by rw [HKD.out]; rfl
 have q3:((kd:Int) == 3)=true:=by rw [HKD.out]; rfl
 have HG:Hid (∀ w',Below W.heap.size W w'→zw W (zH D) F (xx (.new A L (z8 T)) 3 a.data.toList b.data.toList) w'):=fun w' hw=>zw.still (d:=(.new A L (z8 T))) ⟨D,P,M,G,p,q,LM,pg,T,rfl,hd,rfl,hF⟩ hw
 clear hd hF ha hb hk hgo
 clear hlk
 unfold zv
 have ek:kd=3:=HKD.out
 unfold qz at HC
 rw [show xh (.new A L (z8 T)) kd a.data.toList b.data.toList=xh (.new A L (z8 T)) 3 a.data.toList b.data.toList by rw [ek],show xI (.new A L (z8 T)) kd a.data.toList=xI (.new A L (z8 T)) 3 a.data.toList by rw [ek],show xx (.new A L (z8 T)) kd a.data.toList b.data.toList=xx (.new A L (z8 T)) 3 a.data.toList b.data.toList by rw [ek]]
 clear ek
 rw [show xh (.new A L (z8 T)) 3 a.data.toList b.data.toList=xh (.new A L (z8 T)) 3 a.data.toList [] from rfl]
 generalize xI (.new A L (z8 T)) 3 a.data.toList=tx at *
 generalize xh (.new A L (z8 T)) 3 a.data.toList []=er at *
 generalize xx (.new A L (z8 T)) 3 a.data.toList b.data.toList=dd at *
 show Calls _ _ #[.iface 150 (.agg #[.pointer (some ⟨D,0,none⟩)]),_] _ _
 go_enter Tryz.func307,Tryz.ntmps307
 go_wp2_with fail
 generalize W.alloc (.cells #[.int .u8 (kd:Int),.string a,.string b,.int .u8 nd,.int .u8 rl] 47)=w1 at *
 with_reducible refine (HC.out _ HB1.out).mono ?_
 rintro e w2 ⟨A5,n5,c5,rfl,ht,hbl⟩
 have HT5:=za ht
 have HGO:=za (HG.out _ (zj HB1.out hbl))
 clear ht hbl HG HC HB1 hmt
 go_wp2
 go_ret2
 exact ⟨A5,n5,c5,rfl,HT5.out,HGO.out⟩
set_option maxRecDepth 100000 in
theorem Ud (W:World) {D P M G:Nat} {A:zu} {p q pg:Option Nat} {L LM:zl} {T:zp} (F:Nat→Prop) (hd:ye W D P A M p q L LM G pg T) (hgo:zn A L (z8 T) 12) (hF:∀ i,F i↔xg D P M p q G pg T i) (kd:Nat) (a b:ByteArray) (nd rl:Int) (ha:a.size≤1000) (hb:b.size≤1000) (hk:kd=4) :
  Calls Tryz.prog 307 #[zH D,.agg #[.int .u8 (kd:Int),.string a,.string b,.int .u8 nd,.int .u8 rl]] W (zv W (zH D) F (.new A L (z8 T)) kd a b):=by
 have HC:Hid (∀ W',Below W.heap.size W W'→Calls Tryz.prog 316 #[.pointer (some ⟨D,0,none⟩),.string a] W' fun e w'=>∃ v,e=.returned (.tuple #[v,.int .i64 (xh (.new A L (z8 T)) 4 a.data.toList b.data.toList)])∧Jw w' v (xI (.new A L (z8 T)) 4 a.data.toList)∧Below W'.heap.size W' w'):=fun W' hW=>by
  have:=QB (w0:=jM W') (w:=W') a (hd.later hW).plain17 hgo.rise hgo.few (by omega)
  rw [← qM A L (z8 T)] at this
  exact this
 have HKD:=za hk
 have hmt:=Fk D
 have HB1:Hid (Below W.heap.size W (W.alloc (.cells #[.int .u8 (kd:Int),.string a,.string b,.int .u8 nd,.int .u8 rl] 47))):=ze (Below.refl _ W) _
 have q0:((kd:Int) == 0)=false:=by rw [HKD.out]; rfl
 have q1:((kd:Int) == 1)=false:=by rw [HKD.out]; rfl
 have q2:((kd:Int) == 2)=false:=by rw [HKD.out]; rfl
 have q3:((kd:Int) == 3)=false:=by rw [HKD.out]; rfl
 have HG:Hid (∀ w',Below W.heap.size W w'→zw W (zH D) F (xx (.new A L (z8 T)) 4 a.data.toList b.data.toList) w'):=fun w' hw=>zw.still (d:=(.new A L (z8 T))) ⟨D,P,M,G,p,q,LM,pg,T,rfl,hd,rfl,hF⟩ hw
 clear hd hF ha hb hk hgo
 unfold zv
 have ek:kd=4:=HKD.out
 rw [show xh (.new A L (z8 T)) kd a.data.toList b.data.toList=xh (.new A L (z8 T)) 4 a.data.toList b.data.toList by rw [ek],show xI (.new A L (z8 T)) kd a.data.toList=xI (.new A L (z8 T)) 4 a.data.toList by rw [ek],show xx (.new A L (z8 T)) kd a.data.toList b.data.toList=xx (.new A L (z8 T)) 4 a.data.toList b.data.toList by rw [ek]]
 clear ek
 generalize xI (.new A L (z8 T)) 4 a.data.toList=tx at *
 generalize xh (.new A L (z8 T)) 4 a.data.toList b.data.toList=er at *
 generalize xx (.new A L (z8 T)) 4 a.data.toList b.data.toList=dd at *
 show Calls _ _ #[.iface 150 (.agg #[.pointer (some ⟨D,0,none⟩)]),_] _ _
 go_enter Tryz.func307,Tryz.ntmps307
 go_wp2_with fail
 generalize W.alloc (.cells #[.int .u8 (kd:Int),.string a,.string b,.int .u8 nd,.int .u8 rl] 47)=w1 at *
 with_reducible refine (HC.out _ HB1.out).mono ?_
 rintro e w2 ⟨v,rfl,ht,hbl⟩
 obtain ⟨A5,c5,rfl,ht5⟩:=ht.tx17
 generalize hn5:tx.length=n5 at *
 have HN5:=za hn5
 clear hn5
 have HT5:=za ht5
 have HGO:=za (HG.out _ (zj HB1.out hbl))
 clear ht ht5 hbl HG HC HB1 hmt
 go_wp2
 go_ret2
 exact ⟨A5,_,c5,rfl,fun _=>⟨HN5.out.symm,HT5.out⟩,HGO.out⟩
end Go.Proofs.YteegkoicalbkbaaGreatDoor
namespace Go.Proofs.YteegkoicalbkbaaGreatDoor
open Go.RowKit
section
variable {P:Program} (w:World)
theorem ZM (t tx ty e:TypeId) (i:TypeInfo) (z:Value) (size bytes:Nat) (ht:P.underlying t=some (.slice e)) (hi:P.info? e=some i) (hz:i.zero=some z)
  (hsize:i.size=size) (hby:i.bytes=bytes) (hzs:z.cells.size=size)
  (g n:Nat) (xs:List Value) (hown:w.ownsRow 0 e size (.slice (some ⟨g,0,none⟩) n n) n xs) (x:Value) (m:Nat) (news:List Value) (hs:Src P size tx x m news w)
  (h63:n+m≤maxLen) (hbytes:(n+m) * bytes≤140737488355328) :
  ∃ A c w',(Builtin.append_ #[t,tx] ty #[.slice (some ⟨g,0,none⟩) n n,x]).run P w=.ok (.slice A (n+m) c) w'∧w'.ownsRow 0 e size (.slice A (n+m) c) (n+m) (xs++news)∧Below w.heap.size w w':=by
 subst hsize
 subst hby
 by_cases hm:m=0
 ·
  subst hm
  have hn:news=[]:=List.eq_nil_of_length_eq_zero (by simpa using hs.newsLen)
  subst hn
  refine ⟨some ⟨g,0,none⟩,n,w,?_,?_,Below.refl _ _⟩
  ·
   have hst:∀ a,(storeCells a []).run P w=.ok () w:=fun a=>rfl
   rcases hs.kind with ⟨e',hk⟩ | hk <;> simp [Builtin.append_,run_underlying ht,run_underlying hk,sizeOf,typeInfo,hi,hs.len,hs.cells,Addr.add_lit,hst]
  ·
   rw [List.append_nil]
   exact hown
 ·
  have hlen:(xs++news).length=(n+m) * i.size:=by rw [List.length_append,hown.1,hs.newsLen,Nat.add_mul]
  have hsmall:((n+m:Nat):Int)≤9223372036854775807:=by simp only [maxLen] at h63; omega
  have holds:∀ j u,xs[j]? = some u→w.drew.cell? ((⟨g,0,none⟩:Addr).add j)=some u:=hown.cells (g:=g) rfl
  have hr:=run_append_grow_src (P:=P) w t tx ty e i z ht hi hz (some ⟨g,0,none⟩) n n xs (run_firstCells_some w.drew i.size n ⟨g,0,none⟩ n n xs hown.1 holds) x m news hs (by omega) hsmall (growslice_fits (by omega) hbytes)
  have hge:=grownCap_ge w (n+m) n e
  have hcm:grownCap w (n+m) n e≤maxLen:=grownCap_le_maxLen w (n+m) n e h63
  refine ⟨_,_,_,hr,⟨hlen,.inr ⟨w.heap.size,_,_,rfl,Nat.zero_le _,heap_alloc_new w.drew _,hge,hcm,?_,?_⟩⟩,⟨rfl,rfl,rfl,by simp,fun k hk=>Below.heap_alloc w.drew _ k hk⟩⟩
  ·
   simp only [Array.size_append,List.size_toArray,size_zeroCells,hzs,hlen,← Nat.add_mul]
   congr 1
   omega
  ·
   rw [Array.toList_append,← hlen]
   exact List.take_left
theorem Z7 {ops:Array Oper} {o:Oper} {a:Act} {K:Act→World→Prop} {Q:Exit→Act→World→Prop} {E:Prop} (hgd:o.guard=none) (s x:Operand) (t tx:TypeId)
  (ho:o.op=.call { callee:=.builtin .append,args:=#[s,x],argTypes:=#[t,tx] })
  (e:TypeId) (i:TypeInfo) (z:Value) (size bytes:Nat) (ht:P.underlying t=some (.slice e)) (hi:P.info? e=some i) (hz:i.zero=some z)
  (hsize:i.size=size) (hby:i.bytes=bytes) (hzs:z.cells.size=size)
  (g n:Nat) (xs:List Value) (hv:a.eval s=.slice (some ⟨g,0,none⟩) n n) (hown:w.ownsRow 0 e size (.slice (some ⟨g,0,none⟩) n n) n xs) (y:Value) (m:Nat) (news:List Value) (hx:a.eval x=y) (hs:Src P size tx y m news w)
  (h63:n+m≤maxLen) (hbytes:(n+m) * bytes≤140737488355328)
  (h:∀ A c w',w'.ownsRow 0 e size (.slice A (n+m) c) (n+m) (xs++news)→Below w.heap.size w w'→K (a.put o.dst (.slice A (n+m) c)) w') :
  if Region.wanted o (yielded ops a.tmps)=true then Oper.wp P o a w K Q else E:=by
 have hw:Region.wanted o (yielded ops a.tmps)=true:=by simp [Region.wanted,hgd]
 rw [if_pos hw]
 obtain ⟨A,c,w',hr,h2,h3⟩:=ZM (P:=P) w t tx o.type e i z size bytes ht hi hz hsize hby hzs g n xs hown y m news hs h63 hbytes
 unfold Oper.wp execOp
 simp only [ho,resolve,invoke,builtin,Sem.run_bind,Sem.run_pure,Result.andThen_ok,List.map_toArray,List.map_cons,List.map_nil,hv,hx,hr]
 exact h A c w' h2 h3
end


section
variable {w w':World} {D:Nat} {V:Int} {e u1 u2:Value} {U:Nat→R15} {L:List UInt8}
end
end Go.Proofs.YteegkoicalbkbaaGreatDoor
namespace Go.Proofs.YteegkoicalbkbaaGreatDoor
open Go.RowKit Go.Maps


end Go.Proofs.YteegkoicalbkbaaGreatDoor
namespace Go.Proofs.YteegkoicalbkbaaGreatDoor
open Go.RowKit Go.Maps
set_option linter.unusedVariables false

set_option maxRecDepth 100000 in
theorem JM (b:Bool) (w:World):Calls Tryz.prog 356 #[.bool b] w (zC (.string (if b then ⟨#[49]⟩ else ⟨#[48]⟩)) w):=by
 cases b with
 | true =>
  go_enter Tryz.func356,Tryz.ntmps356
  go_wp2
  go_ret
  exact ⟨rfl,Below.refl _ _⟩
 | false =>
  go_enter Tryz.func356,Tryz.ntmps356
  go_wp2
  go_ret
  exact ⟨rfl,Below.refl _ _⟩
theorem tx17_one (W:World) (s:ByteArray):vB (W.alloc (.cells #[.string s] 9)) (some ⟨W.heap.size,0,none⟩) [s]:=by
 refine ⟨fun _=>⟨W.heap.size,0,rfl,by simp,fun j hj=>?_⟩,fun _ a ha=>?_⟩
 ·
  have h0:j=0:=by simpa using hj
  subst h0
  rw [cell_of_row _ _ _ _ _ (0,0) (heap_alloc_new W _)]
  rfl
 ·
  injection ha with ha
  subst ha
  exact ⟨Nat.zero_le _,rfl⟩
set_option maxRecDepth 100000 in
theorem oldLookup17 (W:World) (B:Nat) (p:Option Nat) (E:zl) (hd:vh W B p E) (a:ByteArray) (ha:a.size≤1000) :
  Calls Tryz.prog 402 #[.agg #[.pointer (some ⟨B,0,none⟩)],.string a] W (qz (.old E) a W):=by
 have hb1:=ze (Below.refl _ W) (.cells #[.pointer (some ⟨B,0,none⟩)] 80)
 have HL:=za (Zh B p E a (W.alloc (.cells #[.pointer (some ⟨B,0,none⟩)] 80)) (hd.later hb1) (by omega))
 have HB1:=za hb1
 have HT:Hid (([tx7 (loS E a.data.toList)]:List ByteArray)=(xI (.old E) 3 a.data.toList).map xT∧1=(xI (.old E) 3 a.data.toList).length):=⟨rfl,rfl⟩
 unfold qz
 show Calls _ _ _ _ fun en w'=>∃ A n c,en=.returned (.tuple #[.slice A n c,.int .i64 (deE E a.data.toList)])∧(deE E a.data.toList=0→n=(xI (.old E) 3 a.data.toList).length∧vB w' A ((xI (.old E) 3 a.data.toList).map xT))∧Below W.heap.size W w'
 rw [← HT.out.1,← HT.out.2]
 generalize tx7 (loS E a.data.toList)=s at *
 generalize deE E a.data.toList=er at *
 clear hb1 hd ha HT
 go_enter Tryz.func402,Tryz.ntmps402
 go_wp2_with fail
 generalize W.alloc (.cells #[.pointer (some ⟨B,0,none⟩)] 80)=w1 at *
 with_reducible refine HL.out.mono ?_
 rintro e w2 ⟨rfl,hb⟩
 have HB2:=za (zj HB1.out hb)
 clear hb HB1 HL
 go_wp2
 go_ret2
 exact ⟨_,1,1,rfl,fun _=>⟨rfl,tx17_one w2 s⟩,ze HB2.out _⟩
set_option maxRecDepth 100000 in
theorem newFind17 (W:World) {D P M G:Nat} {A:zu} {p q pg:Option Nat} {L LM:zl} {T:zp} (hd:ye W D P A M p q L LM G pg T) (a:ByteArray) (ha:a.size≤1000) (h5:vY W) :
  Calls Tryz.prog 352 #[.agg #[.pointer (some ⟨D,0,none⟩)],.string a] W fun en w'=>∃ A',en=.returned (.tuple #[.slice A' 1 1,.int .i64 (fiE9 L a.data.toList)])∧vB w' A' [tx7 (fiS9 L a.data.toList)]∧Below W.heap.size W w':=by
 have hb1:=ze (Below.refl _ W) (.cells #[.pointer (some ⟨D,0,none⟩)] 150)
 have HL:=za (QC (w0:=jM (W.alloc (.cells #[.pointer (some ⟨D,0,none⟩)] 150))) a (hd.later hb1).plain17 (by omega) (h5.later hb1))
 have HB1:=za hb1
 generalize tx7 (fiS9 L a.data.toList)=s at *
 generalize fiE9 L a.data.toList=er at *
 clear hb1 hd ha h5
 go_enter Tryz.func352,Tryz.ntmps352
 go_wp2_with fail
 generalize W.alloc (.cells #[.pointer (some ⟨D,0,none⟩)] 150)=w1 at *
 with_reducible refine HL.out.mono ?_
 rintro e w2 ⟨rfl,hb⟩
 have HB2:=za (zj HB1.out hb)
 clear hb HB1 HL
 go_wp2
 go_ret2
 exact ⟨_,rfl,tx17_one w2 s,ze HB2.out _⟩

/-! ### one user of the second schema -/
def YLk17 (B:Nat) (t s m off:ByteArray) (d:Bool) (ga:Option Addr) (gn gc:Nat) (cs:List Value) (er:Int):Nat→Value→World→Prop
 | 0,v,_=>v=.pointer (some ⟨B,1,none⟩)
 | 1,v,_=>v=.string s
 | 2,v,_=>v=.pointer (some ⟨B,2,none⟩)
 | 3,v,_=>v=.string m
 | 4,v,_=>v=.pointer (some ⟨B,3,none⟩)
 | 5,v,_=>v=.bool d
 | 6,v,_=>v=.string off
 | 7,v,W=>∃ g,v=.slice (some ⟨g,0,none⟩) 3 3∧W.ownsRow 0 9 1 (.slice (some ⟨g,0,none⟩) 3 3) 3 [.string s,.string m,.string off]
 | 8,v,_=>v=.pointer (some ⟨B,4,none⟩)
 | 9,v,_=>v=.slice ga gn gc
 | 10,v,W=>∃ A c,v=.slice A (3+gn) c∧W.ownsRow 0 9 1 (.slice A (3+gn) c) (3+gn) ([.string s,.string m,.string off]++cs)
 | 11,v,_=>v=.int .i64 er
 | 12,v,W=>∃ A c,v=.slice A (3+gn) c∧W.ownsRow 0 9 1 (.slice A (3+gn) c) (3+gn) ([.string s,.string m,.string off]++cs)
 | 13,v,_=>v=.int .i64 er
 | _,_,_=>True
theorem Yk {B:Nat} {t:ByteArray} {s:ByteArray} {m:ByteArray} {off:ByteArray} {d:Bool} {ga:Option Addr} {gn:Nat} {gc:Nat} {cs:List Value} {er:Int} {W W':World} (hb:Below W.heap.size W W') (j:Nat) (z:Value) (h:YLk17 B t s m off d ga gn gc cs er j z W):YLk17 B t s m off d ga gn gc cs er j z W':=by
 match j,h with
 | 0,h=>exact h
 | 1,h=>exact h
 | 2,h=>exact h
 | 3,h=>exact h
 | 4,h=>exact h
 | 5,h=>exact h
 | 6,h=>exact h
 | 7,h=>exact by obtain ⟨g,h1,h2⟩:=h; exact ⟨g,h1,(vC hb).owns h2 (fun _ _ f=>f)⟩
 | 8,h=>exact h
 | 9,h=>exact h
 | 10,h=>exact by obtain ⟨A,c,h1,h2⟩:=h; exact ⟨A,c,h1,(vC hb).owns h2 (fun _ _ f=>f)⟩
 | 11,h=>exact h
 | 12,h=>exact by obtain ⟨A,c,h1,h2⟩:=h; exact ⟨A,c,h1,(vC hb).owns h2 (fun _ _ f=>f)⟩
 | 13,h=>exact h
 | _+14,h=>exact h

def Us17 (W:World) (B:Nat) (t s m:ByteArray) (d:Bool) (g:Value):Prop:=W.heap[B]? = some (.cells #[.string t,.string s,.string m,.bool d,g] 192 (0,0))
section
variable {W W':World} {B:Nat} {t s m:ByteArray} {d:Bool} {g:Value}
theorem Us17.later (h:Us17 W B t s m d g) (hb:Below W.heap.size W W'):Us17 W' B t s m d g:=(hb.block B (Array.getElem?_eq_some_iff.1 h).1).trans h
theorem Us17.c1 (h:Us17 W B t s m d g):W.cell? ⟨B,1,none⟩=some (.string s):=by rw [cell_of_row W B 1 _ _ (0,0) h]; rfl
theorem Us17.c2 (h:Us17 W B t s m d g):W.cell? ⟨B,2,none⟩=some (.string m):=by rw [cell_of_row W B 2 _ _ (0,0) h]; rfl
theorem Us17.c3 (h:Us17 W B t s m d g):W.cell? ⟨B,3,none⟩=some (.bool d):=by rw [cell_of_row W B 3 _ _ (0,0) h]; rfl
theorem Us17.c4 (h:Us17 W B t s m d g):W.cell? ⟨B,4,none⟩=some g:=by rw [cell_of_row W B 4 _ _ (0,0) h]; rfl
end
theorem JW {W:World} {A:Option Addr} {n c:Nat} {ss:List ByteArray} (h:W.ownsRow 0 9 1 (.slice A n c) n (ss.map Value.string)) (hn:n=ss.length):vB W A ss:=by
 subst hn
 refine ⟨jU h,fun hne a ha=>?_⟩
 rcases h.2 with ⟨e,h0⟩ | ⟨g,cap,cur,e,_⟩
 ·
  injection e with e
  rw [ha] at e
  cases e
 ·
  injection e with e
  rw [ha] at e
  injection e with e
  subst e
  exact ⟨Nat.zero_le _,rfl⟩
theorem look17 {A:zu} {L:zl} {S:zo} {n:ByteArray} {w W:World} {v:Value} (h:Look11 A L S n w W v) :
  ∃ t s m d ga gc gs,v=.agg #[.string t,.string s,.string m,.bool d,.slice ga gs.length gc]∧NmR W (.slice ga gs.length gc) gs ∧
   (xY A n.data.toList=0→s=yf (qK A n.data.toList)∧m=yf (yM L n.data.toList)∧d=uj A n.data.toList∧gs=xc S n.data.toList)∧(xY A n.data.toList≠0→gs=[]):=by
 by_cases h0:xY A n.data.toList=0
 ·
  obtain ⟨ga,gc,e,hr⟩:=h.1 h0
  exact ⟨_,_,_,_,ga,gc,_,e,zy hr (Nat.zero_le _),fun _=>⟨rfl,rfl,rfl,rfl⟩,fun e=>absurd h0 e⟩
 ·
  exact ⟨_,_,_,_,none,0,[],h.2 h0,World.ownsRow_nil W 0 _ _,fun e=>absurd e h0,fun _=>rfl⟩
theorem us17_get {A:zu} {L:zl} {S:zo} (hr:zG A) {n:List UInt8} (h:xY A n=0):nT17 3 A L S n=[qK A n,yM L n,if uj A n then [49] else [48]]++xc S n:=by
 have h1:=(deF_zero h).2
 obtain ⟨a,ha⟩:=je h1
 show (match qn (zm A L S) n with
  | some u=>us17 u
  | none=>[])=_
 rw [yH hr,ha]
 show us17 (xP L S n a)=_
 unfold us17 xP qK uj
 rw [ha]
set_option maxRecDepth 100000 in
theorem newLookup17 (W:World) {D P M G:Nat} {A:zu} {p q pg:Option Nat} {L LM:zl} {T:zp} (hd:ye W D P A M p q L LM G pg T) (hg:zn A L (z8 T) 12) (a:ByteArray) (ha:a.size≤1000) :
  Calls Tryz.prog 342 #[.agg #[.pointer (some ⟨D,0,none⟩)],.string a] W (qz (.new A L (z8 T)) a W):=by
 have hb1:=ze (Below.refl _ W) (.cells #[.pointer (some ⟨D,0,none⟩)] 150)
 have HL:=za (VT (w0:=jM (W.alloc (.cells #[.pointer (some ⟨D,0,none⟩)] 150))) a (hd.later hb1).plain17 hg.grp (by omega))
 have HB1:=za hb1
 have HZ:Hid (∀ w0 w5 v,Look11 A L (z8 T) a w0 w5 v→∃ t s m d ga gc gs,v=.agg #[.string t,.string s,.string m,.bool d,.slice ga gs.length gc]∧NmR w5 (.slice ga gs.length gc) gs∧gs.length≤1000 ∧
   (xY A a.data.toList=0→[s,m,if d then ⟨#[49]⟩ else ⟨#[48]⟩]++gs.map xT=(xI (.new A L (z8 T)) 3 a.data.toList).map xT)):=fun w0 w5 v h=>by
  obtain ⟨t,s,m,d,ga,gc,gs,e,hn,h1,h2⟩:=look17 h
  refine ⟨t,s,m,d,ga,gc,gs,e,hn,?_,fun h0=>?_⟩
  ·
   by_cases h0:xY A a.data.toList=0
   ·
    rw [(h1 h0).2.2.2]
    have:=ZV (z8 T) a.data.toList
    have:=hg.grp.few
    omega
   ·
    rw [h2 h0]; exact Nat.zero_le _
  ·
   obtain ⟨e1,e2,e3,e4⟩:=h1 h0
   show _=(nT17 3 A L (z8 T) a.data.toList).map xT
   rw [us17_get hg.rise h0,e1,e2,e3,e4,List.map_append]
   cases uj A a.data.toList <;> rfl
 unfold qz
 show Calls _ _ _ _ fun en w'=>∃ A' n c,en=.returned (.tuple #[.slice A' n c,.int .i64 (xY A a.data.toList)])∧(xY A a.data.toList=0→n=(xI (.new A L (z8 T)) 3 a.data.toList).length∧vB w' A' ((xI (.new A L (z8 T)) 3 a.data.toList).map xT))∧Below W.heap.size W w'
 generalize xI (.new A L (z8 T)) 3 a.data.toList=tx at *
 have HEE:Hid (∃ er:Int,er=xY A a.data.toList):=⟨_,rfl⟩
 generalize xY A a.data.toList=er at *
 clear hb1 hd ha hg HEE
 obtain ⟨i0,hi,hz0,hz1,hz2⟩:=info_parts Zm
 go_enter Tryz.func342,Tryz.ntmps342
 go_wp2_with fail
 generalize W.alloc (.cells #[.pointer (some ⟨D,0,none⟩)] 150)=w1 at *
 with_reducible refine HL.out.mono ?_
 rintro e w2 ⟨v,rfl,hlk,hb⟩
 obtain ⟨t,s,m,d,ga,gc,gs,rfl,hnm,hgl,htx⟩:=HZ.out _ _ _ hlk
 have HTX:=za htx
 have HB3:Hid (Below W.heap.size W (w2.alloc (.cells #[.string t,.string s,.string m,.bool d,.slice ga gs.length gc] 192))):=ze (zj HB1.out hb) _
 have HX:Hid (Us17 (w2.alloc (.cells #[.string t,.string s,.string m,.bool d,.slice ga gs.length gc] 192)) w2.heap.size t s m d (.slice ga gs.length gc)):=heap_alloc_new w2 _
 have HSR:Hid (∀ W',Below (w2.alloc (.cells #[.string t,.string s,.string m,.bool d,.slice ga gs.length gc] 192)).heap.size (w2.alloc (.cells #[.string t,.string s,.string m,.bool d,.slice ga gs.length gc] 192)) W'→Src Tryz.prog 1 29 (.slice ga gs.length gc) gs.length (gs.map encStr) W'):=fun W' hW=>(hnm.later (zj (ze (Below.refl _ _) _) hW)).src
 have HGL:=za hgl
 clear htx hlk hnm hb HL HB1 HZ hgl
 have HS:=za (fun W=>JM d W)
 generalize hoff:(if d then (⟨#[49]⟩:ByteArray) else ⟨#[48]⟩)=off at *
 have HTX2:Hid (er=0→([s,m,off]++gs.map xT)=tx.map xT):=HTX.out
 have HGS:Hid ((gs.map encStr)=(gs.map xT).map Value.string∧(gs.map xT).length=gs.length):=by
  refine ⟨?_,List.length_map _⟩
  rw [List.map_map]
  apply List.map_congr_left
  intro x _
  simp [encStr,xT]
 clear hoff HTX
 generalize gs.map encStr=cs at *
 generalize gs.map xT=gt at *
 generalize gs.length=gn at *
 go_wp2_with fail
 generalize (w2.alloc (.cells #[.string t,.string s,.string m,.bool d,.slice ga gn gc] 192))=w3 at *
 generalize w2.heap.size=B at *
 refine Q8 (by kernel_rfl) (YLk17 B t s m off d ga gn gc cs er) (fun _ W=>Below w3.heap.size w3 W) ?F ?hF (by kernel_rfl) (by kernel_rfl) (qf (Below.refl _ _)) ?step ?fin
 case hF =>
  intro x
  simp only [List.map_cons,List.map_nil,xU,Act.put,List.setIfInBounds_toArray,List.set_cons_zero,List.set_cons_succ,Nat.zero_add,Nat.reduceAdd]
  exact rfl
 case step =>
  refine ⟨?_,?_,?_,?_,?_,?_,?_,?_,?_,?_,?_,?_,?_,?_,trivial⟩
  all_goals intro L x W hLi hLL hW hdep K hK
  all_goals clear hLi hLL
  ·
   clear hdep
   go_simp
   exact hK _ _ rfl hW (fun _ _ h=>h)
  ·
   have h0:x 0=_:=hdep 0 rfl
   have c:=(HX.out.later hW).c1
   clear hdep
   simp only [h0] at hK
   go_simp
   exact hK _ _ rfl hW (fun _ _ h=>h)
  ·
   clear hdep
   go_simp
   exact hK _ _ rfl hW (fun _ _ h=>h)
  ·
   have h2:x 2=_:=hdep 2 rfl
   have c:=(HX.out.later hW).c2
   clear hdep
   simp only [h2] at hK
   go_simp
   exact hK _ _ rfl hW (fun _ _ h=>h)
  ·
   clear hdep
   go_simp
   exact hK _ _ rfl hW (fun _ _ h=>h)
  ·
   have h4:x 4=_:=hdep 4 rfl
   have c:=(HX.out.later hW).c3
   clear hdep
   simp only [h4] at hK
   go_simp
   exact hK _ _ rfl hW (fun _ _ h=>h)
  ·
   have h5:x 5=_:=hdep 5 rfl
   have hc:=HS.out W
   clear hdep
   simp only [h5] at hK
   go_simp
   refine hc.mono ?_
   rintro e W' ⟨rfl,hb⟩
   exact hK _ _ rfl (zj hW hb) (fun j _ h=>Yk hb j _ h)
  ·
   have h1:x 1=_:=hdep 1 rfl
   have h3:x 3=_:=hdep 3 rfl
   have h6:x 6=_:=hdep 6 rfl
   clear hdep
   simp only [h1,h3,h6] at hK
   go_simp
   exact hK _ _ ⟨W.heap.size,rfl,World.ownsRow_lit (base:=0) (e:=9) (size:=1) W #[.string s,.string m,.string off] 3 (Nat.zero_le _) (by decide) rfl⟩ (ze hW _) (fun j _ h=>Yk (ze (Below.refl _ _) _) j _ h)
  ·
   clear hdep
   go_simp
   exact hK _ _ rfl hW (fun _ _ h=>h)
  ·
   have h8:x 8=_:=hdep 8 rfl
   have c:=(HX.out.later hW).c4
   clear hdep
   simp only [h8] at hK
   go_simp
   exact hK _ _ rfl hW (fun _ _ h=>h)
  ·
   obtain ⟨g,h7,ho⟩:=hdep 7 rfl
   have h9:x 9=_:=hdep 9 rfl
   have hsr:=HSR.out W hW
   refine Z7 W (by rfl) (.tmp 22) (.tmp 24) 29 29 (by rfl) 9 i0 _ 1 16 Tryz.underlying29 hi hz0 hz1 hz2 rfl g 3 [.string s,.string m,.string off] h7 ho (.slice ga gn gc) gn cs h9 hsr (by have:=HGL.out; simp only [maxLen]; omega) (by have:=HGL.out; omega) ?_
   intro A5 c5 W5 h5 hb5
   exact hK _ _ ⟨A5,c5,rfl,h5⟩ (zj hW hb5) (fun j _ h=>Yk hb5 j _ h)
  ·
   clear hdep
   go_simp
   exact hK _ _ rfl hW (fun _ _ h=>h)
  ·
   obtain ⟨A5,c5,h10,ho⟩:=hdep 10 rfl
   have HHO:=za ho
   clear ho
   clear hdep
   simp only [h10] at hK
   go_simp
   exact hK _ _ ⟨A5,c5,rfl,HHO.out⟩ hW (fun _ _ h=>h)
  ·
   have h11:x 11=_:=hdep 11 rfl
   clear hdep
   simp only [h11] at hK
   go_simp
   exact hK _ _ rfl hW (fun _ _ h=>h)
 case fin =>
  intro L x W _ hW hY
  obtain ⟨A5,c5,h12,ho⟩:=hY 12 (by decide)
  have h13:x 13=_:=hY 13 (by decide)
  have HHO:=za ho
  have HBW:=za (zj HB3.out hW)
  clear hY ho hW
  simp only [h12,h13]
  go_wp2
  go_ret2
  refine ⟨A5,3+gn,c5,rfl,fun h0=>?_,HBW.out⟩
  have e:=HTX2.out h0
  have hn:3+gn=tx.length:=by
   have:=congrArg List.length e
   rw [List.length_append,HGS.out.2,List.length_map] at this
   simpa using this
  refine ⟨hn,?_⟩
  rw [← e]
  refine JW (n:=3+gn) (c:=c5) ?_ (by rw [List.length_append,HGS.out.2]; rfl)
  rw [List.map_append,← HGS.out.1]
  exact HHO.out
end Go.Proofs.YteegkoicalbkbaaGreatDoor
