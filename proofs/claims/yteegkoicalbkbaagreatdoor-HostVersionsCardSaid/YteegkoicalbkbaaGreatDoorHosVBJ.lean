/-
  The texts that the laws of this seat share, part 10: what the code and the document's own answers tell, walked function by function.
  Conditions: each theorem's own.
-/
import Derived.WideKeyPair
import Derived.WideKeyMaps2
import Derived.Deep.MidRow
import Derived.Test.YteegkoicalbkbaaGreatDoorHosVBI
set_option maxHeartbeats 16000000
set_option linter.unusedVariables false
namespace Go.Proofs.YteegkoicalbkbaaGreatDoor
open Go.RowKit

structure R15 where
 n:Nat
 e:Nat
 A:Option Addr
 c:Nat
 ss:List ByteArray
def R15.cell (r:R15):Nat→Value
 | 0=>.int .u64 r.n
 | 1=>.int .i64 r.e
 | _=>.slice r.A r.ss.length r.c
def R15.v (r:R15):Value:=.agg #[.int .u64 r.n,.int .i64 r.e,.slice r.A r.ss.length r.c]
def uw:R15:=⟨0,0,none,0,[]⟩
def Y8 (T:Nat→R15):Array Value:=((List.range 24).map fun k=>(T (k / 3)).cell (k % 3)).toArray
def FP (T:Nat→R15) (i:Nat) (r:R15):Nat→R15:=fun j=>if j=i then r else T j
theorem fT (T:Nat→R15):(Y8 T).size=24:=by simp [Y8]
theorem YE (T:Nat→R15) (k:Nat) (hk:k<24):(Y8 T)[k]? = some ((T (k / 3)).cell (k % 3)):=by simp [Y8,hk]
theorem tabA_at (T:Nat→R15) (i j:Nat) (hi:i<8) (hj:j<3):(Y8 T)[i * 3+j]? = some ((T i).cell j):=by
 rw [YE T _ (by omega),show (i * 3+j) / 3=i by omega,show (i * 3+j) % 3=j by omega]
theorem tabA_set (T:Nat→R15) (i:Nat) (r:R15) (hi:i<8) :
  (((Y8 T).setIfInBounds (i * 3) (r.cell 0)).setIfInBounds (i * 3+1) (r.cell 1)).setIfInBounds (i * 3+2) (r.cell 2)=Y8 (FP T i r):=by
 apply Array.ext
 ·
  simp [Y8]
 ·
  intro k h1 h2
  have hk:k<24:=by simpa [Y8] using h2
  have e2:(Y8 (FP T i r))[k]? = some ((FP T i r (k / 3)).cell (k % 3)):=YE _ k hk
  have e1:((((Y8 T).setIfInBounds (i * 3) (r.cell 0)).setIfInBounds (i * 3+1) (r.cell 1)).setIfInBounds (i * 3+2) (r.cell 2))[k]? = some ((FP T i r (k / 3)).cell (k % 3)):=by
   have hs:=fT T
   rw [Array.getElem?_setIfInBounds,Array.getElem?_setIfInBounds,Array.getElem?_setIfInBounds,YE T k hk]
   simp only [Array.size_setIfInBounds,hs]
   unfold FP
   by_cases hq:k / 3=i
   ·
    rw [if_pos hq]
    have:k=i * 3∨k=i * 3+1∨k=i * 3+2:=by omega
    rcases this with rfl | rfl | rfl
    ·
     rw [if_neg (by omega),if_neg (by omega),if_pos rfl,if_pos (by omega),show i * 3 % 3=0 by omega]
    ·
     rw [if_neg (by omega),if_pos rfl,if_pos (by omega),show (i * 3+1) % 3=1 by omega]
    ·
     rw [if_pos rfl,if_pos (by omega),show (i * 3+2) % 3=2 by omega]
   ·
    rw [if_neg hq,if_neg (by omega),if_neg (by omega),if_neg (by omega)]
  rw [Array.getElem?_eq_getElem h1] at e1
  rw [Array.getElem?_eq_getElem h2] at e2
  exact Option.some.inj (e1.trans e2.symm)

def qa (w:World) (B:Nat) (t:TypeId) (T:Nat→R15):Prop:=w.heap[B]? = some (.cells (Y8 T) t (0,0))
section
variable {w w':World} {B:Nat} {t:TypeId} {T:Nat→R15}
theorem qa.lt (h:qa w B t T):B<w.heap.size:=(Array.getElem?_eq_some_iff.1 h).1
theorem qa.cell (h:qa w B t T) (i j:Nat) (hi:i<8) (hj:j<3):w.cell? ⟨B,i * 3+j,none⟩=some ((T i).cell j) :=
 (cell_of_row w B _ _ t (0,0) h).trans (tabA_at T i j hi hj)
theorem qa.free (h:qa w B t T) (i:Nat):w.frozen? ⟨B,i,none⟩=false:=by unfold qa at h; simp [World.frozen?,h]
theorem qa.set (h:qa w B t T) (i:Nat) (_hi:i<8) (r:R15):qa (((w.setCell ⟨B,i * 3,none⟩ (r.cell 0)).setCell ⟨B,i * 3+1,none⟩ (r.cell 1)).setCell ⟨B,i * 3+2,none⟩ (r.cell 2)) B t (FP T i r):=by
 unfold qa at h ⊢
 rw [← tabA_set T i r _hi]
 simp [World.setCell,Array.getElem?_modify,h]
theorem qa.turns {S:Nat→Prop} (h:qa w B t T) (ht:zg S w w') (hn:¬ S B):qa w' B t T:=(ht.block B h.lt hn).trans h
theorem qa.later (h:qa w B t T) (hb:Below w.heap.size w w'):qa w' B t T:=(hb.block B h.lt).trans h
end

structure vx (w:World) (A:Option Addr) (c:Nat) (ss:List ByteArray):Prop where
 rd:RdS w A ss
 len:ss.length≤c
 cap:c≤9223372036854775807
 nil:A=none→c=0
theorem vx.later {w w':World} {A:Option Addr} {c:Nat} {ss:List ByteArray} (h:vx w A c ss) (hb:Below w.heap.size w w'):vx w' A c ss:=⟨h.rd.later14 hb,h.len,h.cap,h.nil⟩
theorem vx.none (w:World):vx w none 0 []:=⟨fun h=>absurd rfl h,Nat.le_refl _,Nat.zero_le _,fun _=>rfl⟩
def vD (P:Nat) (A:Option Addr) (ss:List ByteArray):Prop:=ss≠[]→∀ a,A=some a→P≤a.block∧a=⟨a.block,0,none⟩

def Cl15 (e:Nat) (ss:List ByteArray) (w:World) (en:Ending) (w':World):Prop :=
 ∃ A c,en=.returned (.agg #[.int .i64 e,.slice A (xU e ss).length c])∧vx w' A c (xU e ss)∧vD w.heap.size A (xU e ss)∧Below w.heap.size w w'

set_option maxRecDepth 100000 in
theorem Z9 (c:Nat) (w:World):Calls Tryz.prog 68 #[.int .u8 c] w fun e w'=>e=.returned (.bool (decide (c<8)))∧w=w':=by
 have d:decide ((c:Int)<8)=decide (c<8):=by simp; omega
 generalize decide (c<8)=b at *
 go_enter Tryz.func68,Tryz.ntmps68
 go_wp2
 go_ret
 exact ⟨rfl,rfl⟩
def QJ (n:Nat):Bool:=decide (0<n) && decide (n≤1099511627776)
set_option maxRecDepth 100000 in
theorem XJ (n:Nat) (w:World):Calls Tryz.prog 69 #[.int .u64 n] w fun e w'=>e=.returned (.bool (QJ n))∧w=w':=by
 by_cases h0:0<n
 ·
  have d0:decide ((n:Int) > 0)=true:=by simp; omega
  have d1:decide ((n:Int)≤1099511627776)=QJ n:=by unfold QJ; simp [h0]; omega
  generalize QJ n=b at *
  go_enter Tryz.func69,Tryz.ntmps69
  go_wp2
  go_ret
  exact ⟨rfl,rfl⟩
 ·
  have d0:decide ((n:Int) > 0)=false:=by simp; omega
  have e:QJ n=false:=by unfold QJ; simp [h0]
  rw [e]
  clear e
  go_enter Tryz.func69,Tryz.ntmps69
  go_wp2
  go_ret
  exact ⟨rfl,rfl⟩

def jb (T:Nat→R15) (c:Nat):R15:=if c<8 then T c else uw
theorem YV:(Tryz.prog.info? 107).map (·.size)=some 3:=by kernel_rfl
set_option maxRecDepth 100000 in
theorem U1 (B:Nat) (T:Nat→R15) (c:Nat) (w:World) (h:qa w B 123 T):Calls Tryz.prog 49 #[.pointer (some ⟨B,0,none⟩),.int .u8 c] w (zF (jb T c).v w):=by
 have HK:=za (Z9 c w)
 unfold jb R15.v
 by_cases hc:c<8
 ·
  rw [if_pos hc]
  rw [decide_eq_true hc] at HK
  have c0:=h.cell c 0 hc (by decide)
  have c1:=h.cell c 1 hc (by decide)
  have c2:=h.cell c 2 hc (by decide)
  simp only [R15.cell,Nat.add_zero] at c0 c1 c2
  have d8:decide ((c:Int)<8)=true:=by simp; omega
  have hlt:=h.lt
  clear h
  generalize (T c).ss.length=m at *
  generalize (T c).A=A at *
  generalize (T c).n=n at *
  generalize (T c).e=e at *
  generalize (T c).c=q at *
  go_enter Tryz.func49,Tryz.ntmps49
  go_wp2_with (go_at_call 68; (with_reducible refine HK.out.mono ?_); rintro e w2 ⟨rfl,rfl⟩)
  go_wp2
  exact bodyPost_ret (results_cell_row Tryz.results49 _ _ w.heap.size _ #[.int .u64 n,.int .i64 e,.slice A m q] (0,0) _ rfl (heap_alloc_new w _) Tryz.underlying107 rfl YV) rfl ⟨rfl,(Below.refl _ w).alloc (Nat.le_refl _) _⟩
 ·
  rw [if_neg hc]
  rw [decide_eq_false hc] at HK
  have d8:decide ((c:Int)<8)=false:=by simp; omega
  clear h hc
  unfold uw
  go_enter Tryz.func49,Tryz.ntmps49
  go_wp2_with (go_at_call 68; (with_reducible refine HK.out.mono ?_); rintro e w2 ⟨rfl,rfl⟩)
  go_wp2
  exact bodyPost_ret (results_cell_row Tryz.results49 _ _ w.heap.size _ #[.int .u64 0,.int .i64 0,.slice none 0 0] (0,0) _ rfl (heap_alloc_new w _) Tryz.underlying107 rfl YV) rfl ⟨rfl,(Below.refl _ w).alloc (Nat.le_refl _) _⟩

theorem fieldN15 (n e:Int) (v:Value) (w:World):(Instr.field 107 (.agg #[.int .u64 n,.int .i64 e,v]) 0).run Tryz.prog w=.ok (.int .u64 n) w:=by kernel_rfl
theorem fieldR15 (n e:Int) (v:Value) (w:World):(Instr.field 107 (.agg #[.int .u64 n,.int .i64 e,v]) 1).run Tryz.prog w=.ok (.agg #[.int .i64 e,v]) w:=by kernel_rfl
set_option maxRecDepth 100000 in
theorem FJ (B:Nat) (T:Nat→R15) (c:Nat) (w:World) (h:qa w B 123 T):Calls Tryz.prog 23 #[.pointer (some ⟨B,0,none⟩),.int .u8 c] w (zF (.int .u64 (jb T c).n) w):=by
 have HO:=za (U1 B T c w h)
 clear h
 unfold R15.v at HO
 generalize (jb T c).ss.length=m at *
 generalize (jb T c).A=A at *
 generalize (jb T c).n=n at *
 generalize (jb T c).e=e at *
 generalize (jb T c).c=q at *
 have hf:=fun W=>fieldN15 n e (.slice A m q) W
 go_enter Tryz.func23,Tryz.ntmps23
 go_wp2_with (go_at_call 49; (with_reducible refine HO.out.mono ?_); rintro e w2 ⟨rfl,hb⟩; have HB:=za hb; clear hb)
 go_wp2
 go_ret
 exact ⟨rfl,HB.out⟩

def J15 (last c n:Nat):Nat:=if c<8∧QJ n=true then (if n<last then 1 else if n=last then 2 else 3) else 0
set_option maxRecDepth 100000 in
theorem vM (B:Nat) (T:Nat→R15) (c n:Nat) (w:World) (h:qa w B 123 T):Calls Tryz.prog 39 #[.pointer (some ⟨B,0,none⟩),.int .u8 c,.int .u64 n] w (zF (.int .i64 (J15 (jb T c).n c n)) w):=by
 have HL:=za (FJ B T c w h)
 have HK:=za (fun W=>Z9 c W)
 have HC:=za (fun W=>XJ n W)
 clear h
 unfold J15
 generalize (jb T c).n=l at *
 by_cases hc:c<8
 case neg =>
  rw [if_neg (fun h=>hc h.1)]
  rw [decide_eq_false hc] at HK
  clear hc
  go_enter Tryz.func39,Tryz.ntmps39
  go_wp2_with (first
   | (go_at_call 23; (with_reducible refine HL.out.mono ?_); rintro e w2 ⟨rfl,hb⟩; have HB:=za hb; clear hb)
   | (go_at_call 68; (with_reducible refine (HK.out _).mono ?_); rintro e w3 ⟨rfl,rfl⟩))
  go_wp2
  go_ret
  exact ⟨rfl,HB.out⟩
 rw [decide_eq_true hc] at HK
 cases hn:QJ n with
 | false =>
  rw [if_neg (by simp)]
  rw [hn] at HC
  clear hc hn
  go_enter Tryz.func39,Tryz.ntmps39
  go_wp2_with (first
   | (go_at_call 23; (with_reducible refine HL.out.mono ?_); rintro e w2 ⟨rfl,hb⟩; have HB:=za hb; clear hb)
   | (go_at_call 68; (with_reducible refine (HK.out _).mono ?_); rintro e w3 ⟨rfl,rfl⟩)
   | (go_at_call 69; (with_reducible refine (HC.out _).mono ?_); rintro e w3 ⟨rfl,rfl⟩))
  go_wp2
  go_ret
  exact ⟨rfl,HB.out⟩
 | true =>
  rw [if_pos ⟨hc,rfl⟩]
  rw [hn] at HC
  clear hc hn
  by_cases h1:n<l
  ·
   rw [if_pos h1]
   have d1:decide ((n:Int)<l)=true:=by simp; omega
   have e1:decide (n<l)=true:=by simp; omega
   clear h1
   go_enter Tryz.func39,Tryz.ntmps39
   go_wp2_with (first
    | (go_at_call 23; (with_reducible refine HL.out.mono ?_); rintro e w2 ⟨rfl,hb⟩; have HB:=za hb; clear hb)
    | (go_at_call 68; (with_reducible refine (HK.out _).mono ?_); rintro e w3 ⟨rfl,rfl⟩)
    | (go_at_call 69; (with_reducible refine (HC.out _).mono ?_); rintro e w3 ⟨rfl,rfl⟩))
   go_wp2
   go_ret
   exact ⟨rfl,HB.out⟩
  ·
   rw [if_neg h1]
   have d1:decide ((n:Int)<l)=false:=by simp; omega
   have e1:decide (n<l)=false:=by simp; omega
   by_cases h2:n=l
   ·
    rw [if_pos h2]
    subst h2
    have d2:((n:Int) == n)=true:=by simp
    clear h1
    go_enter Tryz.func39,Tryz.ntmps39
    go_wp2_with (first
     | (go_at_call 23; (with_reducible refine HL.out.mono ?_); rintro e w2 ⟨rfl,hb⟩; have HB:=za hb; clear hb)
     | (go_at_call 68; (with_reducible refine (HK.out _).mono ?_); rintro e w3 ⟨rfl,rfl⟩)
     | (go_at_call 69; (with_reducible refine (HC.out _).mono ?_); rintro e w3 ⟨rfl,rfl⟩))
    go_wp2
    go_ret
    exact ⟨rfl,HB.out⟩
   ·
    rw [if_neg h2]
    have d2:((n:Int) == l)=false:=by simp; omega
    have e2:(n == l)=false:=by simp; omega
    have e3:decide (n=l)=false:=by simp; omega
    clear h1 h2
    go_enter Tryz.func39,Tryz.ntmps39
    go_wp2_with (first
     | (go_at_call 23; (with_reducible refine HL.out.mono ?_); rintro e w2 ⟨rfl,hb⟩; have HB:=za hb; clear hb)
     | (go_at_call 68; (with_reducible refine (HK.out _).mono ?_); rintro e w3 ⟨rfl,rfl⟩)
     | (go_at_call 69; (with_reducible refine (HC.out _).mono ?_); rintro e w3 ⟨rfl,rfl⟩))
    go_wp2
    go_ret
    exact ⟨rfl,HB.out⟩

/-! ### clone -/
theorem rds_cells15 {ss:List ByteArray} {b off:Nat} {w:World} (h:∀ j (hj:j<ss.length),w.cell? ⟨b,off+j,none⟩=some (.string ss[j])) (j:Nat) (hj:j<ss.length):w.cell? ⟨b,off+j,none⟩=some (.string (ss.getD j ByteArray.empty)):=by
 rw [h j hj]
 simp [List.getD_eq_getElem?_getD,hj]
theorem V8 (A:Option Addr) (c:Nat) (ss:List ByteArray) (w:World) (h:RdS w A ss) (hb:ss.length≤1000) :
  Calls Tryz.prog 97 #[.slice A ss.length c] w fun e w'=>∃ A' c',e=.returned (.slice A' ss.length c')∧vx w' A' c' ss∧vD w.heap.size A' ss∧Below w.heap.size w w':=by
 have hown:∀ (v':Value) (w':World),w'.ownsRow w.heap.size 9 1 v' ss.length (ss.map Value.string)→∃ A' c',v'=.slice A' ss.length c'∧vx w' A' c' ss∧vD w.heap.size A' ss:=by
  intro v' w' ho
  have h0:w'.ownsRow 0 9 1 v' ss.length (ss.map Value.string):=by
   refine ⟨ho.1,?_⟩
   rcases ho.2 with h0 | ⟨g,cap,cur,e,hg,r⟩
   ·
    exact .inl h0
   ·
    exact .inr ⟨g,cap,cur,e,Nat.zero_le _,r⟩
  obtain ⟨A',c',rfl⟩:=yB h0
  have hc:=cap_own14 h0
  refine ⟨A',c',rfl,⟨jK h0,hc.1,hc.2,fun hA=>?_⟩,fun hne a ha=>?_⟩
  ·
   rcases ho.2 with ⟨e,_⟩ | ⟨g,cap,cur,e,_⟩
   ·
    injection e
   ·
    injection e with e
    rw [hA] at e; cases e
  ·
   rcases ho.2 with ⟨e,hn⟩ | ⟨g,cap,cur,e,hg,_⟩
   ·
    exact absurd (by simpa using hn) hne
   ·
    injection e with e
    rw [ha] at e
    injection e with e
    subst e
    exact ⟨hg,rfl⟩
 cases A with
 | none =>
  have h0:ss=[]:=by
   by_cases h0:ss=[]
   ·
    exact h0
   ·
    obtain ⟨_,_,e,_⟩:=h h0
    cases e
  subst h0
  exact (Tryz.slices_Clone_string_nil 0 c w).mono fun e w' ⟨he,hw⟩=>by
   subst hw
   exact ⟨none,0,he,vx.none _,fun h=>absurd rfl h,Below.refl _ _⟩
 | some a =>
  by_cases h0:ss=[]
  ·
   subst h0
   exact (Tryz.slices_Clone_string_zero a c w).mono fun e w' ⟨v',he,ho,_,hb⟩=>by
    obtain ⟨A',c',rfl,h1,h2⟩:=hown v' w' ho
    exact ⟨A',c',he,h1,h2,hb⟩
  ·
   obtain ⟨b,off,e,_,hcell⟩:=h h0
   injection e with e
   subst e
   have:=Tryz.slices_Clone_string b off ss.length c ss w (Nat.le_refl _) (by omega) (rds_cells15 hcell)
   rw [List.take_length] at this
   exact this.mono fun e w' ⟨v',he,ho,_,hb⟩=>by
    obtain ⟨A',c',rfl,h1,h2⟩:=hown v' w' ho
    exact ⟨A',c',he,h1,h2,hb⟩

set_option maxRecDepth 100000 in
theorem qW (e:Nat) (A:Option Addr) (c:Nat) (ss:List ByteArray) (w:World) (h:RdS w A ss) (hb:ss.length≤1000) :
  Calls Tryz.prog 70 #[.agg #[.int .i64 e,.slice A ss.length c]] w (Cl15 e ss w):=by
 unfold Cl15
 by_cases he:e=0
 ·
  have ht:xU e ss=ss:=by unfold xU; rw [if_pos (by omega)]
  rw [ht]
  subst he
  have HC:Hid (∀ W,Below w.heap.size w W→Calls Tryz.prog 97 #[.slice A ss.length c] W fun e w'=>∃ A' c',e=.returned (.slice A' ss.length c')∧vx w' A' c' ss∧vD W.heap.size A' ss∧Below W.heap.size W w'):=fun W hW=>V8 A c ss W (h.later14 hW) hb
  clear h hb ht
  have hb1:=ze (Below.refl _ w) (.cells #[.int .i64 0,.slice A ss.length c] 56)
  generalize hm:ss.length=m at *
  clear hm
  have hb2:=ze hb1 (.cells #[.int .i64 0,.slice none 0 0] 56)
  have hr2:vT ((w.alloc (.cells #[.int .i64 0,.slice A m c] 56)).alloc (.cells #[.int .i64 0,.slice none 0 0] 56)) (w.heap.size+1) 0 (.slice none 0 0):=heap_alloc2_new w _ _
  have hs2:((w.alloc (.cells #[.int .i64 0,.slice A m c] 56)).alloc (.cells #[.int .i64 0,.slice none 0 0] 56)).heap.size=w.heap.size+2:=by simp
  have HB2:=za hb2
  have HR2:=za hr2
  have HS2:=za hs2
  clear hb1 hb2 hr2 hs2
  go_enter Tryz.func70,Tryz.ntmps70
  go_wp2_with fail
  generalize (w.alloc (.cells #[.int .i64 0,.slice A m c] 56)).alloc (.cells #[.int .i64 0,.slice none 0 0] 56)=w2 at *
  with_reducible refine (HC.out _ HB2.out).mono ?_
  rintro e w3 ⟨A',c',rfl,ht,hf,hb⟩
  have hr3:=HR2.out.below hb
  have x0:=hr3.c0
  have x1:=hr3.c1
  have xf:=hr3.fr
  have HR3:=za hr3
  have HT:Hid (vx ((w3.setCell ⟨w.heap.size+1,0,none⟩ (.int .i64 0)).setCell ⟨w.heap.size+1,1,none⟩ (.slice A' m c')) A' c' ss):=by
   refine ⟨ht.rd.turns (((zg.refl (fun i=>i=w.heap.size+1) w3).setCell (p:=⟨w.heap.size+1,0,none⟩) (fun _=>rfl) _).setCell (p:=⟨w.heap.size+1,1,none⟩) (fun _=>rfl) _) (fun hne a ha he=>?_),ht.len,ht.cap,ht.nil⟩
   have:=(hf hne a ha).1
   have:=HS2.out
   omega
  have HF:Hid (vD w.heap.size A' ss):=fun hne a ha=>⟨by have:=(hf hne a ha).1; have:=HS2.out; omega,(hf hne a ha).2⟩
  have HB3:=za (zo HB2.out hb)
  clear ht hf hb hr3 HR2 HC HB2
  go_wp2
  exact bodyPost_ret (results_cell_row Tryz.results70 _ _ (w.heap.size+1) _ _ (0,0) _ rfl (HR3.out.setAll 0 (.slice A' m c')) Tryz.underlying56 rfl xw) rfl
   ⟨A',c',rfl,HT.out,HF.out,(HB3.out.setCell (Nat.le_succ _) _).setCell (Nat.le_succ _) _⟩
 ·
  have ht:xU e ss=[]:=by unfold xU; rw [if_neg (by omega)]
  rw [ht]
  have hd:((e:Int) != 0)=true:=by simp; omega
  clear h hb ht he
  generalize ss.length=m at *
  have hr2:vT ((w.alloc (.cells #[.int .i64 e,.slice A m c] 56)).alloc (.cells #[.int .i64 e,.slice none 0 0] 56)) (w.heap.size+1) e (.slice none 0 0):=heap_alloc2_new w _ _
  have HR2:=za hr2
  clear hr2
  go_enter Tryz.func70,Tryz.ntmps70
  go_wp2
  exact bodyPost_ret (results_cell_row Tryz.results70 _ _ (w.heap.size+1) _ _ (0,0) _ rfl HR2.out Tryz.underlying56 rfl xw) rfl
   ⟨none,0,rfl,vx.none _,fun h=>absurd rfl h,ze (ze (Below.refl _ w) _) _⟩

/-! ### A table of one's own -/
structure FI (r:R15):Prop where
 n:r.n≤1099511627776
 e:r.e≤18
 z:r.n=0→r.e=0∧r.ss=[]
 t:r.e≠0→r.ss=[]
 few:r.ss.length≤14
 lit:∀ s∈r.ss,s.size≤50
theorem ZH:FI uw:=⟨Nat.zero_le _,Nat.zero_le _,fun _=>⟨rfl,rfl⟩,fun h=>absurd rfl h,Nat.zero_le _,fun s hs=>by cases hs⟩
structure vy (w:World) (P B:Nat) (T:Nat→R15):Prop where
 lt:B<P
 le:P≤w.heap.size
 at_:qa w B 123 T
 tx:∀ i,i<8→vx w (T i).A (T i).c (T i).ss
 far:∀ i,i<8→vD P (T i).A (T i).ss
 may:∀ i,i<8→FI (T i)
section
variable {w w':World} {P B:Nat} {T:Nat→R15}
theorem vx.turns {A:Option Addr} {c:Nat} {ss:List ByteArray} {S:Nat→Prop} (h:vx w A c ss) (ht:zg S w w') (hn:ss≠[]→∀ a,A=some a→¬ S a.block):vx w' A c ss:=⟨h.rd.turns ht hn,h.len,h.cap,h.nil⟩
theorem vy.turns {S:Nat→Prop} (h:vy w P B T) (ht:zg S w w') (hB:¬ S B) (hP:∀ k,P≤k→¬ S k):vy w' P B T :=
 ⟨h.lt,Nat.le_trans h.le ht.size,h.at_.turns ht hB,fun i hi=>(h.tx i hi).turns ht (fun hne a ha=>hP _ (h.far i hi hne a ha).1),h.far,h.may⟩
theorem vy.later (h:vy w P B T) (hb:Below w.heap.size w w'):vy w' P B T:=h.turns (vv hb) (fun f=>f) (fun _ _ f=>f)
theorem vy.get (h:vy w P B T) (c:Nat):vx w (jb T c).A (jb T c).c (jb T c).ss∧vD P (jb T c).A (jb T c).ss∧FI (jb T c):=by
 unfold jb
 split
 ·
  exact ⟨h.tx c (by assumption),h.far c (by assumption),h.may c (by assumption)⟩
 ·
  exact ⟨vx.none _,fun h=>absurd rfl h,ZH⟩
theorem tls_may15 {r:R15} (h:FI r):xU r.e r.ss=r.ss:=by
 unfold xU
 by_cases he:r.e=0
 ·
  rw [if_pos (by omega)]
 ·
  rw [if_neg (by omega),h.t he]
set_option maxRecDepth 100000 in
theorem VM (h:vy w P B T) (c:Nat):Calls Tryz.prog 41 #[.pointer (some ⟨B,0,none⟩),.int .u8 c] w fun e w' =>
  ∃ A q,e=.returned (.agg #[.int .i64 (jb T c).e,.slice A (jb T c).ss.length q])∧vx w' A q (jb T c).ss∧vD w.heap.size A (jb T c).ss∧Below w.heap.size w w':=by
 have HO:Hid (∀ W,Below w.heap.size w W→Calls Tryz.prog 49 #[.pointer (some ⟨B,0,none⟩),.int .u8 c] W (zF (jb T c).v W)):=fun W hW=>U1 B T c W (h.at_.later hW)
 obtain ⟨htx,_,hm⟩:=h.get c
 have ht:=tls_may15 hm
 have HC:Hid (∀ W,Below w.heap.size w W→Calls Tryz.prog 70 #[.agg #[.int .i64 (jb T c).e,.slice (jb T c).A (jb T c).ss.length (jb T c).c]] W (Cl15 (jb T c).e (jb T c).ss W)):=fun W hW=>qW _ _ _ _ W (htx.later hW).rd (by have:=hm.few; omega)
 unfold Cl15 at HC
 rw [ht] at HC
 clear h htx hm ht
 unfold R15.v at HO
 generalize (jb T c).ss=ss at *
 generalize ss.length=m at *
 generalize (jb T c).A=A at *
 generalize (jb T c).n=n at *
 generalize (jb T c).e=e at *
 generalize (jb T c).c=q at *
 have hf:=fun W=>fieldR15 n e (.slice A m q) W
 have hb1:=ze (Below.refl _ w) (.cells #[.int .i64 0,.slice none 0 0] 56)
 have hr1:vT (w.alloc (.cells #[.int .i64 0,.slice none 0 0] 56)) w.heap.size 0 (.slice none 0 0):=heap_alloc_new w _
 have HB1:=za hb1
 have HR1:=za hr1
 clear hb1 hr1
 go_enter Tryz.func41,Tryz.ntmps41
 go_wp2_with fail
 have hs1:(w.alloc (.cells #[.int .i64 0,.slice none 0 0] 56)).heap.size=w.heap.size+1:=by simp
 have HS1:=za hs1
 clear hs1
 generalize w.alloc (.cells #[.int .i64 0,.slice none 0 0] 56)=w1 at *
 with_reducible refine (HO.out _ HB1.out).mono ?_
 rintro e w2 ⟨rfl,hb⟩
 have HR2:=za (HR1.out.below hb)
 have HB2:=za (zo HB1.out hb)
 clear hb HB1 HR1 HO
 go_wp2_with fail
 with_reducible refine (HC.out _ HB2.out).mono ?_
 rintro e w3 ⟨A',c',rfl,ht,hf3,hb⟩
 have hr3:=HR2.out.below hb
 have x0:=hr3.c0
 have x1:=hr3.c1
 have xf:=hr3.fr
 have HR3:=za hr3
 have hlt:w.heap.size<w2.heap.size:=HR2.out.lt
 have HT:Hid (vx ((w3.setCell ⟨w.heap.size,0,none⟩ (.int .i64 e)).setCell ⟨w.heap.size,1,none⟩ (.slice A' m c')) A' c' ss):=by
  refine ⟨ht.rd.turns (((zg.refl (fun i=>i=w.heap.size) w3).setCell (p:=⟨w.heap.size,0,none⟩) (fun _=>rfl) _).setCell (p:=⟨w.heap.size,1,none⟩) (fun _=>rfl) _) (fun hne a ha he=>?_),ht.len,ht.cap,ht.nil⟩
  have:=(hf3 hne a ha).1
  omega
 have HB3:=za (zo HB2.out hb)
 have HF3:Hid (vD w.heap.size A' ss):=fun hne a ha=>⟨by have:=(hf3 hne a ha).1; omega,(hf3 hne a ha).2⟩
 clear ht hf3 hb hr3 HR2 HC HB2
 go_wp2
 exact bodyPost_ret (results_cell_row Tryz.results41 _ _ w.heap.size _ _ (0,0) _ rfl (HR3.out.setAll e (.slice A' m c')) Tryz.underlying56 rfl xw) rfl
  ⟨A',c',rfl,HT.out,HF3.out,(HB3.out.setCell (Nat.le_refl _) _).setCell (Nat.le_refl _) _⟩
end

structure P15 where
 n:Nat
 e:Nat
 ss:List ByteArray
def R15.p (r:R15):P15:=⟨r.n,r.e,r.ss⟩
def noP15:P15:=⟨0,0,[]⟩
def errJ15 (j:Nat):Nat:=if j=0 then 1 else if j=3 then 0 else 12
def vR (X:Nat→P15) (c n e:Nat) (ss:List ByteArray):Nat→P15:=fun i=>if i=c∧J15 (X c).n c n=3 then ⟨n,e,xU e ss⟩ else X i
theorem XY {l c n:Nat} (h:J15 l c n=3):c<8∧0<n∧n≤1099511627776∧l<n:=by
 unfold J15 at h
 split at h
 ·
  rename_i h1
  have h2:=h1.2
  unfold QJ at h2
  simp at h2
  split at h
  ·
   omega
  ·
   split at h
   ·
    omega
   ·
    exact ⟨h1.1,h2.1,h2.2,by omega⟩
 ·
  omega
theorem getT_n15 {T:Nat→R15} {c n:Nat}:J15 (jb T c).n c n=J15 (T c).n c n:=by
 unfold jb
 split
 ·
  rfl
 ·
  unfold J15
  rw [if_neg (fun h=>by omega),if_neg (fun h=>by omega)]

def Did15 (w:World) (P B:Nat) (X:Nat→P15) (w':World):Prop:=∃ T',vy w' P B T'∧zg (fun k=>k=B) w w'∧∀ i,i<8→(T' i).p=X i

theorem vy.put {w w' w3:World} {P B:Nat} {T:Nat→R15} (h:vy w P B T) (hb:Below w.heap.size w w') {c n e:Nat} {A:Option Addr} {q:Nat} {ss:List ByteArray} (hc:c<8)
  (htx:vx w' A q (xU e ss)) (hf:vD w.heap.size A (xU e ss)) (he:e≤18) (hn:n≤1099511627776) (hn0:0<n) (hl:ss.length≤14∧∀ s∈ss,s.size≤50)
  (hw:w3=((w'.setCell ⟨B,c * 3,none⟩ (.int .u64 n)).setCell ⟨B,c * 3+1,none⟩ (.int .i64 e)).setCell ⟨B,c * 3+2,none⟩ (.slice A (xU e ss).length q)) :
  vy w3 P B (FP T c ⟨n,e,A,q,xU e ss⟩)∧zg (fun k=>k=B) w w3:=by
 have ht:zg (fun k=>k=B) w' w3:=by
  rw [hw]
  exact ((((zg.refl (fun k=>k=B) w').setCell (p:=⟨B,c * 3,none⟩) (fun _=>rfl) _).setCell (p:=⟨B,c * 3+1,none⟩) (fun _=>rfl) _).setCell (p:=⟨B,c * 3+2,none⟩) (fun _=>rfl) _)
 have h1:=h.later hb
 have hm:FI ⟨n,e,A,q,xU e ss⟩:=by
  refine ⟨hn,he,fun h=>?_,fun h=>?_,?_,?_⟩
  ·
   have:n=0:=h
   omega
  ·
   show xU e ss=[]
   unfold xU
   have:e≠0:=h
   rw [if_neg (by omega)]
  ·
   show (xU e ss).length≤14
   unfold xU
   split
   ·
    exact hl.1
   ·
    exact Nat.zero_le _
  ·
   show ∀ s∈xU e ss,s.size≤50
   unfold xU
   split
   ·
    exact hl.2
   ·
    intro s hs; cases hs
 have hne:∀ (A':Option Addr) (ss':List ByteArray),vD P A' ss'→ss'≠[]→∀ a,A'=some a→¬ a.block=B:=fun A' ss' hf hne a ha he=>by
  have:=(hf hne a ha).1
  have:=h.lt
  omega
 refine ⟨⟨h1.lt,Nat.le_trans h1.le ht.size,?_,fun i hi=>?_,fun i hi=>?_,fun i hi=>?_⟩,(zg.of_below hb _).next ht (fun k _ hk=>hk)⟩
 ·
  rw [hw]
  exact h1.at_.set c hc ⟨n,e,A,q,xU e ss⟩
 ·
  unfold FP
  by_cases e1:i=c
  ·
   rw [if_pos e1]
   exact htx.turns ht (hne _ _ (fun h1 a ha=>⟨Nat.le_trans h.le (hf h1 a ha).1,(hf h1 a ha).2⟩))
  ·
   rw [if_neg e1]
   exact (h1.tx i hi).turns ht (hne _ _ (h1.far i hi))
 ·
  unfold FP
  by_cases e1:i=c
  ·
   rw [if_pos e1]
   exact fun h1 a ha=>⟨Nat.le_trans h.le (hf h1 a ha).1,(hf h1 a ha).2⟩
  ·
   rw [if_neg e1]
   exact h1.far i hi
 ·
  unfold FP
  by_cases e1:i=c
  ·
   rw [if_pos e1]
   exact hm
  ·
   rw [if_neg e1]
   exact h1.may i hi

def YPt15 (B c n e:Nat) (A:Option Addr) (m0 q:Nat) (ls:List ByteArray) (m n0:Nat):Nat→Value→World→Prop
 | 0,v,_=>v=.pointer (some ⟨B,0,none⟩)
 | 1,v,_=>v=.int .u8 c
 | 2,v,_=>v=.int .u64 n
 | 3,v,_=>v=.agg #[.int .i64 e,.slice A m0 q]
 | 4,v,W=>∃ A' c',v=.agg #[.int .i64 e,.slice A' m c']∧vx W A' c' ls∧vD n0 A' ls
 | 5,v,W=>∃ A' c',v=.agg #[.int .u64 n,.int .i64 e,.slice A' m c']∧vx W A' c' ls∧vD n0 A' ls
 | 6,v,_=>v=.pointer (some ⟨B,0,none⟩)
 | 7,v,_=>v=.pointer (some ⟨B,0,none⟩)
 | 8,v,_=>v=.pointer (some ⟨B,c * 3,none⟩)
 | _,_,_=>True
theorem YPt15_keep {B c n e:Nat} {A:Option Addr} {m0 q:Nat} {ls:List ByteArray} {m n0:Nat} {W W':World} (hb:Below W.heap.size W W') (j:Nat) (z:Value) (h:YPt15 B c n e A m0 q ls m n0 j z W):YPt15 B c n e A m0 q ls m n0 j z W':=by
 match j,h with
 | 0,h=>exact h
 | 1,h=>exact h
 | 2,h=>exact h
 | 3,h=>exact h
 | 4,⟨A',c',h1,h2,h3⟩=>exact ⟨A',c',h1,h2.later hb,h3⟩
 | 5,⟨A',c',h1,h2,h3⟩=>exact ⟨A',c',h1,h2.later hb,h3⟩
 | 6,h=>exact h
 | 7,h=>exact h
 | 8,h=>exact h
 | _+9,_=>trivial

set_option maxRecDepth 100000 in
theorem Put15_calls {w:World} {P B:Nat} {T:Nat→R15} (h:vy w P B T) (c n e:Nat) (A:Option Addr) (q:Nat) (ss:List ByteArray) (htx:RdS w A ss) (he:e≤18) (hl:ss.length≤14∧∀ s∈ss,s.size≤50) :
  Calls Tryz.prog 43 #[.pointer (some ⟨B,0,none⟩),.int .u8 c,.int .u64 n,.agg #[.int .i64 e,.slice A ss.length q]] w fun en w' =>
   en=.returned (.int .i64 (errJ15 (J15 (T c).n c n)))∧Did15 w P B (vR (fun i=>(T i).p) c n e ss) w':=by
 have HJ:Hid (∀ W,Below w.heap.size w W→Calls Tryz.prog 39 #[.pointer (some ⟨B,0,none⟩),.int .u8 c,.int .u64 n] W (zF (.int .i64 (J15 (jb T c).n c n)) W)):=fun W hW=>vM B T c n W (h.at_.later hW)
 have HB1:=za (ze (Below.refl _ w) (.cells #[.int .i64 e,.slice A ss.length q] 56))
 rw [getT_n15] at HJ
 by_cases h3:J15 (T c).n c n=3
 ·
  obtain ⟨hc,hn0,hn,_⟩:=XY h3
  rw [h3] at HJ ⊢
  have HD:Hid (∀ w' w3 A' q',Below w.heap.size w w'→vx w' A' q' (xU e ss)→vD w.heap.size A' (xU e ss)→w3=((w'.setCell ⟨B,c * 3,none⟩ (.int .u64 n)).setCell ⟨B,c * 3+1,none⟩ (.int .i64 e)).setCell ⟨B,c * 3+2,none⟩ (.slice A' (xU e ss).length q')→Did15 w P B (vR (fun i=>(T i).p) c n e ss) w3):=fun w' w3 A' q' hb ht hf hw=>by
   obtain ⟨h1,h2⟩:=h.put hb hc ht hf he hn hn0 hl hw
   refine ⟨_,h1,h2,fun i hi=>?_⟩
   unfold FP vR
   by_cases e1:i=c
   ·
    rw [if_pos e1,if_pos ⟨e1,h3⟩]
    rfl
   ·
    rw [if_neg e1,if_neg (fun h=>e1 h.1)]
  have HC:Hid (∀ W,Below w.heap.size w W→Calls Tryz.prog 70 #[.agg #[.int .i64 e,.slice A ss.length q]] W (Cl15 e ss W)):=fun W hW=>qW e A q ss W (htx.later14 hW) (by have:=hl.1; omega)
  have HA:Hid (∀ W,Below w.heap.size w W→qa W B 123 T):=fun W hW=>h.at_.later hW
  have d8:decide ((c:Int)<8)=true:=by simp; omega
  clear h htx he hl h3 hn0 hn
  generalize vR (fun i=>(T i).p) c n e ss=X at *
  unfold Cl15 at HC
  generalize xU e ss=ls at *
  generalize ls.length=m at *
  generalize ss.length=m0 at *
  go_enter Tryz.func43,Tryz.ntmps43
  go_wp2_with fail
  have hr1:vT (w.alloc (.cells #[.int .i64 e,.slice A m0 q] 56)) w.heap.size e (.slice A m0 q):=heap_alloc_new w _
  generalize w.alloc (.cells #[.int .i64 e,.slice A m0 q] 56)=w1 at *
  with_reducible refine (HJ.out _ HB1.out).mono ?_
  rintro en w2 ⟨rfl,hb⟩
  have HR2:=za (hr1.below hb)
  have HB2:=za (zo HB1.out hb)
  have x0:=HR2.out.c0
  have x1:=HR2.out.c1
  clear hb HJ hr1 HB1
  go_wp2
  refine zA (by kernel_rfl) 9 (fun W=>Below w2.heap.size w2 W) (fun W=>Did15 w P B X W) (YPt15 B c n e A m0 q ls m w.heap.size) (fun v=>True) ?F ?hF (by kernel_rfl) (by kernel_rfl) (by kernel_rfl) (by kernel_rfl) (by decide) (jc (Below.refl _ _)) ?step ?fin
  case hF =>
   intro x
   simp only [List.map_cons,List.map_nil,vb,Act.put,List.setIfInBounds_toArray,List.set_cons_zero,List.set_cons_succ,Nat.zero_add,Nat.reduceAdd]
   exact rfl
  case step =>
   refine ⟨?_,?_,?_,?_,?_,?_,?_,?_,?_,?_,trivial⟩
   ·
    intro x W
    refine ⟨fun _ hW hdep K hK=>?_,(fun h=>absurd h (by decide)),(fun h=>absurd h (by decide))⟩
    clear hdep
    go_simp
    exact hK _ _ rfl hW (fun _ _ h=>h)
   ·
    intro x W
    refine ⟨fun _ hW hdep K hK=>?_,(fun h=>absurd h (by decide)),(fun h=>absurd h (by decide))⟩
    clear hdep
    go_simp
    exact hK _ _ rfl hW (fun _ _ h=>h)
   ·
    intro x W
    refine ⟨fun _ hW hdep K hK=>?_,(fun h=>absurd h (by decide)),(fun h=>absurd h (by decide))⟩
    clear hdep
    go_simp
    exact hK _ _ rfl hW (fun _ _ h=>h)
   ·
    intro x W
    refine ⟨fun _ hW hdep K hK=>?_,(fun h=>absurd h (by decide)),(fun h=>absurd h (by decide))⟩
    have k0:=(HR2.out.below hW).c0
    have k1:=(HR2.out.below hW).c1
    clear hdep
    go_simp
    exact hK _ _ rfl hW (fun _ _ h=>h)
   ·
    intro x W
    refine ⟨fun _ hW hdep K hK=>?_,(fun h=>absurd h (by decide)),(fun h=>absurd h (by decide))⟩
    have h3:x 3=_:=hdep 3 rfl
    clear hdep
    simp only [h3] at hK
    go_simp
    refine (HC.out W (zo HB2.out hW)).mono ?_
    rintro en W' ⟨A',c',rfl,ht,hf,hb⟩
    exact hK _ _ ⟨A',c',rfl,ht,fun hne a ha=>⟨Nat.le_trans (zo HB2.out hW).size (hf hne a ha).1,(hf hne a ha).2⟩⟩ (zo hW hb) (fun j z h=>YPt15_keep hb j z h)
   ·
    intro x W
    refine ⟨fun _ hW hdep K hK=>?_,(fun h=>absurd h (by decide)),(fun h=>absurd h (by decide))⟩
    have h2:x 2=_:=hdep 2 rfl
    obtain ⟨A',c',h4,ht,hf⟩:=hdep 4 rfl
    clear hdep
    simp only [h2,h4] at hK
    go_simp
    exact hK _ _ ⟨A',c',rfl,ht,hf⟩ hW (fun _ _ h=>h)
   ·
    intro x W
    refine ⟨fun _ hW hdep K hK=>?_,(fun h=>absurd h (by decide)),(fun h=>absurd h (by decide))⟩
    have h0:x 0=_:=hdep 0 rfl
    clear hdep
    simp only [h0] at hK
    go_simp
    exact hK _ _ rfl hW (fun _ _ h=>h)
   ·
    intro x W
    refine ⟨fun _ hW hdep K hK=>?_,(fun h=>absurd h (by decide)),(fun h=>absurd h (by decide))⟩
    have h6:x 6=_:=hdep 6 rfl
    clear hdep
    simp only [h6] at hK
    go_simp
    exact hK _ _ rfl hW (fun _ _ h=>h)
   ·
    intro x W
    refine ⟨fun _ hW hdep K hK=>?_,(fun h=>absurd h (by decide)),(fun h=>absurd h (by decide))⟩
    have h7:x 7=_:=hdep 7 rfl
    have h1:x 1=_:=hdep 1 rfl
    clear hdep
    simp only [h7,h1] at hK
    go_simp
    rw [if_pos (show (c:Int)<8 by omega)]
    go_simp
    exact hK _ _ rfl hW (fun _ _ h=>h)
   ·
    intro x W
    refine ⟨(fun h=>absurd h (by decide)),fun _ hW hdep K hK=>?_,(fun h=>absurd h (by decide))⟩
    have h8:x 8=_:=hdep 8 rfl
    obtain ⟨A',c',h5,ht,hf⟩:=hdep 5 rfl
    have ha:=HA.out W (zo HB2.out hW)
    have a0:=ha.cell c 0 hc (by decide)
    have a1:=ha.cell c 1 hc (by decide)
    have a2:=ha.cell c 2 hc (by decide)
    have af:=ha.free
    simp only [R15.cell,Nat.add_zero] at a0 a1 a2
    have HT:=za ht
    have HF:=za hf
    clear ht hf ha
    clear hdep
    simp only [h8,h5] at hK
    go_simp
    exact hK (.bool true) _ trivial (HD.out W _ A' c' (zo HB2.out hW) HT.out HF.out rfl)
  case fin =>
   intro x W hD _
   have HD2:=za hD
   clear hD
   go_wp2
   go_ret
   exact ⟨rfl,HD2.out⟩
 ·
  have hno:Hid (∀ w',Below w.heap.size w w'→Did15 w P B (vR (fun i=>(T i).p) c n e ss) w'):=fun w' hb=>⟨T,h.later hb,zg.of_below hb _,fun i hi=>by
   unfold vR
   rw [if_neg (fun h=>h3 h.2)]⟩
  clear h htx
  generalize vR (fun i=>(T i).p) c n e ss=X at *
  unfold errJ15
  rw [if_neg h3]
  generalize hj:J15 (T c).n c n=j at *
  clear hj
  by_cases h0:j=0
  ·
   subst h0
   rw [if_pos rfl]
   go_enter Tryz.func43,Tryz.ntmps43
   go_wp2_with fail
   with_reducible refine (HJ.out _ HB1.out).mono ?_
   rintro en w2 ⟨rfl,hb⟩
   have HB2:=za (zo HB1.out hb)
   clear hb HJ
   go_wp2
   go_ret
   exact ⟨rfl,hno.out _ HB2.out⟩
  ·
   rw [if_neg h0]
   have d0:((j:Int) == 0)=false:=by simp; omega
   have d3:((j:Int) == 3)=false:=by simp; omega
   have e0:(j == 0)=false:=by simp; omega
   have e3:(j == 3)=false:=by simp; omega
   go_enter Tryz.func43,Tryz.ntmps43
   go_wp2_with fail
   with_reducible refine (HJ.out _ HB1.out).mono ?_
   rintro en w2 ⟨rfl,hb⟩
   have HB2:=za (zo HB1.out hb)
   clear hb HJ
   go_wp2
   go_ret
   exact ⟨rfl,hno.out _ HB2.out⟩

theorem infoTab15:(Tryz.prog.info? 123).map (fun i=>(i.zero,i.size,i.bytes))=some (some (.agg (Y8 fun _=>uw)),24,320):=by kernel_rfl
theorem Uw (w:World):(zeroValue 123).run Tryz.prog w=.ok (.agg (Y8 fun _=>uw)) w:=by
 obtain ⟨i0,hi,hz0,hz1,hz2⟩:=info_parts infoTab15
 simp [zeroValue,typeInfo,hi,hz0]
set_option maxRecDepth 100000 in
theorem XV (w:World):Calls Tryz.prog 30 #[] w fun e w'=>e=.returned (.pointer (some ⟨w.heap.size,0,none⟩))∧w'=w.alloc (.cells (Y8 fun _=>uw) 123):=by
 have hz:=Uw
 go_enter Tryz.func30,Tryz.ntmps30
 go_wp2
 go_ret
 exact ⟨rfl,rfl⟩
theorem Jn (w:World) (P:Nat) (hP:P=w.heap.size+1):vy (w.alloc (.cells (Y8 fun _=>uw) 123)) P w.heap.size (fun _=>uw) :=
 ⟨by omega,by simp; omega,heap_alloc_new w _,fun _ _=>vx.none _,fun _ _ h=>absurd rfl h,fun _ _=>ZH⟩

end Go.Proofs.YteegkoicalbkbaaGreatDoor
namespace Go.Proofs.YteegkoicalbkbaaGreatDoor
open Go.ChangeShapes Go.WideShapes Go.ChangeAt Go.RowKit Go.Deep

structure AcT where
 kd:Nat
 cl:Nat
 nm:Nat
 er:Nat
 A:Option Addr
 c:Nat
 ss:List ByteArray
def AcT.cells (t:AcT):List Value:=[.int .u8 (t.kd:Int),.int .u8 (t.cl:Int),.int .u64 (t.nm:Int),.int .u8 (t.er:Int),.slice t.A t.ss.length t.c]
structure AcT.Ok (w:World) (t:AcT):Prop where
 kd:t.kd<256
 cl:t.cl<256
 nm:t.nm<18446744073709551616
 er:t.er<256
 tx:vx w t.A t.c t.ss

section
variable {H:Type} {enc:TypeId×Value→H} {W:World} {base:Nat} {sp:Nat→Bool} {hd:Bool} {fuel:Nat}

end
end Go.Proofs.YteegkoicalbkbaaGreatDoor
namespace Go.Proofs.YteegkoicalbkbaaGreatDoor
open Go.RowKit


end Go.Proofs.YteegkoicalbkbaaGreatDoor
namespace Go.Proofs.YteegkoicalbkbaaGreatDoor
open Go.RowKit Go.MapKept Go.ChangeMaps Go.WideMaps

def key15 (c n:Nat):Value:=.agg #[.int .u64 c,.int .u64 n]
theorem key15_inj {c n c' n':Nat} (h:key15 c n=key15 c' n'):c=c'∧n=n':=by
 unfold key15 at h
 injection h with h
 have h1:=congrArg (fun a:Array Value=>a.toList) h
 simp at h1
 exact ⟨by omega,by omega⟩

structure Ent15 (X:Nat→Nat) (es:Array MapEntry) (clock:Nat):Prop where
 st:Stamped es clock
 ks:∀ x∈es.toList,∃ c n:Nat,x.key=key15 c n∧c<8∧n≤X c∧n<18446744073709551616
theorem Ent15.mono {X X':Nat→Nat} {es:Array MapEntry} {clock:Nat} (h:Ent15 X es clock) (hX:∀ c,c<8→X c≤X' c):Ent15 X' es clock:=⟨h.st,fun x hx=>by
 obtain ⟨c,n,e,hc,h1,hn⟩:=h.ks x hx
 exact ⟨c,n,e,hc,Nat.le_trans h1 (hX c hc),hn⟩⟩
theorem Ent15.none {X:Nat→Nat} {es:Array MapEntry} {clock:Nat} (h:Ent15 X es clock) {c n:Nat} (hn:X c<n):∀ x∈es.toList,x.key≠key15 c n:=fun x hx e=>by
 obtain ⟨c',n',e',hc,h1,_⟩:=h.ks x hx
 obtain ⟨rfl,rfl⟩:=key15_inj (e.symm.trans e')
 omega

section
variable {w:World} {S:Nat} {es:Array MapEntry} {clock c n:Nat} {v:Value}
end
end Go.Proofs.YteegkoicalbkbaaGreatDoor
namespace Go.Proofs.YteegkoicalbkbaaGreatDoor
open Go.RowKit

section
variable {w w':World} {C:Nat} {f:Nat→Nat}
end
section
variable {w w':World} {D:Nat} {t:AcT}
end

structure FH (p:P15):Prop where
 n:p.n≤1099511627776
 e:p.e≤18
 z:p.n=0→p.e=0∧p.ss=[]
 t:p.e≠0→p.ss=[]
 few:p.ss.length≤14
 lit:∀ s∈p.ss,s.size≤50
theorem FI.p {r:R15} (h:FI r):FH r.p:=⟨h.n,h.e,h.z,h.t,h.few,h.lit⟩
theorem tls_mayP15 {p:P15} (h:FH p):xU p.e p.ss=p.ss:=by
 unfold xU
 by_cases he:p.e=0
 ·
  rw [if_pos (by omega)]
 ·
  rw [if_neg (by omega),h.t he]


theorem sizeRows15:(Tryz.prog.info? 121).map (·.size)=some 24:=by kernel_rfl
theorem index15_run (T:Nat→R15) (k:Nat) (hk:k<8) (w:World):(Instr.index 121 (.agg (Y8 T)) (.int .i64 (k:Int))).run Tryz.prog w=.ok (T k).v w:=by
 obtain ⟨i0,hi,hz1⟩:∃ i0,Tryz.prog.info? 107=some i0∧i0.size=3:=by
  have:=YV
  rw [Option.map_eq_some_iff] at this
  exact this
 have hex:(Y8 T).extract (k * 3) (k * 3+3)=#[(T k).cell 0,(T k).cell 1,(T k).cell 2]:=by
  apply Array.ext
  ·
   simp [fT]; omega
  ·
   intro j h1 h2
   have hj:j<3:=by simpa using h2
   have e1:=tabA_at T k j hk hj
   rw [Array.getElem?_eq_getElem (by rw [fT]; omega)] at e1
   rw [Array.getElem_extract,Option.some.inj e1]
   match j,hj with
   | 0,_=>rfl
   | 1,_=>rfl
   | 2,_=>rfl
 have hu:=Tryz.underlying121
 have hu1:=Tryz.underlying107
 simp [Instr.index,asIntOf,run_underlying hu,part,isAgg,run_underlying hu1,sizeOf,typeInfo,hi,hz1,hex,R15.v,R15.cell]
 intro h
 omega

def XU (w:World) (X:Nat) (n e:Nat) (v:Value):Prop:=w.heap[X]? = some (.cells #[.int .u64 n,.int .i64 e,v] 107 (0,0))
theorem XU.cells {w:World} {X n e:Nat} {v:Value} (h:XU w X n e v):w.cell? ⟨X,0,none⟩=some (.int .u64 n)∧w.cell? ⟨X,1,none⟩=some (.int .i64 e)∧w.cell? ⟨X,2,none⟩=some v:=by
 refine ⟨?_,?_,?_⟩
 all_goals rw [cell_of_row w X _ _ _ (0,0) h]; rfl



theorem vy.set {w w' w3:World} {P B:Nat} {V:Nat→R15} (h:vy w P B V) (hb:Below w.heap.size w w') {c:Nat} {r:R15} (hc:c<8) (hm:FI r) (htx:vx w' r.A r.c r.ss) (hf:vD P r.A r.ss)
  (hw:w3=((w'.setCell ⟨B,c * 3,none⟩ (r.cell 0)).setCell ⟨B,c * 3+1,none⟩ (r.cell 1)).setCell ⟨B,c * 3+2,none⟩ (r.cell 2)) :
  vy w3 P B (FP V c r)∧zg (fun k=>k=B) w' w3:=by
 have ht:zg (fun k=>k=B) w' w3:=by
  rw [hw]
  exact ((((zg.refl (fun k=>k=B) w').setCell (p:=⟨B,c * 3,none⟩) (fun _=>rfl) _).setCell (p:=⟨B,c * 3+1,none⟩) (fun _=>rfl) _).setCell (p:=⟨B,c * 3+2,none⟩) (fun _=>rfl) _)
 have h1:=h.later hb
 have hne:∀ (A':Option Addr) (ss':List ByteArray),vD P A' ss'→ss'≠[]→∀ a,A'=some a→¬ a.block=B:=fun A' ss' hf hne a ha he=>by
  have:=(hf hne a ha).1
  have:=h.lt
  omega
 refine ⟨⟨h1.lt,Nat.le_trans h1.le ht.size,?_,fun i hi=>?_,fun i hi=>?_,fun i hi=>?_⟩,ht⟩
 ·
  rw [hw]
  exact h1.at_.set c hc r
 ·
  unfold FP
  by_cases e1:i=c
  ·
   rw [if_pos e1]
   exact htx.turns ht (hne _ _ hf)
  ·
   rw [if_neg e1]
   exact (h1.tx i hi).turns ht (hne _ _ (h1.far i hi))
 ·
  unfold FP
  by_cases e1:i=c
  ·
   rw [if_pos e1]; exact hf
  ·
   rw [if_neg e1]; exact h1.far i hi
 ·
  unfold FP
  by_cases e1:i=c
  ·
   rw [if_pos e1]; exact hm
  ·
   rw [if_neg e1]; exact h1.may i hi

def YCp15 (C X k n e:Nat) (A:Option Addr) (m q:Nat) (ls:List ByteArray) (n0:Nat):Nat→Value→World→Prop
 | 0,v,_=>v=.pointer (some ⟨C,0,none⟩)
 | 1,v,_=>v=.int .i64 k
 | 2,v,_=>v=.pointer (some ⟨X,0,none⟩)
 | 3,v,_=>v=.int .u64 n
 | 4,v,_=>v=.pointer (some ⟨X,1,none⟩)
 | 5,v,_=>v=.agg #[.int .i64 e,.slice A m q]
 | 6,v,W=>∃ A' c',v=.agg #[.int .i64 e,.slice A' m c']∧vx W A' c' ls∧vD n0 A' ls
 | 7,v,W=>∃ A' c',v=.agg #[.int .u64 n,.int .i64 e,.slice A' m c']∧vx W A' c' ls∧vD n0 A' ls
 | 8,v,_=>v=.pointer (some ⟨C,0,none⟩)
 | 9,v,_=>v=.pointer (some ⟨C,0,none⟩)
 | 10,v,_=>v=.pointer (some ⟨C,k * 3,none⟩)
 | _,_,_=>True
theorem YCp15_keep {C:Nat} {X:Nat} {k:Nat} {n:Nat} {e:Nat} {A:Option Addr} {m:Nat} {q:Nat} {ls:List ByteArray} {n0:Nat} {W W':World} (hb:Below W.heap.size W W') (j:Nat) (z:Value) (h:YCp15 C X k n e A m q ls n0 j z W):YCp15 C X k n e A m q ls n0 j z W':=by
 match j,h with
 | 0,h=>exact h
 | 1,h=>exact h
 | 2,h=>exact h
 | 3,h=>exact h
 | 4,h=>exact h
 | 5,h=>exact h
 | 6,h=>exact by obtain ⟨A',c',h1,h2,h3⟩:=h; exact ⟨A',c',h1,h2.later hb,h3⟩
 | 7,h=>exact by obtain ⟨A',c',h1,h2,h3⟩:=h; exact ⟨A',c',h1,h2.later hb,h3⟩
 | 8,h=>exact h
 | 9,h=>exact h
 | 10,h=>exact h
 | _+11,h=>exact h

def Cps15 (w:World) (C:Nat) (T:Nat→R15) (k:Nat) (W:World):Prop:=Below w.heap.size w W∧∃ V,vy W (C+1) C V∧∀ i,i<8→i<k→(V i).p=(T i).p

set_option maxRecDepth 100000 in
theorem FO {w:World} {P B:Nat} {T:Nat→R15} (h:vy w P B T) :
  Calls Tryz.prog 45 #[.pointer (some ⟨B,0,none⟩)] w fun e w'=>e=.returned (.pointer (some ⟨w.heap.size,0,none⟩))∧Cps15 w w.heap.size T 8 w':=by
 have HT:=za h
 clear h
 go_enter Tryz.func45,Tryz.ntmps45
 go_wp2_with fail
 with_reducible refine (XV w).mono ?_
 rintro e w1 ⟨rfl,hw⟩
 have HX:Hid (w1.heap[B]? = some (.cells (Y8 T) 123 (0,0))):=by
  rw [hw]
  exact ((ze (Below.refl _ w) _).block B HT.out.at_.lt).trans HT.out.at_
 have HC:Hid (Cps15 w w.heap.size T 0 w1):=by
  refine ⟨by rw [hw]; exact ze (Below.refl _ w) _,fun _=>uw,?_,fun i _ hi=>absurd hi (Nat.not_lt_zero _)⟩
  rw [hw]
  exact Jn w _ rfl
 clear hw
 go_wp2_with (with_reducible refine wpList_load_row rfl 121 (.tmp 9) rfl B rfl 123 (Y8 T) (0,0) _ HX.out Tryz.underlying121 rfl (by rw [fT]; exact sizeRows15) ?_)
 generalize hCC:w.heap.size=C at *
 go_loopg [11] 8 (fun gg s11 wr=>∃ k:Nat,k≤8∧8 - k≤gg∧s11=.int .i64 k∧Hid (Cps15 w C T k wr))
 case atStart=>exact ⟨0,Nat.zero_le _,by omega,rfl,HC.out⟩
 case round =>
  clear HC HX
  obtain ⟨k,hk,hg,rfl,HK⟩:=hrel
  generalize wr=wo at *
  by_cases hlt:k<8
  case neg =>
   obtain rfl:k=8:=by omega
   go_wp2
   go_ret
   exact ⟨by rw [hCC]; rfl,by rw [hCC]; exact HK.out⟩
  have hltz:(k:Int)<8:=by omega
  have hi:=fun W=>index15_run T k hlt W
  unfold R15.v at hi
  have hm:FH (T k).p:=(HT.out.may k hlt).p
  have htl:xU (T k).e (T k).ss=(T k).ss:=tls_mayP15 hm
  obtain ⟨hbo,V,hV,hVP⟩:=HK.out
  have HTX:Hid (∀ W,Below wo.heap.size wo W→vx W (T k).A (T k).c (T k).ss):=fun W hW=>((HT.out.tx k hlt).later (hCC.symm ▸ hbo)).later hW
  have HCL:Hid (∀ W,Below wo.heap.size wo W→Calls Tryz.prog 70 #[.agg #[.int .i64 (T k).e,.slice (T k).A (T k).ss.length (T k).c]] W (Cl15 (T k).e (T k).ss W)):=fun W hW=>qW _ _ _ _ W (HTX.out W hW).rd (by have:(T k).ss.length≤14:=hm.few; omega)
  unfold Cl15 at HCL
  rw [htl] at HCL
  have HDD:Hid (∀ W W3 A' c',Below wo.heap.size wo W→vx W A' c' (T k).ss→vD wo.heap.size A' (T k).ss→W3=((W.setCell ⟨C,k * 3,none⟩ (.int .u64 (T k).n)).setCell ⟨C,k * 3+1,none⟩ (.int .i64 (T k).e)).setCell ⟨C,k * 3+2,none⟩ (.slice A' (T k).ss.length c')→Cps15 w C T (k+1) W3):=fun W W3 A' c' hb ht hf hw=>by
   obtain ⟨h1,h2⟩:=hV.set (r:=⟨(T k).n,(T k).e,A',c',(T k).ss⟩) hb hlt ⟨hm.n,hm.e,hm.z,hm.t,hm.few,hm.lit⟩ ht (fun hne a ha=>⟨Nat.le_trans hV.le (hf hne a ha).1,(hf hne a ha).2⟩) hw
   refine ⟨(hbo.trans (hb.mono hbo.size)).trans (h2.below_at (Nat.le_trans hbo.size hb.size) (fun j e=>by omega)),_,h1,fun i hi hik=>?_⟩
   unfold FP
   by_cases e1:i=k
   ·
    rw [if_pos e1,e1]; rfl
   ·
    rw [if_neg e1]; exact hVP i hi (by omega)
  have HVA:Hid (∀ W,Below wo.heap.size wo W→qa W C 123 V):=fun W hW=>hV.at_.later hW
  clear hm htl hbo hV hVP HTX
  generalize (T k).n=n at *
  generalize (T k).e=e at *
  generalize (T k).A=A at *
  generalize (T k).c=q at *
  generalize (T k).ss=ss at *
  generalize ss.length=m at *
  have hRX:XU (wo.alloc (.cells #[.int .u64 n,.int .i64 e,.slice A m q] 107)) wo.heap.size n e (.slice A m q):=heap_alloc_new wo _
  have HRX:=za hRX
  have HB5:=za (ze (Below.refl _ wo) (.cells #[.int .u64 n,.int .i64 e,.slice A m q] 107))
  clear hRX
  go_wp2
  generalize wo.alloc (.cells #[.int .u64 n,.int .i64 e,.slice A m q] 107)=w5 at *
  generalize hXX:wo.heap.size=X at *
  have hXl:X<w5.heap.size:=(Array.getElem?_eq_some_iff.1 HRX.out).1
  refine zA (by kernel_rfl) 11 (fun W=>Below w5.heap.size w5 W) (fun W=>Cps15 w C T (k+1) W) (YCp15 C X k n e A m q ss X) (fun _=>True) ?F ?hF (by kernel_rfl) (by kernel_rfl) (by kernel_rfl) (by kernel_rfl) (by decide) (jc (Below.refl _ _)) ?step ?fin
  case hF =>
   intro x
   simp only [List.map_cons,List.map_nil,vb,Act.put,List.setIfInBounds_toArray,List.set_cons_zero,List.set_cons_succ,Nat.zero_add,Nat.reduceAdd]
   exact rfl
  case step =>
   refine ⟨?_,?_,?_,?_,?_,?_,?_,?_,?_,?_,?_,?_,trivial⟩
   ·
    intro x W
    refine ⟨fun _ hW hdep K hK=>?_,(fun h=>absurd h (by decide)),(fun h=>absurd h (by decide))⟩
    clear hdep
    go_simp
    exact hK _ _ rfl hW (fun _ _ h=>h)
   ·
    intro x W
    refine ⟨fun _ hW hdep K hK=>?_,(fun h=>absurd h (by decide)),(fun h=>absurd h (by decide))⟩
    clear hdep
    go_simp
    exact hK _ _ rfl hW (fun _ _ h=>h)
   ·
    intro x W
    refine ⟨fun _ hW hdep K hK=>?_,(fun h=>absurd h (by decide)),(fun h=>absurd h (by decide))⟩
    clear hdep
    go_simp
    exact hK _ _ rfl hW (fun _ _ h=>h)
   ·
    intro x W
    refine ⟨fun _ hW hdep K hK=>?_,(fun h=>absurd h (by decide)),(fun h=>absurd h (by decide))⟩
    have h2:x 2=_:=hdep 2 rfl
    have k3:=XU.cells ((hW.block X hXl).trans HRX.out)
    obtain ⟨k0,k1,k2⟩:=k3
    clear hdep
    simp only [h2] at hK
    go_simp
    exact hK _ _ rfl hW (fun _ _ h=>h)
   ·
    intro x W
    refine ⟨fun _ hW hdep K hK=>?_,(fun h=>absurd h (by decide)),(fun h=>absurd h (by decide))⟩
    clear hdep
    go_simp
    exact hK _ _ rfl hW (fun _ _ h=>h)
   ·
    intro x W
    refine ⟨fun _ hW hdep K hK=>?_,(fun h=>absurd h (by decide)),(fun h=>absurd h (by decide))⟩
    have h4:x 4=_:=hdep 4 rfl
    have k3:=XU.cells ((hW.block X hXl).trans HRX.out)
    obtain ⟨k0,k1,k2⟩:=k3
    clear hdep
    simp only [h4] at hK
    go_simp
    exact hK _ _ rfl hW (fun _ _ h=>h)
   ·
    intro x W
    refine ⟨fun _ hW hdep K hK=>?_,(fun h=>absurd h (by decide)),(fun h=>absurd h (by decide))⟩
    have h5:x 5=_:=hdep 5 rfl
    clear hdep
    simp only [h5] at hK
    go_simp
    refine (HCL.out W (hXX ▸ (HB5.out.trans (hW.mono (by omega))))).mono ?_
    rintro en W' ⟨A',c',rfl,ht,hf,hb⟩
    exact hK _ _ ⟨A',c',rfl,ht,fun hne a ha=>⟨Nat.le_trans (by have:=hW.size; omega) (hf hne a ha).1,(hf hne a ha).2⟩⟩ (zo hW hb) (fun j z h=>YCp15_keep hb j z h)
   ·
    intro x W
    refine ⟨fun _ hW hdep K hK=>?_,(fun h=>absurd h (by decide)),(fun h=>absurd h (by decide))⟩
    have h3:x 3=_:=hdep 3 rfl
    obtain ⟨A',c',h6,ht,hf⟩:=hdep 6 rfl
    have HT6:=za ht
    have HF6:=za hf
    clear ht hf
    simp only [h6] at hK
    clear hdep
    simp only [h3] at hK
    go_simp
    exact hK _ _ ⟨A',c',rfl,HT6.out,HF6.out⟩ hW (fun _ _ h=>h)
   ·
    intro x W
    refine ⟨fun _ hW hdep K hK=>?_,(fun h=>absurd h (by decide)),(fun h=>absurd h (by decide))⟩
    have h0:x 0=_:=hdep 0 rfl
    clear hdep
    simp only [h0] at hK
    go_simp
    exact hK _ _ rfl hW (fun _ _ h=>h)
   ·
    intro x W
    refine ⟨fun _ hW hdep K hK=>?_,(fun h=>absurd h (by decide)),(fun h=>absurd h (by decide))⟩
    have h8:x 8=_:=hdep 8 rfl
    clear hdep
    simp only [h8] at hK
    go_simp
    exact hK _ _ rfl hW (fun _ _ h=>h)
   ·
    intro x W
    refine ⟨fun _ hW hdep K hK=>?_,(fun h=>absurd h (by decide)),(fun h=>absurd h (by decide))⟩
    have h9:x 9=_:=hdep 9 rfl
    have h1:x 1=_:=hdep 1 rfl
    have g0:(0:Int)≤k∧(k:Int)<8:=by omega
    clear hdep
    simp only [h9,h1] at hK
    go_simp
    exact hK _ _ rfl hW (fun _ _ h=>h)
   ·
    intro x W
    refine ⟨(fun h=>absurd h (by decide)),fun _ hW hdep K hK=>?_,(fun h=>absurd h (by decide))⟩
    have h10:x 10=_:=hdep 10 rfl
    obtain ⟨A',c',h7,ht,hf⟩:=hdep 7 rfl
    have hbw:Below X wo W:=HB5.out.trans (hW.mono (by omega))
    have ha:=HVA.out W hbw
    have a0:=ha.cell k 0 hlt (by decide)
    have a1:=ha.cell k 1 hlt (by decide)
    have a2:=ha.cell k 2 hlt (by decide)
    have af:=ha.free
    simp only [R15.cell,Nat.add_zero] at a0 a1 a2
    have HT7:=za ht
    have HF7:=za hf
    have HBW:=za hbw
    clear ht hf ha hbw
    simp only [h7] at hK
    clear hdep
    simp only [h10] at hK
    go_simp
    exact hK (.bool true) _ trivial (HDD.out W _ A' c' HBW.out HT7.out HF7.out rfl)
  case fin =>
   intro x w6 hD _
   have HD:=za hD
   clear hD
   go_wp2
   go_roundg (8 - (k+1))
   case measure=>omega
   case rel=>exact ⟨k+1,by omega,by omega,by go_num,HD.out⟩
end Go.Proofs.YteegkoicalbkbaaGreatDoor
namespace Go.Proofs.YteegkoicalbkbaaGreatDoor

def ZQ (r a:Nat):Bool:=(r &&& a) == a

def Q0 (L:List UInt8) (node:Nat):Nat:=(L.getD node 0).toNat
def xL (L:List UInt8) (r k:Nat):List UInt8:=((List.range k).filter fun i=>!ZQ (Q0 L i) r).map UInt8.ofNat
theorem Xp {L:List UInt8} {r k:Nat} (h:ZQ (Q0 L k) r=true):xL L r (k+1)=xL L r k:=by
 unfold xL
 rw [List.range_succ,List.filter_append,List.map_append]
 simp [h]
theorem ZN {L:List UInt8} {r k:Nat} (h:ZQ (Q0 L k) r=false):xL L r (k+1)=xL L r k++[UInt8.ofNat k]:=by
 unfold xL
 rw [List.range_succ,List.filter_append,List.map_append]
 simp [h]
theorem lacks16_len (L:List UInt8) (r k:Nat):(xL L r k).length≤k:=by
 unfold xL
 rw [List.length_map]
 exact Nat.le_trans (List.length_filter_le _ _) (by simp)
def Ym (L:List UInt8) (r k:Nat):Bool:=(List.range k).all fun i=>ZQ (Q0 L i) r
theorem allK16_succ (L:List UInt8) (r k:Nat):Ym L r (k+1)=(Ym L r k && ZQ (Q0 L k) r):=by
 unfold Ym
 rw [List.range_succ,List.all_append]
 simp
theorem Yg (L:List UInt8) (r k:Nat):decide ((xL L r k).length=0)=Ym L r k:=by
 induction k with
 | zero=>rfl
 | succ k ih =>
  rw [allK16_succ,← ih]
  cases h:ZQ (Q0 L k) r with
  | true=>rw [Xp h]; simp
  | false=>rw [ZN h]; simp
theorem Qi (L:List UInt8) (r k:Nat):(((xL L r k).length:Int) == 0)=Ym L r k:=by
 rw [← Yg]
 by_cases h:(xL L r k).length=0
 ·
  rw [h]; rfl
 ·
  simp [h]

def Qd (n:Int):Bool:=n == 3 || (n == 5 || n == 7)
theorem Xm {n:Int} (h:Qd n=true):n=3∨n=5∨n=7:=by
 simpa [Qd] using h
def ur (L:List UInt8) (node r:Nat):Bool:=decide (node<L.length) && (decide (1≤r) && decide (r≤3))
def uj (L:List UInt8) (node r:Nat):List UInt8:=if ur L node r=true then L.set node (UInt8.ofNat r) else L
def Zj (L:List UInt8) (node r:Nat):Nat:=if ur L node r=true then 0 else 1
theorem Q2 (L:List UInt8) (node r:Nat):(uj L node r).length=L.length:=by
 unfold uj
 split
 ·
  simp
 ·
  rfl
theorem qP {r:Nat} (h:r<256):(UInt8.ofNat r).toNat=r:=by
 simp
 omega
structure qJ (L:List UInt8):Prop where
 may:Qd L.length=true
 low:∀ x∈L,x.toNat≤3
theorem qJ.len {L:List UInt8} (h:qJ L):0<L.length∧L.length≤7:=by
 rcases Xm h.may with e | e | e <;> omega
theorem qJ.new {n:Nat} (h:Qd n=true):qJ (List.replicate n 0):=⟨by simpa using h,fun x hx=>by rw [List.eq_of_mem_replicate hx]; decide⟩
theorem qJ.note {L:List UInt8} (h:qJ L) (node:Nat) {r:Nat} (hr:r<256):qJ (uj L node r):=by
 refine ⟨by rw [Q2]; exact h.may,fun x hx=>?_⟩
 unfold uj at hx
 split at hx
 ·
  rename_i ht
  rcases List.mem_or_eq_of_mem_set hx with hx | rfl
  ·
   exact h.low x hx
  ·
   rw [qP hr]
   unfold ur at ht
   simp at ht
   omega
 ·
  exact h.low x hx
theorem qJ.of {L:List UInt8} (h:qJ L) (i:Nat):Q0 L i≤3:=by
 unfold Q0
 rw [List.getD_eq_getElem?_getD]
 cases e:L[i]? with
 | none=>exact Nat.zero_le _
 | some x=>exact h.low x (List.mem_of_getElem? e)
end Go.Proofs.YteegkoicalbkbaaGreatDoor
namespace Go.Proofs.YteegkoicalbkbaaGreatDoor
open Go.RowKit

theorem infoRel:(Tryz.prog.info? 45).map (fun i=>(i.zero,i.size,i.bytes))=some (some (.int .u8 0),1,1):=by kernel_rfl

structure qg (w:World) (B A c:Nat) (L:List UInt8):Prop where
 blk:w.heap[B]? = some (.cells #[.slice (some ⟨A,0,none⟩) L.length c] 117 (0,0))
 own:w.ownsRow 0 45 1 (.slice (some ⟨A,0,none⟩) L.length c) L.length (cellsOf L)
 ne:A≠B
 good:qJ L

section
variable {w w':World} {B A c:Nat} {L:List UInt8}
theorem qg.lt (h:qg w B A c L):B<w.heap.size:=(Array.getElem?_eq_some_iff.1 h.blk).1
theorem qg.row (h:qg w B A c L):∃ cur:Array Value,w.heap[A]? = some (.cells cur 45 (0,0))∧L.length≤c∧c≤maxLen∧cur.size=c∧cur.toList.take L.length=cellsOf L:=by
 rcases h.own.2 with ⟨e,_⟩ | ⟨g,cap,cur,e,_,hg,h1,h2,h3,h4⟩
 ·
  cases e
 ·
  injection e with e1 e2 e3
  injection e1 with e1
  injection e1 with e1
  subst e1 e3
  exact ⟨cur,hg,h1,h2,by simpa using h3,by simpa using h4⟩
theorem qg.ltA (h:qg w B A c L):A<w.heap.size:=by
 obtain ⟨_,h,_⟩:=h.row
 exact (Array.getElem?_eq_some_iff.1 h).1
theorem qg.cell (h:qg w B A c L):w.cell? ⟨B,0,none⟩=some (.slice (some ⟨A,0,none⟩) L.length c):=by
 rw [cell_of_row w B 0 _ _ (0,0) h.blk]; rfl
theorem qg.at_ (h:qg w B A c L) (i:Nat) (hi:i<L.length):w.cell? ⟨A,i,none⟩=some (.int .u8 (Q0 L i:Nat)):=by
 have:=h.own.cells (g:=A) rfl i (.int .u8 (L[i].toNat:Int)) (by simp [cellsOf,List.getElem?_eq_getElem hi])
 rw [Addr.add_lit,Nat.zero_add] at this
 rw [this]
 unfold Q0
 rw [List.getD_eq_getElem?_getD,List.getElem?_eq_getElem hi]
 rfl
theorem qg.free (h:qg w B A c L) (i:Nat):w.frozen? ⟨A,i,none⟩=false:=by
 obtain ⟨_,h,_⟩:=h.row
 simp [World.frozen?,h]
theorem qg.turns {S:Nat→Prop} (h:qg w B A c L) (ht:zg S w w') (hB:¬ S B) (hA:¬ S A):qg w' B A c L :=
 ⟨(ht.block B h.lt hB).trans h.blk,ht.owns h.own (fun k hk he=>hA (by have h1:A=k:=(by simpa [Value.ownBlock] using hk); exact h1 ▸ he)),h.ne,h.good⟩
theorem qg.later (h:qg w B A c L) (hb:Below w.heap.size w w'):qg w' B A c L:=h.turns (vv hb) (fun f=>f) (fun f=>f)
theorem qg.rd (h:qg w B A c L):Rd w (.slice (some ⟨A,0,none⟩) L.length c) L:=Rd.of_own h.own
theorem QM (L:List UInt8) (i:Nat) {r:Nat} (hr:r<256):cellsOf (L.set i (UInt8.ofNat r))=(cellsOf L).set i (.int .u8 (r:Int)):=by
 unfold cellsOf
 rw [List.map_set]
 have:=qP hr
 rw [this]
theorem qg.set (h:qg w B A c L) {i r:Nat} (hi:i<L.length) (hr1:1≤r) (hr3:r≤3):qg (w.setCell ⟨A,i,none⟩ (.int .u8 (r:Int))) B A c (uj L i r):=by
 have ht:ur L i r=true:=by unfold ur; simp; omega
 have e:uj L i r=L.set i (UInt8.ofNat r):=by unfold uj; rw [if_pos ht]
 have hl:(L.set i (UInt8.ofNat r)).length=L.length:=by simp
 have hg:=h.good.note i (r:=r) (by omega)
 rw [e] at hg ⊢
 refine ⟨?_,?_,h.ne,hg⟩
 ·
  rw [hl,Below.heap_setCell _ _ _ _ (fun k=>h.ne k.symm)]
  exact h.blk
 ·
  rw [hl,QM L i (by omega)]
  exact (h.own.stored i _).1
theorem FX (w:World) (A i:Nat) (u:Value):zg (fun k=>k=A) w (w.setCell ⟨A,i,none⟩ u):=(zg.refl (fun k=>k=A) w).setCell (p:=⟨A,i,none⟩) (fun _=>rfl) u
end

set_option maxRecDepth 100000 in
theorem Qb (n:Int) (w:World):Calls Tryz.prog 54 #[.int .i64 n] w fun e w'=>e=.returned (.bool (Qd n))∧w=w':=by
 unfold Qd
 cases h3:n == 3
 case true =>
  rw [Bool.true_or]
  go_enter Tryz.func54,Tryz.ntmps54
  go_wp2
  go_ret
  exact ⟨rfl,rfl⟩
 case false =>
  rw [Bool.false_or]
  cases h5:n == 5
  case true =>
   rw [Bool.true_or]
   go_enter Tryz.func54,Tryz.ntmps54
   go_wp2
   go_ret
   exact ⟨rfl,rfl⟩
  case false =>
   rw [Bool.false_or]
   cases h7:n == 7
   all_goals
    go_enter Tryz.func54,Tryz.ntmps54
    go_wp2
    go_ret
    exact ⟨rfl,rfl⟩

set_option maxRecDepth 100000 in
theorem QS {w:World} {B A c:Nat} {L:List UInt8} (h:qg w B A c L):Calls Tryz.prog 64 #[.pointer (some ⟨B,0,none⟩)] w fun e w'=>e=.returned (.int .i64 (L.length:Nat))∧w=w':=by
 have hc:=h.cell
 generalize L.length=n at *
 clear h
 go_enter Tryz.func64,Tryz.ntmps64
 go_wp2
 go_ret
 exact ⟨rfl,rfl⟩

set_option maxRecDepth 100000 in
theorem Qj {w:World} {B A c:Nat} {L:List UInt8} (h:qg w B A c L) (node:Nat) (hnd:node<256):Calls Tryz.prog 96 #[.pointer (some ⟨B,0,none⟩),.int .u8 (node:Int)] w fun e w'=>e=.returned (.bool (decide (node<L.length)))∧w=w':=by
 have HN:=za (QS h)
 generalize L.length=n at *
 have hcv:wrap64 (node:Int)=node:=IntWalk.wrap64_in _ (by omega)
 clear h
 go_enter Tryz.func96,Tryz.ntmps96
 go_wp2_with fail
 with_reducible refine HN.out.mono ?_
 rintro e w1 ⟨rfl,rfl⟩
 clear HN
 go_wp2
 go_ret
 exact ⟨rfl,rfl⟩

set_option maxRecDepth 100000 in
theorem Has16_calls (r a:Nat) (w:World) (hr:r<256) (ha:a<256):Calls Tryz.prog 75 #[.int .u8 (r:Int),.int .u8 (a:Int)] w fun e w'=>e=.returned (.bool (ZQ r a))∧w=w':=by
 have h1:=u8_and_nat r a hr ha
 have h2:(((r &&& a:Nat):Int) == (a:Int))=ZQ r a:=by
  unfold ZQ
  by_cases h:r &&& a=a
  ·
   rw [h]; simp
  ·
   have h3:¬ ((r &&& a:Nat):Int)=a:=by omega
   rw [beq_eq_false_iff_ne.2 h,beq_eq_false_iff_ne.2 h3]
 generalize r &&& a=x at *
 generalize ZQ r a=q at *
 clear hr ha
 go_enter Tryz.func75,Tryz.ntmps75
 go_wp2
 go_ret
 exact ⟨rfl,rfl⟩


def Newly16 (n:Nat) (w:World) (e:Ending) (w':World):Prop:=∃ B A,e=.returned (.pointer (some ⟨B,0,none⟩))∧w.heap.size≤A∧w.heap.size≤B∧Below w.heap.size w w'∧qg w' B A n (List.replicate n 0)
set_option maxRecDepth 100000 in
theorem New16_calls (n:Nat) (w:World) (h:Qd n=true):Calls Tryz.prog 28 #[.int .i64 (n:Int)] w (Newly16 n w):=by
 have HM:=za (Qb n w)
 rw [h] at HM
 have hn:n≤7:=by rcases Xm h with e | e | e <;> omega
 obtain ⟨i0,hi,hz0,hz1,hz2⟩:=info_parts infoRel
 obtain ⟨w1,hmk,hown,hg⟩:=run_makeSlice_full (P:=Tryz.prog) w 0 115 45 i0 (.int .u8 0) 1 Tryz.underlying115 hi hz0 hz1 .i64 .i64 n (by omega) (by rw [hz2]; omega) (by simp [maxLen]; omega) (Nat.zero_le _)
 have e1:(madeCells (Value.int .u8 0).cells (n * 1)).toList=cellsOf (List.replicate n 0):=by
  rw [show (Value.int .u8 0).cells=#[.int .u8 0] from rfl,toList_madeCells_one,Nat.mul_one,cellsOf,List.map_replicate]
  rfl
 rw [e1] at hown
 have hlr:(List.replicate n (0:UInt8)).length=n:=by simp
 have hA:w.heap.size<w1.heap.size:=by
  rcases hown.2 with ⟨e,_⟩ | ⟨g,_,cur,e,_,hgg,_⟩
  ·
   cases e
  ·
   injection e with e _ _
   injection e with e
   injection e with e
   rw [e]
   exact (Array.getElem?_eq_some_iff.1 hgg).1
 have hb1:Below w.heap.size w w1:=⟨hg.os,hg.tape,hg.output,hg.size,fun k hk=>hg.block k hk (fun e=>by cases e)⟩
 have hbd:qg (w1.alloc (.cells #[.slice (some ⟨w.heap.size,0,none⟩) n n] 117)) w1.heap.size w.heap.size n (List.replicate n 0):=by
  refine ⟨by rw [hlr]; exact heap_alloc_new w1 _,?_,by omega,qJ.new h⟩
  rw [hlr]
  exact ((zg.refl (fun _=>False) w1).alloc _).owns hown (fun _ _ f=>f)
 have HBD:=za hbd
 have HB:=za (ze hb1 (.cells #[.slice (some ⟨w.heap.size,0,none⟩) n n] 117))
 have HA:=za hA
 have HS:=za hb1.size
 clear h hn hi hz0 hz1 hz2 hown hg e1 hlr hA hb1 hbd
 go_enter Tryz.func28,Tryz.ntmps28
 go_wp2_with fail
 with_reducible refine HM.out.mono ?_
 rintro e w2 ⟨rfl,rfl⟩
 clear HM
 go_wp2
 go_ret
 exact ⟨_,_,rfl,Nat.le_refl _,HS.out,HB.out,HBD.out⟩


def jE (w:World) (B A c:Nat) (L:List UInt8) (node r:Nat) (e:Ending) (w':World):Prop:=e=.returned (.int .i64 (Zj L node r:Nat))∧qg w' B A c (uj L node r)∧zg (fun k=>k=A) w w'
theorem jE.no {w:World} {B A c:Nat} {L:List UInt8} {node r:Nat} (h:qg w B A c L) (ht:ur L node r=false):jE w B A c L node r (.returned (.int .i64 1)) w:=by
 have e1:Zj L node r=1:=by unfold Zj; rw [ht]; rfl
 have e2:uj L node r=L:=by unfold uj; rw [ht]; rfl
 unfold jE
 rw [e1,e2]
 exact ⟨rfl,h,zg.refl _ _⟩
set_option maxRecDepth 100000 in
theorem FG {w:World} {B A c:Nat} {L:List UInt8} (h:qg w B A c L) (node r:Nat) (hnd:node<256):Calls Tryz.prog 139 #[.pointer (some ⟨B,0,none⟩),.int .u8 (node:Int),.int .u8 (r:Int)] w (jE w B A c L node r):=by
 have HK:=za (Qj h node hnd)
 by_cases hl:node<L.length
 case neg =>
  rw [decide_eq_false hl] at HK
  have HZ:=za (jE.no (node:=node) (r:=r) h (by unfold ur; simp [hl]))
  clear h hnd hl
  go_enter Tryz.func139,Tryz.ntmps139
  go_wp2_with fail
  with_reducible refine HK.out.mono ?_
  rintro e w1 ⟨rfl,rfl⟩
  clear HK
  go_wp2
  go_ret
  exact HZ.out
 rw [decide_eq_true hl] at HK
 by_cases h0:r=0
 case pos =>
  subst h0
  have HZ:=za (jE.no (node:=node) (r:=0) h (by unfold ur; simp))
  clear h hnd hl
  go_enter Tryz.func139,Tryz.ntmps139
  go_wp2_with fail
  with_reducible refine HK.out.mono ?_
  rintro e w1 ⟨rfl,rfl⟩
  clear HK
  go_wp2
  go_ret
  exact HZ.out
 have z1:((r:Int) == 0)=false:=by simp; omega
 have z2:(r == 0)=false:=by simp; omega
 by_cases h3:r≤3
 case neg =>
  have g1:decide ((r:Int) > 3)=true:=by simp; omega
  have g2:decide (3<r)=true:=by simp; omega
  have HZ:=za (jE.no (node:=node) (r:=r) h (by unfold ur; simp; omega))
  clear h hnd hl h0 h3
  go_enter Tryz.func139,Tryz.ntmps139
  go_wp2_with fail
  with_reducible refine HK.out.mono ?_
  rintro e w1 ⟨rfl,rfl⟩
  clear HK
  go_wp2
  go_ret
  exact HZ.out
 have g1:decide ((r:Int) > 3)=false:=by simp; omega
 have g2:decide (3<r)=false:=by simp; omega
 have hc:=h.cell
 have ha:=h.at_ node hl
 have hf:=h.free
 have d1:(0:Int)≤node∧(node:Int)<L.length:=by omega
 have HZ:Hid (jE w B A c L node r (.returned (.int .i64 0)) (w.setCell ⟨A,node,none⟩ (.int .u8 (r:Int)))):=by
  have ht:ur L node r=true:=by unfold ur; simp; omega
  refine ⟨?_,h.set hl (by omega) h3,FX _ _ _ _⟩
  unfold Zj
  rw [if_pos ht]
  rfl
 generalize hn:L.length=n at *
 generalize Q0 L node=x at *
 clear h hnd h0 h3 hn
 go_enter Tryz.func139,Tryz.ntmps139
 go_wp2_with fail
 with_reducible refine HK.out.mono ?_
 rintro e w1 ⟨rfl,rfl⟩
 clear HK
 go_wp2
 go_ret
 exact HZ.out

theorem src_byte16 (w:World) (x:Int):Src Tryz.prog 1 62 (.slice (some ⟨w.heap.size,0,none⟩) 1 1) 1 [.int .u8 x] (w.alloc (.cells #[.int .u8 x] 5)) :=
 Src.ofSlice _ Tryz.underlying62 _ 1 1 _ rfl (cell_one_new _ _ _) (fun u hu=>by rw [List.mem_singleton.1 hu]; rfl)
def Lk16 (w:World) (L:List UInt8) (r k m:Nat) (A:Option Addr) (c:Nat) (wr:World):Prop :=
 m=(xL L r k).length∧wr.ownsRow 0 5 1 (.slice A m c) m (cellsOf (xL L r k))∧(∀ b,Value.ownBlock (.slice A m c)=some b→w.heap.size≤b)∧Below w.heap.size w wr
section
variable {w wr W w2:World} {L:List UInt8} {r k m c:Nat} {A:Option Addr}
theorem Lk16.zero {w w1:World} (L:List UInt8) (r:Nat) (hb:Below w.heap.size w w1):Lk16 w L r 0 0 none 0 w1:=⟨rfl,World.ownsRow_nil _ _ _ _,fun b h=>by simp [Value.ownBlock] at h,hb⟩
theorem Lk16.yes (h:Lk16 w L r k m A c wr) (hh:ZQ (Q0 L k) r=true):Lk16 w L r (k+1) m A c wr:=by
 unfold Lk16
 rw [Xp hh]
 exact h
theorem Lk16.no {A2:Option Addr} {c2:Nat} (h:Lk16 w L r k m A c wr) (hh:ZQ (Q0 L k) r=false) (hk:k<256) (hW:Below wr.heap.size wr W) (ho:w2.ownsRow 0 5 1 (.slice A2 (m+1) c2) (m+1) (cellsOf (xL L r k)++[.int .u8 (k:Int)]))
  (hg:W.grownBy w2 (Value.ownBlock (.slice A m c))) (ha:Value.ownBlock (.slice A2 (m+1) c2)=Value.ownBlock (.slice A m c)∨Value.ownBlock (.slice A2 (m+1) c2)=some W.heap.size):Lk16 w L r (k+1) (m+1) A2 c2 w2:=by
 obtain ⟨h1,_,h3,h4⟩:=h
 have e:cellsOf (xL L r (k+1))=cellsOf (xL L r k)++[.int .u8 (k:Int)]:=by
  rw [ZN hh,fj]
  have:=qP hk
  simp only [cellsOf,List.map_cons,List.map_nil,this]
 have hb:=zo h4 hW
 refine ⟨by rw [ZN hh,List.length_append,← h1]; rfl,by rw [e]; exact ho,fun b hb'=>?_,?_⟩
 ·
  rcases ha with ha | ha
  ·
   exact h3 b (ha ▸ hb')
  ·
   rw [ha] at hb'
   injection hb' with hb'
   have:=hb.size
   omega
 ·
  exact ((zg.of_below hb (fun k=>w.heap.size≤k)).grown hg (fun k hk _=>h3 k hk)).below (fun i h=>h)
end

set_option maxRecDepth 100000 in
theorem XX {w:World} {B A c:Nat} {L:List UInt8} (h:qg w B A c L) (r:Nat) (hr:r<256):Calls Tryz.prog 50 #[.pointer (some ⟨B,0,none⟩),.int .u8 (r:Int)] w (Fresh w (xL L r L.length)):=by
 obtain ⟨i0,hi,hz0,hz1,hz2⟩:=info_parts YF
 have hc:=h.cell
 have hlen:=h.good.len
 have hlow:∀ i,Q0 L i≤3:=h.good.of
 have HH:=za h
 have HLOW:=za hlow
 clear h hlow
 unfold Fresh
 obtain ⟨n,hn⟩:∃ n,n=L.length:=⟨_,rfl⟩
 rw [← hn] at hc hlen ⊢
 have HN:=za hn
 clear hn
 go_enter Tryz.func50,Tryz.ntmps50
 go_wp2
 go_loopg [5,13] n (fun gg s5 s13 wr=>∃ k m A' c':Nat,∃ AA:Option Addr,k≤n∧n - k≤gg∧s13=.int .i64 k∧s5=.slice AA m c'∧Hid (Lk16 w L r k m AA c' wr))
 case atStart=>exact ⟨0,0,0,0,none,Nat.zero_le _,by omega,rfl,rfl,Lk16.zero L r (Below.refl _ _)⟩
 case round =>
  clear hc
  obtain ⟨k,m,_,c',AA,hk,hg,rfl,rfl,HK⟩:=hrel
  generalize wr=wo at *
  by_cases hlt:k<n
  case neg =>
   obtain rfl:k=n:=by omega
   go_wp2
   go_ret
   obtain ⟨h1,h2,h3,h4⟩:=HK.out
   exact ⟨_,rfl,h1 ▸ h2,h3,vv h4⟩
  have hb:=HH.out.later HK.out.2.2.2
  have hcl:=hb.at_ k (by rw [← HN.out]; exact hlt)
  have hlo:Q0 L k≤3:=HLOW.out k
  have HHAS:=za (fun W=>Has16_calls (Q0 L k) r W (by omega) hr)
  have d1:(0:Int)≤k∧(k:Int)<n:=by omega
  have HOWN:=za HK.out.2.1
  have hcv:IntKind.u8.wrap (k:Int)=k:=by rw [IntKind.wrap_u8']; omega
  have hml:m≤7:=by have h1:=HK.out.1; have h2:=lacks16_len L r k; omega
  cases hh:ZQ (Q0 L k) r with
  | true =>
   rw [hh] at HHAS
   have HK2:=za (HK.out.yes hh)
   generalize Q0 L k=x at *
   clear hb hh HK HOWN hlo
   go_wp2_with fail
   with_reducible refine (HHAS.out _).mono ?_
   rintro e w1 ⟨rfl,rfl⟩
   clear HHAS
   go_wp2
   go_roundg (n - (k+1))
   case measure=>omega
   case rel=>exact ⟨k+1,m,0,c',AA,by omega,by omega,by go_num,rfl,HK2.out⟩
  | false =>
   rw [hh] at HHAS
   have HK2:Hid (∀ W w2 A2 c2,_→_→_→_→Lk16 w L r (k+1) (m+1) A2 c2 w2):=fun W w2 A2 c2 a1 a2 a3 a4=>Lk16.no (W:=W) HK.out hh (by omega) a1 a2 a3 a4
   generalize Q0 L k=x at *
   clear hb hh HK hlo
   go_wp2_with fail
   with_reducible refine (HHAS.out _).mono ?_
   rintro e w1 ⟨rfl,rfl⟩
   clear HHAS
   go_wp2_with (at_builtin; refine xZ _ rfl (.tmp 22) (.tmp 25) 62 62 (by rfl) 5 i0 _ 1 1 Tryz.underlying62 hi hz0 hz1 hz2 rfl (.slice AA m c') m _ (by rfl) (HOWN.out.alloc _) (.slice (some ⟨wo.heap.size,0,none⟩) 1 1) 1 [.int .u8 (k:Int)] (by rfl) (src_byte16 wo k) (by simp only [maxLen]; omega) (by omega) ?_; intro A2 c2 w2 ho2 hg2 ha2; have HK3:=za (HK2.out _ w2 A2 c2 ((Below.refl _ _).alloc (Nat.le_refl _) _) ho2 hg2 ha2); clear ho2 hg2 ha2 HK2)
   go_roundg (n - (k+1))
   case measure=>omega
   case rel=>exact ⟨k+1,m+1,0,c2,A2,by omega,by omega,by go_num,rfl,HK3.out⟩

set_option maxRecDepth 100000 in
theorem V2 {w:World} {B A c:Nat} {L:List UInt8} (h:qg w B A c L) (r:Nat) (hr:r<256):Calls Tryz.prog 25 #[.pointer (some ⟨B,0,none⟩),.int .u8 (r:Int)] w fun e w'=>e=.returned (.bool (Ym L r L.length))∧Below w.heap.size w w':=by
 have HL:=za (XX h r hr)
 have h1:=Qi L r L.length
 have h2:=Yg L r L.length
 unfold Fresh at HL
 generalize xL L r L.length=l at *
 generalize Ym L r L.length=q at *
 clear h hr
 go_enter Tryz.func25,Tryz.ntmps25
 go_wp2_with fail
 with_reducible refine HL.out.mono ?_
 rintro e w1 ⟨v,rfl,ho,_,ht⟩
 obtain ⟨A',c',rfl⟩:=yB ho
 have HB:=za (still14 ht)
 clear ho ht HL
 generalize l.length=m at *
 go_wp2
 go_ret
 exact ⟨by rw [← h1]; rfl,HB.out⟩



section
variable {w w':World} {D:Nat} {L:List UInt8}
end

def Cl16 (w:World) (L:List UInt8) (e:Ending) (w':World):Prop :=
 ∃ v,e=.returned v∧w'.ownsRow 0 45 1 v L.length (cellsOf L)∧(∀ k,v.ownBlock=some k→w.heap.size≤k)∧zg (fun _=>False) w w'
set_option maxRecDepth 100000 in
theorem QK {w:World} {B A c:Nat} {L:List UInt8} (h:qg w B A c L):Calls Tryz.prog 74 #[.slice (some ⟨A,0,none⟩) L.length c] w (Cl16 w L):=by
 obtain ⟨i0,hi,hz0,hz1,hz2⟩:=info_parts infoRel
 have hlen:=h.good.len
 have hsrc:Src Tryz.prog 1 115 (.slice (some ⟨A,0,none⟩) L.length c) L.length (cellsOf L) (w.alloc (.cells #[] 45)):=(h.rd.still ((zg.refl _ _).alloc _)).src Tryz.underlying115
 have HSRC:=za hsrc
 have hnil:=fun W=>Lib.run_eql_slice_nil (P:=Tryz.prog) W 115 45 (some ⟨A,0,none⟩) L.length c 0 0 Tryz.underlying115
 have hmade:(w.alloc (.cells #[] 45)).ownsRow 0 45 1 (.slice (some ⟨w.heap.size,0,none⟩) 0 0) 0 []:=World.ownsRow_made w #[] 0 (Nat.zero_le _) (Nat.zero_le _) rfl
 have HM:=za hmade
 clear hmade hsrc h
 unfold Cl16
 generalize L.length=n at *
 generalize cellsOf L=cs at *
 go_enter Tryz.func74,Tryz.ntmps74
 go_wp2_with (at_builtin; refine xZ _ rfl (.tmp 5) (.tmp 6) 115 115 (by rfl) 45 i0 _ 1 1 Tryz.underlying115 hi hz0 hz1 hz2 rfl (.slice (some ⟨w.heap.size,0,none⟩) 0 0) 0 [] (by rfl) HM.out (.slice (some ⟨A,0,none⟩) n c) n cs (by rfl) HSRC.out (by simp only [maxLen]; omega) (by omega) ?_; intro A2 c2 w2 ho2 hg2 ha2)
 rw [Nat.zero_add] at ho2 ha2
 go_ret
 refine ⟨_,by simp,ho2,?_,?_⟩
 ·
  intro k hk
  rcases ha2 with h2 | h2
  ·
   rw [h2] at hk
   simp [Value.ownBlock] at hk
   omega
  ·
   rw [h2] at hk
   simp at hk
   omega
 ·
  exact ((zg.refl _ _).alloc _).grown hg2 (fun k hk hlt=>by simp [Value.ownBlock] at hk; omega)

def Copied16 (w:World) (L:List UInt8) (e:Ending) (w':World):Prop:=∃ B A c,e=.returned (.pointer (some ⟨B,0,none⟩))∧w.heap.size≤A∧w.heap.size≤B∧Below w.heap.size w w'∧qg w' B A c L
set_option maxRecDepth 100000 in
theorem FN {w:World} {B A c:Nat} {L:List UInt8} (h:qg w B A c L):Calls Tryz.prog 46 #[.pointer (some ⟨B,0,none⟩)] w (Copied16 w L):=by
 have HC:=za (QK h)
 unfold Cl16 at HC
 have hc:=h.cell
 have HG:=za h.good
 have hlen:=h.good.len
 have HF:Hid (∀ w1 v,w1.ownsRow 0 45 1 v L.length (cellsOf L)→(∀ k,v.ownBlock=some k→w.heap.size≤k)→zg (fun _=>False) w w1 →
   ∃ A2 c2,v=.slice (some ⟨A2,0,none⟩) L.length c2∧w.heap.size≤A2∧qg (w1.alloc (.cells #[.slice (some ⟨A2,0,none⟩) L.length c2] 117)) w1.heap.size A2 c2 L):=fun w1 v ho hn ht=>by
  obtain ⟨g,cap,rfl,_,hlt⟩:=ho.form hlen.1
  refine ⟨g,cap,rfl,hn g rfl,heap_alloc_new w1 _,((zg.refl (fun _=>False) w1).alloc _).owns ho (fun _ _ f=>f),by omega,HG.out⟩
 have HS:=za (fun (w1:World) (ht:zg (fun _=>False) w w1)=>ht.size)
 clear h hlen HG
 unfold Copied16
 obtain ⟨n,hn⟩:∃ n,n=L.length:=⟨_,rfl⟩
 rw [← hn] at hc HC HF
 clear hn
 go_enter Tryz.func46,Tryz.ntmps46
 go_wp2_with fail
 with_reducible refine HC.out.mono ?_
 rintro e w1 ⟨v,rfl,ho,hn,ht⟩
 obtain ⟨A2,c2,rfl,hA2,hbd⟩:=HF.out w1 v ho hn ht
 have HBD:=za hbd
 have HB:=za (ze (still14 ht) (.cells #[.slice (some ⟨A2,0,none⟩) n c2] 117))
 have HSZ:=za ht.size
 have HA2:=za hA2
 clear ho hn ht hbd HC HF HS hA2
 go_wp2
 go_ret
 exact ⟨_,A2,c2,rfl,HA2.out,HSZ.out,HB.out,HBD.out⟩
end Go.Proofs.YteegkoicalbkbaaGreatDoor
namespace Go.Proofs.YteegkoicalbkbaaGreatDoor

def oE17 (kd:Nat) (L:zj) (a b:List UInt8):Int:=if kd=0 then crE L a b else if kd=1 then deE L a else if kd=2 then seE L a b else if kd=3 then deE L a else liE a
def oL17 (kd:Nat) (L:zj) (a b:List UInt8):zj:=if kd=0 then crL L a b else if kd=1 then deL L a else if kd=2 then seL L a b else L
def oT17 (kd:Nat) (L:zj) (a:List UInt8):List (List UInt8):=if kd<3 then [] else if kd=3 then [loS L a] else liL L a

def nE17 (kd:Nat) (A:zt) (L:zj) (S:zn) (a b:List UInt8):Int:=match kd with
 | 0=>QI A a b
 | 1=>xR A a
 | 2=>UM A a b
 | 3=>xR A a
 | 4=>zi (uE a) 10
 | 5=>jZ A L a b
 | 6=>Vt A a true
 | 7=>Vt A a false
 | 8=>fX A a b
 | 9=>qv S a
 | 10=>uW S a
 | 11=>Ys A S a b
 | 12=>Yr A S a b
 | 13=>fiE9 L a
 | _=>uW S a
def nA17 (kd:Nat) (A:zt) (a b:List UInt8):zt:=match kd with
 | 0=>crA11 A a b
 | 1=>if xR A a=0 then xF A a else A
 | 2=>shA11 A a b
 | 6=>diA11 A a true
 | 7=>diA11 A a false
 | 8=>rnA11 A a b
 | _=>A
def nL17 (kd:Nat) (A:zt) (L:zj) (a b:List UInt8):zj:=match kd with
 | 1=>if xR A a=0 then vq L a else L
 | 5=>V6 A L a b
 | 8=>rnL11 A L a b
 | _=>L
def nS17 (kd:Nat) (A:zt) (S:zn) (a b:List UInt8):zn:=match kd with
 | 1=>if xR A a=0 then qN S a else S
 | 8=>rnS11 A S a b
 | 9=>jg S a
 | 10=>fF S a
 | 11=>joS11 A S a b
 | 12=>leS11 A S a b
 | _=>S
def nU17 (kd:Nat) (l:xh) (N:List (List UInt8)) (a b:List UInt8):xh:=match kd with
 | 0=>dcrL l a b
 | 1=>ddeL l a
 | 2=>dshL l a b
 | 5=>dsmL l a b
 | 6=>ddiL l a true
 | 7=>ddiL l a false
 | 8=>drnL l a b
 | 10=>ddrL11 l N a
 | 11=>djoL11 l N a b
 | 12=>dleL11 l N a b
 | _=>l
def nN17 (kd:Nat) (N:List (List UInt8)) (a:List UInt8):List (List UInt8):=match kd with
 | 9=>dmaN11 N a
 | 10=>ddrN11 N a
 | _=>N
def us17 (u:U11):List (List UInt8):=[u.hs,u.ml,if u.dis then [49] else [48]]++u.gs
def nT17 (kd:Nat) (A:zt) (L:zj) (S:zn) (a:List UInt8):List (List UInt8):=match kd with
 | 3=>match qe (zl A L S) a with
  | some u=>us17 u
  | none=>[]
 | 4=>Qf (zc (zl A L S)) a
 | 13=>[fiS9 L a]
 | 14=>fy S a
 | _=>[]
theorem qc.stay {A:zt} {L:zj} {S:zn} {k:Nat} (h:zm A L S k):qc A L S (zl A L S) (zc S) (k+1):=⟨h.mono (Nat.le_succ k),rfl,rfl⟩
theorem now17_one {A:zt} {L:zj} {S:zn} {k:Nat} (h:zm A L S k) (kd:Nat) (a b:List UInt8) :
  qc (nA17 kd A a b) (nL17 kd A L a b) (nS17 kd A S a b) (nU17 kd (zl A L S) (zc S) a b) (nN17 kd (zc S) a) (k+1):=by
 match kd with
 | 0=>exact cr_one h a b
 | 1 =>
  by_cases e:xR A a=0
  ·
   have:=de_one h a e
   show qc (if xR A a=0 then xF A a else A) (if xR A a=0 then vq L a else L) (if xR A a=0 then qN S a else S) (ddeL (zl A L S) a) (zc S) (k+1)
   rw [if_pos e,if_pos e,if_pos e]
   exact this
  ·
   have e2:ddeL (zl A L S) a=zl A L S:=by
    unfold ddeL
    rw [if_neg (by rw [de_same]; exact e)]
   show qc (if xR A a=0 then xF A a else A) (if xR A a=0 then vq L a else L) (if xR A a=0 then qN S a else S) (ddeL (zl A L S) a) (zc S) (k+1)
   rw [if_neg e,if_neg e,if_neg e,e2]
   exact qc.stay h
 | 2=>exact sh_one h a b
 | 3=>exact qc.stay h
 | 4=>exact qc.stay h
 | 5=>exact sm_one h a b
 | 6=>exact di_one h a true
 | 7=>exact di_one h a false
 | 8=>exact rn_one h a b
 | 9=>exact ma_one h a
 | 10=>exact dr_one h a
 | 11=>exact jo_one h a b
 | 12=>exact le_one h a b
 | 13=>exact qc.stay h
 | 14=>exact qc.stay h
 | _+15=>exact qc.stay h

inductive D17 where
 | old (E:zj)
 | new (A:zt) (L:zj) (S:zn)
def D17.ver:D17→Nat
 | .old _=>1
 | .new _ _ _=>2
def D17.Good:D17→Prop
 | .old E=>yT E
 | .new A L S=>zm A L S 12
def yX (d:D17) (kd:Nat) (a b:List UInt8):Int:=match d with
 | .old E=>oE17 kd E a b
 | .new A L S=>nE17 kd A L S a b
def xq (d:D17) (kd:Nat) (a b:List UInt8):D17:=match d with
 | .old E=>.old (oL17 kd E a b)
 | .new A L S=>.new (nA17 kd A a b) (nL17 kd A L a b) (nS17 kd A S a b)
def xD (d:D17) (kd:Nat) (a:List UInt8):List (List UInt8):=match d with
 | .old E=>oT17 kd E a
 | .new A L S=>nT17 kd A L S a
def FV (E:zj):zt:=E.map fun q=>(q.1,(q.2,false))
def upD17:D17→D17
 | .old E=>.new (FV E) [] []
 | d=>d
structure H17 where
 d:D17
 X:Nat→P15
 b:List UInt8
structure H17.Good (s:H17):Prop where
 d:s.d.Good
 b:qJ s.b
 x:∀ i,i<8→FH (s.X i)
def rdy17 (b:List UInt8):Bool:=Ym b 2 b.length
def zH (s:H17) (cl:Nat) (o:O14):Int :=
 if (s.d.ver:Int)<vh o.kd.toNat then 6
 else if o.kd.toNat=15 then (match s.d with
  | .old _=>if rdy17 s.b=true then 0 else 13
  | .new _ _ _=>14)
 else if o.kd.toNat=16 then (if cl=255 then (Zj s.b o.nd.toNat o.rl.toNat:Nat) else 1)
 else yX s.d o.kd.toNat o.a.data.toList o.b.data.toList
def yj (s:H17) (cl:Nat) (o:O14):H17 :=
 if zH s cl o≠0 then s
 else if o.kd.toNat=15 then { s with d:=upD17 s.d }
 else if o.kd.toNat=16 then { s with b:=uj s.b o.nd.toNat o.rl.toNat }
 else { s with d:=xq s.d o.kd.toNat o.a.data.toList o.b.data.toList }
def xy (s:H17) (o:O14):List ByteArray:=if o.kd.toNat≤14 then (xD s.d o.kd.toNat o.a.data.toList).map xN else []
def yD (s:H17) (cl:Nat) (o:O14):Int:=if vY o≠0 then vY o else zH s cl o
def xK (s:H17) (cl:Nat) (o:O14):H17:=if vY o≠0 then s else yj s cl o
def xC (s:H17) (cl:Nat) (o:O14):List ByteArray:=if yD s cl o=0 then xy s o else []
def xg (s:H17) (cl n:Nat) (o:O14):Bool :=
 if cl=255 then decide (n=0) && (decide (o.kd.toNat=16) && decide (vY o=0)) else decide (J15 (s.X cl).n cl n=3)
def yW (s:H17) (cl n:Nat) (o:O14):Int :=
 if cl=255 then (if xg s cl n o=true then yD s 255 o else 1)
 else if J15 (s.X cl).n cl n=0 then 1 else if J15 (s.X cl).n cl n=1 then 12 else if J15 (s.X cl).n cl n=2 then ((s.X cl).e:Nat) else yD s cl o
def xQ (s:H17) (cl n:Nat) (o:O14):List ByteArray :=
 if cl=255 then []
 else if J15 (s.X cl).n cl n=0 then [] else if J15 (s.X cl).n cl n=1 then [] else if J15 (s.X cl).n cl n=2 then (s.X cl).ss else xC s cl o
def yV (s:H17) (cl n:Nat) (o:O14):H17 :=
 if xg s cl n o=true then
  (if cl=255 then xK s 255 o else { xK s cl o with X:=vR s.X cl n (yD s cl o).toNat (xC s cl o) })
 else s
def Vf (n:Nat):H17:=⟨.old [],fun _=>noP15,List.replicate n 0⟩
end Go.Proofs.YteegkoicalbkbaaGreatDoor
namespace Go.Proofs.YteegkoicalbkbaaGreatDoor
open Go.RowKit Go.Maps
set_option linter.unusedVariables false

def TyF17 (T:TypeId):Prop:=T=120∨T=240∨T=290∨T=278∨T=84∨T=123∨T=117∨T=45
instance tyF17_dec (T:TypeId):Decidable (TyF17 T):=by unfold TyF17; exact inferInstance
def yO (W w':World):Prop:=∀ (k:Nat) (c:Array Value) (T:TypeId) (fr:Nat×Nat),W.heap[k]? = some (.cells c T fr)→¬ TyF17 T→w'.heap[k]? = some (.cells c T fr)
theorem yO.of_below {W w':World} (hb:Below W.heap.size W w'):yO W w':=fun k _ _ _ h _=>(hb.block k (Array.getElem?_eq_some_iff.1 h).1).trans h
theorem yO.trans {a b c:World} (h:yO a b) (k:yO b c):yO a c:=fun i x T fr hi hT=>k i x T fr (h i x T fr hi hT) hT
theorem yO.refl (w:World):yO w w:=fun _ _ _ _ h _=>h
def fM (W:World) (i:Nat):Prop:=∀ s,W.cell? ⟨i,0,none⟩≠some (.string s)
theorem ve {W:World} {i:Nat} {cs:Array Value} {T:TypeId} {fr:Nat×Nat} (h:W.heap[i]? = some (.cells cs T fr)) (hn:∀ s:ByteArray,cs[0]? ≠ some (.string s)):fM W i:=fun s e=>by
 rw [cell_of_row W i 0 _ _ fr h] at e
 exact hn s e
theorem jO {W:World} {i:Nat} (h:∀ c T fr,W.heap[i]? ≠ some (.cells c T fr)):fM W i:=fun s e=>by
 unfold World.cell? at e
 split at e
 ·
  rename_i hh
  exact h _ _ _ hh
 all_goals cases e
def vu (W:World) (A:Option Addr) (ss:List ByteArray):Prop:=RdS W A ss∧vD 0 A ss
theorem vu.turns {W W':World} {S:Nat→Prop} {A:Option Addr} {ss:List ByteArray} (h:vu W A ss) (ht:zg S W W') (hN:∀ i,S i→fM W i):vu W' A ss :=
 ⟨h.1.turns ht (fun hne a ha hs=>by
  obtain ⟨b,off,e,hb,hc⟩:=h.1 hne
  have h0:=(h.2 hne a ha).2
  rw [ha] at e
  injection e with e
  rw [e] at h0 hs
  injection h0 with _ h0
  subst h0
  exact hN _ hs _ (hc 0 (List.length_pos_iff.2 hne))),h.2⟩
theorem vu.later {W W':World} {A:Option Addr} {ss:List ByteArray} (h:vu W A ss) (hb:Below W.heap.size W W'):vu W' A ss:=⟨h.1.later14 hb,h.2⟩
theorem vu.none (W:World) (A:Option Addr):vu W A []:=⟨fun h=>absurd rfl h,fun h=>absurd rfl h⟩

/-! ### the directory -/
def xo (B:Nat):Value:=.iface 80 (.agg #[.pointer (some ⟨B,0,none⟩)])
def zP (D:Nat):Value:=.iface 150 (.agg #[.pointer (some ⟨D,0,none⟩)])
def yP (W:World) (v:Value) (F:Nat→Prop) (d:D17):Prop:=match d with
 | .old E=>∃ B p,v=xo B∧vm W B p E∧∀ i,F i↔(i=B∨p=some i)
 | .new A L S=>∃ D P M G p q LM pg T,v=zP D∧yg W D P A M p q L LM G pg T∧z8 T=S∧∀ i,F i↔yU D P M p q G pg T i
def zw (W:World) (v:Value) (F:Nat→Prop) (d':D17) (w':World):Prop:=∃ F',yP w' v F' d'∧(∀ i,F' i→F i∨W.heap.size≤i)∧zg F W w'
section
variable {W W' w':World} {v:Value} {F:Nat→Prop} {d d':D17}
theorem yP.lt (h:yP W v F d) {i:Nat} (hi:F i):i<W.heap.size:=by
 cases d with
 | old E =>
  obtain ⟨B,p,_,hd,hF⟩:=h
  rcases (hF i).1 hi with rfl | e
  ·
   exact hd.lt
  ·
   exact hd.mlt i e
 | new A L S =>
  obtain ⟨D,P,M,G,p,q,LM,pg,T,_,hn,_,hF⟩:=h
  exact hn.foot_lt ((hF i).1 hi)
theorem yP.ty (h:yP W v F d) {i:Nat} (hi:F i) {c:Array Value} {X:TypeId} {fr:Nat×Nat} (hb:W.heap[i]? = some (.cells c X fr)):X=120∨X=240∨X=290∨X=278:=by
 cases d with
 | old E =>
  obtain ⟨B,p,_,hd,hF⟩:=h
  rcases (hF i).1 hi with rfl | e
  ·
   rw [hd.blk] at hb
   injection hb with hb
   injection hb with _ h2
   exact .inl h2.symm
  ·
   exact (Xn hd e hb).elim
 | new A L S =>
  obtain ⟨D,P,M,G,p,q,LM,pg,T,_,hn,_,hF⟩:=h
  exact .inr (hn.foot_ty ((hF i).1 hi) hb)
theorem idx_nos17 {M:Nat} {p q:Option Nat} {L LM:zj} (h:vQ W M p q L LM):fM W M:=ve h.blk (fun s e=>by simp at e)
theorem grp_nos17 {G:Nat} {pg:Option Nat} {T:zq} (h:zO W G pg T):fM W G:=ve h.blk (fun s e=>by simp at e)
theorem yP.nos (h:yP W v F d) {i:Nat} (hi:F i):fM W i:=by
 cases d with
 | old E =>
  obtain ⟨B,p,_,hd,hF⟩:=h
  rcases (hF i).1 hi with rfl | e
  ·
   exact ve hd.blk (fun s e=>by simp at e)
  ·
   exact jO (fun c T fr hb=>Xn hd e hb)
 | new A L S =>
  obtain ⟨D,P,M,G,p,q,LM,pg,T,_,hn,_,hF⟩:=h
  rcases (hF i).1 hi with rfl | rfl | (rfl | e | e) | (rfl | e | ⟨x,hx,rfl⟩)
  ·
   exact ve hn.blk (fun s e=>by simp at e)
  ·
   exact jO (fun c T fr hb=>Zp hn.acc hb rfl)
  ·
   exact idx_nos17 hn.idx
  ·
   exact jO (fun c T fr hb=>vA (hn.idx.mapp.map i e) hb rfl)
  ·
   exact jO (fun c T fr hb=>vA (hn.idx.mapq.map i e) hb rfl)
  ·
   exact grp_nos17 hn.grp
  ·
   exact jO (fun c T fr hb=>zL (hn.grp.map i e) hb rfl)
  ·
   exact jO (fun c T fr hb=>zL (hn.grp.sets x hx) hb rfl)
theorem yP.turns {S:Nat→Prop} (h:yP W v F d) (ht:zg S W W') (hn:∀ i,F i→¬ S i):yP W' v F d:=by
 cases d with
 | old E =>
  obtain ⟨B,p,hv,hd,hF⟩:=h
  exact ⟨B,p,hv,hd.turns ht (hn B ((hF B).2 (.inl rfl))) (fun b e=>hn b ((hF b).2 (.inr e))),hF⟩
 | new A L S0 =>
  obtain ⟨D,P,M,G,p,q,LM,pg,T,hv,hd,hS,hF⟩:=h
  exact ⟨D,P,M,G,p,q,LM,pg,T,hv,hd.kept (ht.mono fun i _ hi f=>hn i ((hF i).2 f) hi),hS,hF⟩
theorem yP.later (h:yP W v F d) (hb:Below W.heap.size W W'):yP W' v F d:=h.turns (vv hb) (fun _ _ f=>f)
theorem zw.still (h:yP W v F d) (hb:Below W.heap.size W w'):zw W v F d w':=⟨F,h.later hb,fun _ e=>.inl e,zg.of_below hb _⟩
theorem zw.ahead (hb:Below W.heap.size W W') (h:zw W' v F d' w'):zw W v F d' w':=by
 obtain ⟨F',h1,h2,h3⟩:=h
 exact ⟨F',h1,fun i e=>(h2 i e).imp id (fun h=>Nat.le_trans hb.size h),(zg.of_below hb _).next h3 (fun _ _ h=>h)⟩
theorem zw.behind (h:zw W v F d' W') (hb:Below W'.heap.size W' w'):zw W v F d' w':=by
 obtain ⟨F',h1,h2,h3⟩:=h
 exact ⟨F',h1.later hb,h2,h3.next (vv hb) (fun _ _ f=>f.elim)⟩
end

/-! ### a deed of the newer one,whatever stands beside it -/
section
variable {W W' w':World} {D P M G:Nat} {A A':zt} {p q pg:Option Nat} {L LM L':zj} {T:zq} {S':zn}
def jB (W:World):World:={ W with heap:=#[] }
theorem jA (W:World):Below (jB W).heap.size (jB W) W:=⟨rfl,rfl,rfl,Nat.zero_le _,fun k h=>absurd h (Nat.not_lt_zero k)⟩
abbrev qj (W:World) (D P M:Nat) (p q:Option Nat) (G:Nat) (pg:Option Nat) (T:zq):Fr11 :=
 ⟨fun i=>i<W.heap.size∧¬ yU D P M p q G pg T i∧∀ c X fr,W.heap[i]? = some (.cells c X fr)→X=240∨X=290∨X=278,
  fun i=>W.heap[i]?,W.heap.size,fun _ hi=>hi.1,fun _ c X fr hi hb=>hi.2.2 c X fr hb⟩
theorem yg.all17 (h:yg W D P A M p q L LM G pg T):@zu (qj W D P M p q G pg T) (jB W) W D P M G A L (z8 T) :=
 ⟨p,q,LM,pg,T,h,rfl,fun i hi=>⟨Nat.zero_le _,fun f=>f.2.1 hi⟩,jA W,Nat.le_refl _,fun _ _=>rfl⟩
theorem yg.goes17 (h:yg W D P A M p q L LM G pg T) (hg:@zD (qj W D P M p q G pg T) (jB W) W D P M G A' L' S' w') :
  ∃ p' q' LM' pg' T',yg w' D P A' M p' q' L' LM' G pg' T'∧z8 T'=S'∧(∀ i,yU D P M p' q' G pg' T' i→yU D P M p q G pg T i∨W.heap.size≤i)∧zg (yU D P M p q G pg T) W w':=by
 obtain ⟨⟨p',q',LM',pg',T',n1,n2,n3,n4⟩,hk⟩:=hg
 have hblk:∀ i,i<W.heap.size→¬ yU D P M p q G pg T i→w'.heap[i]? = W.heap[i]? := fun i hi hn=>by
  by_cases hc:∀ c X fr,W.heap[i]? = some (.cells c X fr)→X=240∨X=290∨X=278
  ·
   exact n4.2.2 i ⟨hi,hn,hc⟩
  ·
   obtain ⟨c,hc⟩:=Classical.not_forall.1 hc
   obtain ⟨X,hc⟩:=Classical.not_forall.1 hc
   obtain ⟨fr,hc⟩:=Classical.not_forall.1 hc
   obtain ⟨h1,h2⟩:=Classical.not_imp.1 hc
   rw [h1]
   exact hk i c X fr h1 (fun e=>h2 (.inl e)) (fun e=>h2 (.inr (.inl e))) (fun e=>h2 (.inr (.inr e)))
 refine ⟨p',q',LM',pg',T',n1,n2,fun i hi=>?_,⟨n4.1.os,n4.1.tape,n4.1.output,n4.2.1,hblk⟩⟩
 by_cases hl:W.heap.size≤i
 ·
  exact .inr hl
 ·
  refine .inl (Classical.byContradiction fun hn=>?_)
  have hl':i<W.heap.size:=by omega
  have hnf:=(n3 i hi).2
  refine hnf ⟨hl',hn,fun c X fr hb=>?_⟩
  exact n1.foot_ty hi ((hblk i hl' hn).trans hb)
end

/-! ### the host -/
def zW (W:World) (H:Nat) (F:Nat→Prop) (s:H17):Prop :=
 ∃ v FD TB T BB BA c,W.heap[H]? = some (.cells #[v,.pointer (some ⟨TB,0,none⟩),.pointer (some ⟨BB,0,none⟩)] 84 (0,0))∧yP W v FD s.d ∧
  vy W (TB+1) TB T∧(∀ i,i<8→(T i).p=s.X i)∧qg W BB BA c s.b∧(∀ i,F i↔(i=H∨FD i∨i=TB∨i=BB∨i=BA))
section
variable {W W' w':World} {H:Nat} {F:Nat→Prop} {s:H17}
theorem J7 {W:World} {TB:Nat} {T:Nat→R15} (h:vy W (TB+1) TB T):fM W TB:=ve h.at_ (fun s e=>by
 rw [YE T 0 (by decide)] at e
 cases e)
theorem bd_nos17 {W:World} {BB BA c:Nat} {b:List UInt8} (h:qg W BB BA c b):fM W BB:=ve h.blk (fun s e=>by simp at e)
theorem Je {W:World} {BB BA c:Nat} {b:List UInt8} (h:qg W BB BA c b):fM W BA:=fun s e=>by
 rw [h.at_ 0 h.good.len.1] at e
 cases e
theorem yP.v_nos {v:Value} {FD:Nat→Prop} {d:D17} (h:yP W v FD d) (s:ByteArray):v≠.string s:=by
 cases d with
 | old E=>obtain ⟨B,p,rfl,_⟩:=h; exact fun e=>by cases e
 | new A L S=>obtain ⟨D,P,M,G,p,q,LM,pg,T,rfl,_⟩:=h; exact fun e=>by cases e
theorem vy.turnsN17 {S:Nat→Prop} {P B:Nat} {T:Nat→R15} (h:vy W P B T) (ht:zg S W W') (hB:¬ S B) (hN:∀ i,S i→fM W i):vy W' P B T :=
 ⟨h.lt,Nat.le_trans h.le ht.size,h.at_.turns ht hB,fun i hi=>⟨(vu.turns ⟨(h.tx i hi).rd,fun hne a ha=>⟨Nat.zero_le _,(h.far i hi hne a ha).2⟩⟩ ht hN).1,(h.tx i hi).len,(h.tx i hi).cap,(h.tx i hi).nil⟩,h.far,h.may⟩
theorem zW.lt (h:zW W H F s) {i:Nat} (hi:F i):i<W.heap.size:=by
 obtain ⟨v,FD,TB,T,BB,BA,c,hb,hd,ht,_,hbd,hF⟩:=h
 rcases (hF i).1 hi with rfl | e | rfl | rfl | rfl
 ·
  exact (Array.getElem?_eq_some_iff.1 hb).1
 ·
  exact hd.lt e
 ·
  exact ht.at_.lt
 ·
  exact hbd.lt
 ·
  exact hbd.ltA
theorem zW.nos (h:zW W H F s) {i:Nat} (hi:F i):fM W i:=by
 obtain ⟨v,FD,TB,T,BB,BA,c,hb,hd,ht,_,hbd,hF⟩:=h
 rcases (hF i).1 hi with rfl | e | rfl | rfl | rfl
 ·
  exact ve hb (fun s e=>hd.v_nos s (by simpa using e))
 ·
  exact hd.nos e
 ·
  exact J7 ht
 ·
  exact bd_nos17 hbd
 ·
  exact Je hbd
theorem zW.ty (h:zW W H F s) {i:Nat} (hi:F i) {c:Array Value} {X:TypeId} {fr:Nat×Nat} (hX:W.heap[i]? = some (.cells c X fr)):TyF17 X:=by
 have same:∀ {c':Array Value} {X':TypeId} {fr':Nat×Nat},W.heap[i]? = some (.cells c' X' fr')→X=X':=fun h'=>by
  rw [h'] at hX
  injection hX with hX
  injection hX with _ h2
  exact h2.symm
 obtain ⟨v,FD,TB,T,BB,BA,c,hb,hd,ht,_,hbd,hF⟩:=h
 unfold TyF17
 rcases (hF i).1 hi with rfl | e | rfl | rfl | rfl
 ·
  rw [same hb]; simp
 ·
  rcases hd.ty e hX with e | e | e | e <;> rw [e] <;> simp
 ·
  rw [same ht.at_]; simp
 ·
  rw [same hbd.blk]; simp
 ·
  obtain ⟨cur,hc,_⟩:=hbd.row
  rw [same hc]; simp
theorem zW.keeps {S:Nat→Prop} (h:zW W H F s) (ht:zg S W w') (hS:∀ i,S i→F i):yO W w':=fun k c T fr hk hT =>
 (ht.block k (Array.getElem?_eq_some_iff.1 hk).1 (fun e=>hT (h.ty (hS k e) hk))).trans hk
theorem zW.turns {S:Nat→Prop} (h:zW W H F s) (ht:zg S W W') (hn:∀ i,F i→¬ S i) (hN:∀ i,S i→fM W i):zW W' H F s:=by
 obtain ⟨v,FD,TB,T,BB,BA,c,hb,hd,hta,hx,hbd,hF⟩:=h
 exact ⟨v,FD,TB,T,BB,BA,c,(ht.block H (Array.getElem?_eq_some_iff.1 hb).1 (hn H ((hF H).2 (.inl rfl)))).trans hb,hd.turns ht (fun i e=>hn i ((hF i).2 (.inr (.inl e)))),
  hta.turnsN17 ht (hn TB ((hF TB).2 (.inr (.inr (.inl rfl))))) hN,hx,hbd.turns ht (hn BB ((hF BB).2 (.inr (.inr (.inr (.inl rfl)))))) (hn BA ((hF BA).2 (.inr (.inr (.inr (.inr rfl)))))),hF⟩
theorem zW.later (h:zW W H F s) (hb:Below W.heap.size W W'):zW W' H F s:=h.turns (vv hb) (fun _ _ f=>f) (fun _ f=>f.elim)
end
def zp (W:World) (H:Nat) (F:Nat→Prop) (s':H17) (w':World):Prop:=∃ F',zW w' H F' s'∧(∀ i,F' i→F i∨W.heap.size≤i)∧zg F W w'
section
variable {W W' w':World} {H:Nat} {F:Nat→Prop} {s s':H17}
theorem zp.still (h:zW W H F s) (hb:Below W.heap.size W w'):zp W H F s w':=⟨F,h.later hb,fun _ e=>.inl e,zg.of_below hb _⟩
theorem zp.ahead (hb:Below W.heap.size W W') (h:zp W' H F s' w'):zp W H F s' w':=by
 obtain ⟨F',h1,h2,h3⟩:=h
 exact ⟨F',h1,fun i e=>(h2 i e).imp id (fun h=>Nat.le_trans hb.size h),(zg.of_below hb _).next h3 (fun _ _ h=>h)⟩
theorem zp.behind (h:zp W H F s' W') (hb:Below W'.heap.size W' w'):zp W H F s' w':=by
 obtain ⟨F',h1,h2,h3⟩:=h
 exact ⟨F',h1.later hb,h2,h3.next (vv hb) (fun _ _ f=>f.elim)⟩
theorem zW.dir (h:zW W H F s):∃ v FD,W.cell? ⟨H,0,none⟩=some v∧yP W v FD s.d∧(∀ d' w',zw W v FD d' w'→zp W H F { s with d:=d' } w'):=by
 have h':=h
 obtain ⟨v,FD,TB,T,BB,BA,c,hb,hd,hta,hx,hbd,hF⟩:=h'
 refine ⟨v,FD,by rw [cell_of_row W H 0 _ _ (0,0) hb]; rfl,hd,fun d' w' hg=>?_⟩
 obtain ⟨F',h1,h2,h3⟩:=hg
 have hne:∀ {i:Nat} {cs:Array Value} {X:TypeId} {fr:Nat×Nat},W.heap[i]? = some (.cells cs X fr)→X≠120→X≠240→X≠290→X≠278→¬ FD i:=fun hi a1 a2 a3 a4 e=>by
  rcases hd.ty e hi with e | e | e | e
  ·
   exact a1 e
  ·
   exact a2 e
  ·
   exact a3 e
  ·
   exact a4 e
 obtain ⟨cur,hrow,_⟩:=hbd.row
 refine ⟨fun i=>i=H∨F' i∨i=TB∨i=BB∨i=BA,⟨v,F',TB,T,BB,BA,c,(h3.block H (Array.getElem?_eq_some_iff.1 hb).1 (hne hb (by decide) (by decide) (by decide) (by decide))).trans hb,h1,
  hta.turnsN17 h3 (hne hta.at_ (by decide) (by decide) (by decide) (by decide)) (fun i e=>hd.nos e),hx,
  hbd.turns h3 (hne hbd.blk (by decide) (by decide) (by decide) (by decide)) (hne hrow (by decide) (by decide) (by decide) (by decide)),fun _=>Iff.rfl⟩,fun i hi=>?_,h3.mono fun i _ e=>(hF i).2 (.inr (.inl e))⟩
 rcases hi with e | e | e
 ·
  exact .inl ((hF i).2 (.inl e))
 ·
  rcases h2 i e with e | e
  ·
   exact .inl ((hF i).2 (.inr (.inl e)))
  ·
   exact .inr e
 ·
  exact .inl ((hF i).2 (.inr (.inr e)))
end
end Go.Proofs.YteegkoicalbkbaaGreatDoor
namespace Go.Proofs.YteegkoicalbkbaaGreatDoor
open Go.RowKit Go.Maps
set_option linter.unusedVariables false

section
variable {W W' w':World} {H:Nat} {F:Nat→Prop} {s s':H17}
theorem zW.tab (h:zW W H F s):∃ TB T,W.cell? ⟨H,1,none⟩=some (.pointer (some ⟨TB,0,none⟩))∧vy W (TB+1) TB T∧(∀ i,i<8→(T i).p=s.X i) ∧
  ∀ T' X' w',vy w' (TB+1) TB T'→zg (fun i=>i=TB) W w'→(∀ i,i<8→(T' i).p=X' i)→zp W H F { s with X:=X' } w':=by
 obtain ⟨v,FD,TB,T,BB,BA,c,hb,hd,hta,hx,hbd,hF⟩:=h
 refine ⟨TB,T,by rw [cell_of_row W H 1 _ _ (0,0) hb]; rfl,hta,hx,fun T' X' w' h1 h2 h3=>?_⟩
 have hne:∀ {i:Nat} {cs:Array Value} {X:TypeId} {fr:Nat×Nat},W.heap[i]? = some (.cells cs X fr)→X≠123→¬ i=TB:=fun hi a1=>vZ hi hta.at_ a1
 obtain ⟨cur,hrow,_⟩:=hbd.row
 have hnd:∀ i,FD i→¬ i=TB:=fun i hi e=>by
  subst e
  rcases hd.ty hi hta.at_ with e | e | e | e <;> exact absurd e (by decide)
 exact ⟨F,⟨v,FD,TB,T',BB,BA,c,(h2.block H (Array.getElem?_eq_some_iff.1 hb).1 (hne hb (by decide))).trans hb,hd.turns h2 hnd,h1,h3,hbd.turns h2 (hne hbd.blk (by decide)) (hne hrow (by decide)),hF⟩,
  fun i hi=>.inl hi,h2.mono fun i _ e=>(hF i).2 (.inr (.inr (.inl e)))⟩
theorem zW.board (h:zW W H F s):∃ BB BA c,W.cell? ⟨H,2,none⟩=some (.pointer (some ⟨BB,0,none⟩))∧qg W BB BA c s.b ∧
  ∀ b' w',qg w' BB BA c b'→zg (fun i=>i=BA) W w'→zp W H F { s with b:=b' } w':=by
 obtain ⟨v,FD,TB,T,BB,BA,c,hb,hd,hta,hx,hbd,hF⟩:=h
 refine ⟨BB,BA,c,by rw [cell_of_row W H 2 _ _ (0,0) hb]; rfl,hbd,fun b' w' h1 h2=>?_⟩
 obtain ⟨cur,hrow,_⟩:=hbd.row
 have hne:∀ {i:Nat} {cs:Array Value} {X:TypeId} {fr:Nat×Nat},W.heap[i]? = some (.cells cs X fr)→X≠45→¬ i=BA:=fun hi a1=>vZ hi hrow a1
 have hnd:∀ i,FD i→¬ i=BA:=fun i hi e=>by
  subst e
  rcases hd.ty hi hrow with e | e | e | e <;> exact absurd e (by decide)
 exact ⟨F,⟨v,FD,TB,T,BB,BA,c,(h2.block H (Array.getElem?_eq_some_iff.1 hb).1 (hne hb (by decide))).trans hb,hd.turns h2 hnd,hta.turnsN17 h2 (hne hta.at_ (by decide)) (fun i e=>e ▸ Je hbd),hx,h1,hF⟩,
  fun i hi=>.inl hi,h2.mono fun i _ e=>(hF i).2 (.inr (.inr (.inr (.inr e))))⟩
theorem zW.store (h:zW W H F s) (hb:Below W.heap.size W W') {v':Value} {F':Nat→Prop} {d':D17} (hd:yP W' v' F' d') (hn:∀ i,F' i→W.heap.size≤i) :
  zp W H F { s with d:=d' } (W'.setCell ⟨H,0,none⟩ v'):=by
 obtain ⟨v,FD,TB,T,BB,BA,c,hblk,hd0,hta,hx,hbd,hF⟩:=h.later hb
 have hH:H<W.heap.size:=h.lt ((hF H).2 (.inl rfl))
 have ht:zg (fun i=>i=H) W' (W'.setCell ⟨H,0,none⟩ v'):=(zg.refl (fun i=>i=H) W').setCell (p:=⟨H,0,none⟩) (fun _=>rfl) v'
 have hne:∀ {i:Nat} {cs:Array Value} {X:TypeId} {fr:Nat×Nat},W'.heap[i]? = some (.cells cs X fr)→X≠84→¬ i=H:=fun hi a1=>vZ hi hblk a1
 obtain ⟨cur,hrow,_⟩:=hbd.row
 have hset:=heap_setCell_same W' H 0 _ _ v' hblk
 refine ⟨fun i=>i=H∨F' i∨i=TB∨i=BB∨i=BA,⟨v',F',TB,T,BB,BA,c,hset,hd.turns ht (fun i e e2=>by have:=hn i e; omega),
  hta.turnsN17 ht (hne hta.at_ (by decide)) (fun i e=>e ▸ ve hblk (fun s e=>hd0.v_nos s (by simpa using e))),hx,hbd.turns ht (hne hbd.blk (by decide)) (hne hrow (by decide)),fun _=>Iff.rfl⟩,fun i hi=>?_,(zg.of_below hb _).next ht (fun i _ e=>(hF i).2 (.inl e))⟩
 rcases hi with e | e | e
 ·
  exact .inl ((hF i).2 (.inl e))
 ·
  exact .inr (hn i e)
 ·
  exact .inl ((hF i).2 (.inr (.inr e)))
theorem zW.make {v:Value} {FD:Nat→Prop} {TB BB BA c:Nat} {T:Nat→R15} {d:D17} {X:Nat→P15} {b:List UInt8} (hd:yP W v FD d) (ht:vy W (TB+1) TB T) (hx:∀ i,i<8→(T i).p=X i) (hb:qg W BB BA c b) :
  zW (W.alloc (.cells #[v,.pointer (some ⟨TB,0,none⟩),.pointer (some ⟨BB,0,none⟩)] 84)) W.heap.size (fun i=>i=W.heap.size∨FD i∨i=TB∨i=BB∨i=BA) ⟨d,X,b⟩:=by
 have hbl:Below W.heap.size W (W.alloc (.cells #[v,.pointer (some ⟨TB,0,none⟩),.pointer (some ⟨BB,0,none⟩)] 84)):=ze (Below.refl _ W) _
 exact ⟨v,FD,TB,T,BB,BA,c,heap_alloc_new W _,hd.later hbl,ht.later hbl,hx,hb.later hbl,fun _=>Iff.rfl⟩
end
end Go.Proofs.YteegkoicalbkbaaGreatDoor
namespace Go.Proofs.YteegkoicalbkbaaGreatDoor
open Go.RowKit Go.Maps
set_option linter.unusedVariables false

/-! ### methods -/
section
variable (B:Nat) (w:World)
theorem Xg:(method 499 80 (.agg #[.pointer (some ⟨B,0,none⟩)]) "interrex/host.version").run Tryz.prog w=.ok (305,.agg #[.pointer (some ⟨B,0,none⟩)]) w:=by kernel_rfl
theorem Q7:(method 499 80 (.agg #[.pointer (some ⟨B,0,none⟩)]) "interrex/host.bytes").run Tryz.prog w=.ok (304,.agg #[.pointer (some ⟨B,0,none⟩)]) w:=by kernel_rfl
theorem mth_ask_old:(method 499 80 (.agg #[.pointer (some ⟨B,0,none⟩)]) "interrex/host.ask").run Tryz.prog w=.ok (303,.agg #[.pointer (some ⟨B,0,none⟩)]) w:=by kernel_rfl
theorem Vg:(method 499 80 (.agg #[.pointer (some ⟨B,0,none⟩)]) "interrex/host.lookup").run Tryz.prog w=.ok (402,.agg #[.pointer (some ⟨B,0,none⟩)]) w:=by kernel_rfl
theorem Vk:(method 499 80 (.agg #[.pointer (some ⟨B,0,none⟩)]) "Create").run Tryz.prog w=.ok (382,.pointer (some ⟨B,0,none⟩)) w:=by kernel_rfl
theorem Vi:(method 499 80 (.agg #[.pointer (some ⟨B,0,none⟩)]) "Delete").run Tryz.prog w=.ok (383,.pointer (some ⟨B,0,none⟩)) w:=by kernel_rfl
theorem Xi:(method 499 80 (.agg #[.pointer (some ⟨B,0,none⟩)]) "SetHash").run Tryz.prog w=.ok (385,.pointer (some ⟨B,0,none⟩)) w:=by kernel_rfl
theorem JA:(method 499 80 (.agg #[.pointer (some ⟨B,0,none⟩)]) "List").run Tryz.prog w=.ok (384,.pointer (some ⟨B,0,none⟩)) w:=by kernel_rfl
theorem Xh:(method 499 150 (.agg #[.pointer (some ⟨B,0,none⟩)]) "interrex/host.version").run Tryz.prog w=.ok (343,.agg #[.pointer (some ⟨B,0,none⟩)]) w:=by kernel_rfl
theorem Q8:(method 499 150 (.agg #[.pointer (some ⟨B,0,none⟩)]) "interrex/host.bytes").run Tryz.prog w=.ok (341,.agg #[.pointer (some ⟨B,0,none⟩)]) w:=by kernel_rfl
theorem mth_ask_new:(method 499 150 (.agg #[.pointer (some ⟨B,0,none⟩)]) "interrex/host.ask").run Tryz.prog w=.ok (340,.agg #[.pointer (some ⟨B,0,none⟩)]) w:=by kernel_rfl
theorem Vh:(method 499 150 (.agg #[.pointer (some ⟨B,0,none⟩)]) "interrex/host.lookup").run Tryz.prog w=.ok (342,.agg #[.pointer (some ⟨B,0,none⟩)]) w:=by kernel_rfl
theorem Vl:(method 499 150 (.agg #[.pointer (some ⟨B,0,none⟩)]) "Create").run Tryz.prog w=.ok (313,.pointer (some ⟨B,0,none⟩)) w:=by kernel_rfl
theorem Vj:(method 499 150 (.agg #[.pointer (some ⟨B,0,none⟩)]) "Delete").run Tryz.prog w=.ok (314,.pointer (some ⟨B,0,none⟩)) w:=by kernel_rfl
theorem Xj:(method 499 150 (.agg #[.pointer (some ⟨B,0,none⟩)]) "SetHash").run Tryz.prog w=.ok (317,.pointer (some ⟨B,0,none⟩)) w:=by kernel_rfl
theorem JB:(method 499 150 (.agg #[.pointer (some ⟨B,0,none⟩)]) "List").run Tryz.prog w=.ok (316,.pointer (some ⟨B,0,none⟩)) w:=by kernel_rfl
end

theorem yJ.dir17 {W w':World} {B:Nat} {p:Option Nat} {E':zj} {F:Nat→Prop} (hF:∀ i,F i↔(i=B∨p=some i)) (h:yJ W B p E' w'):zw W (xo B) F (.old E') w':=by
 obtain ⟨p',hd,hp,ht⟩:=h
 refine ⟨fun i=>i=B∨p'=some i,⟨B,p',rfl,hd,fun _=>Iff.rfl⟩,fun i hi=>?_,ht.mono fun i _ hi=>(hF i).2 hi⟩
 rcases hi with e | e
 ·
  exact .inl ((hF i).2 (.inl e))
 ·
  exact (hp i e).imp (fun e=>(hF i).2 (.inr e)) id
theorem yg.dir17 {W w':World} {D P M G:Nat} {A A':zt} {p q pg:Option Nat} {L LM L':zj} {T:zq} {S':zn} {F:Nat→Prop} (h:yg W D P A M p q L LM G pg T) (hF:∀ i,F i↔yU D P M p q G pg T i)
  (hg:@zD (qj W D P M p q G pg T) (jB W) W D P M G A' L' S' w'):zw W (zP D) F (.new A' L' S') w':=by
 obtain ⟨p',q',LM',pg',T',n1,n2,n3,n4⟩:=h.goes17 hg
 exact ⟨fun i=>yU D P M p' q' G pg' T' i,⟨D,P,M,G,p',q',LM',pg',T',rfl,n1,n2,fun _=>Iff.rfl⟩,fun i hi=>(n3 i hi).imp (fun e=>(hF i).2 e) id,n4.mono fun i _ hi=>(hF i).2 hi⟩
def zv (W:World) (v:Value) (F:Nat→Prop) (d:D17) (kd:Nat) (a b:ByteArray) (en:Ending) (w':World):Prop :=
 ∃ A n c,en=.returned (.tuple #[.slice A n c,.int .i64 (yX d kd a.data.toList b.data.toList)])∧(yX d kd a.data.toList b.data.toList=0→n=(xD d kd a.data.toList).length∧vu w' A ((xD d kd a.data.toList).map xN)) ∧
  zw W v F (xq d kd a.data.toList b.data.toList) w'
theorem QW.tx17 {W:World} {v:Value} {ls:List (List UInt8)} (h:QW W v ls):∃ A c,v=.slice A ls.length c∧vu W A (ls.map xN):=by
 obtain ⟨A,c,rfl,hc⟩:=h
 refine ⟨A,c,rfl,fun hne=>?_,fun hne a ha=>?_⟩
 ·
  have h0:0<ls.length:=by
   rw [← List.length_map (f:=xN)]
   exact List.length_pos_iff.2 hne
  obtain ⟨g,hA,hg⟩:=hc 0 h0
  refine ⟨g,0,hA,World.block_lt_of_cell? W _ hg,fun j hj=>?_⟩
  obtain ⟨g2,hA2,hg2⟩:=hc j (by simpa using hj)
  rw [hA] at hA2
  injection hA2 with e
  injection e with e _
  subst e
  rw [Nat.zero_add,hg2]
  simp [tx7,xN]
 ·
  have h0:0<ls.length:=by
   rw [← List.length_map (f:=xN)]
   exact List.length_pos_iff.2 hne
  obtain ⟨g,hA,hg⟩:=hc 0 h0
  rw [ha] at hA
  injection hA with hA
  subst hA
  exact ⟨Nat.zero_le _,rfl⟩
def qp (d:D17) (a:ByteArray) (W:World) (en:Ending) (w':World):Prop :=
 ∃ A n c,en=.returned (.tuple #[.slice A n c,.int .i64 (yX d 3 a.data.toList [])])∧(yX d 3 a.data.toList []=0→n=(xD d 3 a.data.toList).length∧vu w' A ((xD d 3 a.data.toList).map xN))∧Below W.heap.size W w'
theorem yg.plain17 {W:World} {D P M G:Nat} {A:zt} {p q pg:Option Nat} {L LM:zj} {T:zq} (h:yg W D P A M p q L LM G pg T):zu (jB W) W D P M G A L (z8 T) :=
 ⟨p,q,LM,pg,T,h,rfl,fun i hi=>⟨Nat.zero_le _,fun f=>f.elim⟩,jA W,Nat.zero_le _,fun _ f=>f.elim⟩
set_option maxRecDepth 100000 in
theorem VE (W:World) (B:Nat) (p:Option Nat) (E:zj) (F:Nat→Prop) (hd:vm W B p E) (hF:∀ i,F i↔(i=B∨p=some i)) (kd:Nat) (a b:ByteArray) (nd rl:Int) (ha:a.size≤1000) (hb:b.size≤1000) (hk:kd=0) :
  Calls Tryz.prog 307 #[xo B,.agg #[.int .u8 (kd:Int),.string a,.string b,.int .u8 nd,.int .u8 rl]] W (zv W (xo B) F (.old E) kd a b):=by
 have HC:Hid (∀ W',Below W.heap.size W W'→Calls Tryz.prog 382 #[.pointer (some ⟨B,0,none⟩),.string a,.string b] W' fun e w'=>e=.returned (.int .i64 (yX (.old E) 0 a.data.toList b.data.toList))∧zw W (xo B) F (xq (.old E) 0 a.data.toList b.data.toList) w'):=fun W' hW=>(Zl B p E a b W' (hd.later hW) (by omega) (by omega)).mono fun e w' ⟨he,hg⟩=>⟨he,(yJ.dir17 hF hg).ahead hW⟩
 have HKD:=za hk
 have hmt:=Vk B
 have HB1:Hid (Below W.heap.size W (W.alloc (.cells #[.int .u8 (kd:Int),.string a,.string b,.int .u8 nd,.int .u8 rl] 47))):=ze (Below.refl _ W) _
 have q0:((kd:Int) == 0)=true:=by rw [HKD.out]; rfl
 have q1:((kd:Int) == 1)=false:=by rw [HKD.out]; rfl
 have q2:((kd:Int) == 2)=false:=by rw [HKD.out]; rfl
 have q3:((kd:Int) == 3)=false:=by rw [HKD.out]; rfl
 clear hd hF ha hb hk
 unfold zv
 have ek:kd=0:=HKD.out
 rw [show yX (.old E) kd a.data.toList b.data.toList=yX (.old E) 0 a.data.toList b.data.toList by rw [ek],show xD (.old E) kd a.data.toList=xD (.old E) 0 a.data.toList by rw [ek],show xq (.old E) kd a.data.toList b.data.toList=xq (.old E) 0 a.data.toList b.data.toList by rw [ek]]
 clear ek
 have hdt:xD (.old E) 0 a.data.toList=[]:=rfl
 rw [hdt]
 clear hdt
 generalize yX (.old E) 0 a.data.toList b.data.toList=er at *
 generalize xq (.old E) 0 a.data.toList b.data.toList=dd at *
 show Calls _ _ #[.iface 80 (.agg #[.pointer (some ⟨B,0,none⟩)]),_] _ _
 go_enter Tryz.func307,Tryz.ntmps307
 go_wp2_with fail
 generalize W.alloc (.cells #[.int .u8 (kd:Int),.string a,.string b,.int .u8 nd,.int .u8 rl] 47)=w1 at *
 with_reducible refine (HC.out _ HB1.out).mono ?_
 rintro e w2 ⟨rfl,hg⟩
 have HGO:=za hg
 clear hg HC HB1 hmt
 go_wp2
 go_ret2
 exact ⟨none,0,0,rfl,fun _=>⟨rfl,vu.none _ _⟩,HGO.out⟩
set_option maxRecDepth 100000 in
theorem VD (W:World) (B:Nat) (p:Option Nat) (E:zj) (F:Nat→Prop) (hd:vm W B p E) (hF:∀ i,F i↔(i=B∨p=some i)) (kd:Nat) (a b:ByteArray) (nd rl:Int) (ha:a.size≤1000) (hb:b.size≤1000) (hk:kd=1) :
  Calls Tryz.prog 307 #[xo B,.agg #[.int .u8 (kd:Int),.string a,.string b,.int .u8 nd,.int .u8 rl]] W (zv W (xo B) F (.old E) kd a b):=by
 have HC:Hid (∀ W',Below W.heap.size W W'→Calls Tryz.prog 383 #[.pointer (some ⟨B,0,none⟩),.string a] W' fun e w'=>e=.returned (.int .i64 (yX (.old E) 1 a.data.toList b.data.toList))∧zw W (xo B) F (xq (.old E) 1 a.data.toList b.data.toList) w'):=fun W' hW=>(Zk B p E a W' (hd.later hW) (by omega)).mono fun e w' ⟨he,hg⟩=>⟨he,(yJ.dir17 hF hg).ahead hW⟩
 have HKD:=za hk
 have hmt:=Vi B
 have HB1:Hid (Below W.heap.size W (W.alloc (.cells #[.int .u8 (kd:Int),.string a,.string b,.int .u8 nd,.int .u8 rl] 47))):=ze (Below.refl _ W) _
 have q0:((kd:Int) == 0)=false:=by rw [HKD.out]; rfl
 have q1:((kd:Int) == 1)=true:=by rw [HKD.out]; rfl
 have q2:((kd:Int) == 2)=false:=by rw [HKD.out]; rfl
 have q3:((kd:Int) == 3)=false:=by rw [HKD.out]; rfl
 clear hd hF ha hb hk
 unfold zv
 have ek:kd=1:=HKD.out
 rw [show yX (.old E) kd a.data.toList b.data.toList=yX (.old E) 1 a.data.toList b.data.toList by rw [ek],show xD (.old E) kd a.data.toList=xD (.old E) 1 a.data.toList by rw [ek],show xq (.old E) kd a.data.toList b.data.toList=xq (.old E) 1 a.data.toList b.data.toList by rw [ek]]
 clear ek
 have hdt:xD (.old E) 1 a.data.toList=[]:=rfl
 rw [hdt]
 clear hdt
 generalize yX (.old E) 1 a.data.toList b.data.toList=er at *
 generalize xq (.old E) 1 a.data.toList b.data.toList=dd at *
 show Calls _ _ #[.iface 80 (.agg #[.pointer (some ⟨B,0,none⟩)]),_] _ _
 go_enter Tryz.func307,Tryz.ntmps307
 go_wp2_with fail
 generalize W.alloc (.cells #[.int .u8 (kd:Int),.string a,.string b,.int .u8 nd,.int .u8 rl] 47)=w1 at *
 with_reducible refine (HC.out _ HB1.out).mono ?_
 rintro e w2 ⟨rfl,hg⟩
 have HGO:=za hg
 clear hg HC HB1 hmt
 go_wp2
 go_ret2
 exact ⟨none,0,0,rfl,fun _=>⟨rfl,vu.none _ _⟩,HGO.out⟩
set_option maxRecDepth 100000 in
theorem VC (W:World) (B:Nat) (p:Option Nat) (E:zj) (F:Nat→Prop) (hd:vm W B p E) (hF:∀ i,F i↔(i=B∨p=some i)) (kd:Nat) (a b:ByteArray) (nd rl:Int) (ha:a.size≤1000) (hb:b.size≤1000) (hk:kd=2) :
  Calls Tryz.prog 307 #[xo B,.agg #[.int .u8 (kd:Int),.string a,.string b,.int .u8 nd,.int .u8 rl]] W (zv W (xo B) F (.old E) kd a b):=by
 have HC:Hid (∀ W',Below W.heap.size W W'→Calls Tryz.prog 385 #[.pointer (some ⟨B,0,none⟩),.string a,.string b] W' fun e w'=>e=.returned (.int .i64 (yX (.old E) 2 a.data.toList b.data.toList))∧zw W (xo B) F (xq (.old E) 2 a.data.toList b.data.toList) w'):=fun W' hW=>(V7 B p E a b W' (hd.later hW) (by omega) (by omega)).mono fun e w' ⟨he,hg⟩=>⟨he,(yJ.dir17 hF hg).ahead hW⟩
 have HKD:=za hk
 have hmt:=Xi B
 have HB1:Hid (Below W.heap.size W (W.alloc (.cells #[.int .u8 (kd:Int),.string a,.string b,.int .u8 nd,.int .u8 rl] 47))):=ze (Below.refl _ W) _
 have q0:((kd:Int) == 0)=false:=by rw [HKD.out]; rfl
 have q1:((kd:Int) == 1)=false:=by rw [HKD.out]; rfl
 have q2:((kd:Int) == 2)=true:=by rw [HKD.out]; rfl
 have q3:((kd:Int) == 3)=false:=by rw [HKD.out]; rfl
 clear hd hF ha hb hk
 unfold zv
 have ek:kd=2:=HKD.out
 rw [show yX (.old E) kd a.data.toList b.data.toList=yX (.old E) 2 a.data.toList b.data.toList by rw [ek],show xD (.old E) kd a.data.toList=xD (.old E) 2 a.data.toList by rw [ek],show xq (.old E) kd a.data.toList b.data.toList=xq (.old E) 2 a.data.toList b.data.toList by rw [ek]]
 clear ek
 have hdt:xD (.old E) 2 a.data.toList=[]:=rfl
 rw [hdt]
 clear hdt
 generalize yX (.old E) 2 a.data.toList b.data.toList=er at *
 generalize xq (.old E) 2 a.data.toList b.data.toList=dd at *
 show Calls _ _ #[.iface 80 (.agg #[.pointer (some ⟨B,0,none⟩)]),_] _ _
 go_enter Tryz.func307,Tryz.ntmps307
 go_wp2_with fail
 generalize W.alloc (.cells #[.int .u8 (kd:Int),.string a,.string b,.int .u8 nd,.int .u8 rl] 47)=w1 at *
 with_reducible refine (HC.out _ HB1.out).mono ?_
 rintro e w2 ⟨rfl,hg⟩
 have HGO:=za hg
 clear hg HC HB1 hmt
 go_wp2
 go_ret2
 exact ⟨none,0,0,rfl,fun _=>⟨rfl,vu.none _ _⟩,HGO.out⟩
set_option maxRecDepth 100000 in
theorem VB (W:World) (B:Nat) (p:Option Nat) (E:zj) (F:Nat→Prop) (hd:vm W B p E) (hF:∀ i,F i↔(i=B∨p=some i)) (kd:Nat) (a b:ByteArray) (nd rl:Int) (ha:a.size≤1000) (hb:b.size≤1000) (hk:kd=3) (hlk:∀ W',Below W.heap.size W W'→Calls Tryz.prog 402 #[.agg #[.pointer (some ⟨B,0,none⟩)],.string a] W' (qp (.old E) a W')) :
  Calls Tryz.prog 307 #[xo B,.agg #[.int .u8 (kd:Int),.string a,.string b,.int .u8 nd,.int .u8 rl]] W (zv W (xo B) F (.old E) kd a b):=by
 have HC:=za hlk
 have HKD:=za hk
 have hmt:=Vg B
 have HB1:Hid (Below W.heap.size W (W.alloc (.cells #[.int .u8 (kd:Int),.string a,.string b,.int .u8 nd,.int .u8 rl] 47))):=ze (Below.refl _ W) _
 have q0:((kd:Int) == 0)=false:=by rw [HKD.out]; rfl
 have q1:((kd:Int) == 1)=false:=by rw [HKD.out]; rfl
 have q2:((kd:Int) == 2)=false:=by rw [HKD.out]; rfl
 have q3:((kd:Int) == 3)=true:=by rw [HKD.out]; rfl
 have HG:Hid (∀ w',Below W.heap.size W w'→zw W (xo B) F (xq (.old E) 3 a.data.toList b.data.toList) w'):=fun w' hw=>zw.still (d:=(.old E)) ⟨B,p,rfl,hd,hF⟩ hw
 clear hd hF ha hb hk
 clear hlk
 unfold zv
 have ek:kd=3:=HKD.out
 unfold qp at HC
 rw [show yX (.old E) kd a.data.toList b.data.toList=yX (.old E) 3 a.data.toList b.data.toList by rw [ek],show xD (.old E) kd a.data.toList=xD (.old E) 3 a.data.toList by rw [ek],show xq (.old E) kd a.data.toList b.data.toList=xq (.old E) 3 a.data.toList b.data.toList by rw [ek]]
 clear ek
 rw [show yX (.old E) 3 a.data.toList b.data.toList=yX (.old E) 3 a.data.toList [] from rfl]
 generalize xD (.old E) 3 a.data.toList=tx at *
 generalize yX (.old E) 3 a.data.toList []=er at *
 generalize xq (.old E) 3 a.data.toList b.data.toList=dd at *
 show Calls _ _ #[.iface 80 (.agg #[.pointer (some ⟨B,0,none⟩)]),_] _ _
 go_enter Tryz.func307,Tryz.ntmps307
 go_wp2_with fail
 generalize W.alloc (.cells #[.int .u8 (kd:Int),.string a,.string b,.int .u8 nd,.int .u8 rl] 47)=w1 at *
 with_reducible refine (HC.out _ HB1.out).mono ?_
 rintro e w2 ⟨A5,n5,c5,rfl,ht,hbl⟩
 have HT5:=za ht
 have HGO:=za (HG.out _ (zo HB1.out hbl))
 clear ht hbl HG HC HB1 hmt
 go_wp2
 go_ret2
 exact ⟨A5,n5,c5,rfl,HT5.out,HGO.out⟩
set_option maxRecDepth 100000 in
theorem VA (W:World) (B:Nat) (p:Option Nat) (E:zj) (F:Nat→Prop) (hd:vm W B p E) (hF:∀ i,F i↔(i=B∨p=some i)) (kd:Nat) (a b:ByteArray) (nd rl:Int) (ha:a.size≤1000) (hb:b.size≤1000) (hk:kd=4) :
  Calls Tryz.prog 307 #[xo B,.agg #[.int .u8 (kd:Int),.string a,.string b,.int .u8 nd,.int .u8 rl]] W (zv W (xo B) F (.old E) kd a b):=by
 have HC:Hid (∀ W',Below W.heap.size W W'→Calls Tryz.prog 384 #[.pointer (some ⟨B,0,none⟩),.string a] W' fun e w'=>∃ v,e=.returned (.tuple #[v,.int .i64 (yX (.old E) 4 a.data.toList b.data.toList)])∧QW w' v (xD (.old E) 4 a.data.toList)∧Below W'.heap.size W' w'):=fun W' hW=>list7_calls B p E a W' (hd.later hW) (by omega)
 have HKD:=za hk
 have hmt:=JA B
 have HB1:Hid (Below W.heap.size W (W.alloc (.cells #[.int .u8 (kd:Int),.string a,.string b,.int .u8 nd,.int .u8 rl] 47))):=ze (Below.refl _ W) _
 have q0:((kd:Int) == 0)=false:=by rw [HKD.out]; rfl
 have q1:((kd:Int) == 1)=false:=by rw [HKD.out]; rfl
 have q2:((kd:Int) == 2)=false:=by rw [HKD.out]; rfl
 have q3:((kd:Int) == 3)=false:=by rw [HKD.out]; rfl
 have HG:Hid (∀ w',Below W.heap.size W w'→zw W (xo B) F (xq (.old E) 4 a.data.toList b.data.toList) w'):=fun w' hw=>zw.still (d:=(.old E)) ⟨B,p,rfl,hd,hF⟩ hw
 clear hd hF ha hb hk
 unfold zv
 have ek:kd=4:=HKD.out
 rw [show yX (.old E) kd a.data.toList b.data.toList=yX (.old E) 4 a.data.toList b.data.toList by rw [ek],show xD (.old E) kd a.data.toList=xD (.old E) 4 a.data.toList by rw [ek],show xq (.old E) kd a.data.toList b.data.toList=xq (.old E) 4 a.data.toList b.data.toList by rw [ek]]
 clear ek
 generalize xD (.old E) 4 a.data.toList=tx at *
 generalize yX (.old E) 4 a.data.toList b.data.toList=er at *
 generalize xq (.old E) 4 a.data.toList b.data.toList=dd at *
 show Calls _ _ #[.iface 80 (.agg #[.pointer (some ⟨B,0,none⟩)]),_] _ _
 go_enter Tryz.func307,Tryz.ntmps307
 go_wp2_with fail
 generalize W.alloc (.cells #[.int .u8 (kd:Int),.string a,.string b,.int .u8 nd,.int .u8 rl] 47)=w1 at *
 with_reducible refine (HC.out _ HB1.out).mono ?_
 rintro e w2 ⟨v,rfl,ht,hbl⟩
 obtain ⟨A5,c5,rfl,ht5⟩:=ht.tx17
 generalize hn5:tx.length=n5 at *
 have HN5:=za hn5
 clear hn5
 have HT5:=za ht5
 have HGO:=za (HG.out _ (zo HB1.out hbl))
 clear ht ht5 hbl HG HC HB1 hmt
 go_wp2
 go_ret2
 exact ⟨A5,_,c5,rfl,fun _=>⟨HN5.out.symm,HT5.out⟩,HGO.out⟩
set_option maxRecDepth 100000 in
theorem VJ (W:World) {D P M G:Nat} {A:zt} {p q pg:Option Nat} {L LM:zj} {T:zq} (F:Nat→Prop) (hd:yg W D P A M p q L LM G pg T) (hgo:zm A L (z8 T) 12) (hF:∀ i,F i↔yU D P M p q G pg T i) (kd:Nat) (a b:ByteArray) (nd rl:Int) (ha:a.size≤1000) (hb:b.size≤1000) (hk:kd=0) :
  Calls Tryz.prog 307 #[zP D,.agg #[.int .u8 (kd:Int),.string a,.string b,.int .u8 nd,.int .u8 rl]] W (zv W (zP D) F (.new A L (z8 T)) kd a b):=by
 have HC:Hid (∀ W',Below W.heap.size W W'→Calls Tryz.prog 313 #[.pointer (some ⟨D,0,none⟩),.string a,.string b] W' fun e w'=>e=.returned (.int .i64 (yX (.new A L (z8 T)) 0 a.data.toList b.data.toList))∧zw W (zP D) F (xq (.new A L (z8 T)) 0 a.data.toList b.data.toList) w'):=fun W' hW=>by
  have h:=hd.later hW
  letI:Fr11:=qj W' D P M p q G pg T
  exact (Vy a b h.all17 hgo (by omega) (by omega)).mono fun e w' ⟨he,hg⟩=>⟨he,(h.dir17 hF hg).ahead hW⟩
 have HKD:=za hk
 have hmt:=Vl D
 have HB1:Hid (Below W.heap.size W (W.alloc (.cells #[.int .u8 (kd:Int),.string a,.string b,.int .u8 nd,.int .u8 rl] 47))):=ze (Below.refl _ W) _
 have q0:((kd:Int) == 0)=true:=by rw [HKD.out]; rfl
 have q1:((kd:Int) == 1)=false:=by rw [HKD.out]; rfl
 have q2:((kd:Int) == 2)=false:=by rw [HKD.out]; rfl
 have q3:((kd:Int) == 3)=false:=by rw [HKD.out]; rfl
 clear hd hF ha hb hk hgo
 unfold zv
 have ek:kd=0:=HKD.out
 rw [show yX (.new A L (z8 T)) kd a.data.toList b.data.toList=yX (.new A L (z8 T)) 0 a.data.toList b.data.toList by rw [ek],show xD (.new A L (z8 T)) kd a.data.toList=xD (.new A L (z8 T)) 0 a.data.toList by rw [ek],show xq (.new A L (z8 T)) kd a.data.toList b.data.toList=xq (.new A L (z8 T)) 0 a.data.toList b.data.toList by rw [ek]]
 clear ek
 have hdt:xD (.new A L (z8 T)) 0 a.data.toList=[]:=rfl
 rw [hdt]
 clear hdt
 generalize yX (.new A L (z8 T)) 0 a.data.toList b.data.toList=er at *
 generalize xq (.new A L (z8 T)) 0 a.data.toList b.data.toList=dd at *
 show Calls _ _ #[.iface 150 (.agg #[.pointer (some ⟨D,0,none⟩)]),_] _ _
 go_enter Tryz.func307,Tryz.ntmps307
 go_wp2_with fail
 generalize W.alloc (.cells #[.int .u8 (kd:Int),.string a,.string b,.int .u8 nd,.int .u8 rl] 47)=w1 at *
 with_reducible refine (HC.out _ HB1.out).mono ?_
 rintro e w2 ⟨rfl,hg⟩
 have HGO:=za hg
 clear hg HC HB1 hmt
 go_wp2
 go_ret2
 exact ⟨none,0,0,rfl,fun _=>⟨rfl,vu.none _ _⟩,HGO.out⟩
set_option maxRecDepth 100000 in
theorem VI (W:World) {D P M G:Nat} {A:zt} {p q pg:Option Nat} {L LM:zj} {T:zq} (F:Nat→Prop) (hd:yg W D P A M p q L LM G pg T) (hgo:zm A L (z8 T) 12) (hF:∀ i,F i↔yU D P M p q G pg T i) (kd:Nat) (a b:ByteArray) (nd rl:Int) (ha:a.size≤1000) (hb:b.size≤1000) (hk:kd=1) :
  Calls Tryz.prog 307 #[zP D,.agg #[.int .u8 (kd:Int),.string a,.string b,.int .u8 nd,.int .u8 rl]] W (zv W (zP D) F (.new A L (z8 T)) kd a b):=by
 have HC:Hid (∀ W',Below W.heap.size W W'→Calls Tryz.prog 314 #[.pointer (some ⟨D,0,none⟩),.string a] W' fun e w'=>e=.returned (.int .i64 (yX (.new A L (z8 T)) 1 a.data.toList b.data.toList))∧zw W (zP D) F (xq (.new A L (z8 T)) 1 a.data.toList b.data.toList) w'):=fun W' hW=>by
  have h:=hd.later hW
  letI:Fr11:=qj W' D P M p q G pg T
  exact (Vw a h.all17 hgo (by omega)).mono fun e w' ⟨he,hg⟩=>⟨he,(h.dir17 hF hg).ahead hW⟩
 have HKD:=za hk
 have hmt:=Vj D
 have HB1:Hid (Below W.heap.size W (W.alloc (.cells #[.int .u8 (kd:Int),.string a,.string b,.int .u8 nd,.int .u8 rl] 47))):=ze (Below.refl _ W) _
 have q0:((kd:Int) == 0)=false:=by rw [HKD.out]; rfl
 have q1:((kd:Int) == 1)=true:=by rw [HKD.out]; rfl
 have q2:((kd:Int) == 2)=false:=by rw [HKD.out]; rfl
 have q3:((kd:Int) == 3)=false:=by rw [HKD.out]; rfl
 clear hd hF ha hb hk hgo
 unfold zv
 have ek:kd=1:=HKD.out
 rw [show yX (.new A L (z8 T)) kd a.data.toList b.data.toList=yX (.new A L (z8 T)) 1 a.data.toList b.data.toList by rw [ek],show xD (.new A L (z8 T)) kd a.data.toList=xD (.new A L (z8 T)) 1 a.data.toList by rw [ek],show xq (.new A L (z8 T)) kd a.data.toList b.data.toList=xq (.new A L (z8 T)) 1 a.data.toList b.data.toList by rw [ek]]
 clear ek
 have hdt:xD (.new A L (z8 T)) 1 a.data.toList=[]:=rfl
 rw [hdt]
 clear hdt
 generalize yX (.new A L (z8 T)) 1 a.data.toList b.data.toList=er at *
 generalize xq (.new A L (z8 T)) 1 a.data.toList b.data.toList=dd at *
 show Calls _ _ #[.iface 150 (.agg #[.pointer (some ⟨D,0,none⟩)]),_] _ _
 go_enter Tryz.func307,Tryz.ntmps307
 go_wp2_with fail
 generalize W.alloc (.cells #[.int .u8 (kd:Int),.string a,.string b,.int .u8 nd,.int .u8 rl] 47)=w1 at *
 with_reducible refine (HC.out _ HB1.out).mono ?_
 rintro e w2 ⟨rfl,hg⟩
 have HGO:=za hg
 clear hg HC HB1 hmt
 go_wp2
 go_ret2
 exact ⟨none,0,0,rfl,fun _=>⟨rfl,vu.none _ _⟩,HGO.out⟩
set_option maxRecDepth 100000 in
theorem VH (W:World) {D P M G:Nat} {A:zt} {p q pg:Option Nat} {L LM:zj} {T:zq} (F:Nat→Prop) (hd:yg W D P A M p q L LM G pg T) (hgo:zm A L (z8 T) 12) (hF:∀ i,F i↔yU D P M p q G pg T i) (kd:Nat) (a b:ByteArray) (nd rl:Int) (ha:a.size≤1000) (hb:b.size≤1000) (hk:kd=2) :
  Calls Tryz.prog 307 #[zP D,.agg #[.int .u8 (kd:Int),.string a,.string b,.int .u8 nd,.int .u8 rl]] W (zv W (zP D) F (.new A L (z8 T)) kd a b):=by
 have HC:Hid (∀ W',Below W.heap.size W W'→Calls Tryz.prog 317 #[.pointer (some ⟨D,0,none⟩),.string a,.string b] W' fun e w'=>e=.returned (.int .i64 (yX (.new A L (z8 T)) 2 a.data.toList b.data.toList))∧zw W (zP D) F (xq (.new A L (z8 T)) 2 a.data.toList b.data.toList) w'):=fun W' hW=>by
  have h:=hd.later hW
  letI:Fr11:=qj W' D P M p q G pg T
  exact (YY a b h.all17 hgo (by omega) (by omega)).mono fun e w' ⟨he,hg⟩=>⟨he,(h.dir17 hF hg).ahead hW⟩
 have HKD:=za hk
 have hmt:=Xj D
 have HB1:Hid (Below W.heap.size W (W.alloc (.cells #[.int .u8 (kd:Int),.string a,.string b,.int .u8 nd,.int .u8 rl] 47))):=ze (Below.refl _ W) _
 have q0:((kd:Int) == 0)=false:=by rw [HKD.out]; rfl
 have q1:((kd:Int) == 1)=false:=by rw [HKD.out]; rfl
 have q2:((kd:Int) == 2)=true:=by rw [HKD.out]; rfl
 have q3:((kd:Int) == 3)=false:=by rw [HKD.out]; rfl
 clear hd hF ha hb hk hgo
 unfold zv
 have ek:kd=2:=HKD.out
 rw [show yX (.new A L (z8 T)) kd a.data.toList b.data.toList=yX (.new A L (z8 T)) 2 a.data.toList b.data.toList by rw [ek],show xD (.new A L (z8 T)) kd a.data.toList=xD (.new A L (z8 T)) 2 a.data.toList by rw [ek],show xq (.new A L (z8 T)) kd a.data.toList b.data.toList=xq (.new A L (z8 T)) 2 a.data.toList b.data.toList by rw [ek]]
 clear ek
 have hdt:xD (.new A L (z8 T)) 2 a.data.toList=[]:=rfl
 rw [hdt]
 clear hdt
 generalize yX (.new A L (z8 T)) 2 a.data.toList b.data.toList=er at *
 generalize xq (.new A L (z8 T)) 2 a.data.toList b.data.toList=dd at *
 show Calls _ _ #[.iface 150 (.agg #[.pointer (some ⟨D,0,none⟩)]),_] _ _
 go_enter Tryz.func307,Tryz.ntmps307
 go_wp2_with fail
 generalize W.alloc (.cells #[.int .u8 (kd:Int),.string a,.string b,.int .u8 nd,.int .u8 rl] 47)=w1 at *
 with_reducible refine (HC.out _ HB1.out).mono ?_
 rintro e w2 ⟨rfl,hg⟩
 have HGO:=za hg
 clear hg HC HB1 hmt
 go_wp2
 go_ret2
 exact ⟨none,0,0,rfl,fun _=>⟨rfl,vu.none _ _⟩,HGO.out⟩
set_option maxRecDepth 100000 in
theorem VG (W:World) {D P M G:Nat} {A:zt} {p q pg:Option Nat} {L LM:zj} {T:zq} (F:Nat→Prop) (hd:yg W D P A M p q L LM G pg T) (hgo:zm A L (z8 T) 12) (hF:∀ i,F i↔yU D P M p q G pg T i) (kd:Nat) (a b:ByteArray) (nd rl:Int) (ha:a.size≤1000) (hb:b.size≤1000) (hk:kd=3) (hlk:∀ W',Below W.heap.size W W'→Calls Tryz.prog 342 #[.agg #[.pointer (some ⟨D,0,none⟩)],.string a] W' (qp (.new A L (z8 T)) a W')) :
  Calls Tryz.prog 307 #[zP D,.agg #[.int .u8 (kd:Int),.string a,.string b,.int .u8 nd,.int .u8 rl]] W (zv W (zP D) F (.new A L (z8 T)) kd a b):=by
 have HC:=za hlk
 have HKD:=za hk
 have hmt:=Vh D
 have HB1:Hid (Below W.heap.size W (W.alloc (.cells #[.int .u8 (kd:Int),.string a,.string b,.int .u8 nd,.int .u8 rl] 47))):=ze (Below.refl _ W) _
 have q0:((kd:Int) == 0)=false:=by rw [HKD.out]; rfl
 have q1:((kd:Int) == 1)=false:=by rw [HKD.out]; rfl
 have q2:((kd:Int) == 2)=false:=by rw [HKD.out]; rfl
 have q3:((kd:Int) == 3)=true:=by rw [HKD.out]; rfl
 have HG:Hid (∀ w',Below W.heap.size W w'→zw W (zP D) F (xq (.new A L (z8 T)) 3 a.data.toList b.data.toList) w'):=fun w' hw=>zw.still (d:=(.new A L (z8 T))) ⟨D,P,M,G,p,q,LM,pg,T,rfl,hd,rfl,hF⟩ hw
 clear hd hF ha hb hk hgo
 clear hlk
 unfold zv
 have ek:kd=3:=HKD.out
 unfold qp at HC
 rw [show yX (.new A L (z8 T)) kd a.data.toList b.data.toList=yX (.new A L (z8 T)) 3 a.data.toList b.data.toList by rw [ek],show xD (.new A L (z8 T)) kd a.data.toList=xD (.new A L (z8 T)) 3 a.data.toList by rw [ek],show xq (.new A L (z8 T)) kd a.data.toList b.data.toList=xq (.new A L (z8 T)) 3 a.data.toList b.data.toList by rw [ek]]
 clear ek
 rw [show yX (.new A L (z8 T)) 3 a.data.toList b.data.toList=yX (.new A L (z8 T)) 3 a.data.toList [] from rfl]
 generalize xD (.new A L (z8 T)) 3 a.data.toList=tx at *
 generalize yX (.new A L (z8 T)) 3 a.data.toList []=er at *
 generalize xq (.new A L (z8 T)) 3 a.data.toList b.data.toList=dd at *
 show Calls _ _ #[.iface 150 (.agg #[.pointer (some ⟨D,0,none⟩)]),_] _ _
 go_enter Tryz.func307,Tryz.ntmps307
 go_wp2_with fail
 generalize W.alloc (.cells #[.int .u8 (kd:Int),.string a,.string b,.int .u8 nd,.int .u8 rl] 47)=w1 at *
 with_reducible refine (HC.out _ HB1.out).mono ?_
 rintro e w2 ⟨A5,n5,c5,rfl,ht,hbl⟩
 have HT5:=za ht
 have HGO:=za (HG.out _ (zo HB1.out hbl))
 clear ht hbl HG HC HB1 hmt
 go_wp2
 go_ret2
 exact ⟨A5,n5,c5,rfl,HT5.out,HGO.out⟩
set_option maxRecDepth 100000 in
theorem VF (W:World) {D P M G:Nat} {A:zt} {p q pg:Option Nat} {L LM:zj} {T:zq} (F:Nat→Prop) (hd:yg W D P A M p q L LM G pg T) (hgo:zm A L (z8 T) 12) (hF:∀ i,F i↔yU D P M p q G pg T i) (kd:Nat) (a b:ByteArray) (nd rl:Int) (ha:a.size≤1000) (hb:b.size≤1000) (hk:kd=4) :
  Calls Tryz.prog 307 #[zP D,.agg #[.int .u8 (kd:Int),.string a,.string b,.int .u8 nd,.int .u8 rl]] W (zv W (zP D) F (.new A L (z8 T)) kd a b):=by
 have HC:Hid (∀ W',Below W.heap.size W W'→Calls Tryz.prog 316 #[.pointer (some ⟨D,0,none⟩),.string a] W' fun e w'=>∃ v,e=.returned (.tuple #[v,.int .i64 (yX (.new A L (z8 T)) 4 a.data.toList b.data.toList)])∧QW w' v (xD (.new A L (z8 T)) 4 a.data.toList)∧Below W'.heap.size W' w'):=fun W' hW=>by
  have:=Q3 (w0:=jB W') (w:=W') a (hd.later hW).plain17 hgo.rise hgo.few (by omega)
  rw [← qD A L (z8 T)] at this
  exact this
 have HKD:=za hk
 have hmt:=JB D
 have HB1:Hid (Below W.heap.size W (W.alloc (.cells #[.int .u8 (kd:Int),.string a,.string b,.int .u8 nd,.int .u8 rl] 47))):=ze (Below.refl _ W) _
 have q0:((kd:Int) == 0)=false:=by rw [HKD.out]; rfl
 have q1:((kd:Int) == 1)=false:=by rw [HKD.out]; rfl
 have q2:((kd:Int) == 2)=false:=by rw [HKD.out]; rfl
 have q3:((kd:Int) == 3)=false:=by rw [HKD.out]; rfl
 have HG:Hid (∀ w',Below W.heap.size W w'→zw W (zP D) F (xq (.new A L (z8 T)) 4 a.data.toList b.data.toList) w'):=fun w' hw=>zw.still (d:=(.new A L (z8 T))) ⟨D,P,M,G,p,q,LM,pg,T,rfl,hd,rfl,hF⟩ hw
 clear hd hF ha hb hk hgo
 unfold zv
 have ek:kd=4:=HKD.out
 rw [show yX (.new A L (z8 T)) kd a.data.toList b.data.toList=yX (.new A L (z8 T)) 4 a.data.toList b.data.toList by rw [ek],show xD (.new A L (z8 T)) kd a.data.toList=xD (.new A L (z8 T)) 4 a.data.toList by rw [ek],show xq (.new A L (z8 T)) kd a.data.toList b.data.toList=xq (.new A L (z8 T)) 4 a.data.toList b.data.toList by rw [ek]]
 clear ek
 generalize xD (.new A L (z8 T)) 4 a.data.toList=tx at *
 generalize yX (.new A L (z8 T)) 4 a.data.toList b.data.toList=er at *
 generalize xq (.new A L (z8 T)) 4 a.data.toList b.data.toList=dd at *
 show Calls _ _ #[.iface 150 (.agg #[.pointer (some ⟨D,0,none⟩)]),_] _ _
 go_enter Tryz.func307,Tryz.ntmps307
 go_wp2_with fail
 generalize W.alloc (.cells #[.int .u8 (kd:Int),.string a,.string b,.int .u8 nd,.int .u8 rl] 47)=w1 at *
 with_reducible refine (HC.out _ HB1.out).mono ?_
 rintro e w2 ⟨v,rfl,ht,hbl⟩
 obtain ⟨A5,c5,rfl,ht5⟩:=ht.tx17
 generalize hn5:tx.length=n5 at *
 have HN5:=za hn5
 clear hn5
 have HT5:=za ht5
 have HGO:=za (HG.out _ (zo HB1.out hbl))
 clear ht ht5 hbl HG HC HB1 hmt
 go_wp2
 go_ret2
 exact ⟨A5,_,c5,rfl,fun _=>⟨HN5.out.symm,HT5.out⟩,HGO.out⟩
end Go.Proofs.YteegkoicalbkbaaGreatDoor
namespace Go.Proofs.YteegkoicalbkbaaGreatDoor
open Go.RowKit
section
variable {P:Program} (w:World)
theorem Zy (t tx ty e:TypeId) (i:TypeInfo) (z:Value) (size bytes:Nat) (ht:P.underlying t=some (.slice e)) (hi:P.info? e=some i) (hz:i.zero=some z)
  (hsize:i.size=size) (hby:i.bytes=bytes) (hzs:z.cells.size=size)
  (g n:Nat) (xs:List Value) (hown:w.ownsRow 0 e size (.slice (some ⟨g,0,none⟩) n n) n xs) (x:Value) (m:Nat) (news:List Value) (hs:Src P size tx x m news w)
  (h63:n+m≤maxLen) (hbytes:(n+m) * bytes≤140737488355328) :
  ∃ A c w',(Builtin.append_ #[t,tx] ty #[.slice (some ⟨g,0,none⟩) n n,x]).run P w=.ok (.slice A (n+m) c) w'∧w'.ownsRow 0 e size (.slice A (n+m) c) (n+m) (xs++news)∧Below w.heap.size w w':=by
 subst hsize
 subst hby
 by_cases hm:m=0
 ·
  subst hm
  have hn:news=[]:=List.eq_nil_of_length_eq_zero (by simpa using hs.newsLen)
  subst hn
  refine ⟨some ⟨g,0,none⟩,n,w,?_,?_,Below.refl _ _⟩
  ·
   have hst:∀ a,(storeCells a []).run P w=.ok () w:=fun a=>rfl
   rcases hs.kind with ⟨e',hk⟩ | hk <;> simp [Builtin.append_,run_underlying ht,run_underlying hk,sizeOf,typeInfo,hi,hs.len,hs.cells,Addr.add_lit,hst]
  ·
   rw [List.append_nil]
   exact hown
 ·
  have hlen:(xs++news).length=(n+m) * i.size:=by rw [List.length_append,hown.1,hs.newsLen,Nat.add_mul]
  have hsmall:((n+m:Nat):Int)≤9223372036854775807:=by simp only [maxLen] at h63; omega
  have holds:∀ j u,xs[j]? = some u→w.drew.cell? ((⟨g,0,none⟩:Addr).add j)=some u:=hown.cells (g:=g) rfl
  have hr:=run_append_grow_src (P:=P) w t tx ty e i z ht hi hz (some ⟨g,0,none⟩) n n xs (run_firstCells_some w.drew i.size n ⟨g,0,none⟩ n n xs hown.1 holds) x m news hs (by omega) hsmall (growslice_fits (by omega) hbytes)
  have hge:=grownCap_ge w (n+m) n e
  have hcm:grownCap w (n+m) n e≤maxLen:=grownCap_le_maxLen w (n+m) n e h63
  refine ⟨_,_,_,hr,⟨hlen,.inr ⟨w.heap.size,_,_,rfl,Nat.zero_le _,heap_alloc_new w.drew _,hge,hcm,?_,?_⟩⟩,⟨rfl,rfl,rfl,by simp,fun k hk=>Below.heap_alloc w.drew _ k hk⟩⟩
  ·
   simp only [Array.size_append,List.size_toArray,size_zeroCells,hzs,hlen,← Nat.add_mul]
   congr 1
   omega
  ·
   rw [Array.toList_append,← hlen]
   exact List.take_left
theorem fU {ops:Array Oper} {o:Oper} {a:Act} {K:Act→World→Prop} {Q:Exit→Act→World→Prop} {E:Prop} (hgd:o.guard=none) (s x:Operand) (t tx:TypeId)
  (ho:o.op=.call { callee:=.builtin .append,args:=#[s,x],argTypes:=#[t,tx] })
  (e:TypeId) (i:TypeInfo) (z:Value) (size bytes:Nat) (ht:P.underlying t=some (.slice e)) (hi:P.info? e=some i) (hz:i.zero=some z)
  (hsize:i.size=size) (hby:i.bytes=bytes) (hzs:z.cells.size=size)
  (g n:Nat) (xs:List Value) (hv:a.eval s=.slice (some ⟨g,0,none⟩) n n) (hown:w.ownsRow 0 e size (.slice (some ⟨g,0,none⟩) n n) n xs) (y:Value) (m:Nat) (news:List Value) (hx:a.eval x=y) (hs:Src P size tx y m news w)
  (h63:n+m≤maxLen) (hbytes:(n+m) * bytes≤140737488355328)
  (h:∀ A c w',w'.ownsRow 0 e size (.slice A (n+m) c) (n+m) (xs++news)→Below w.heap.size w w'→K (a.put o.dst (.slice A (n+m) c)) w') :
  if Region.wanted o (yielded ops a.tmps)=true then Oper.wp P o a w K Q else E:=by
 have hw:Region.wanted o (yielded ops a.tmps)=true:=by simp [Region.wanted,hgd]
 rw [if_pos hw]
 obtain ⟨A,c,w',hr,h2,h3⟩:=Zy (P:=P) w t tx o.type e i z size bytes ht hi hz hsize hby hzs g n xs hown y m news hs h63 hbytes
 unfold Oper.wp execOp
 simp only [ho,resolve,invoke,builtin,Sem.run_bind,Sem.run_pure,Result.andThen_ok,List.map_toArray,List.map_cons,List.map_nil,hv,hx,hr]
 exact h A c w' h2 h3
end


section
variable {w w':World} {D:Nat} {V:Int} {e u1 u2:Value} {U:Nat→R15} {L:List UInt8}
end
end Go.Proofs.YteegkoicalbkbaaGreatDoor
namespace Go.Proofs.YteegkoicalbkbaaGreatDoor
open Go.RowKit Go.Maps


end Go.Proofs.YteegkoicalbkbaaGreatDoor
namespace Go.Proofs.YteegkoicalbkbaaGreatDoor
open Go.RowKit Go.Maps
set_option linter.unusedVariables false

set_option maxRecDepth 100000 in
theorem Jc (b:Bool) (w:World):Calls Tryz.prog 356 #[.bool b] w (zF (.string (if b then ⟨#[49]⟩ else ⟨#[48]⟩)) w):=by
 cases b with
 | true =>
  go_enter Tryz.func356,Tryz.ntmps356
  go_wp2
  go_ret
  exact ⟨rfl,Below.refl _ _⟩
 | false =>
  go_enter Tryz.func356,Tryz.ntmps356
  go_wp2
  go_ret
  exact ⟨rfl,Below.refl _ _⟩
theorem tx17_one (W:World) (s:ByteArray):vu (W.alloc (.cells #[.string s] 9)) (some ⟨W.heap.size,0,none⟩) [s]:=by
 refine ⟨fun _=>⟨W.heap.size,0,rfl,by simp,fun j hj=>?_⟩,fun _ a ha=>?_⟩
 ·
  have h0:j=0:=by simpa using hj
  subst h0
  rw [cell_of_row _ _ _ _ _ (0,0) (heap_alloc_new W _)]
  rfl
 ·
  injection ha with ha
  subst ha
  exact ⟨Nat.zero_le _,rfl⟩
set_option maxRecDepth 100000 in
theorem oldLookup17 (W:World) (B:Nat) (p:Option Nat) (E:zj) (hd:vm W B p E) (a:ByteArray) (ha:a.size≤1000) :
  Calls Tryz.prog 402 #[.agg #[.pointer (some ⟨B,0,none⟩)],.string a] W (qp (.old E) a W):=by
 have hb1:=ze (Below.refl _ W) (.cells #[.pointer (some ⟨B,0,none⟩)] 80)
 have HL:=za (Z7 B p E a (W.alloc (.cells #[.pointer (some ⟨B,0,none⟩)] 80)) (hd.later hb1) (by omega))
 have HB1:=za hb1
 have HT:Hid (([tx7 (loS E a.data.toList)]:List ByteArray)=(xD (.old E) 3 a.data.toList).map xN∧1=(xD (.old E) 3 a.data.toList).length):=⟨rfl,rfl⟩
 unfold qp
 show Calls _ _ _ _ fun en w'=>∃ A n c,en=.returned (.tuple #[.slice A n c,.int .i64 (deE E a.data.toList)])∧(deE E a.data.toList=0→n=(xD (.old E) 3 a.data.toList).length∧vu w' A ((xD (.old E) 3 a.data.toList).map xN))∧Below W.heap.size W w'
 rw [← HT.out.1,← HT.out.2]
 generalize tx7 (loS E a.data.toList)=s at *
 generalize deE E a.data.toList=er at *
 clear hb1 hd ha HT
 go_enter Tryz.func402,Tryz.ntmps402
 go_wp2_with fail
 generalize W.alloc (.cells #[.pointer (some ⟨B,0,none⟩)] 80)=w1 at *
 with_reducible refine HL.out.mono ?_
 rintro e w2 ⟨rfl,hb⟩
 have HB2:=za (zo HB1.out hb)
 clear hb HB1 HL
 go_wp2
 go_ret2
 exact ⟨_,1,1,rfl,fun _=>⟨rfl,tx17_one w2 s⟩,ze HB2.out _⟩
set_option maxRecDepth 100000 in
theorem newFind17 (W:World) {D P M G:Nat} {A:zt} {p q pg:Option Nat} {L LM:zj} {T:zq} (hd:yg W D P A M p q L LM G pg T) (a:ByteArray) (ha:a.size≤1000) (h5:vO W) :
  Calls Tryz.prog 352 #[.agg #[.pointer (some ⟨D,0,none⟩)],.string a] W fun en w'=>∃ A',en=.returned (.tuple #[.slice A' 1 1,.int .i64 (fiE9 L a.data.toList)])∧vu w' A' [tx7 (fiS9 L a.data.toList)]∧Below W.heap.size W w':=by
 have hb1:=ze (Below.refl _ W) (.cells #[.pointer (some ⟨D,0,none⟩)] 150)
 have HL:=za (Q4 (w0:=jB (W.alloc (.cells #[.pointer (some ⟨D,0,none⟩)] 150))) a (hd.later hb1).plain17 (by omega) (h5.later hb1))
 have HB1:=za hb1
 generalize tx7 (fiS9 L a.data.toList)=s at *
 generalize fiE9 L a.data.toList=er at *
 clear hb1 hd ha h5
 go_enter Tryz.func352,Tryz.ntmps352
 go_wp2_with fail
 generalize W.alloc (.cells #[.pointer (some ⟨D,0,none⟩)] 150)=w1 at *
 with_reducible refine HL.out.mono ?_
 rintro e w2 ⟨rfl,hb⟩
 have HB2:=za (zo HB1.out hb)
 clear hb HB1 HL
 go_wp2
 go_ret2
 exact ⟨_,rfl,tx17_one w2 s,ze HB2.out _⟩

/-! ### one user of the second schema -/
def YLk17 (B:Nat) (t s m off:ByteArray) (d:Bool) (ga:Option Addr) (gn gc:Nat) (cs:List Value) (er:Int):Nat→Value→World→Prop
 | 0,v,_=>v=.pointer (some ⟨B,1,none⟩)
 | 1,v,_=>v=.string s
 | 2,v,_=>v=.pointer (some ⟨B,2,none⟩)
 | 3,v,_=>v=.string m
 | 4,v,_=>v=.pointer (some ⟨B,3,none⟩)
 | 5,v,_=>v=.bool d
 | 6,v,_=>v=.string off
 | 7,v,W=>∃ g,v=.slice (some ⟨g,0,none⟩) 3 3∧W.ownsRow 0 9 1 (.slice (some ⟨g,0,none⟩) 3 3) 3 [.string s,.string m,.string off]
 | 8,v,_=>v=.pointer (some ⟨B,4,none⟩)
 | 9,v,_=>v=.slice ga gn gc
 | 10,v,W=>∃ A c,v=.slice A (3+gn) c∧W.ownsRow 0 9 1 (.slice A (3+gn) c) (3+gn) ([.string s,.string m,.string off]++cs)
 | 11,v,_=>v=.int .i64 er
 | 12,v,W=>∃ A c,v=.slice A (3+gn) c∧W.ownsRow 0 9 1 (.slice A (3+gn) c) (3+gn) ([.string s,.string m,.string off]++cs)
 | 13,v,_=>v=.int .i64 er
 | _,_,_=>True
theorem ZZ {B:Nat} {t:ByteArray} {s:ByteArray} {m:ByteArray} {off:ByteArray} {d:Bool} {ga:Option Addr} {gn:Nat} {gc:Nat} {cs:List Value} {er:Int} {W W':World} (hb:Below W.heap.size W W') (j:Nat) (z:Value) (h:YLk17 B t s m off d ga gn gc cs er j z W):YLk17 B t s m off d ga gn gc cs er j z W':=by
 match j,h with
 | 0,h=>exact h
 | 1,h=>exact h
 | 2,h=>exact h
 | 3,h=>exact h
 | 4,h=>exact h
 | 5,h=>exact h
 | 6,h=>exact h
 | 7,h=>exact by obtain ⟨g,h1,h2⟩:=h; exact ⟨g,h1,(vv hb).owns h2 (fun _ _ f=>f)⟩
 | 8,h=>exact h
 | 9,h=>exact h
 | 10,h=>exact by obtain ⟨A,c,h1,h2⟩:=h; exact ⟨A,c,h1,(vv hb).owns h2 (fun _ _ f=>f)⟩
 | 11,h=>exact h
 | 12,h=>exact by obtain ⟨A,c,h1,h2⟩:=h; exact ⟨A,c,h1,(vv hb).owns h2 (fun _ _ f=>f)⟩
 | 13,h=>exact h
 | _+14,h=>exact h

def Us17 (W:World) (B:Nat) (t s m:ByteArray) (d:Bool) (g:Value):Prop:=W.heap[B]? = some (.cells #[.string t,.string s,.string m,.bool d,g] 192 (0,0))
section
variable {W W':World} {B:Nat} {t s m:ByteArray} {d:Bool} {g:Value}
theorem Us17.later (h:Us17 W B t s m d g) (hb:Below W.heap.size W W'):Us17 W' B t s m d g:=(hb.block B (Array.getElem?_eq_some_iff.1 h).1).trans h
theorem Us17.c1 (h:Us17 W B t s m d g):W.cell? ⟨B,1,none⟩=some (.string s):=by rw [cell_of_row W B 1 _ _ (0,0) h]; rfl
theorem Us17.c2 (h:Us17 W B t s m d g):W.cell? ⟨B,2,none⟩=some (.string m):=by rw [cell_of_row W B 2 _ _ (0,0) h]; rfl
theorem Us17.c3 (h:Us17 W B t s m d g):W.cell? ⟨B,3,none⟩=some (.bool d):=by rw [cell_of_row W B 3 _ _ (0,0) h]; rfl
theorem Us17.c4 (h:Us17 W B t s m d g):W.cell? ⟨B,4,none⟩=some g:=by rw [cell_of_row W B 4 _ _ (0,0) h]; rfl
end
theorem Jm {W:World} {A:Option Addr} {n c:Nat} {ss:List ByteArray} (h:W.ownsRow 0 9 1 (.slice A n c) n (ss.map Value.string)) (hn:n=ss.length):vu W A ss:=by
 subst hn
 refine ⟨jK h,fun hne a ha=>?_⟩
 rcases h.2 with ⟨e,h0⟩ | ⟨g,cap,cur,e,_⟩
 ·
  injection e with e
  rw [ha] at e
  cases e
 ·
  injection e with e
  rw [ha] at e
  injection e with e
  subst e
  exact ⟨Nat.zero_le _,rfl⟩
theorem look17 {A:zt} {L:zj} {S:zn} {n:ByteArray} {w W:World} {v:Value} (h:Look11 A L S n w W v) :
  ∃ t s m d ga gc gs,v=.agg #[.string t,.string s,.string m,.bool d,.slice ga gs.length gc]∧NmR W (.slice ga gs.length gc) gs ∧
   (xR A n.data.toList=0→s=yl (qB A n.data.toList)∧m=yl (yG L n.data.toList)∧d=vX A n.data.toList∧gs=yS S n.data.toList)∧(xR A n.data.toList≠0→gs=[]):=by
 by_cases h0:xR A n.data.toList=0
 ·
  obtain ⟨ga,gc,e,hr⟩:=h.1 h0
  exact ⟨_,_,_,_,ga,gc,_,e,zy hr (Nat.zero_le _),fun _=>⟨rfl,rfl,rfl,rfl⟩,fun e=>absurd h0 e⟩
 ·
  exact ⟨_,_,_,_,none,0,[],h.2 h0,World.ownsRow_nil W 0 _ _,fun e=>absurd e h0,fun _=>rfl⟩
theorem us17_get {A:zt} {L:zj} {S:zn} (hr:zJ A) {n:List UInt8} (h:xR A n=0):nT17 3 A L S n=[qB A n,yG L n,if vX A n then [49] else [48]]++yS S n:=by
 have h1:=(deF_zero h).2
 obtain ⟨a,ha⟩:=qT h1
 show (match qe (zl A L S) n with
  | some u=>us17 u
  | none=>[])=_
 rw [yA hr,ha]
 show us17 (xJ L S n a)=_
 unfold us17 xJ qB vX
 rw [ha]
set_option maxRecDepth 100000 in
theorem newLookup17 (W:World) {D P M G:Nat} {A:zt} {p q pg:Option Nat} {L LM:zj} {T:zq} (hd:yg W D P A M p q L LM G pg T) (hg:zm A L (z8 T) 12) (a:ByteArray) (ha:a.size≤1000) :
  Calls Tryz.prog 342 #[.agg #[.pointer (some ⟨D,0,none⟩)],.string a] W (qp (.new A L (z8 T)) a W):=by
 have hb1:=ze (Below.refl _ W) (.cells #[.pointer (some ⟨D,0,none⟩)] 150)
 have HL:=za (Vn (w0:=jB (W.alloc (.cells #[.pointer (some ⟨D,0,none⟩)] 150))) a (hd.later hb1).plain17 hg.grp (by omega))
 have HB1:=za hb1
 have HZ:Hid (∀ w0 w5 v,Look11 A L (z8 T) a w0 w5 v→∃ t s m d ga gc gs,v=.agg #[.string t,.string s,.string m,.bool d,.slice ga gs.length gc]∧NmR w5 (.slice ga gs.length gc) gs∧gs.length≤1000 ∧
   (xR A a.data.toList=0→[s,m,if d then ⟨#[49]⟩ else ⟨#[48]⟩]++gs.map xN=(xD (.new A L (z8 T)) 3 a.data.toList).map xN)):=fun w0 w5 v h=>by
  obtain ⟨t,s,m,d,ga,gc,gs,e,hn,h1,h2⟩:=look17 h
  refine ⟨t,s,m,d,ga,gc,gs,e,hn,?_,fun h0=>?_⟩
  ·
   by_cases h0:xR A a.data.toList=0
   ·
    rw [(h1 h0).2.2.2]
    have:=ZE (z8 T) a.data.toList
    have:=hg.grp.few
    omega
   ·
    rw [h2 h0]; exact Nat.zero_le _
  ·
   obtain ⟨e1,e2,e3,e4⟩:=h1 h0
   show _=(nT17 3 A L (z8 T) a.data.toList).map xN
   rw [us17_get hg.rise h0,e1,e2,e3,e4,List.map_append]
   cases vX A a.data.toList <;> rfl
 unfold qp
 show Calls _ _ _ _ fun en w'=>∃ A' n c,en=.returned (.tuple #[.slice A' n c,.int .i64 (xR A a.data.toList)])∧(xR A a.data.toList=0→n=(xD (.new A L (z8 T)) 3 a.data.toList).length∧vu w' A' ((xD (.new A L (z8 T)) 3 a.data.toList).map xN))∧Below W.heap.size W w'
 generalize xD (.new A L (z8 T)) 3 a.data.toList=tx at *
 have HEE:Hid (∃ er:Int,er=xR A a.data.toList):=⟨_,rfl⟩
 generalize xR A a.data.toList=er at *
 clear hb1 hd ha hg HEE
 obtain ⟨i0,hi,hz0,hz1,hz2⟩:=info_parts Zc
 go_enter Tryz.func342,Tryz.ntmps342
 go_wp2_with fail
 generalize W.alloc (.cells #[.pointer (some ⟨D,0,none⟩)] 150)=w1 at *
 with_reducible refine HL.out.mono ?_
 rintro e w2 ⟨v,rfl,hlk,hb⟩
 obtain ⟨t,s,m,d,ga,gc,gs,rfl,hnm,hgl,htx⟩:=HZ.out _ _ _ hlk
 have HTX:=za htx
 have HB3:Hid (Below W.heap.size W (w2.alloc (.cells #[.string t,.string s,.string m,.bool d,.slice ga gs.length gc] 192))):=ze (zo HB1.out hb) _
 have HX:Hid (Us17 (w2.alloc (.cells #[.string t,.string s,.string m,.bool d,.slice ga gs.length gc] 192)) w2.heap.size t s m d (.slice ga gs.length gc)):=heap_alloc_new w2 _
 have HSR:Hid (∀ W',Below (w2.alloc (.cells #[.string t,.string s,.string m,.bool d,.slice ga gs.length gc] 192)).heap.size (w2.alloc (.cells #[.string t,.string s,.string m,.bool d,.slice ga gs.length gc] 192)) W'→Src Tryz.prog 1 29 (.slice ga gs.length gc) gs.length (gs.map encStr) W'):=fun W' hW=>(hnm.later (zo (ze (Below.refl _ _) _) hW)).src
 have HGL:=za hgl
 clear htx hlk hnm hb HL HB1 HZ hgl
 have HS:=za (fun W=>Jc d W)
 generalize hoff:(if d then (⟨#[49]⟩:ByteArray) else ⟨#[48]⟩)=off at *
 have HTX2:Hid (er=0→([s,m,off]++gs.map xN)=tx.map xN):=HTX.out
 have HGS:Hid ((gs.map encStr)=(gs.map xN).map Value.string∧(gs.map xN).length=gs.length):=by
  refine ⟨?_,List.length_map _⟩
  rw [List.map_map]
  apply List.map_congr_left
  intro x _
  simp [encStr,xN]
 clear hoff HTX
 generalize gs.map encStr=cs at *
 generalize gs.map xN=gt at *
 generalize gs.length=gn at *
 go_wp2_with fail
 generalize (w2.alloc (.cells #[.string t,.string s,.string m,.bool d,.slice ga gn gc] 192))=w3 at *
 generalize w2.heap.size=B at *
 refine Uy (by kernel_rfl) (YLk17 B t s m off d ga gn gc cs er) (fun _ W=>Below w3.heap.size w3 W) ?F ?hF (by kernel_rfl) (by kernel_rfl) (jc (Below.refl _ _)) ?step ?fin
 case hF =>
  intro x
  simp only [List.map_cons,List.map_nil,vb,Act.put,List.setIfInBounds_toArray,List.set_cons_zero,List.set_cons_succ,Nat.zero_add,Nat.reduceAdd]
  exact rfl
 case step =>
  refine ⟨?_,?_,?_,?_,?_,?_,?_,?_,?_,?_,?_,?_,?_,?_,trivial⟩
  all_goals intro L x W hLi hLL hW hdep K hK
  all_goals clear hLi hLL
  ·
   clear hdep
   go_simp
   exact hK _ _ rfl hW (fun _ _ h=>h)
  ·
   have h0:x 0=_:=hdep 0 rfl
   have c:=(HX.out.later hW).c1
   clear hdep
   simp only [h0] at hK
   go_simp
   exact hK _ _ rfl hW (fun _ _ h=>h)
  ·
   clear hdep
   go_simp
   exact hK _ _ rfl hW (fun _ _ h=>h)
  ·
   have h2:x 2=_:=hdep 2 rfl
   have c:=(HX.out.later hW).c2
   clear hdep
   simp only [h2] at hK
   go_simp
   exact hK _ _ rfl hW (fun _ _ h=>h)
  ·
   clear hdep
   go_simp
   exact hK _ _ rfl hW (fun _ _ h=>h)
  ·
   have h4:x 4=_:=hdep 4 rfl
   have c:=(HX.out.later hW).c3
   clear hdep
   simp only [h4] at hK
   go_simp
   exact hK _ _ rfl hW (fun _ _ h=>h)
  ·
   have h5:x 5=_:=hdep 5 rfl
   have hc:=HS.out W
   clear hdep
   simp only [h5] at hK
   go_simp
   refine hc.mono ?_
   rintro e W' ⟨rfl,hb⟩
   exact hK _ _ rfl (zo hW hb) (fun j _ h=>ZZ hb j _ h)
  ·
   have h1:x 1=_:=hdep 1 rfl
   have h3:x 3=_:=hdep 3 rfl
   have h6:x 6=_:=hdep 6 rfl
   clear hdep
   simp only [h1,h3,h6] at hK
   go_simp
   exact hK _ _ ⟨W.heap.size,rfl,World.ownsRow_lit (base:=0) (e:=9) (size:=1) W #[.string s,.string m,.string off] 3 (Nat.zero_le _) (by decide) rfl⟩ (ze hW _) (fun j _ h=>ZZ (ze (Below.refl _ _) _) j _ h)
  ·
   clear hdep
   go_simp
   exact hK _ _ rfl hW (fun _ _ h=>h)
  ·
   have h8:x 8=_:=hdep 8 rfl
   have c:=(HX.out.later hW).c4
   clear hdep
   simp only [h8] at hK
   go_simp
   exact hK _ _ rfl hW (fun _ _ h=>h)
  ·
   obtain ⟨g,h7,ho⟩:=hdep 7 rfl
   have h9:x 9=_:=hdep 9 rfl
   have hsr:=HSR.out W hW
   refine fU W (by rfl) (.tmp 22) (.tmp 24) 29 29 (by rfl) 9 i0 _ 1 16 Tryz.underlying29 hi hz0 hz1 hz2 rfl g 3 [.string s,.string m,.string off] h7 ho (.slice ga gn gc) gn cs h9 hsr (by have:=HGL.out; simp only [maxLen]; omega) (by have:=HGL.out; omega) ?_
   intro A5 c5 W5 h5 hb5
   exact hK _ _ ⟨A5,c5,rfl,h5⟩ (zo hW hb5) (fun j _ h=>ZZ hb5 j _ h)
  ·
   clear hdep
   go_simp
   exact hK _ _ rfl hW (fun _ _ h=>h)
  ·
   obtain ⟨A5,c5,h10,ho⟩:=hdep 10 rfl
   have HHO:=za ho
   clear ho
   clear hdep
   simp only [h10] at hK
   go_simp
   exact hK _ _ ⟨A5,c5,rfl,HHO.out⟩ hW (fun _ _ h=>h)
  ·
   have h11:x 11=_:=hdep 11 rfl
   clear hdep
   simp only [h11] at hK
   go_simp
   exact hK _ _ rfl hW (fun _ _ h=>h)
 case fin =>
  intro L x W _ hW hY
  obtain ⟨A5,c5,h12,ho⟩:=hY 12 (by decide)
  have h13:x 13=_:=hY 13 (by decide)
  have HHO:=za ho
  have HBW:=za (zo HB3.out hW)
  clear hY ho hW
  simp only [h12,h13]
  go_wp2
  go_ret2
  refine ⟨A5,3+gn,c5,rfl,fun h0=>?_,HBW.out⟩
  have e:=HTX2.out h0
  have hn:3+gn=tx.length:=by
   have:=congrArg List.length e
   rw [List.length_append,HGS.out.2,List.length_map] at this
   simpa using this
  refine ⟨hn,?_⟩
  rw [← e]
  refine Jm (n:=3+gn) (c:=c5) ?_ (by rw [List.length_append,HGS.out.2]; rfl)
  rw [List.map_append,← HGS.out.1]
  exact HHO.out
end Go.Proofs.YteegkoicalbkbaaGreatDoor
namespace Go.Proofs.YteegkoicalbkbaaGreatDoor
open Go.RowKit Go.Maps
set_option linter.unusedVariables false

theorem Fj (W:World) (B:Nat) (p:Option Nat) (E:zj) (F:Nat→Prop) (hd:vm W B p E) (hF:∀ i,F i↔(i=B∨p=some i)) (kd:Nat) (a b:ByteArray) (nd rl:Int) (ha:a.size≤1000) (hb:b.size≤1000) (hk:kd≤4) :
  Calls Tryz.prog 307 #[xo B,.agg #[.int .u8 (kd:Int),.string a,.string b,.int .u8 nd,.int .u8 rl]] W (zv W (xo B) F (.old E) kd a b):=by
 have hc:kd=0∨kd=1∨kd=2∨kd=3∨kd=4:=by omega
 rcases hc with hc | hc | hc | hc | hc
 ·
  exact VE W B p E F hd hF kd a b nd rl ha hb hc
 ·
  exact VD W B p E F hd hF kd a b nd rl ha hb hc
 ·
  exact VC W B p E F hd hF kd a b nd rl ha hb hc
 ·
  exact VB W B p E F hd hF kd a b nd rl ha hb hc (fun W' hW=>oldLookup17 W' B p E (hd.later hW) a ha)
 ·
  exact VA W B p E F hd hF kd a b nd rl ha hb hc
theorem Fk (W:World) {D P M G:Nat} {A:zt} {p q pg:Option Nat} {L LM:zj} {T:zq} (F:Nat→Prop) (hd:yg W D P A M p q L LM G pg T) (hg:zm A L (z8 T) 12) (hF:∀ i,F i↔yU D P M p q G pg T i) (kd:Nat) (a b:ByteArray) (nd rl:Int) (ha:a.size≤1000) (hb:b.size≤1000) (hk:kd≤4) :
  Calls Tryz.prog 307 #[zP D,.agg #[.int .u8 (kd:Int),.string a,.string b,.int .u8 nd,.int .u8 rl]] W (zv W (zP D) F (.new A L (z8 T)) kd a b):=by
 have hc:kd=0∨kd=1∨kd=2∨kd=3∨kd=4:=by omega
 rcases hc with hc | hc | hc | hc | hc
 ·
  exact VJ W F hd hg hF kd a b nd rl ha hb hc
 ·
  exact VI W F hd hg hF kd a b nd rl ha hb hc
 ·
  exact VH W F hd hg hF kd a b nd rl ha hb hc
 ·
  exact VG W F hd hg hF kd a b nd rl ha hb hc (fun W' hW=>newLookup17 W' (hd.later hW) hg a ha)
 ·
  exact VF W F hd hg hF kd a b nd rl ha hb hc
theorem zv.ahead {W W1:World} {v:Value} {F:Nat→Prop} {d:D17} {kd:Nat} {a b:ByteArray} {en:Ending} {w':World} (h:zv W1 v F d kd a b en w') (hb:Below W.heap.size W W1):zv W v F d kd a b en w':=by
 obtain ⟨A,n,c,h1,h2,h3⟩:=h
 exact ⟨A,n,c,h1,h2,h3.ahead hb⟩
set_option maxRecDepth 100000 in
theorem ask_old17 (W:World) (B:Nat) (p:Option Nat) (E:zj) (F:Nat→Prop) (hd:vm W B p E) (hF:∀ i,F i↔(i=B∨p=some i)) (kd:Nat) (a b:ByteArray) (nd rl:Int) (ha:a.size≤1000) (hb:b.size≤1000) (hk:kd≤4) :
  Calls Tryz.prog 303 #[.agg #[.pointer (some ⟨B,0,none⟩)],.agg #[.int .u8 (kd:Int),.string a,.string b,.int .u8 nd,.int .u8 rl]] W (zv W (xo B) F (.old E) kd a b):=by
 have HC:Hid (∀ W',Below W.heap.size W W'→Calls Tryz.prog 307 #[.iface 80 (.agg #[.pointer (some ⟨B,0,none⟩)]),.agg #[.int .u8 (kd:Int),.string a,.string b,.int .u8 nd,.int .u8 rl]] W' (zv W' (xo B) F (.old E) kd a b)):=fun W' hW=>Fj W' B p E F (hd.later hW) hF kd a b nd rl ha hb hk
 have HB2:Hid (Below W.heap.size W ((W.alloc (.cells #[.pointer (some ⟨B,0,none⟩)] 80)).alloc (.cells #[.int .u8 (kd:Int),.string a,.string b,.int .u8 nd,.int .u8 rl] 47))):=ze (ze (Below.refl _ W) _) _
 have HAH:Hid (∀ w1 en w',Below W.heap.size W w1→zv w1 (xo B) F (.old E) kd a b en w'→zv W (xo B) F (.old E) kd a b en w'):=fun w1 en w' hb h=>h.ahead hb
 have HSH:Hid (∀ w1 en w',zv w1 (xo B) F (.old E) kd a b en w'→∃ A n c er,en=.returned (.tuple #[.slice A n c,.int .i64 er])):=fun w1 en w' ⟨A,n,c,h,_⟩=>⟨A,n,c,_,h⟩
 clear hd hF ha hb hk
 generalize zv W (xo B) F (.old E) kd a b=Q at *
 go_enter Tryz.func303,Tryz.ntmps303
 go_wp2_with fail
 generalize ((W.alloc (.cells #[.pointer (some ⟨B,0,none⟩)] 80)).alloc (.cells #[.int .u8 (kd:Int),.string a,.string b,.int .u8 nd,.int .u8 rl] 47))=w1 at *
 with_reducible refine (HC.out _ HB2.out).mono ?_
 intro e w2 hq
 obtain ⟨A5,n5,c5,er,rfl⟩:=HSH.out _ _ _ hq
 have HQ:=za (HAH.out _ _ _ HB2.out hq)
 clear hq HC HB2 HAH HSH
 go_wp2
 exact HQ.out
set_option maxRecDepth 100000 in
theorem ask_newc17 (W:World) {D P M G:Nat} {A:zt} {p q pg:Option Nat} {L LM:zj} {T:zq} (F:Nat→Prop) (hd:yg W D P A M p q L LM G pg T) (hgo:zm A L (z8 T) 12) (hF:∀ i,F i↔yU D P M p q G pg T i) (kd:Nat) (a b:ByteArray) (nd rl:Int) (ha:a.size≤1000) (hb:b.size≤1000) (hk:kd≤4) :
  Calls Tryz.prog 340 #[.agg #[.pointer (some ⟨D,0,none⟩)],.agg #[.int .u8 (kd:Int),.string a,.string b,.int .u8 nd,.int .u8 rl]] W (zv W (zP D) F (.new A L (z8 T)) kd a b):=by
 have HC:Hid (∀ W',Below W.heap.size W W'→Calls Tryz.prog 307 #[.iface 150 (.agg #[.pointer (some ⟨D,0,none⟩)]),.agg #[.int .u8 (kd:Int),.string a,.string b,.int .u8 nd,.int .u8 rl]] W' (zv W' (zP D) F (.new A L (z8 T)) kd a b)):=fun W' hW=>Fk W' F (hd.later hW) hgo hF kd a b nd rl ha hb hk
 have HB2:Hid (Below W.heap.size W ((W.alloc (.cells #[.pointer (some ⟨D,0,none⟩)] 150)).alloc (.cells #[.int .u8 (kd:Int),.string a,.string b,.int .u8 nd,.int .u8 rl] 47))):=ze (ze (Below.refl _ W) _) _
 have HAH:Hid (∀ w1 en w',Below W.heap.size W w1→zv w1 (zP D) F (.new A L (z8 T)) kd a b en w'→zv W (zP D) F (.new A L (z8 T)) kd a b en w'):=fun w1 en w' hb h=>h.ahead hb
 have q5:((kd:Int) == 5)=false:=by simp; omega
 have q6:((kd:Int) == 6)=false:=by simp; omega
 have q7:((kd:Int) == 7)=false:=by simp; omega
 have q8:((kd:Int) == 8)=false:=by simp; omega
 have q9:((kd:Int) == 9)=false:=by simp; omega
 have q10:((kd:Int) == 10)=false:=by simp; omega
 have q11:((kd:Int) == 11)=false:=by simp; omega
 have q12:((kd:Int) == 12)=false:=by simp; omega
 have q13:((kd:Int) == 13)=false:=by simp; omega
 have q14:((kd:Int) == 14)=false:=by simp; omega
 have HSH:Hid (∀ w1 en w',zv w1 (zP D) F (.new A L (z8 T)) kd a b en w'→∃ A n c er,en=.returned (.tuple #[.slice A n c,.int .i64 er])):=fun w1 en w' ⟨A,n,c,h,_⟩=>⟨A,n,c,_,h⟩
 clear hd hF ha hb hk hgo
 generalize zv W (zP D) F (.new A L (z8 T)) kd a b=Q at *
 go_enter Tryz.func340,Tryz.ntmps340
 go_wp2_with fail
 generalize ((W.alloc (.cells #[.pointer (some ⟨D,0,none⟩)] 150)).alloc (.cells #[.int .u8 (kd:Int),.string a,.string b,.int .u8 nd,.int .u8 rl] 47))=w1 at *
 with_reducible refine (HC.out _ HB2.out).mono ?_
 intro e w2 hq
 obtain ⟨A5,n5,c5,er,rfl⟩:=HSH.out _ _ _ hq
 have HQ:=za (HAH.out _ _ _ HB2.out hq)
 clear hq HC HB2 HAH HSH
 go_wp2
 exact HQ.out
set_option maxRecDepth 100000 in
theorem ask_new5_17 (W:World) {D P M G:Nat} {A:zt} {p q pg:Option Nat} {L LM:zj} {T:zq} (F:Nat→Prop) (hd:yg W D P A M p q L LM G pg T) (hgo:zm A L (z8 T) 12) (hF:∀ i,F i↔yU D P M p q G pg T i) (h5:vO W) (kd:Nat) (a b:ByteArray) (nd rl:Int) (ha:a.size≤1000) (hb:b.size≤1000) (hk:kd=5) :
  Calls Tryz.prog 340 #[.agg #[.pointer (some ⟨D,0,none⟩)],.agg #[.int .u8 (kd:Int),.string a,.string b,.int .u8 nd,.int .u8 rl]] W (zv W (zP D) F (.new A L (z8 T)) kd a b):=by
 have HC:Hid (∀ W',Below W.heap.size W W'→Calls Tryz.prog 345 #[.pointer (some ⟨D,0,none⟩),.string a,.string b] W' fun e w'=>e=.returned (.int .i64 (yX (.new A L (z8 T)) 5 a.data.toList b.data.toList))∧zw W (zP D) F (xq (.new A L (z8 T)) 5 a.data.toList b.data.toList) w'):=fun W' hW=>by
  have h:=hd.later hW
  letI:Fr11:=qj W' D P M p q G pg T
  exact (YX a b h.all17 (by have:=hgo.lfew; omega) (h5.later hW) (by omega) (by omega)).mono fun e w' ⟨he,hg⟩=>⟨he,(h.dir17 hF hg).ahead hW⟩
 have HKD:=za hk
 have HB2:Hid (Below W.heap.size W ((W.alloc (.cells #[.pointer (some ⟨D,0,none⟩)] 150)).alloc (.cells #[.int .u8 (kd:Int),.string a,.string b,.int .u8 nd,.int .u8 rl] 47))):=ze (ze (Below.refl _ W) _) _
 have q5:((kd:Int) == 5)=true:=by rw [HKD.out]; rfl
 clear hd hF ha hb hk hgo h5
 unfold zv
 have ek:kd=5:=HKD.out
 rw [show yX (.new A L (z8 T)) kd a.data.toList b.data.toList=yX (.new A L (z8 T)) 5 a.data.toList b.data.toList by rw [ek],show xD (.new A L (z8 T)) kd a.data.toList=xD (.new A L (z8 T)) 5 a.data.toList by rw [ek],show xq (.new A L (z8 T)) kd a.data.toList b.data.toList=xq (.new A L (z8 T)) 5 a.data.toList b.data.toList by rw [ek]]
 clear ek
 have hdt:xD (.new A L (z8 T)) 5 a.data.toList=[]:=rfl
 rw [hdt]
 clear hdt
 generalize yX (.new A L (z8 T)) 5 a.data.toList b.data.toList=er at *
 generalize xq (.new A L (z8 T)) 5 a.data.toList b.data.toList=dd at *
 go_enter Tryz.func340,Tryz.ntmps340
 go_wp2_with fail
 generalize ((W.alloc (.cells #[.pointer (some ⟨D,0,none⟩)] 150)).alloc (.cells #[.int .u8 (kd:Int),.string a,.string b,.int .u8 nd,.int .u8 rl] 47))=w1 at *
 with_reducible refine (HC.out _ HB2.out).mono ?_
 rintro e w2 ⟨rfl,hg⟩
 have HGO:=za hg
 clear hg HC HB2
 go_wp2
 go_ret2
 exact ⟨none,0,0,rfl,fun _=>⟨rfl,vu.none _ _⟩,HGO.out⟩
set_option maxRecDepth 100000 in
theorem ask_new6_17 (W:World) {D P M G:Nat} {A:zt} {p q pg:Option Nat} {L LM:zj} {T:zq} (F:Nat→Prop) (hd:yg W D P A M p q L LM G pg T) (hgo:zm A L (z8 T) 12) (hF:∀ i,F i↔yU D P M p q G pg T i) (h5:vO W) (kd:Nat) (a b:ByteArray) (nd rl:Int) (ha:a.size≤1000) (hb:b.size≤1000) (hk:kd=6) :
  Calls Tryz.prog 340 #[.agg #[.pointer (some ⟨D,0,none⟩)],.agg #[.int .u8 (kd:Int),.string a,.string b,.int .u8 nd,.int .u8 rl]] W (zv W (zP D) F (.new A L (z8 T)) kd a b):=by
 have HC:Hid (∀ W',Below W.heap.size W W'→Calls Tryz.prog 346 #[.pointer (some ⟨D,0,none⟩),.string a,.bool true] W' fun e w'=>e=.returned (.int .i64 (yX (.new A L (z8 T)) 6 a.data.toList b.data.toList))∧zw W (zP D) F (xq (.new A L (z8 T)) 6 a.data.toList b.data.toList) w'):=fun W' hW=>by
  have h:=hd.later hW
  letI:Fr11:=qj W' D P M p q G pg T
  exact (jy a true h.all17 hgo (by omega)).mono fun e w' ⟨he,hg⟩=>⟨he,(h.dir17 hF hg).ahead hW⟩
 have HKD:=za hk
 have HB2:Hid (Below W.heap.size W ((W.alloc (.cells #[.pointer (some ⟨D,0,none⟩)] 150)).alloc (.cells #[.int .u8 (kd:Int),.string a,.string b,.int .u8 nd,.int .u8 rl] 47))):=ze (ze (Below.refl _ W) _) _
 have q5:((kd:Int) == 5)=false:=by rw [HKD.out]; rfl
 have q6:((kd:Int) == 6)=true:=by rw [HKD.out]; rfl
 clear hd hF ha hb hk hgo h5
 unfold zv
 have ek:kd=6:=HKD.out
 rw [show yX (.new A L (z8 T)) kd a.data.toList b.data.toList=yX (.new A L (z8 T)) 6 a.data.toList b.data.toList by rw [ek],show xD (.new A L (z8 T)) kd a.data.toList=xD (.new A L (z8 T)) 6 a.data.toList by rw [ek],show xq (.new A L (z8 T)) kd a.data.toList b.data.toList=xq (.new A L (z8 T)) 6 a.data.toList b.data.toList by rw [ek]]
 clear ek
 have hdt:xD (.new A L (z8 T)) 6 a.data.toList=[]:=rfl
 rw [hdt]
 clear hdt
 generalize yX (.new A L (z8 T)) 6 a.data.toList b.data.toList=er at *
 generalize xq (.new A L (z8 T)) 6 a.data.toList b.data.toList=dd at *
 go_enter Tryz.func340,Tryz.ntmps340
 go_wp2_with fail
 generalize ((W.alloc (.cells #[.pointer (some ⟨D,0,none⟩)] 150)).alloc (.cells #[.int .u8 (kd:Int),.string a,.string b,.int .u8 nd,.int .u8 rl] 47))=w1 at *
 with_reducible refine (HC.out _ HB2.out).mono ?_
 rintro e w2 ⟨rfl,hg⟩
 have HGO:=za hg
 clear hg HC HB2
 go_wp2
 go_ret2
 exact ⟨none,0,0,rfl,fun _=>⟨rfl,vu.none _ _⟩,HGO.out⟩
set_option maxRecDepth 100000 in
theorem ask_new7_17 (W:World) {D P M G:Nat} {A:zt} {p q pg:Option Nat} {L LM:zj} {T:zq} (F:Nat→Prop) (hd:yg W D P A M p q L LM G pg T) (hgo:zm A L (z8 T) 12) (hF:∀ i,F i↔yU D P M p q G pg T i) (h5:vO W) (kd:Nat) (a b:ByteArray) (nd rl:Int) (ha:a.size≤1000) (hb:b.size≤1000) (hk:kd=7) :
  Calls Tryz.prog 340 #[.agg #[.pointer (some ⟨D,0,none⟩)],.agg #[.int .u8 (kd:Int),.string a,.string b,.int .u8 nd,.int .u8 rl]] W (zv W (zP D) F (.new A L (z8 T)) kd a b):=by
 have HC:Hid (∀ W',Below W.heap.size W W'→Calls Tryz.prog 346 #[.pointer (some ⟨D,0,none⟩),.string a,.bool false] W' fun e w'=>e=.returned (.int .i64 (yX (.new A L (z8 T)) 7 a.data.toList b.data.toList))∧zw W (zP D) F (xq (.new A L (z8 T)) 7 a.data.toList b.data.toList) w'):=fun W' hW=>by
  have h:=hd.later hW
  letI:Fr11:=qj W' D P M p q G pg T
  exact (jy a false h.all17 hgo (by omega)).mono fun e w' ⟨he,hg⟩=>⟨he,(h.dir17 hF hg).ahead hW⟩
 have HKD:=za hk
 have HB2:Hid (Below W.heap.size W ((W.alloc (.cells #[.pointer (some ⟨D,0,none⟩)] 150)).alloc (.cells #[.int .u8 (kd:Int),.string a,.string b,.int .u8 nd,.int .u8 rl] 47))):=ze (ze (Below.refl _ W) _) _
 have q5:((kd:Int) == 5)=false:=by rw [HKD.out]; rfl
 have q6:((kd:Int) == 6)=false:=by rw [HKD.out]; rfl
 have q7:((kd:Int) == 7)=true:=by rw [HKD.out]; rfl
 clear hd hF ha hb hk hgo h5
 unfold zv
 have ek:kd=7:=HKD.out
 rw [show yX (.new A L (z8 T)) kd a.data.toList b.data.toList=yX (.new A L (z8 T)) 7 a.data.toList b.data.toList by rw [ek],show xD (.new A L (z8 T)) kd a.data.toList=xD (.new A L (z8 T)) 7 a.data.toList by rw [ek],show xq (.new A L (z8 T)) kd a.data.toList b.data.toList=xq (.new A L (z8 T)) 7 a.data.toList b.data.toList by rw [ek]]
 clear ek
 have hdt:xD (.new A L (z8 T)) 7 a.data.toList=[]:=rfl
 rw [hdt]
 clear hdt
 generalize yX (.new A L (z8 T)) 7 a.data.toList b.data.toList=er at *
 generalize xq (.new A L (z8 T)) 7 a.data.toList b.data.toList=dd at *
 go_enter Tryz.func340,Tryz.ntmps340
 go_wp2_with fail
 generalize ((W.alloc (.cells #[.pointer (some ⟨D,0,none⟩)] 150)).alloc (.cells #[.int .u8 (kd:Int),.string a,.string b,.int .u8 nd,.int .u8 rl] 47))=w1 at *
 with_reducible refine (HC.out _ HB2.out).mono ?_
 rintro e w2 ⟨rfl,hg⟩
 have HGO:=za hg
 clear hg HC HB2
 go_wp2
 go_ret2
 exact ⟨none,0,0,rfl,fun _=>⟨rfl,vu.none _ _⟩,HGO.out⟩
set_option maxRecDepth 100000 in
theorem ask_new8_17 (W:World) {D P M G:Nat} {A:zt} {p q pg:Option Nat} {L LM:zj} {T:zq} (F:Nat→Prop) (hd:yg W D P A M p q L LM G pg T) (hgo:zm A L (z8 T) 12) (hF:∀ i,F i↔yU D P M p q G pg T i) (h5:vO W) (kd:Nat) (a b:ByteArray) (nd rl:Int) (ha:a.size≤1000) (hb:b.size≤1000) (hk:kd=8) :
  Calls Tryz.prog 340 #[.agg #[.pointer (some ⟨D,0,none⟩)],.agg #[.int .u8 (kd:Int),.string a,.string b,.int .u8 nd,.int .u8 rl]] W (zv W (zP D) F (.new A L (z8 T)) kd a b):=by
 have HC:Hid (∀ W',Below W.heap.size W W'→Calls Tryz.prog 347 #[.pointer (some ⟨D,0,none⟩),.string a,.string b] W' fun e w'=>e=.returned (.int .i64 (yX (.new A L (z8 T)) 8 a.data.toList b.data.toList))∧zw W (zP D) F (xq (.new A L (z8 T)) 8 a.data.toList b.data.toList) w'):=fun W' hW=>by
  have h:=hd.later hW
  letI:Fr11:=qj W' D P M p q G pg T
  exact (Va a b h.all17 hgo (by decide) (by omega) (by omega)).mono fun e w' ⟨he,hg⟩=>⟨he,(h.dir17 hF hg).ahead hW⟩
 have HKD:=za hk
 have HB2:Hid (Below W.heap.size W ((W.alloc (.cells #[.pointer (some ⟨D,0,none⟩)] 150)).alloc (.cells #[.int .u8 (kd:Int),.string a,.string b,.int .u8 nd,.int .u8 rl] 47))):=ze (ze (Below.refl _ W) _) _
 have q5:((kd:Int) == 5)=false:=by rw [HKD.out]; rfl
 have q6:((kd:Int) == 6)=false:=by rw [HKD.out]; rfl
 have q7:((kd:Int) == 7)=false:=by rw [HKD.out]; rfl
 have q8:((kd:Int) == 8)=true:=by rw [HKD.out]; rfl
 clear hd hF ha hb hk hgo h5
 unfold zv
 have ek:kd=8:=HKD.out
 rw [show yX (.new A L (z8 T)) kd a.data.toList b.data.toList=yX (.new A L (z8 T)) 8 a.data.toList b.data.toList by rw [ek],show xD (.new A L (z8 T)) kd a.data.toList=xD (.new A L (z8 T)) 8 a.data.toList by rw [ek],show xq (.new A L (z8 T)) kd a.data.toList b.data.toList=xq (.new A L (z8 T)) 8 a.data.toList b.data.toList by rw [ek]]
 clear ek
 have hdt:xD (.new A L (z8 T)) 8 a.data.toList=[]:=rfl
 rw [hdt]
 clear hdt
 generalize yX (.new A L (z8 T)) 8 a.data.toList b.data.toList=er at *
 generalize xq (.new A L (z8 T)) 8 a.data.toList b.data.toList=dd at *
 go_enter Tryz.func340,Tryz.ntmps340
 go_wp2_with fail
 generalize ((W.alloc (.cells #[.pointer (some ⟨D,0,none⟩)] 150)).alloc (.cells #[.int .u8 (kd:Int),.string a,.string b,.int .u8 nd,.int .u8 rl] 47))=w1 at *
 with_reducible refine (HC.out _ HB2.out).mono ?_
 rintro e w2 ⟨rfl,hg⟩
 have HGO:=za hg
 clear hg HC HB2
 go_wp2
 go_ret2
 exact ⟨none,0,0,rfl,fun _=>⟨rfl,vu.none _ _⟩,HGO.out⟩
set_option maxRecDepth 100000 in
theorem ask_new9_17 (W:World) {D P M G:Nat} {A:zt} {p q pg:Option Nat} {L LM:zj} {T:zq} (F:Nat→Prop) (hd:yg W D P A M p q L LM G pg T) (hgo:zm A L (z8 T) 12) (hF:∀ i,F i↔yU D P M p q G pg T i) (h5:vO W) (kd:Nat) (a b:ByteArray) (nd rl:Int) (ha:a.size≤1000) (hb:b.size≤1000) (hk:kd=9) :
  Calls Tryz.prog 340 #[.agg #[.pointer (some ⟨D,0,none⟩)],.agg #[.int .u8 (kd:Int),.string a,.string b,.int .u8 nd,.int .u8 rl]] W (zv W (zP D) F (.new A L (z8 T)) kd a b):=by
 have HC:Hid (∀ W',Below W.heap.size W W'→Calls Tryz.prog 348 #[.pointer (some ⟨D,0,none⟩),.string a] W' fun e w'=>e=.returned (.int .i64 (yX (.new A L (z8 T)) 9 a.data.toList b.data.toList))∧zw W (zP D) F (xq (.new A L (z8 T)) 9 a.data.toList b.data.toList) w'):=fun W' hW=>by
  have h:=hd.later hW
  letI:Fr11:=qj W' D P M p q G pg T
  exact (ZJ a h.all17 hgo (by omega)).mono fun e w' ⟨he,hg⟩=>⟨he,(h.dir17 hF hg).ahead hW⟩
 have HKD:=za hk
 have HB2:Hid (Below W.heap.size W ((W.alloc (.cells #[.pointer (some ⟨D,0,none⟩)] 150)).alloc (.cells #[.int .u8 (kd:Int),.string a,.string b,.int .u8 nd,.int .u8 rl] 47))):=ze (ze (Below.refl _ W) _) _
 have q5:((kd:Int) == 5)=false:=by rw [HKD.out]; rfl
 have q6:((kd:Int) == 6)=false:=by rw [HKD.out]; rfl
 have q7:((kd:Int) == 7)=false:=by rw [HKD.out]; rfl
 have q8:((kd:Int) == 8)=false:=by rw [HKD.out]; rfl
 have q9:((kd:Int) == 9)=true:=by rw [HKD.out]; rfl
 clear hd hF ha hb hk hgo h5
 unfold zv
 have ek:kd=9:=HKD.out
 rw [show yX (.new A L (z8 T)) kd a.data.toList b.data.toList=yX (.new A L (z8 T)) 9 a.data.toList b.data.toList by rw [ek],show xD (.new A L (z8 T)) kd a.data.toList=xD (.new A L (z8 T)) 9 a.data.toList by rw [ek],show xq (.new A L (z8 T)) kd a.data.toList b.data.toList=xq (.new A L (z8 T)) 9 a.data.toList b.data.toList by rw [ek]]
 clear ek
 have hdt:xD (.new A L (z8 T)) 9 a.data.toList=[]:=rfl
 rw [hdt]
 clear hdt
 generalize yX (.new A L (z8 T)) 9 a.data.toList b.data.toList=er at *
 generalize xq (.new A L (z8 T)) 9 a.data.toList b.data.toList=dd at *
 go_enter Tryz.func340,Tryz.ntmps340
 go_wp2_with fail
 generalize ((W.alloc (.cells #[.pointer (some ⟨D,0,none⟩)] 150)).alloc (.cells #[.int .u8 (kd:Int),.string a,.string b,.int .u8 nd,.int .u8 rl] 47))=w1 at *
 with_reducible refine (HC.out _ HB2.out).mono ?_
 rintro e w2 ⟨rfl,hg⟩
 have HGO:=za hg
 clear hg HC HB2
 go_wp2
 go_ret2
 exact ⟨none,0,0,rfl,fun _=>⟨rfl,vu.none _ _⟩,HGO.out⟩
set_option maxRecDepth 100000 in
theorem Fv (W:World) {D P M G:Nat} {A:zt} {p q pg:Option Nat} {L LM:zj} {T:zq} (F:Nat→Prop) (hd:yg W D P A M p q L LM G pg T) (hgo:zm A L (z8 T) 12) (hF:∀ i,F i↔yU D P M p q G pg T i) (h5:vO W) (kd:Nat) (a b:ByteArray) (nd rl:Int) (ha:a.size≤1000) (hb:b.size≤1000) (hk:kd=10) :
  Calls Tryz.prog 340 #[.agg #[.pointer (some ⟨D,0,none⟩)],.agg #[.int .u8 (kd:Int),.string a,.string b,.int .u8 nd,.int .u8 rl]] W (zv W (zP D) F (.new A L (z8 T)) kd a b):=by
 have HC:Hid (∀ W',Below W.heap.size W W'→Calls Tryz.prog 349 #[.pointer (some ⟨D,0,none⟩),.string a] W' fun e w'=>e=.returned (.int .i64 (yX (.new A L (z8 T)) 10 a.data.toList b.data.toList))∧zw W (zP D) F (xq (.new A L (z8 T)) 10 a.data.toList b.data.toList) w'):=fun W' hW=>by
  have h:=hd.later hW
  letI:Fr11:=qj W' D P M p q G pg T
  exact (ZS a h.all17 (by omega)).mono fun e w' ⟨he,hg⟩=>⟨he,(h.dir17 hF hg).ahead hW⟩
 have HKD:=za hk
 have HB2:Hid (Below W.heap.size W ((W.alloc (.cells #[.pointer (some ⟨D,0,none⟩)] 150)).alloc (.cells #[.int .u8 (kd:Int),.string a,.string b,.int .u8 nd,.int .u8 rl] 47))):=ze (ze (Below.refl _ W) _) _
 have q5:((kd:Int) == 5)=false:=by rw [HKD.out]; rfl
 have q6:((kd:Int) == 6)=false:=by rw [HKD.out]; rfl
 have q7:((kd:Int) == 7)=false:=by rw [HKD.out]; rfl
 have q8:((kd:Int) == 8)=false:=by rw [HKD.out]; rfl
 have q9:((kd:Int) == 9)=false:=by rw [HKD.out]; rfl
 have q10:((kd:Int) == 10)=true:=by rw [HKD.out]; rfl
 clear hd hF ha hb hk hgo h5
 unfold zv
 have ek:kd=10:=HKD.out
 rw [show yX (.new A L (z8 T)) kd a.data.toList b.data.toList=yX (.new A L (z8 T)) 10 a.data.toList b.data.toList by rw [ek],show xD (.new A L (z8 T)) kd a.data.toList=xD (.new A L (z8 T)) 10 a.data.toList by rw [ek],show xq (.new A L (z8 T)) kd a.data.toList b.data.toList=xq (.new A L (z8 T)) 10 a.data.toList b.data.toList by rw [ek]]
 clear ek
 have hdt:xD (.new A L (z8 T)) 10 a.data.toList=[]:=rfl
 rw [hdt]
 clear hdt
 generalize yX (.new A L (z8 T)) 10 a.data.toList b.data.toList=er at *
 generalize xq (.new A L (z8 T)) 10 a.data.toList b.data.toList=dd at *
 go_enter Tryz.func340,Tryz.ntmps340
 go_wp2_with fail
 generalize ((W.alloc (.cells #[.pointer (some ⟨D,0,none⟩)] 150)).alloc (.cells #[.int .u8 (kd:Int),.string a,.string b,.int .u8 nd,.int .u8 rl] 47))=w1 at *
 with_reducible refine (HC.out _ HB2.out).mono ?_
 rintro e w2 ⟨rfl,hg⟩
 have HGO:=za hg
 clear hg HC HB2
 go_wp2
 go_ret2
 exact ⟨none,0,0,rfl,fun _=>⟨rfl,vu.none _ _⟩,HGO.out⟩
set_option maxRecDepth 100000 in
theorem Fu (W:World) {D P M G:Nat} {A:zt} {p q pg:Option Nat} {L LM:zj} {T:zq} (F:Nat→Prop) (hd:yg W D P A M p q L LM G pg T) (hgo:zm A L (z8 T) 12) (hF:∀ i,F i↔yU D P M p q G pg T i) (h5:vO W) (kd:Nat) (a b:ByteArray) (nd rl:Int) (ha:a.size≤1000) (hb:b.size≤1000) (hk:kd=11) :
  Calls Tryz.prog 340 #[.agg #[.pointer (some ⟨D,0,none⟩)],.agg #[.int .u8 (kd:Int),.string a,.string b,.int .u8 nd,.int .u8 rl]] W (zv W (zP D) F (.new A L (z8 T)) kd a b):=by
 have HC:Hid (∀ W',Below W.heap.size W W'→Calls Tryz.prog 350 #[.pointer (some ⟨D,0,none⟩),.string a,.string b] W' fun e w'=>e=.returned (.int .i64 (yX (.new A L (z8 T)) 11 a.data.toList b.data.toList))∧zw W (zP D) F (xq (.new A L (z8 T)) 11 a.data.toList b.data.toList) w'):=fun W' hW=>by
  have h:=hd.later hW
  letI:Fr11:=qj W' D P M p q G pg T
  exact (JH a b h.all17 hgo (by decide) (by omega) (by omega)).mono fun e w' ⟨he,hg⟩=>⟨he,(h.dir17 hF hg).ahead hW⟩
 have HKD:=za hk
 have HB2:Hid (Below W.heap.size W ((W.alloc (.cells #[.pointer (some ⟨D,0,none⟩)] 150)).alloc (.cells #[.int .u8 (kd:Int),.string a,.string b,.int .u8 nd,.int .u8 rl] 47))):=ze (ze (Below.refl _ W) _) _
 have q5:((kd:Int) == 5)=false:=by rw [HKD.out]; rfl
 have q6:((kd:Int) == 6)=false:=by rw [HKD.out]; rfl
 have q7:((kd:Int) == 7)=false:=by rw [HKD.out]; rfl
 have q8:((kd:Int) == 8)=false:=by rw [HKD.out]; rfl
 have q9:((kd:Int) == 9)=false:=by rw [HKD.out]; rfl
 have q10:((kd:Int) == 10)=false:=by rw [HKD.out]; rfl
 have q11:((kd:Int) == 11)=true:=by rw [HKD.out]; rfl
 clear hd hF ha hb hk hgo h5
 unfold zv
 have ek:kd=11:=HKD.out
 rw [show yX (.new A L (z8 T)) kd a.data.toList b.data.toList=yX (.new A L (z8 T)) 11 a.data.toList b.data.toList by rw [ek],show xD (.new A L (z8 T)) kd a.data.toList=xD (.new A L (z8 T)) 11 a.data.toList by rw [ek],show xq (.new A L (z8 T)) kd a.data.toList b.data.toList=xq (.new A L (z8 T)) 11 a.data.toList b.data.toList by rw [ek]]
 clear ek
 have hdt:xD (.new A L (z8 T)) 11 a.data.toList=[]:=rfl
 rw [hdt]
 clear hdt
 generalize yX (.new A L (z8 T)) 11 a.data.toList b.data.toList=er at *
 generalize xq (.new A L (z8 T)) 11 a.data.toList b.data.toList=dd at *
 go_enter Tryz.func340,Tryz.ntmps340
 go_wp2_with fail
 generalize ((W.alloc (.cells #[.pointer (some ⟨D,0,none⟩)] 150)).alloc (.cells #[.int .u8 (kd:Int),.string a,.string b,.int .u8 nd,.int .u8 rl] 47))=w1 at *
 with_reducible refine (HC.out _ HB2.out).mono ?_
 rintro e w2 ⟨rfl,hg⟩
 have HGO:=za hg
 clear hg HC HB2
 go_wp2
 go_ret2
 exact ⟨none,0,0,rfl,fun _=>⟨rfl,vu.none _ _⟩,HGO.out⟩
set_option maxRecDepth 100000 in
theorem Ft (W:World) {D P M G:Nat} {A:zt} {p q pg:Option Nat} {L LM:zj} {T:zq} (F:Nat→Prop) (hd:yg W D P A M p q L LM G pg T) (hgo:zm A L (z8 T) 12) (hF:∀ i,F i↔yU D P M p q G pg T i) (h5:vO W) (kd:Nat) (a b:ByteArray) (nd rl:Int) (ha:a.size≤1000) (hb:b.size≤1000) (hk:kd=12) :
  Calls Tryz.prog 340 #[.agg #[.pointer (some ⟨D,0,none⟩)],.agg #[.int .u8 (kd:Int),.string a,.string b,.int .u8 nd,.int .u8 rl]] W (zv W (zP D) F (.new A L (z8 T)) kd a b):=by
 have HC:Hid (∀ W',Below W.heap.size W W'→Calls Tryz.prog 351 #[.pointer (some ⟨D,0,none⟩),.string a,.string b] W' fun e w'=>e=.returned (.int .i64 (yX (.new A L (z8 T)) 12 a.data.toList b.data.toList))∧zw W (zP D) F (xq (.new A L (z8 T)) 12 a.data.toList b.data.toList) w'):=fun W' hW=>by
  have h:=hd.later hW
  letI:Fr11:=qj W' D P M p q G pg T
  exact (Qg a b h.all17 (by omega) (by omega)).mono fun e w' ⟨he,hg⟩=>⟨he,(h.dir17 hF hg).ahead hW⟩
 have HKD:=za hk
 have HB2:Hid (Below W.heap.size W ((W.alloc (.cells #[.pointer (some ⟨D,0,none⟩)] 150)).alloc (.cells #[.int .u8 (kd:Int),.string a,.string b,.int .u8 nd,.int .u8 rl] 47))):=ze (ze (Below.refl _ W) _) _
 have q5:((kd:Int) == 5)=false:=by rw [HKD.out]; rfl
 have q6:((kd:Int) == 6)=false:=by rw [HKD.out]; rfl
 have q7:((kd:Int) == 7)=false:=by rw [HKD.out]; rfl
 have q8:((kd:Int) == 8)=false:=by rw [HKD.out]; rfl
 have q9:((kd:Int) == 9)=false:=by rw [HKD.out]; rfl
 have q10:((kd:Int) == 10)=false:=by rw [HKD.out]; rfl
 have q11:((kd:Int) == 11)=false:=by rw [HKD.out]; rfl
 have q12:((kd:Int) == 12)=true:=by rw [HKD.out]; rfl
 clear hd hF ha hb hk hgo h5
 unfold zv
 have ek:kd=12:=HKD.out
 rw [show yX (.new A L (z8 T)) kd a.data.toList b.data.toList=yX (.new A L (z8 T)) 12 a.data.toList b.data.toList by rw [ek],show xD (.new A L (z8 T)) kd a.data.toList=xD (.new A L (z8 T)) 12 a.data.toList by rw [ek],show xq (.new A L (z8 T)) kd a.data.toList b.data.toList=xq (.new A L (z8 T)) 12 a.data.toList b.data.toList by rw [ek]]
 clear ek
 have hdt:xD (.new A L (z8 T)) 12 a.data.toList=[]:=rfl
 rw [hdt]
 clear hdt
 generalize yX (.new A L (z8 T)) 12 a.data.toList b.data.toList=er at *
 generalize xq (.new A L (z8 T)) 12 a.data.toList b.data.toList=dd at *
 go_enter Tryz.func340,Tryz.ntmps340
 go_wp2_with fail
 generalize ((W.alloc (.cells #[.pointer (some ⟨D,0,none⟩)] 150)).alloc (.cells #[.int .u8 (kd:Int),.string a,.string b,.int .u8 nd,.int .u8 rl] 47))=w1 at *
 with_reducible refine (HC.out _ HB2.out).mono ?_
 rintro e w2 ⟨rfl,hg⟩
 have HGO:=za hg
 clear hg HC HB2
 go_wp2
 go_ret2
 exact ⟨none,0,0,rfl,fun _=>⟨rfl,vu.none _ _⟩,HGO.out⟩
set_option maxRecDepth 100000 in
theorem Fs (W:World) {D P M G:Nat} {A:zt} {p q pg:Option Nat} {L LM:zj} {T:zq} (F:Nat→Prop) (hd:yg W D P A M p q L LM G pg T) (hgo:zm A L (z8 T) 12) (hF:∀ i,F i↔yU D P M p q G pg T i) (h5:vO W) (kd:Nat) (a b:ByteArray) (nd rl:Int) (ha:a.size≤1000) (hb:b.size≤1000) (hk:kd=13) :
  Calls Tryz.prog 340 #[.agg #[.pointer (some ⟨D,0,none⟩)],.agg #[.int .u8 (kd:Int),.string a,.string b,.int .u8 nd,.int .u8 rl]] W (zv W (zP D) F (.new A L (z8 T)) kd a b):=by
 have HG:Hid (∀ w',Below W.heap.size W w'→zw W (zP D) F (xq (.new A L (z8 T)) 13 a.data.toList b.data.toList) w'):=fun w' hw=>zw.still (d:=(.new A L (z8 T))) ⟨D,P,M,G,p,q,LM,pg,T,rfl,hd,rfl,hF⟩ hw
 have HC:Hid (∀ W',Below W.heap.size W W'→Calls Tryz.prog 352 #[.agg #[.pointer (some ⟨D,0,none⟩)],.string a] W' fun en w'=>∃ A' n c,en=.returned (.tuple #[.slice A' n c,.int .i64 (yX (.new A L (z8 T)) 13 a.data.toList b.data.toList)])∧n=(xD (.new A L (z8 T)) 13 a.data.toList).length∧vu w' A' ((xD (.new A L (z8 T)) 13 a.data.toList).map xN)∧Below W'.heap.size W' w'):=fun W' hW=>(newFind17 W' (hd.later hW) a ha (h5.later hW)).mono fun en w' ⟨A',h1,h2,h3⟩=>⟨A',1,1,h1,rfl,h2,h3⟩
 have HKD:=za hk
 have HB2:Hid (Below W.heap.size W ((W.alloc (.cells #[.pointer (some ⟨D,0,none⟩)] 150)).alloc (.cells #[.int .u8 (kd:Int),.string a,.string b,.int .u8 nd,.int .u8 rl] 47))):=ze (ze (Below.refl _ W) _) _
 have q5:((kd:Int) == 5)=false:=by rw [HKD.out]; rfl
 have q6:((kd:Int) == 6)=false:=by rw [HKD.out]; rfl
 have q7:((kd:Int) == 7)=false:=by rw [HKD.out]; rfl
 have q8:((kd:Int) == 8)=false:=by rw [HKD.out]; rfl
 have q9:((kd:Int) == 9)=false:=by rw [HKD.out]; rfl
 have q10:((kd:Int) == 10)=false:=by rw [HKD.out]; rfl
 have q11:((kd:Int) == 11)=false:=by rw [HKD.out]; rfl
 have q12:((kd:Int) == 12)=false:=by rw [HKD.out]; rfl
 have q13:((kd:Int) == 13)=true:=by rw [HKD.out]; rfl
 clear hd hF ha hb hk hgo h5
 unfold zv
 have ek:kd=13:=HKD.out
 rw [show yX (.new A L (z8 T)) kd a.data.toList b.data.toList=yX (.new A L (z8 T)) 13 a.data.toList b.data.toList by rw [ek],show xD (.new A L (z8 T)) kd a.data.toList=xD (.new A L (z8 T)) 13 a.data.toList by rw [ek],show xq (.new A L (z8 T)) kd a.data.toList b.data.toList=xq (.new A L (z8 T)) 13 a.data.toList b.data.toList by rw [ek]]
 clear ek
 generalize xD (.new A L (z8 T)) 13 a.data.toList=tx at *
 generalize yX (.new A L (z8 T)) 13 a.data.toList b.data.toList=er at *
 generalize xq (.new A L (z8 T)) 13 a.data.toList b.data.toList=dd at *
 go_enter Tryz.func340,Tryz.ntmps340
 go_wp2_with fail
 generalize ((W.alloc (.cells #[.pointer (some ⟨D,0,none⟩)] 150)).alloc (.cells #[.int .u8 (kd:Int),.string a,.string b,.int .u8 nd,.int .u8 rl] 47))=w1 at *
 with_reducible refine (HC.out _ HB2.out).mono ?_
 rintro e w2 ⟨A5,n5,c5,rfl,hn5,ht,hbl⟩
 have HT5:=za (And.intro hn5 ht)
 have HGO:=za (HG.out _ (zo HB2.out hbl))
 clear ht hn5 hbl HG HC HB2
 go_wp2
 go_ret2
 exact ⟨A5,n5,c5,rfl,fun _=>HT5.out,HGO.out⟩
set_option maxRecDepth 100000 in
theorem Fr (W:World) {D P M G:Nat} {A:zt} {p q pg:Option Nat} {L LM:zj} {T:zq} (F:Nat→Prop) (hd:yg W D P A M p q L LM G pg T) (hgo:zm A L (z8 T) 12) (hF:∀ i,F i↔yU D P M p q G pg T i) (h5:vO W) (kd:Nat) (a b:ByteArray) (nd rl:Int) (ha:a.size≤1000) (hb:b.size≤1000) (hk:kd=14) :
  Calls Tryz.prog 340 #[.agg #[.pointer (some ⟨D,0,none⟩)],.agg #[.int .u8 (kd:Int),.string a,.string b,.int .u8 nd,.int .u8 rl]] W (zv W (zP D) F (.new A L (z8 T)) kd a b):=by
 have HG:Hid (∀ w',Below W.heap.size W w'→zw W (zP D) F (xq (.new A L (z8 T)) 14 a.data.toList b.data.toList) w'):=fun w' hw=>zw.still (d:=(.new A L (z8 T))) ⟨D,P,M,G,p,q,LM,pg,T,rfl,hd,rfl,hF⟩ hw
 have HC:Hid (∀ W',Below W.heap.size W W'→Calls Tryz.prog 353 #[.pointer (some ⟨D,0,none⟩),.string a] W' fun en w'=>∃ A' n c,en=.returned (.tuple #[.slice A' n c,.int .i64 (yX (.new A L (z8 T)) 14 a.data.toList b.data.toList)])∧n=(xD (.new A L (z8 T)) 14 a.data.toList).length∧vu w' A' ((xD (.new A L (z8 T)) 14 a.data.toList).map xN)∧Below W'.heap.size W' w'):=fun W' hW=>by
  refine (Yp (w0:=jB W') a (hd.later hW).plain17 hgo.grp (by decide) (by omega)).mono fun en w' ⟨v,h1,h2,h3⟩=>?_
  have h4:=zy h2 (Nat.zero_le _)
  obtain ⟨A',c,rfl⟩:=yB h4
  refine ⟨A',_,c,h1,rfl,Jm (n:=(fy (z8 T) a.data.toList).length) (c:=c) ?_ (List.length_map _).symm,h3⟩
  rw [List.map_map]
  have e:(fy (z8 T) a.data.toList).map encStr=(xD (.new A L (z8 T)) 14 a.data.toList).map (Value.string ∘ xN):=by
   apply List.map_congr_left
   intro x _
   simp [encStr,xN]
  rw [← e]
  exact h4
 have HKD:=za hk
 have HB2:Hid (Below W.heap.size W ((W.alloc (.cells #[.pointer (some ⟨D,0,none⟩)] 150)).alloc (.cells #[.int .u8 (kd:Int),.string a,.string b,.int .u8 nd,.int .u8 rl] 47))):=ze (ze (Below.refl _ W) _) _
 have q5:((kd:Int) == 5)=false:=by rw [HKD.out]; rfl
 have q6:((kd:Int) == 6)=false:=by rw [HKD.out]; rfl
 have q7:((kd:Int) == 7)=false:=by rw [HKD.out]; rfl
 have q8:((kd:Int) == 8)=false:=by rw [HKD.out]; rfl
 have q9:((kd:Int) == 9)=false:=by rw [HKD.out]; rfl
 have q10:((kd:Int) == 10)=false:=by rw [HKD.out]; rfl
 have q11:((kd:Int) == 11)=false:=by rw [HKD.out]; rfl
 have q12:((kd:Int) == 12)=false:=by rw [HKD.out]; rfl
 have q13:((kd:Int) == 13)=false:=by rw [HKD.out]; rfl
 have q14:((kd:Int) == 14)=true:=by rw [HKD.out]; rfl
 clear hd hF ha hb hk hgo h5
 unfold zv
 have ek:kd=14:=HKD.out
 rw [show yX (.new A L (z8 T)) kd a.data.toList b.data.toList=yX (.new A L (z8 T)) 14 a.data.toList b.data.toList by rw [ek],show xD (.new A L (z8 T)) kd a.data.toList=xD (.new A L (z8 T)) 14 a.data.toList by rw [ek],show xq (.new A L (z8 T)) kd a.data.toList b.data.toList=xq (.new A L (z8 T)) 14 a.data.toList b.data.toList by rw [ek]]
 clear ek
 generalize xD (.new A L (z8 T)) 14 a.data.toList=tx at *
 generalize yX (.new A L (z8 T)) 14 a.data.toList b.data.toList=er at *
 generalize xq (.new A L (z8 T)) 14 a.data.toList b.data.toList=dd at *
 go_enter Tryz.func340,Tryz.ntmps340
 go_wp2_with fail
 generalize ((W.alloc (.cells #[.pointer (some ⟨D,0,none⟩)] 150)).alloc (.cells #[.int .u8 (kd:Int),.string a,.string b,.int .u8 nd,.int .u8 rl] 47))=w1 at *
 with_reducible refine (HC.out _ HB2.out).mono ?_
 rintro e w2 ⟨A5,n5,c5,rfl,hn5,ht,hbl⟩
 have HT5:=za (And.intro hn5 ht)
 have HGO:=za (HG.out _ (zo HB2.out hbl))
 clear ht hn5 hbl HG HC HB2
 go_wp2
 go_ret2
 exact ⟨A5,n5,c5,rfl,fun _=>HT5.out,HGO.out⟩
theorem ask_new17 (W:World) {D P M G:Nat} {A:zt} {p q pg:Option Nat} {L LM:zj} {T:zq} (F:Nat→Prop) (hd:yg W D P A M p q L LM G pg T) (hgo:zm A L (z8 T) 12) (hF:∀ i,F i↔yU D P M p q G pg T i) (h5:vO W) (kd:Nat) (a b:ByteArray) (nd rl:Int) (ha:a.size≤1000) (hb:b.size≤1000) (hk:kd≤14) :
  Calls Tryz.prog 340 #[.agg #[.pointer (some ⟨D,0,none⟩)],.agg #[.int .u8 (kd:Int),.string a,.string b,.int .u8 nd,.int .u8 rl]] W (zv W (zP D) F (.new A L (z8 T)) kd a b):=by
 by_cases h4:kd≤4
 ·
  exact ask_newc17 W F hd hgo hF kd a b nd rl ha hb h4
 ·
  have hc:kd=5∨kd=6∨kd=7∨kd=8∨kd=9∨kd=10∨kd=11∨kd=12∨kd=13∨kd=14:=by omega
  rcases hc with hc | hc | hc | hc | hc | hc | hc | hc | hc | hc
  ·
   exact ask_new5_17 W F hd hgo hF h5 kd a b nd rl ha hb hc
  ·
   exact ask_new6_17 W F hd hgo hF h5 kd a b nd rl ha hb hc
  ·
   exact ask_new7_17 W F hd hgo hF h5 kd a b nd rl ha hb hc
  ·
   exact ask_new8_17 W F hd hgo hF h5 kd a b nd rl ha hb hc
  ·
   exact ask_new9_17 W F hd hgo hF h5 kd a b nd rl ha hb hc
  ·
   exact Fv W F hd hgo hF h5 kd a b nd rl ha hb hc
  ·
   exact Fu W F hd hgo hF h5 kd a b nd rl ha hb hc
  ·
   exact Ft W F hd hgo hF h5 kd a b nd rl ha hb hc
  ·
   exact Fs W F hd hgo hF h5 kd a b nd rl ha hb hc
  ·
   exact Fr W F hd hgo hF h5 kd a b nd rl ha hb hc
end Go.Proofs.YteegkoicalbkbaaGreatDoor
