/-
  What this law alone needs, the law walked, and its statement.
  Conditions: each theorem's own.
-/
import Derived.Test.YthmomkjingcbiaaGreatDoorCards
import Derived.Test.YthmomkjingcbiaaGreatDoorTie
import Derived.Test.YthmomkjingcbiaaGreatDoorMigGBI
set_option maxHeartbeats 16000000
namespace Go.Proofs.YthmomkjingcbiaaGreatDoor
open Go.RowKit Go.Maps Go.Sort Go.Shelf
set_option linter.unusedVariables false

def Act13 (W:World) (N kd:Nat) (nm hs:ByteArray):Prop:=W.heap[N]? = some (.cells #[.int .u8 (kd:Int),.string nm,.string hs] 36 (0,0))
section
variable {W W':World} {N kd:Nat} {nm hs:ByteArray}
theorem Act13.c0 (h:Act13 W N kd nm hs):W.cell? ⟨N,0,none⟩=some (.int .u8 (kd:Int)):=by unfold Act13 at h; simp [World.cell?,h]
theorem Act13.c1 (h:Act13 W N kd nm hs):W.cell? ⟨N,1,none⟩=some (.string nm):=by unfold Act13 at h; simp [World.cell?,h]
theorem Act13.c2 (h:Act13 W N kd nm hs):W.cell? ⟨N,2,none⟩=some (.string hs):=by unfold Act13 at h; simp [World.cell?,h]
theorem Act13.later (h:Act13 W N kd nm hs) (hb:Below W.heap.size W W'):Act13 W' N kd nm hs:=(hb.block N (Array.getElem?_eq_some_iff.1 h).1).trans h
theorem act13_new (W:World) (kd:Nat) (nm hs:ByteArray):Act13 (W.alloc (.cells #[.int .u8 (kd:Int),.string nm,.string hs] 36)) W.heap.size kd nm hs:=(MapKept.heap_alloc W _).1
end
def St13 (w4:World) (B D Ab kd:Nat) (nm hs:ByteArray) (E E':zg):Nat→World→Prop
 | 0,W=>yu w4 B D E E W∧Act13 W Ab kd nm hs
 | 1,W=>yu w4 B D E' E W∧Act13 W Ab kd nm hs
 | _,W=>yu w4 B D E' E' W∧Act13 W Ab kd nm hs
theorem St13_act {w4 W:World} {B D Ab kd:Nat} {nm hs:ByteArray} {E E':zg} {m:Nat} (h:St13 w4 B D Ab kd nm hs E E' m W):Act13 W Ab kd nm hs:=by
 match m,h with
 | 0,h=>exact h.2
 | 1,h=>exact h.2
 | _+2,h=>exact h.2
theorem St13_later {w4 W W':World} {B D Ab kd:Nat} {nm hs:ByteArray} {E E':zg} {m:Nat} (h:St13 w4 B D Ab kd nm hs E E' m W) (hb:Below W.heap.size W W'):St13 w4 B D Ab kd nm hs E E' m W':=by
 match m,h with
 | 0,h=>exact ⟨h.1.later hb,h.2.later hb⟩
 | 1,h=>exact ⟨h.1.later hb,h.2.later hb⟩
 | _+2,h=>exact ⟨h.1.later hb,h.2.later hb⟩
theorem liL13_len {E:zg} (h:E.length≤12) (pre:List UInt8):(liL E pre).length≤12:=by
 unfold liL
 split
 ·
  unfold jJ
  refine Nat.le_trans (List.length_filter_le _ _) ?_
  rw [List.length_map]
  exact h
 ·
  exact Nat.zero_le _
def YGo13 (B D kd:Nat) (nm hs:ByteArray) (n:Int) (bytes:List UInt8):Nat→Value→World→Prop
 | 0,v,_=>v=.pointer (some ⟨B,0,none⟩)
 | 1,v,_=>v=.agg #[.int .u8 (kd:Int),.string nm,.string hs]
 | 2,v,_=>v=.int .i64 n
 | 3,v,_=>v=.pointer (some ⟨D,0,none⟩)
 | 4,v,_=>v=.agg #[.int .u8 (kd:Int),.string nm,.string hs]
 | 5,v,_=>v=.int .i64 n
 | 6,v,_=>v=.bool false
 | 7,v,_=>v=.bool false
 | 8,v,_=>v=.pointer (some ⟨B,0,none⟩)
 | 9,v,W=>∃ D2,v=.pointer (some ⟨D2,0,none⟩)∧∀ W2,Below W.heap.size W W2→Calls Tryz.prog 16 #[.pointer (some ⟨D2,0,none⟩)] W2 (Fs W2 bytes)
 | 10,v,W=>Rd W v bytes
 | 11,v,_=>v=.string ⟨bytes.toArray⟩
 | 12,v,_=>v=.pointer (some ⟨D,0,none⟩)
 | 13,v,W=>Rd W v bytes
 | 14,v,_=>v=.string ⟨bytes.toArray⟩
 | 15,v,_=>v=.bool false
 | _,v,_=>v=.bool false
theorem YGo13_keep {B:Nat} {D:Nat} {kd:Nat} {nm:ByteArray} {hs:ByteArray} {n:Int} {bytes:List UInt8} {W W':World} (hb:Below W.heap.size W W') (j:Nat) (z:Value) (h:YGo13 B D kd nm hs n bytes j z W):YGo13 B D kd nm hs n bytes j z W':=by
 match j,h with
 | 0,h=>exact h
 | 1,h=>exact h
 | 2,h=>exact h
 | 3,h=>exact h
 | 4,h=>exact h
 | 5,h=>exact h
 | 6,h=>exact h
 | 7,h=>exact h
 | 8,h=>exact h
 | 9,h=>exact (by obtain ⟨D2,e,hy⟩:=h; exact ⟨D2,e,fun W2 h2=>hy W2 (z7 hb h2)⟩)
 | 10,h=>exact Rd.still h (zc.of_below hb _)
 | 11,h=>exact h
 | 12,h=>exact h
 | 13,h=>exact Rd.still h (zc.of_below hb _)
 | 14,h=>exact h
 | 15,h=>exact h
 | _+16,h=>exact h

theorem YGo13_move {B D kd:Nat} {nm hs:ByteArray} {n:Int} {bytes:List UInt8} {W W':World} {j:Nat} {z:Value} (hj:j≠9∧j≠10∧j≠13) (h:YGo13 B D kd nm hs n bytes j z W):YGo13 B D kd nm hs n bytes j z W':=by
 match j,hj,h with
 | 0,hj,h=>exact h
 | 1,hj,h=>exact h
 | 2,hj,h=>exact h
 | 3,hj,h=>exact h
 | 4,hj,h=>exact h
 | 5,hj,h=>exact h
 | 6,hj,h=>exact h
 | 7,hj,h=>exact h
 | 8,hj,h=>exact h
 | 9,hj,h=>exact absurd rfl hj.1
 | 10,hj,h=>exact absurd rfl hj.2.1
 | 11,hj,h=>exact h
 | 12,hj,h=>exact h
 | 13,hj,h=>exact absurd rfl hj.2.2
 | 14,hj,h=>exact h
 | 15,hj,h=>exact h
 | _+16,_,h=>exact h
set_option maxRecDepth 100000 in
theorem mgoes13_walk (A A':Option Addr) (c c' n n':Nat) (l more:List Uq) (name pre:ByteArray) (w:World) (hm:vQ w) (hl:n=l.length) (hn:n≤9223372036854775807) (hr:RdA7 w A l) (hl2:n'=more.length) (hn2:n'≤9223372036854775807) (hr2:RdA7 w A' more) :
  Calls Tryz.prog 4 #[.slice A n c,.slice A' n' c',.string name,.string pre] w (zQ true w):=by
 have hnot:∀ (x:Bool) (w:World),(Op.unary .not (.bool x)).run Tryz.prog w=.ok (.bool (!x)) w:=fun _ _=>rfl
 have HV:Hid (∀ W,Below w.heap.size w W→Calls Tryz.prog 6 #[] W (zQ true W)):=fun W hb=>lives13_calls W (hm.later hb)
 have HF1:Hid (∀ W,Below w.heap.size w W→Calls Tryz.prog 10 #[.slice A n c] W (zQ (V2 l) W)):=fun W hb=>few13_calls A c n l W hl hn (hr.later hb)
 have HF2:Hid (∀ W,Below w.heap.size w W→Calls Tryz.prog 10 #[.slice A' n' c'] W (zQ (V2 more) W)):=fun W hb=>few13_calls A' c' n' more W hl2 hn2 (hr2.later hb)
 have HFW:Hid (V2 l=true→n≤60∧∀ t∈l,t.nm.size≤50∧t.hs.size≤50):=fun h=>⟨by rw [hl]; exact few13_len h,few13_size h⟩
 have HFW2:Hid (V2 more=true→n'≤60∧∀ t∈more,t.nm.size≤50∧t.hs.size≤50):=fun h=>⟨by rw [hl2]; exact few13_len h,few13_size h⟩
 have HR:=za hr
 have HL:=za hl
 have HR2:=za hr2
 have HL2:=za hl2
 have H5:=za hm
 clear hr hl hr2 hl2 hm
 generalize V2 l=fw at *
 generalize V2 more=fw2 at *
 go_enter Tryz.func4,Tryz.ntmps4
 go_wp2_with fail
 with_reducible refine (HV.out w (Below.refl _ _)).mono ?_
 rintro e w1 ⟨rfl,hb⟩
 have HB1:=za hb
 clear hb
 have BAD:Hid (∀ W,Below w.heap.size w W→Calls Tryz.prog 6 #[] W fun e w'=>e=.returned (.bool true)∧Hid (Below w.heap.size w w')):=fun W hb=>(HV.out W hb).mono fun e w' ⟨he,hb'⟩=>⟨he,z7 hb hb'⟩
 clear HV
 go_wp2_with fail
 with_reducible refine (HF1.out w1 HB1.out).mono ?_
 rintro e w2 ⟨rfl,hb⟩
 have HB2:=za (z7 HB1.out hb)
 clear hb HF1 HB1
 cases fw with
 | false =>
  go_wp2_with fail
  with_reducible refine (BAD.out w2 HB2.out).mono ?_
  rintro e w3 ⟨rfl,HB3⟩
  go_wp2
  go_ret
  exact ⟨rfl,HB3.out⟩
 | true =>
 obtain ⟨hn60,hsz⟩:=HFW.out rfl
 have HSZ:=za hsz
 clear HFW hsz
 go_wp2_with fail
 with_reducible refine (HF2.out w2 HB2.out).mono ?_
 rintro e w3 ⟨rfl,hb⟩
 have HB3:=za (z7 HB2.out hb)
 clear hb HF2 HB2
 cases fw2 with
 | false =>
  go_wp2_with fail
  with_reducible refine (BAD.out w3 HB3.out).mono ?_
  rintro e w4 ⟨rfl,HB4⟩
  go_wp2
  go_ret
  exact ⟨rfl,HB4.out⟩
 | true =>
 obtain ⟨hn602,hsz2⟩:=HFW2.out rfl
 have HSZ2:=za hsz2
 clear HFW2 hsz2
 by_cases hp0:name.size≤50
 case neg =>
  have z:(name.size:Int) > 50:=by omega
  have z':50<name.size:=by omega
  have z2:decide ((name.size:Int) > 50)=true:=decide_eq_true z
  go_wp2_with fail
  with_reducible refine (BAD.out w3 HB3.out).mono ?_
  rintro e w4 ⟨rfl,HB4⟩
  go_wp2
  go_ret
  exact ⟨rfl,HB4.out⟩
 by_cases hp1:pre.size≤50
 case neg =>
  have y0:¬ (name.size:Int) > 50:=by omega
  have y0':¬ 50<name.size:=by omega
  have y02:decide ((name.size:Int) > 50)=false:=decide_eq_false y0
  have z:(pre.size:Int) > 50:=by omega
  have z':50<pre.size:=by omega
  have z2:decide ((pre.size:Int) > 50)=true:=decide_eq_true z
  go_wp2_with fail
  with_reducible refine (BAD.out w3 HB3.out).mono ?_
  rintro e w4 ⟨rfl,HB4⟩
  go_wp2
  go_ret
  exact ⟨rfl,HB4.out⟩
 have y0:¬ (name.size:Int) > 50:=by omega
 have y0':¬ 50<name.size:=by omega
 have y02:decide ((name.size:Int) > 50)=false:=decide_eq_false y0
 have y1:¬ (pre.size:Int) > 50:=by omega
 have y1':¬ 50<pre.size:=by omega
 have y12:decide ((pre.size:Int) > 50)=false:=decide_eq_false y1
 clear BAD
 have HNW:=za (QA w3)
 have HO4:=za (FY w3)
 go_wp2_with fail
 with_reducible refine HNW.out.mono ?_
 rintro e w5 ⟨rfl,rfl⟩
 generalize w3.alloc (.cells #[.map none] 78)=w5 at *
 generalize w3.heap.size=B at *
 have H53:=za (H5.out.later HB3.out)
 clear HNW H5 y0 y0' y02 y1 y1' y12
 go_wp2
 go_loopg [50] n (fun gg s50 wr=>∃ k:Nat,k≤n∧n - k≤gg∧s50=.int .i64 k∧Hid (∃ E,xL w3 wr B E∧yH E))
 case atStart=>exact ⟨0,Nat.zero_le _,by omega,rfl,⟨[],HO4.out,yH.nil⟩⟩
 case round =>
  clear HO4
  obtain ⟨k,hk,hg,rfl,HW⟩:=hrel
  by_cases hlt:k<n
  ·
   have hltz:(k:Int)<(n:Int):=by omega
   have hkl:k<l.length:=HL.out ▸ hlt
   obtain ⟨E,hown,hgd⟩:=HW.out
   obtain ⟨b,off,rfl,hb,hc⟩:=(HR.out.later (z7 HB3.out hown.below)) (by intro e; rw [e] at hkl; exact absurd hkl (Nat.not_lt_zero _))
   have c0:wr.cell? ⟨b,off+k * 3,none⟩=some (.int .u8 (l[k].kd:Int)):=hc k hkl 0 _ rfl
   have c1:wr.cell? ⟨b,off+k * 3+1,none⟩=some (.string l[k].nm):=hc k hkl 1 _ rfl
   have c2:wr.cell? ⟨b,off+k * 3+2,none⟩=some (.string l[k].hs):=hc k hkl 2 _ rfl
   have hbv:=z8 (Below.refl wr.heap.size wr) (.cells #[.int .u8 (l[k].kd:Int),.string l[k].nm,.string l[k].hs] 36)
   have HDO:=za ((hown.later hbv).does13 l[k].kd l[k].nm l[k].hs (HSZ.out _ (List.getElem_mem hkl)).1 (HSZ.out _ (List.getElem_mem hkl)).2)
   have HGN:=za (hgd.deed l[k].kd l[k].nm.data.toList l[k].hs.data.toList)
   clear hc hb hown hgd hbv HW
   generalize l[k].kd=kd at *
   generalize l[k].nm=nm at *
   generalize l[k].hs=hs at *
   go_wp2_with fail
   with_reducible refine HDO.out.mono ?_
   rintro e w6 ⟨x,rfl,ho6,_⟩
   have HLN:Hid (∃ E,xL w3 w6 B E∧yH E):=⟨_,ho6,HGN.out⟩
   clear ho6 HDO HGN c0 c1 c2
   go_wp2
   go_roundg (n - (k+1))
   case measure=>omega
   case rel=>exact ⟨k+1,by omega,by omega,by go_num,HLN⟩
  have hltz:¬ (k:Int)<(n:Int):=by omega
  obtain rfl:k=n:=by omega
  obtain ⟨E0,hown,hgd⟩:=HW.out
  have HSB:Hid (∀ W,xL w3 W B E0→Calls Tryz.prog 13 #[.pointer (some ⟨B,0,none⟩)] W (Fs W (FN E0))):=fun W h=>by
   have hb:=h.below
   obtain ⟨p,hd,_⟩:=h
   exact bytes8_calls B p E0 W hd hgd.chk (H53.out.later hb)
  have HOW:=za hown
  have HGD:=za hgd
  have HBE:=za (z7 HB3.out hown.below)
  have HS1:=za (HSB.out wr hown)
  obtain ⟨wE,hwE⟩:∃ wE,wE=wr:=⟨_,rfl⟩
  subst hwE
  clear hown hgd HW HR HL HSZ hk hg hlt hltz hn60
  generalize FN E0=sb at *
  go_wp2_with fail
  with_reducible refine HS1.out.mono ?_
  rintro e w6 ⟨v6,rfl,ho,_,hb⟩
  obtain ⟨A6,c6,rfl⟩:=yW ho
  have hs6:=(Rd.of_own ho).string (P:=Tryz.prog) (src:=22) (dst:=9) Tryz.underlying22 Tryz.underlying5 Tryz.underlying9
  have HO6:=za (HOW.out.later hb)
  have HUP0:=za (Qa HO6.out HGD.out (H53.out.later HO6.out.below))
  clear ho hb HS1 HOW
  go_wp2_with fail
  with_reducible refine HUP0.out.mono ?_
  rintro e w7 ⟨D,P,M,G,A7,L7,S7,k7,rfl,ho7,hg7,ht7,hn7,_⟩
  have HBO:Hid (yu w3 B D E0 E0 w7):=⟨P,M,G,A7,L7,S7,xj.make HO6.out ho7,hg7.trim,ht7,hn7,HGD.out,HGD.out⟩
  have HS2:=za (HSB.out w7 HBO.out.old.1)
  clear ho7 hg7 ht7 hn7 hs6 HUP0 HO6 HSB HBE
  go_wp2_with fail
  with_reducible refine HS2.out.mono ?_
  rintro e w8 ⟨v8,rfl,ho,_,hb⟩
  obtain ⟨A8,c8,rfl⟩:=yW ho
  have hs8:=(Rd.of_own ho).string (P:=Tryz.prog) (src:=22) (dst:=9) Tryz.underlying22 Tryz.underlying5 Tryz.underlying9
  have HL0:Hid (∃ E,yu w3 B D E E w8):=⟨_,HBO.out.later hb⟩
  clear ho hb HS2 HBO HGD
  go_wp2
  clear hs8
  go_loopg [74] n' (fun gg s74 wr=>∃ k:Nat,k≤n'∧n' - k≤gg∧s74=.int .i64 k∧Hid (∃ E,yu w3 B D E E wr))
  case atStart=>exact ⟨0,Nat.zero_le _,by omega,rfl,HL0⟩
  case round =>
   clear HL0
   obtain ⟨k,hk,hg,rfl,HW⟩:=hrel
   by_cases hlt:k<n'
   case neg =>
    have hltz:¬ (k:Int)<(n':Int):=by omega
    obtain rfl:k=n':=by omega
    have HBF:Hid (Below w.heap.size w wr):=by
     obtain ⟨E,hbo⟩:=HW.out
     exact z7 HB3.out hbo.below
    have HU0:=za (Xd wr)
    clear HW HR2 HL2 HSZ2
    go_wp2_with fail
    with_reducible refine HU0.out.mono ?_
    rintro e w9 ⟨rfl,rfl⟩
    clear HU0
    go_wp2
    go_ret
    exact ⟨rfl,HBF.out⟩
   have hltz:(k:Int)<(n':Int):=by omega
   have hkl:k<more.length:=HL2.out ▸ hlt
   obtain ⟨E,hbo⟩:=HW.out
   obtain ⟨b,off,rfl,hb,hc⟩:=(HR2.out.later (z7 HB3.out hbo.below)) (by intro e; rw [e] at hkl; exact absurd hkl (Nat.not_lt_zero _))
   have c0:wr.cell? ⟨b,off+k * 3,none⟩=some (.int .u8 (more[k].kd:Int)):=hc k hkl 0 _ rfl
   have c1:wr.cell? ⟨b,off+k * 3+1,none⟩=some (.string more[k].nm):=hc k hkl 1 _ rfl
   have c2:wr.cell? ⟨b,off+k * 3+2,none⟩=some (.string more[k].hs):=hc k hkl 2 _ rfl
   have hbv:=z8 (Below.refl wr.heap.size wr) (.cells #[.int .u8 (more[k].kd:Int),.string more[k].nm,.string more[k].hs] 36)
   have HB9:=za (hbo.later hbv)
   have HA9:=za (act13_new wr more[k].kd more[k].nm more[k].hs)
   obtain ⟨s1,s2⟩:=HSZ2.out _ (List.getElem_mem hkl)
   clear hc hb hbo hbv HW
   generalize more[k].kd=kd at *
   generalize more[k].nm=nm at *
   generalize more[k].hs=hs at *
   obtain ⟨E',hE'⟩:∃ E',E'=UW kd E nm.data.toList hs.data.toList:=⟨_,rfl⟩
   obtain ⟨nE,hnE⟩:∃ nE,nE=FA kd E nm.data.toList hs.data.toList:=⟨_,rfl⟩
   obtain ⟨bytes,hby⟩:∃ bytes,bytes=Y3 (uJ E') []:=⟨_,rfl⟩
   have HUP:Hid (∀ W,yu w3 B D E' E' W→Calls Tryz.prog 14 #[.pointer (some ⟨B,0,none⟩)] W fun e w'=>∃ D2,e=.returned (.pointer (some ⟨D2,0,none⟩))∧Below W.heap.size W w'∧∀ W2,Below w'.heap.size w' W2→Calls Tryz.prog 16 #[.pointer (some ⟨D2,0,none⟩)] W2 (Fs W2 bytes)):=fun W h=>by
    obtain ⟨ho,hgd⟩:=h.old
    refine (Qa ho hgd (H53.out.later h.below)).mono fun e w' ⟨D2,P2,M2,G2,A2,L2,S2,k2,he,ho2,hg2,ht2,hn2,_⟩=>⟨D2,he,ho2.below,fun W2 hb2=>?_⟩
    have:=Zn (ho2.later hb2) hg2 (H53.out.later (z7 h.below (z7 ho2.below hb2)))
    rwa [ht2,hn2,← hby] at this
   have HBN:Hid (∀ W,yu w3 B D E' E' W→Calls Tryz.prog 16 #[.pointer (some ⟨D,0,none⟩)] W (Fs W bytes)):=fun W h=>by
    obtain ⟨P2,M2,G2,A2,L2,S2,ho2,hg2,ht2,hn2⟩:=h.new
    have:=Zn ho2 hg2 (H53.out.later h.below)
    rwa [ht2,hn2,← hby] at this
   clear hby
   have HDO:Hid (∀ W,yu w3 B D E E W→Calls Tryz.prog 12 #[.pointer (some ⟨B,0,none⟩),.agg #[.int .u8 (kd:Int),.string nm,.string hs]] W (jL w3 B D E' E nE W)):=fun W h=>by
    have:=h.does kd nm hs s1 s2
    rwa [← hE',← hnE] at this
   have HAG:Hid (∀ W,yu w3 B D E' E W→Calls Tryz.prog 15 #[.pointer (some ⟨D,0,none⟩),.agg #[.int .u8 (kd:Int),.string nm,.string hs]] W (jL w3 B D E' E' nE W)):=fun W h=>by
    have:=h.again kd nm hs s1 s2
    rwa [← hE',← hnE] at this
   clear hE' hnE s1 s2
   go_wp2_with fail
   generalize wr.alloc (.cells #[.int .u8 (kd:Int),.string nm,.string hs] 36)=wa at *
   generalize wr.heap.size=Ab at *
   have HG0:Hid (qy [2,5] (St13 w3 B D Ab kd nm hs E E') (fun _=>false) wa.drew):=qy.start ⟨HB9.out.later (zz (Below.refl _ _)),HA9.out.later (zz (Below.refl _ _))⟩
   refine ua (by kernel_rfl) (YGo13 B D kd nm hs nE bytes) (qy [2,5] (St13 w3 B D Ab kd nm hs E E')) ?F ?hF (by kernel_rfl) (by kernel_rfl) HG0.out ?step ?fin
   case hF =>
    intro x
    simp only [List.map_cons,List.map_nil,xw,Act.put,List.setIfInBounds_toArray,List.set_cons_zero,List.set_cons_succ,Nat.zero_add,Nat.reduceAdd]
    exact rfl
   case step =>
    refine ⟨?_,?_,?_,?_,?_,?_,?_,?_,?_,?_,?_,?_,?_,?_,?_,?_,?_,trivial⟩
    all_goals intro L x W hL hd hcl hG hY K hK
    ·
     clear hd hcl hY
     go_simp
     exact hK _ _ rfl (hG.same 0 rfl (fun _ h=>h)) (fun _ _ h=>h)
    ·
     have c0:=hG.any fun m hs=>(St13_act hs).c0
     have c1:=hG.any fun m hs=>(St13_act hs).c1
     have c2:=hG.any fun m hs=>(St13_act hs).c2
     clear hd hcl hY
     go_simp
     exact hK _ _ rfl (hG.same 1 rfl (fun _ h=>h)) (fun _ _ h=>h)
    ·
     have h0:x 0=_:=hY 0 (hd 0 rfl)
     have h1:x 1=_:=hY 1 (hd 1 rfl)
     have hst:=hG.at_ 0 (by decide) hL (.inl rfl)
     have HNX:=za (fun W' h=>hG.next (W':=W') 0 2 (by decide) rfl hL (.inl rfl) (by decide) h)
     have HCALL:=za (HDO.out W hst.1)
     have HAT:=za hst.2
     have n9:∀ j,L j=true→j≠9∧j≠10∧j≠13:=fun j hj=>by
      have k5:L 9=true→L 5=true:=fun h=>hcl 7 _ rfl (hcl 9 _ rfl h 7 (by rfl)) 5 (by rfl)
      have k2:L 5=true→L 2=true:=fun h=>hcl 5 _ rfl h 2 (by rfl)
      have k9:L 10=true→L 9=true:=fun h=>hcl 10 _ rfl h 9 (by rfl)
      have k10:L 13=true→L 10=true:=fun h=>hcl 13 _ rfl h 10 (by rfl)
      have z9:L 9=false:=by
       cases h:L 9 with
       | false=>rfl
       | true=>exact absurd (k2 (k5 h)) (by rw [hL]; decide)
      refine ⟨fun e=>?_,fun e=>?_,fun e=>?_⟩
      ·
       rw [e,z9] at hj; cases hj
      ·
       rw [e] at hj; rw [k9 hj] at z9; cases z9
      ·
       rw [e] at hj; rw [k9 (k10 hj)] at z9; cases z9
     clear hst
     clear hd hcl hY
     simp only [h0,h1] at hK
     go_simp
     refine HCALL.out.mono ?_
     rintro e W' ⟨rfl,hb1,hk⟩
     exact hK _ _ rfl (HNX.out W' ⟨hb1,hk _ _ _ _ HAT.out (by decide) (by decide) (by decide) (by decide)⟩) (fun j hj h=>YGo13_move (n9 j hj) h)
    ·
     clear hd hcl hY
     go_simp
     exact hK _ _ rfl (hG.same 3 rfl (fun _ h=>h)) (fun _ _ h=>h)
    ·
     have c0:=hG.any fun m hs=>(St13_act hs).c0
     have c1:=hG.any fun m hs=>(St13_act hs).c1
     have c2:=hG.any fun m hs=>(St13_act hs).c2
     clear hd hcl hY
     go_simp
     exact hK _ _ rfl (hG.same 4 rfl (fun _ h=>h)) (fun _ _ h=>h)
    ·
     have h3:x 3=_:=hY 3 (hd 3 rfl)
     have h4:x 4=_:=hY 4 (hd 4 rfl)
     have hst:=hG.at_ 1 (by decide) hL (.inr (hd 2 rfl))
     have HNX:=za (fun W' h=>hG.next (W':=W') 1 5 (by decide) rfl hL (.inr (hd 2 rfl)) (by decide) h)
     have HCALL:=za (HAG.out W hst.1)
     have HAT:=za hst.2
     have n9:∀ j,L j=true→j≠9∧j≠10∧j≠13:=fun j hj=>by
      have k5:L 9=true→L 5=true:=fun h=>hcl 7 _ rfl (hcl 9 _ rfl h 7 (by rfl)) 5 (by rfl)
      have k2:L 5=true→L 2=true:=fun h=>hcl 5 _ rfl h 2 (by rfl)
      have k9:L 10=true→L 9=true:=fun h=>hcl 10 _ rfl h 9 (by rfl)
      have k10:L 13=true→L 10=true:=fun h=>hcl 13 _ rfl h 10 (by rfl)
      have z9:L 9=false:=by
       cases h:L 9 with
       | false=>rfl
       | true=>exact absurd (k5 h) (by rw [hL]; decide)
      refine ⟨fun e=>?_,fun e=>?_,fun e=>?_⟩
      ·
       rw [e,z9] at hj; cases hj
      ·
       rw [e] at hj; rw [k9 hj] at z9; cases z9
      ·
       rw [e] at hj; rw [k9 (k10 hj)] at z9; cases z9
     clear hst
     clear hd hcl hY
     simp only [h3,h4] at hK
     go_simp
     refine HCALL.out.mono ?_
     rintro e W' ⟨rfl,hb1,hk⟩
     exact hK _ _ rfl (HNX.out W' ⟨hb1,hk _ _ _ _ HAT.out (by decide) (by decide) (by decide) (by decide)⟩) (fun j hj h=>YGo13_move (n9 j hj) h)
    ·
     have h2:x 2=_:=hY 2 (hd 2 rfl)
     have h5:x 5=_:=hY 5 (hd 5 rfl)
     clear hd hcl hY
     simp only [h2,h5] at hK
     go_simp
     exact hK _ _ rfl (hG.same 6 rfl (fun _ h=>h)) (fun _ _ h=>h)
    ·
     have h6:x 6=_:=hY 6 (hd 6 rfl)
     clear hd hcl hY
     simp only [h6] at hK
     go_simp
     exact hK _ _ rfl (hG.same 7 rfl (fun _ h=>h)) (fun _ _ h=>h)
    ·
     have h7:x 7=_:=hY 7 (hd 7 rfl)
     clear hd hcl hY
     simp only [h7] at hK
     go_simp
     exact hK _ _ rfl (hG.same 8 rfl (fun _ h=>h)) (fun _ _ h=>h)
    ·
     have h7:x 7=_:=hY 7 (hd 7 rfl)
     have h8:x 8=_:=hY 8 (hd 8 rfl)
     have l5:L 5=true:=hcl 7 _ rfl (hd 7 rfl) 5 (by rfl)
     have hst:=hG.last (fun r hr=>by match r,hr with | 0,_=>exact hcl 5 _ rfl l5 2 (by rfl) | 1,_=>exact l5)
     have HCALL:=za (HUP.out W hst.1)
     clear hst l5
     clear hd hcl hY
     simp only [h7,h8] at hK
     go_simp
     refine (HCALL.out).mono ?_
     rintro e W' ⟨D2,rfl,hb,hby⟩
     exact hK _ _ ⟨D2,rfl,hby⟩ (hG.same 9 rfl (fun m h=>St13_later h hb)) (fun j _ h=>YGo13_keep hb j _ h)
    ·
     have h7:x 7=_:=hY 7 (hd 7 rfl)
     obtain ⟨D2,h9,hby⟩:∃ D2,x 9=.pointer (some ⟨D2,0,none⟩)∧∀ W2,Below W.heap.size W W2→Calls Tryz.prog 16 #[.pointer (some ⟨D2,0,none⟩)] W2 (Fs W2 bytes):=hY 9 (hd 9 rfl)
     clear hd hcl hY
     simp only [h7,h9] at hK
     go_simp
     refine (hby W (Below.refl _ _)).mono ?_
     rintro e W' ⟨v',rfl,ho,_,hb⟩
     exact hK _ _ (Rd.of_own ho) (hG.same 10 rfl (fun m h=>St13_later h hb)) (fun j _ h=>YGo13_keep hb j _ h)
    ·
     have h7:x 7=_:=hY 7 (hd 7 rfl)
     have r10:Rd W (x 10) bytes:=hY 10 (hd 10 rfl)
     obtain ⟨A10,c10,e10⟩:=r10.shape
     rw [e10] at r10
     have hs:=r10.string (P:=Tryz.prog) (src:=22) (dst:=9) Tryz.underlying22 Tryz.underlying5 Tryz.underlying9
     clear hd hcl hY
     simp only [h7,e10] at hK
     go_simp
     exact hK _ _ rfl (hG.same 11 rfl (fun _ h=>h)) (fun _ _ h=>h)
    ·
     have h7:x 7=_:=hY 7 (hd 7 rfl)
     clear hd hcl hY
     simp only [h7] at hK
     go_simp
     exact hK _ _ rfl (hG.same 12 rfl (fun _ h=>h)) (fun _ _ h=>h)
    ·
     have h7:x 7=_:=hY 7 (hd 7 rfl)
     have h12:x 12=_:=hY 12 (hd 12 rfl)
     have l5:L 5=true:=hcl 7 _ rfl (hd 7 rfl) 5 (by rfl)
     have hst:=hG.last (fun r hr=>by match r,hr with | 0,_=>exact hcl 5 _ rfl l5 2 (by rfl) | 1,_=>exact l5)
     have HCALL:=za (HBN.out W hst.1)
     clear hst l5
     clear hd hcl hY
     simp only [h7,h12] at hK
     go_simp
     refine (HCALL.out).mono ?_
     rintro e W' ⟨v',rfl,ho,_,hb⟩
     exact hK _ _ (Rd.of_own ho) (hG.same 13 rfl (fun m h=>St13_later h hb)) (fun j _ h=>YGo13_keep hb j _ h)
    ·
     have h7:x 7=_:=hY 7 (hd 7 rfl)
     have r13:Rd W (x 13) bytes:=hY 13 (hd 13 rfl)
     obtain ⟨A13,c13,e13⟩:=r13.shape
     rw [e13] at r13
     have hs:=r13.string (P:=Tryz.prog) (src:=22) (dst:=9) Tryz.underlying22 Tryz.underlying5 Tryz.underlying9
     clear hd hcl hY
     simp only [h7,e13] at hK
     go_simp
     exact hK _ _ rfl (hG.same 14 rfl (fun _ h=>h)) (fun _ _ h=>h)
    ·
     have h7:x 7=_:=hY 7 (hd 7 rfl)
     have h11:x 11=_:=hY 11 (hd 11 rfl)
     have h14:x 14=_:=hY 14 (hd 14 rfl)
     clear hd hcl hY
     simp only [h7,h11,h14] at hK
     go_simp
     exact hK _ _ rfl (hG.same 15 rfl (fun _ h=>h)) (fun _ _ h=>h)
    ·
     have h7:x 7=_:=hY 7 (hd 7 rfl)
     have h15:x 15=_:=hY 15 (hd 15 rfl)
     clear hd hcl hY
     simp only [h7,h15] at hK
     go_simp
     exact hK _ _ rfl (hG.same 16 rfl (fun _ h=>h)) (fun _ _ h=>h)
   case fin =>
    intro x0 x W hall hG hY
    have h16:x 16=.bool false:=hY 16 (by decide)
    have hst:=hG.last (fun r hr=>hall _ (by match r,hr with | 0,_=>decide | 1,_=>decide))
    have HBW:Hid (yu w3 B D E' E' W):=hst.1
    clear hY hG hall hst HG0 HB9 HA9 HUP HBN HDO HAG
    rw [h16]
    have HLK:=za (HBW.out.old.1.lookup name (by omega))
    go_wp2_with fail
    with_reducible refine HLK.out.mono ?_
    rintro e w9 ⟨rfl,hb⟩
    have HB10:=za (HBW.out.later hb)
    have HNL:=za (HB10.out.nlookup name hp0)
    clear hb HLK HBW
    go_wp2_with fail
    with_reducible refine HNL.out.mono ?_
    rintro e w10 ⟨tn,cm,cd,ca,cl,cc,rfl,hb⟩
    have hbu:=z8 (Below.refl w10.heap.size w10) (.cells #[.string tn,.string (tx7 (loS E' name.data.toList)),.string cm,.bool cd,.slice ca cl cc] 47)
    have HB11:=za ((HB10.out.later hb).later hbu)
    have HU11:Hid (yU (w10.alloc (.cells #[.string tn,.string (tx7 (loS E' name.data.toList)),.string cm,.bool cd,.slice ca cl cc] 47)) w10.heap.size (.string tn) (.string (tx7 (loS E' name.data.toList))) (.string cm) (.bool cd) (.slice ca cl cc)):=heap_alloc_new w10 _
    have HEL:=za (HB11.out.elist pre hp1)
    clear hb hbu HNL HB10
    generalize tx7 (loS E' name.data.toList)=hh at *
    generalize deE E' name.data.toList=de at *
    go_wp2_with fail
    generalize w10.alloc (.cells #[.string tn,.string hh,.string cm,.bool cd,.slice ca cl cc] 47)=w11 at *
    generalize w10.heap.size=Ub at *
    with_reducible refine HEL.out.mono ?_
    rintro e w12 ⟨v12,rfl,ht12,hb⟩
    have HB12:=za (HB11.out.later hb)
    have HU12:=za (blk_later11 HU11.out hb)
    have HT12:=za ht12
    have HNI:=za (HB12.out.nlist pre hp1)
    clear hb ht12 HEL HB11 HU11
    go_wp2_with fail
    with_reducible refine HNI.out.mono ?_
    rintro e w13 ⟨v13,rfl,ht13,hb⟩
    have HB13:=za (HB12.out.later hb)
    have hu13:yU w13 Ub (.string tn) (.string hh) (.string cm) (.bool cd) (.slice ca cl cc):=blk_later11 HU12.out hb
    have HST:=za (Qi v12 v13 (liL E' pre.data.toList) w13 (HT12.out.later hb) ht13 (Nat.le_trans (liL13_len HB13.out.old.1.few _) (by decide)))
    have u0:w13.cell? ⟨Ub,0,none⟩=some (.string tn):=cell6 hu13 0
    have u1:w13.cell? ⟨Ub,1,none⟩=some (.string hh):=cell6 hu13 1
    have u2:w13.cell? ⟨Ub,2,none⟩=some (.string cm):=cell6 hu13 2
    have u3:w13.cell? ⟨Ub,3,none⟩=some (.bool cd):=cell6 hu13 3
    have u4:w13.cell? ⟨Ub,4,none⟩=some (.slice ca cl cc):=cell6 hu13 4
    clear hb ht13 hu13 HNI HB12 HU12 HT12
    go_wp2_with fail
    with_reducible refine HST.out.mono ?_
    rintro e w14 ⟨rfl,hb⟩
    have HLN:Hid (∃ E,yu w3 B D E E w14):=⟨_,HB13.out.later hb⟩
    clear hb HST HB13 u0 u1 u2 u3 u4
    go_wp2
    go_roundg (n' - (k+1))
    case measure=>omega
    case rel=>exact ⟨k+1,by omega,by omega,by go_num,HLN⟩
end Go.Proofs.YthmomkjingcbiaaGreatDoor
namespace Go.Proofs.YthmomkjingcbiaaGreatDoor.migrateGoes
open Go.ChangeShapes Go.WideShapes Go.ChangeAt Go.RowKit
set_option linter.unusedVariables false

theorem own:ownKnob Tryz.prog.godebug=none:=by kernel_rfl
theorem laidOut:laidOutB Tryz.prog=true:=by kernel_rfl

theorem walk (w:World) (hm:vQ w) (a0:Option Addr) (len0 cap0:Nat) (l0:List Uq) (s0:IsActs7 w a0 len0 l0) (a1:Option Addr) (len1 cap1:Nat) (l1:List Uq) (s1:IsActs7 w a1 len1 l1) (g2:ByteArray) (w2:g2.size≤maxLen) (g3:ByteArray) (w3:g3.size≤maxLen) :
  Calls Tryz.prog 4 #[.slice a0 len0 cap0,.slice a1 len1 cap1,.string g2,.string g3] w fun e w'=>e=.returned (.bool true)∧Below w.heap.size w w':=by
 obtain ⟨h1,h2,h3,h4⟩:=s0
 obtain ⟨k1,k2,k3,k4⟩:=s1
 exact mgoes13_walk a0 a1 cap0 cap1 len0 len1 l0 l1 g2 g3 w hm h1 (by omega) h3 k1 (by omega) k3

set_option maxRecDepth 100000 in
theorem lifted (os:Os) (started:os.Started) (H:Type) (enc:TypeId×Value→H) :
  ReturnsInHanded {} Tryz.checked os 4 .any (fun w args=>(Rows.migrateGoesSpec.pre enc Tryz.prog Tryz.f4 Rows.migrateGoesRow.domain false w args∧laidMetH Tryz.prog Rows.migrateGoesRow.laid w)∧sizedMet enc Tryz.prog Tryz.f4 (OpenSpec.ofChange Rows.migrateGoesSpec) false w args)
   (Rows.migrateGoesSpec.post enc Tryz.prog Tryz.f4 false true false false):=by
 refine returns_laid (C:=Tryz.checked) (X:=fun w _=>laidMetH Tryz.prog Rows.migrateGoesRow.laid w) own started (by kernel_rfl) Tryz.func4
  (ChangeSpec.witness_shaped (enc:=enc) (C:=Tryz.checked) (os:=os) (X:=fun w _=>laidMetH Tryz.prog Rows.migrateGoesRow.laid w) false (World.laidAll Tryz.prog os Rows.migrateGoesRow.laid) #[.slice none 0 0,.slice none 0 0,.string ⟨#[]⟩,.string ⟨#[]⟩] 8 (World.laidAll_os _ _ _)
   (World.shaped_of_ZipB (by kernel_rfl) (by kernel_rfl)) (by kernel_rfl) (by kernel_rfl) (by kernel_rfl)
   (by rw [MakeChecks.laidMetH_plain _ _ _ (by kernel_rfl)]; exact laidMet_laidAll _ (by kernel_rfl) (by kernel_rfl))) ?_
 intro W base args ds gs before hval0 hW hsh
 have hval:∀ (j:Nat) t v,Tryz.f4.params[j]? = some t→args[j]? = some v→Value.okWide Tryz.prog W .any base t v:=hval0
 have hW':=hW
 obtain ⟨p,q,hA0,hV,rfl,hfz,hnd⟩:=hW
 have hA:DataW.TrodAll enc Tryz.prog W 0 (fun _=>true) true Tryz.f4.params.toList args.toList ds p:=hA0
 rw [Tryz.params4] at hA hval
 obtain ⟨v0,vs0,d0,ds0,p0,q0,hargs,rfl,rfl,h0,r0⟩:=trodAll_cons hA
 obtain ⟨v1,vs1,d1,ds1,p1,q1,rfl,rfl,rfl,h1,r1⟩:=trodAll_cons r0
 obtain ⟨v2,vs2,d2,ds2,p2,q2,rfl,rfl,rfl,h2,r2⟩:=trodAll_cons r1
 obtain ⟨v3,vs3,d3,ds3,p3,q3,rfl,rfl,rfl,h3,r3⟩:=trodAll_cons r2
 obtain ⟨rfl,rfl,rfl⟩:=trodAll_nil r3
 obtain rfl:args=#[v0,v1,v2,v3]:=by cases args; simp_all
 obtain ⟨rfl,rfl⟩:=trodVars_none hV
 obtain ⟨a0,len0,cap0,rfl⟩:=okWide_slice Tryz.underlying31 (hval 0 31 v0 rfl rfl)
 have lt0:∀ x∈p0,x.block<W.heap.size:=by obtain ⟨m,hm⟩:=h0; exact DataW.trod_lt m _ _ _ hm
 obtain ⟨l0,s0⟩:=actes_of h0
 obtain ⟨a1,len1,cap1,rfl⟩:=okWide_slice Tryz.underlying31 (hval 1 31 v1 rfl rfl)
 have lt1:∀ x∈p1,x.block<W.heap.size:=by obtain ⟨m,hm⟩:=h1; exact DataW.trod_lt m _ _ _ hm
 obtain ⟨l1,s1⟩:=actes_of h1
 obtain ⟨g2,rfl,rfl,rfl,w2⟩:=Go.ChangeMaps.open_string Tryz.underlying9 (hval 2 9 v2 rfl rfl) h2
 obtain ⟨g3,rfl,rfl,rfl,w3⟩:=Go.ChangeMaps.open_string Tryz.underlying9 (hval 3 9 v3 rfl rfl) h3
 clear hA0 hval0
 refine (walk W (len5_of hsh) a0 len0 cap0 l0 s0 a1 len1 cap1 l1 s1 g2 w2 g3 w3).mono fun e W' ⟨he,bel⟩=>?_
 subst he
 exact ⟨_,rfl,_,_,_,[],_,[],hW',trodAll_mk1 (shut_bool Tryz.underlying4 _),(trodAll_cons_mk (Below.trod laidOut (by kernel_rfl) (of_decide_eq_true (by kernel_rfl)) h0 bel lt0) (trodAll_cons_mk (Below.trod laidOut (by kernel_rfl) (of_decide_eq_true (by kernel_rfl)) h1 bel lt1) (trodAll_cons_mk (Go.ChangeMaps.shut_string Tryz.underlying9 w2) (trodAll_cons_mk (Go.ChangeMaps.shut_string Tryz.underlying9 w3) trodAll_mk0)))),rfl,bel.frame _,fun h=>by cases h⟩

theorem row_holds:Rows.MigrateGoesSaid :=
 OpenClaim.holds_of_wide 4 Tryz.f4 rfl rfl rfl rfl rfl rfl rfl ⟨rfl,rfl,rfl,rfl,rfl⟩ rfl rfl rfl rfl rfl (by kernel_rfl) Tryz.func4 (by kernel_rfl)
  (of_decide_eq_true (by kernel_rfl)) (by unfold Func.isWrapper; first | (rw [if_pos (by decide +kernel)]; kernel_rfl) | (rw [if_neg (by decide +kernel)]; exact ⟨rfl,rfl⟩))
  (fun os started H enc _=>lifted os started H enc)

theorem proved:Rows.MigrateGoesCardSaid :=
 Claim7.holds_tied_plain_at .later [] Rows.migrateGoesCard.laidKinds true Rows.migrateGoesCard.stood.harness Rows.migrateGoesCard.stood.looks row_holds (fun _ h=>by cases h) (by kernel_rfl) (fun _ h=>by cases h) migrateGoes_row_tie rfl ⟨rfl,rfl⟩ (by kernel_rfl) rfl
  (fun f fn hf hfn=>by
   obtain rfl:f=4:=Option.some.inj ((show Tryz.prog.funcNamed Rows.migrateGoesRow.func=some 4 by kernel_rfl).symm.trans hf) |>.symm
   obtain rfl:fn=Tryz.f4:=(Option.some.inj (Tryz.func4.symm.trans hfn)).symm
   exact ⟨by kernel_rfl,fun j t ht=>by
    rw [Tryz.params4] at ht
    have hm:t∈[31,31,9,9]:=by simpa using Array.mem_of_getElem? ht
    have hall:([31,31,9,9].all fun u=>!Tryz.prog.wantsStandIn u)=true:=by kernel_rfl
    exact (show Tryz.prog.wantsStandIn t=false by simpa using List.all_eq_true.1 hall t hm)⟩)
  (by kernel_rfl)
end Go.Proofs.YthmomkjingcbiaaGreatDoor.migrateGoes
