/-
  The texts that the laws of this seat share, part 9: what the code and the document's own answers tell, walked function by function.
  Conditions: each theorem's own.
-/
import Derived.Test.YthmomkjingcbiaaGreatDoorMigDBH
set_option maxHeartbeats 16000000
namespace Go.Proofs.YthmomkjingcbiaaGreatDoor
open Go.RowKit Go.Maps

def jV (R:zL W11) (N:List (List UInt8)) (g n:List UInt8):Int:=V8 (zf n) (zf g) (zx R n) (vl N g) false 0
theorem X8 {w:World} {v:Value} {N:List (List UInt8)} {B:Nat} {a b c d e:Value} (h:NmR w v N) (hu:yf w B a b c d e) (j:Nat) (x:Value):NmR (w.setCell ⟨B,j,none⟩ x) v N:=by
 refine ⟨h.1,?_⟩
 rcases h.2 with hn | ⟨g,cap,cur,e1,h0,hg,hr⟩
 ·
  exact .inl hn
 ·
  have hne:g≠B:=fun e=>by
   subst e
   rw [show w.heap[g]? = _ from hu] at hg
   injection hg with hg
   injection hg with _ h
   exact absurd h (by decide)
  exact .inr ⟨g,cap,cur,e1,h0,(Below.heap_setCell _ _ _ _ hne).trans hg,hr⟩
def U3 (R:zL W11) (N:List (List UInt8)) (g n:ByteArray) (w:World) (e:Ending) (w':World):Prop :=
 ∃ t x,e=.returned (.tuple #[zV t x,.int .i64 (jV R N g.data.toList n.data.toList)])∧(jV R N g.data.toList n.data.toList=0→t=n∧xJ R n.data.toList=some x)∧Below w.heap.size w w'
set_option maxRecDepth 100000 in
theorem ji (v vg:Value) (R:zL W11) (N:List (List UInt8)) (g s:ByteArray) (w:World) (hR:vQ 0 R w v) (hN:NmR w vg N) (h12:R.length≤12) (hr:zA R) (hN9:N.length≤900) (hg:g.size≤1000) (hn:s.size≤1000) :
  Calls Tryz.prog 159 #[.agg #[v,vg],.string g,.string s] w (U3 R N g s w):=by
 have hnot:∀ (x:Bool) (w:World),(Op.unary .not (.bool x)).run Tryz.prog w=.ok (.bool (!x)) w:=fun _ _=>rfl
 have hzu:=uz
 obtain ⟨A,c,rfl⟩:=hR.rw.us.shape
 obtain ⟨A1,c1,rfl⟩:=hN.shape
 have HU0:Hid (∀ W,Below w.heap.size w W→Calls Tryz.prog 143 #[.agg #[.slice A R.length c,.slice A1 N.length c1],.string s] W (qG R s W)):=fun W hb=>xR _ _ R N s W (hR.later hb) (hN.later hb) h12 hr hn
 have HN0:=za (fun W=>vf g W hg)
 have HH0:Hid (∀ W,Below w.heap.size w W→Calls Tryz.prog 160 #[.slice A1 N.length c1,.string g] W (zY (vl N g.data.toList) W)):=fun W hb=>jj _ N g W (by omega) (hN.later hb)
 have HRC:=za hR
 have HNN:=za hN
 have HRI:=za hr
 clear hR hN
 obtain ⟨n,hlen⟩:∃ n,n=R.length:=⟨_,rfl⟩
 obtain ⟨n1,hlen1⟩:∃ n,n=N.length:=⟨_,rfl⟩
 have HLR:=za hlen
 have HLN:=za hlen1
 unfold qG at HU0
 rw [← hlen] at HU0 HRC ⊢
 rw [← hlen1] at HU0 HNN HH0 ⊢
 clear hlen hlen1
 have HE:Hid (jV R N g.data.toList s.data.toList=V8 (zf s.data.toList) (zf g.data.toList) (zx R s.data.toList) (vl N g.data.toList) false 0):=rfl
 unfold U3
 generalize jV R N g.data.toList s.data.toList=E at *
 cases hname:zf s.data.toList with
 | false =>
  rw [hname] at HU0
  have Hd1a:=za (zr w (.slice A n c) (.slice A1 n1 c1))
  have HLO2a:Hid (w.heap.size≤w.heap.size):=Nat.le_refl _
  have HB3a:Hid (Below w.heap.size w (w.alloc (.cells #[.slice A n c,.slice A1 n1 c1] zn))):=z7 (Below.refl _ _) _
  have Hd4a:=za (Hd1a.out.later (z7 (Below.refl _ _) (.cells #[.string ⟨#[]⟩,.string ⟨#[]⟩,.string ⟨#[]⟩,.bool false,.slice none 0 0] 47)))
  have Hr5a:Hid (yf ((w.alloc (.cells #[.slice A n c,.slice A1 n1 c1] zn)).alloc (.cells #[.string ⟨#[]⟩,.string ⟨#[]⟩,.string ⟨#[]⟩,.bool false,.slice none 0 0] 47)) (w.heap.size+1) (.string ⟨#[]⟩) (.string ⟨#[]⟩) (.string ⟨#[]⟩) (.bool false) (.slice none 0 0)):=zi (by simp)
  have HLO6a:Hid (w.heap.size≤w.heap.size+1):=by have:=HB3a.out.size; show _≤_; simp at this; omega
  have HB7a:=za (z8 HB3a.out (z7 (Below.refl _ _) (.cells #[.string ⟨#[]⟩,.string ⟨#[]⟩,.string ⟨#[]⟩,.bool false,.slice none 0 0] 47)))
  have e1:E=10:=by
   have:=HE.out
   rw [hname] at this
   exact this
  subst e1
  clear HE
  go_enter Tryz.func159,Tryz.ntmps159
  have ⟨kx9a,ky10a,kp11a,kq12a⟩:=Hd4a.out.q11
  have hr13a:=Hr5a.out
  have kf14a:=hr13a.free
  have kc15a:_=some (.string ⟨#[]⟩:Value):=hr13a.at_ 0
  have kc16a:_=some (.string ⟨#[]⟩:Value):=hr13a.at_ 1
  have kc17a:_=some (.string ⟨#[]⟩:Value):=hr13a.at_ 2
  have kc18a:_=some (.bool false:Value):=hr13a.at_ 3
  have kc19a:_=some (.slice none 0 0:Value):=hr13a.at_ 4
  clear hr13a
  go_wp2_with fail
  generalize (w.alloc (.cells #[.slice A n c,.slice A1 n1 c1] zn)).alloc (.cells #[.string ⟨#[]⟩,.string ⟨#[]⟩,.string ⟨#[]⟩,.bool false,.slice none 0 0] 47)=wg20a at *
  with_reducible refine (HU0.out wg20a HB7a.out).mono ?_
  rintro e w3 ⟨t,x,he,hyes,hno,hb⟩
  clear kx9a ky10a kp11a kq12a kf14a kc15a kc16a kc17a kc18a kc19a
  have Hd21a:=za (Hd4a.out.later hb)
  have Hr22a:=za (zh Hr5a.out hb)
  have HB23a:=za (z8 HB7a.out hb)
  clear hb
  have he':e=.returned (.tuple #[.agg #[.string ⟨#[]⟩,.string ⟨#[]⟩,.string ⟨#[]⟩,.bool false,.slice none 0 0],.int .i64 10]):=by
   obtain ⟨h1,h2⟩:=hno (by show (10:Int)≠0; decide)
   rw [he,h1,h2]; rfl
  subst he'
  clear he hyes hno
  have HLT24a:=za (Hd21a.out.lt)
  have HLT25a:=za (Hr22a.out.lt)
  have Hd26a:=za (Hd21a.out.later (z7 (Below.refl _ _) (.cells #[.string ⟨#[]⟩,.string ⟨#[]⟩,.string ⟨#[]⟩,.bool false,.slice none 0 0] 47)))
  have Hr27a:=za (zh Hr22a.out (z7 (Below.refl _ _) (.cells #[.string ⟨#[]⟩,.string ⟨#[]⟩,.string ⟨#[]⟩,.bool false,.slice none 0 0] 47)))
  have Hu28a:Hid (yf (w3.alloc (.cells #[.string ⟨#[]⟩,.string ⟨#[]⟩,.string ⟨#[]⟩,.bool false,.slice none 0 0] 47)) (w3.heap.size) (.string ⟨#[]⟩) (.string ⟨#[]⟩) (.string ⟨#[]⟩) (.bool false) (.slice none 0 0)):=heap_alloc_new w3 _
  have HLO29a:Hid (w.heap.size≤w3.heap.size):=by have:=HB23a.out.size; show _≤_; exact this
  have HB30a:=za (z8 HB23a.out (z7 (Below.refl _ _) (.cells #[.string ⟨#[]⟩,.string ⟨#[]⟩,.string ⟨#[]⟩,.bool false,.slice none 0 0] 47)))
  have ⟨kx32a,ky33a,kp34a,kq35a⟩:=Hd26a.out.q11
  have hr36a:=Hr27a.out
  have kf37a:=hr36a.free
  have kc38a:_=some (.string ⟨#[]⟩:Value):=hr36a.at_ 0
  have kc39a:_=some (.string ⟨#[]⟩:Value):=hr36a.at_ 1
  have kc40a:_=some (.string ⟨#[]⟩:Value):=hr36a.at_ 2
  have kc41a:_=some (.bool false:Value):=hr36a.at_ 3
  have kc42a:_=some (.slice none 0 0:Value):=hr36a.at_ 4
  clear hr36a
  have hu43a:=Hu28a.out
  have kf44a:=hu43a.free
  have kc45a:_=some (.string ⟨#[]⟩:Value):=hu43a.at_ 0
  have kc46a:_=some (.string ⟨#[]⟩:Value):=hu43a.at_ 1
  have kc47a:_=some (.string ⟨#[]⟩:Value):=hu43a.at_ 2
  have kc48a:_=some (.bool false:Value):=hu43a.at_ 3
  have kc49a:_=some (.slice none 0 0:Value):=hu43a.at_ 4
  clear hu43a
  have HS:=qL HB30a.out HLO6a.out Hr27a.out (.string ⟨#[]⟩) (.string ⟨#[]⟩) (.string ⟨#[]⟩) (.bool false) (.slice none 0 0)
  have z0:_=some (.string ⟨#[]⟩:Value):=HS.1.at_ 0
  have z1:_=some (.string ⟨#[]⟩:Value):=HS.1.at_ 1
  have z2:_=some (.string ⟨#[]⟩:Value):=HS.1.at_ 2
  have z3:_=some (.bool false:Value):=HS.1.at_ 3
  have z4:_=some (.slice none 0 0:Value):=HS.1.at_ 4
  have HPOST:=za (show ∃ t x,Ending.returned (.tuple #[.agg #[.string ⟨#[]⟩,.string ⟨#[]⟩,.string ⟨#[]⟩,.bool false,.slice none 0 0],.int .i64 10])=.returned (.tuple #[zV t x,.int .i64 10])∧((10:Int)=0→t=s∧xJ R s.data.toList=some x)∧Below w.heap.size w _ from ⟨⟨#[]⟩,Yc,rfl,fun h=>absurd h (by decide),HS.2.1⟩)
  unfold set5 at z0 z1 z2 z3 z4 HPOST
  clear HS
  go_wp2
  refine bodyPost_ret (v:=.tuple #[.agg #[.string ⟨#[]⟩,.string ⟨#[]⟩,.string ⟨#[]⟩,.bool false,.slice none 0 0],.int .i64 10]) ?_ rfl HPOST.out
  simp [results,Tryz.results159,go_sem,z0,z1,z2,z3,z4]
 | true =>
  rw [hname] at HU0
  cases hgn:zf g.data.toList with
  | false =>
   rw [hgn] at HN0
   cases hh:zx R s.data.toList with
   | false =>
    rw [hh] at HU0
    have Hd1b:=za (zr w (.slice A n c) (.slice A1 n1 c1))
    have HLO2b:Hid (w.heap.size≤w.heap.size):=Nat.le_refl _
    have HB3b:Hid (Below w.heap.size w (w.alloc (.cells #[.slice A n c,.slice A1 n1 c1] zn))):=z7 (Below.refl _ _) _
    have Hd4b:=za (Hd1b.out.later (z7 (Below.refl _ _) (.cells #[.string ⟨#[]⟩,.string ⟨#[]⟩,.string ⟨#[]⟩,.bool false,.slice none 0 0] 47)))
    have Hr5b:Hid (yf ((w.alloc (.cells #[.slice A n c,.slice A1 n1 c1] zn)).alloc (.cells #[.string ⟨#[]⟩,.string ⟨#[]⟩,.string ⟨#[]⟩,.bool false,.slice none 0 0] 47)) (w.heap.size+1) (.string ⟨#[]⟩) (.string ⟨#[]⟩) (.string ⟨#[]⟩) (.bool false) (.slice none 0 0)):=zi (by simp)
    have HLO6b:Hid (w.heap.size≤w.heap.size+1):=by have:=HB3b.out.size; show _≤_; simp at this; omega
    have HB7b:=za (z8 HB3b.out (z7 (Below.refl _ _) (.cells #[.string ⟨#[]⟩,.string ⟨#[]⟩,.string ⟨#[]⟩,.bool false,.slice none 0 0] 47)))
    have e1:E=10:=by
     have:=HE.out
     rw [hname] at this
     rw [hgn] at this
     exact this
    subst e1
    clear HE
    go_enter Tryz.func159,Tryz.ntmps159
    have ⟨kx9b,ky10b,kp11b,kq12b⟩:=Hd4b.out.q11
    have hr13b:=Hr5b.out
    have kf14b:=hr13b.free
    have kc15b:_=some (.string ⟨#[]⟩:Value):=hr13b.at_ 0
    have kc16b:_=some (.string ⟨#[]⟩:Value):=hr13b.at_ 1
    have kc17b:_=some (.string ⟨#[]⟩:Value):=hr13b.at_ 2
    have kc18b:_=some (.bool false:Value):=hr13b.at_ 3
    have kc19b:_=some (.slice none 0 0:Value):=hr13b.at_ 4
    clear hr13b
    go_wp2_with fail
    generalize (w.alloc (.cells #[.slice A n c,.slice A1 n1 c1] zn)).alloc (.cells #[.string ⟨#[]⟩,.string ⟨#[]⟩,.string ⟨#[]⟩,.bool false,.slice none 0 0] 47)=wg20b at *
    with_reducible refine (HU0.out wg20b HB7b.out).mono ?_
    rintro e w3 ⟨t,x,he,hyes,hno,hb⟩
    clear kx9b ky10b kp11b kq12b kf14b kc15b kc16b kc17b kc18b kc19b
    have Hd21b:=za (Hd4b.out.later hb)
    have Hr22b:=za (zh Hr5b.out hb)
    have HB23b:=za (z8 HB7b.out hb)
    clear hb
    have he':e=.returned (.tuple #[.agg #[.string ⟨#[]⟩,.string ⟨#[]⟩,.string ⟨#[]⟩,.bool false,.slice none 0 0],.int .i64 8]):=by
     obtain ⟨h1,h2⟩:=hno (by show (8:Int)≠0; decide)
     rw [he,h1,h2]; rfl
    subst he'
    clear he hyes hno
    have HLT24b:=za (Hd21b.out.lt)
    have HLT25b:=za (Hr22b.out.lt)
    have Hd26b:=za (Hd21b.out.later (z7 (Below.refl _ _) (.cells #[.string ⟨#[]⟩,.string ⟨#[]⟩,.string ⟨#[]⟩,.bool false,.slice none 0 0] 47)))
    have Hr27b:=za (zh Hr22b.out (z7 (Below.refl _ _) (.cells #[.string ⟨#[]⟩,.string ⟨#[]⟩,.string ⟨#[]⟩,.bool false,.slice none 0 0] 47)))
    have Hu28b:Hid (yf (w3.alloc (.cells #[.string ⟨#[]⟩,.string ⟨#[]⟩,.string ⟨#[]⟩,.bool false,.slice none 0 0] 47)) (w3.heap.size) (.string ⟨#[]⟩) (.string ⟨#[]⟩) (.string ⟨#[]⟩) (.bool false) (.slice none 0 0)):=heap_alloc_new w3 _
    have HLO29b:Hid (w.heap.size≤w3.heap.size):=by have:=HB23b.out.size; show _≤_; exact this
    have HB30b:=za (z8 HB23b.out (z7 (Below.refl _ _) (.cells #[.string ⟨#[]⟩,.string ⟨#[]⟩,.string ⟨#[]⟩,.bool false,.slice none 0 0] 47)))
    have ⟨kx32b,ky33b,kp34b,kq35b⟩:=Hd26b.out.q11
    have hr36b:=Hr27b.out
    have kf37b:=hr36b.free
    have kc38b:_=some (.string ⟨#[]⟩:Value):=hr36b.at_ 0
    have kc39b:_=some (.string ⟨#[]⟩:Value):=hr36b.at_ 1
    have kc40b:_=some (.string ⟨#[]⟩:Value):=hr36b.at_ 2
    have kc41b:_=some (.bool false:Value):=hr36b.at_ 3
    have kc42b:_=some (.slice none 0 0:Value):=hr36b.at_ 4
    clear hr36b
    have hu43b:=Hu28b.out
    have kf44b:=hu43b.free
    have kc45b:_=some (.string ⟨#[]⟩:Value):=hu43b.at_ 0
    have kc46b:_=some (.string ⟨#[]⟩:Value):=hu43b.at_ 1
    have kc47b:_=some (.string ⟨#[]⟩:Value):=hu43b.at_ 2
    have kc48b:_=some (.bool false:Value):=hu43b.at_ 3
    have kc49b:_=some (.slice none 0 0:Value):=hu43b.at_ 4
    clear hu43b
    go_wp2_with fail
    generalize w3.alloc (.cells #[.string ⟨#[]⟩,.string ⟨#[]⟩,.string ⟨#[]⟩,.bool false,.slice none 0 0] 47)=wg50b at *
    with_reducible refine (HN0.out _).mono ?_
    rintro e wn ⟨rfl,hw⟩
    replace hw:=hw.symm
    subst hw
    clear kx32b ky33b kp34b kq35b kf37b kc38b kc39b kc40b kc41b kc42b kf44b kc45b kc46b kc47b kc48b kc49b
    have ⟨kx52b,ky53b,kp54b,kq55b⟩:=Hd26b.out.q11
    have hr56b:=Hr27b.out
    have kf57b:=hr56b.free
    have kc58b:_=some (.string ⟨#[]⟩:Value):=hr56b.at_ 0
    have kc59b:_=some (.string ⟨#[]⟩:Value):=hr56b.at_ 1
    have kc60b:_=some (.string ⟨#[]⟩:Value):=hr56b.at_ 2
    have kc61b:_=some (.bool false:Value):=hr56b.at_ 3
    have kc62b:_=some (.slice none 0 0:Value):=hr56b.at_ 4
    clear hr56b
    have hu63b:=Hu28b.out
    have kf64b:=hu63b.free
    have kc65b:_=some (.string ⟨#[]⟩:Value):=hu63b.at_ 0
    have kc66b:_=some (.string ⟨#[]⟩:Value):=hu63b.at_ 1
    have kc67b:_=some (.string ⟨#[]⟩:Value):=hu63b.at_ 2
    have kc68b:_=some (.bool false:Value):=hu63b.at_ 3
    have kc69b:_=some (.slice none 0 0:Value):=hu63b.at_ 4
    clear hu63b
    have HS:=qL HB30b.out HLO6b.out Hr27b.out (.string ⟨#[]⟩) (.string ⟨#[]⟩) (.string ⟨#[]⟩) (.bool false) (.slice none 0 0)
    have z0:_=some (.string ⟨#[]⟩:Value):=HS.1.at_ 0
    have z1:_=some (.string ⟨#[]⟩:Value):=HS.1.at_ 1
    have z2:_=some (.string ⟨#[]⟩:Value):=HS.1.at_ 2
    have z3:_=some (.bool false:Value):=HS.1.at_ 3
    have z4:_=some (.slice none 0 0:Value):=HS.1.at_ 4
    have HPOST:=za (show ∃ t x,Ending.returned (.tuple #[.agg #[.string ⟨#[]⟩,.string ⟨#[]⟩,.string ⟨#[]⟩,.bool false,.slice none 0 0],.int .i64 10])=.returned (.tuple #[zV t x,.int .i64 10])∧((10:Int)=0→t=s∧xJ R s.data.toList=some x)∧Below w.heap.size w _ from ⟨⟨#[]⟩,Yc,rfl,fun h=>absurd h (by decide),HS.2.1⟩)
    unfold set5 at z0 z1 z2 z3 z4 HPOST
    clear HS
    go_wp2
    refine bodyPost_ret (v:=.tuple #[.agg #[.string ⟨#[]⟩,.string ⟨#[]⟩,.string ⟨#[]⟩,.bool false,.slice none 0 0],.int .i64 10]) ?_ rfl HPOST.out
    simp [results,Tryz.results159,go_sem,z0,z1,z2,z3,z4]
   | true =>
    rw [hh] at HU0
    have Hd1c:=za (zr w (.slice A n c) (.slice A1 n1 c1))
    have HLO2c:Hid (w.heap.size≤w.heap.size):=Nat.le_refl _
    have HB3c:Hid (Below w.heap.size w (w.alloc (.cells #[.slice A n c,.slice A1 n1 c1] zn))):=z7 (Below.refl _ _) _
    have Hd4c:=za (Hd1c.out.later (z7 (Below.refl _ _) (.cells #[.string ⟨#[]⟩,.string ⟨#[]⟩,.string ⟨#[]⟩,.bool false,.slice none 0 0] 47)))
    have Hr5c:Hid (yf ((w.alloc (.cells #[.slice A n c,.slice A1 n1 c1] zn)).alloc (.cells #[.string ⟨#[]⟩,.string ⟨#[]⟩,.string ⟨#[]⟩,.bool false,.slice none 0 0] 47)) (w.heap.size+1) (.string ⟨#[]⟩) (.string ⟨#[]⟩) (.string ⟨#[]⟩) (.bool false) (.slice none 0 0)):=zi (by simp)
    have HLO6c:Hid (w.heap.size≤w.heap.size+1):=by have:=HB3c.out.size; show _≤_; simp at this; omega
    have HB7c:=za (z8 HB3c.out (z7 (Below.refl _ _) (.cells #[.string ⟨#[]⟩,.string ⟨#[]⟩,.string ⟨#[]⟩,.bool false,.slice none 0 0] 47)))
    have e1:E=10:=by
     have:=HE.out
     rw [hname] at this
     rw [hgn] at this
     exact this
    subst e1
    clear HE
    go_enter Tryz.func159,Tryz.ntmps159
    have ⟨kx9c,ky10c,kp11c,kq12c⟩:=Hd4c.out.q11
    have hr13c:=Hr5c.out
    have kf14c:=hr13c.free
    have kc15c:_=some (.string ⟨#[]⟩:Value):=hr13c.at_ 0
    have kc16c:_=some (.string ⟨#[]⟩:Value):=hr13c.at_ 1
    have kc17c:_=some (.string ⟨#[]⟩:Value):=hr13c.at_ 2
    have kc18c:_=some (.bool false:Value):=hr13c.at_ 3
    have kc19c:_=some (.slice none 0 0:Value):=hr13c.at_ 4
    clear hr13c
    go_wp2_with fail
    generalize (w.alloc (.cells #[.slice A n c,.slice A1 n1 c1] zn)).alloc (.cells #[.string ⟨#[]⟩,.string ⟨#[]⟩,.string ⟨#[]⟩,.bool false,.slice none 0 0] 47)=wg20c at *
    with_reducible refine (HU0.out wg20c HB7c.out).mono ?_
    rintro e w3 ⟨t,x,he,hyes,hno,hb⟩
    clear kx9c ky10c kp11c kq12c kf14c kc15c kc16c kc17c kc18c kc19c
    have Hd21c:=za (Hd4c.out.later hb)
    have Hr22c:=za (zh Hr5c.out hb)
    have HB23c:=za (z8 HB7c.out hb)
    clear hb
    obtain ⟨ht,hx⟩:=hyes rfl
    obtain ⟨xh,xm,xd,xa,xg,xc⟩:=x
    obtain ⟨xl,hxl⟩:∃ l,l=xg.length:=⟨_,rfl⟩
    have he':e=.returned (.tuple #[.agg #[.string s,.string xh,.string xm,.bool xd,.slice xa xl xc],.int .i64 0]):=by
     rw [he,ht,hxl]; rfl
    subst he'
    have HXx:=za hx
    have HLx:=za hxl
    clear he hyes hno ht hx hxl
    have HLT24c:=za (Hd21c.out.lt)
    have HLT25c:=za (Hr22c.out.lt)
    have Hd26c:=za (Hd21c.out.later (z7 (Below.refl _ _) (.cells #[.string s,.string xh,.string xm,.bool xd,.slice xa xl xc] 47)))
    have Hr27c:=za (zh Hr22c.out (z7 (Below.refl _ _) (.cells #[.string s,.string xh,.string xm,.bool xd,.slice xa xl xc] 47)))
    have Hu28c:Hid (yf (w3.alloc (.cells #[.string s,.string xh,.string xm,.bool xd,.slice xa xl xc] 47)) (w3.heap.size) (.string s) (.string xh) (.string xm) (.bool xd) (.slice xa xl xc)):=heap_alloc_new w3 _
    have HLO29c:Hid (w.heap.size≤w3.heap.size):=by have:=HB23c.out.size; show _≤_; exact this
    have HB30c:=za (z8 HB23c.out (z7 (Below.refl _ _) (.cells #[.string s,.string xh,.string xm,.bool xd,.slice xa xl xc] 47)))
    have ⟨kx32c,ky33c,kp34c,kq35c⟩:=Hd26c.out.q11
    have hr36c:=Hr27c.out
    have kf37c:=hr36c.free
    have kc38c:_=some (.string ⟨#[]⟩:Value):=hr36c.at_ 0
    have kc39c:_=some (.string ⟨#[]⟩:Value):=hr36c.at_ 1
    have kc40c:_=some (.string ⟨#[]⟩:Value):=hr36c.at_ 2
    have kc41c:_=some (.bool false:Value):=hr36c.at_ 3
    have kc42c:_=some (.slice none 0 0:Value):=hr36c.at_ 4
    clear hr36c
    have hu43c:=Hu28c.out
    have kf44c:=hu43c.free
    have kc45c:_=some (.string s:Value):=hu43c.at_ 0
    have kc46c:_=some (.string xh:Value):=hu43c.at_ 1
    have kc47c:_=some (.string xm:Value):=hu43c.at_ 2
    have kc48c:_=some (.bool xd:Value):=hu43c.at_ 3
    have kc49c:_=some (.slice xa xl xc:Value):=hu43c.at_ 4
    clear hu43c
    go_wp2_with fail
    generalize w3.alloc (.cells #[.string s,.string xh,.string xm,.bool xd,.slice xa xl xc] 47)=wg50c at *
    with_reducible refine (HN0.out _).mono ?_
    rintro e wn ⟨rfl,hw⟩
    replace hw:=hw.symm
    subst hw
    clear kx32c ky33c kp34c kq35c kf37c kc38c kc39c kc40c kc41c kc42c kf44c kc45c kc46c kc47c kc48c kc49c
    have ⟨kx52c,ky53c,kp54c,kq55c⟩:=Hd26c.out.q11
    have hr56c:=Hr27c.out
    have kf57c:=hr56c.free
    have kc58c:_=some (.string ⟨#[]⟩:Value):=hr56c.at_ 0
    have kc59c:_=some (.string ⟨#[]⟩:Value):=hr56c.at_ 1
    have kc60c:_=some (.string ⟨#[]⟩:Value):=hr56c.at_ 2
    have kc61c:_=some (.bool false:Value):=hr56c.at_ 3
    have kc62c:_=some (.slice none 0 0:Value):=hr56c.at_ 4
    clear hr56c
    have hu63c:=Hu28c.out
    have kf64c:=hu63c.free
    have kc65c:_=some (.string s:Value):=hu63c.at_ 0
    have kc66c:_=some (.string xh:Value):=hu63c.at_ 1
    have kc67c:_=some (.string xm:Value):=hu63c.at_ 2
    have kc68c:_=some (.bool xd:Value):=hu63c.at_ 3
    have kc69c:_=some (.slice xa xl xc:Value):=hu63c.at_ 4
    clear hu63c
    have HS:=qL HB30c.out HLO6c.out Hr27c.out (.string s) (.string xh) (.string xm) (.bool xd) (.slice xa xl xc)
    have z0:_=some (.string s:Value):=HS.1.at_ 0
    have z1:_=some (.string xh:Value):=HS.1.at_ 1
    have z2:_=some (.string xm:Value):=HS.1.at_ 2
    have z3:_=some (.bool xd:Value):=HS.1.at_ 3
    have z4:_=some (.slice xa xl xc:Value):=HS.1.at_ 4
    have HPOST:=za (show ∃ t x,Ending.returned (.tuple #[.agg #[.string s,.string xh,.string xm,.bool xd,.slice xa xl xc],.int .i64 10])=.returned (.tuple #[zV t x,.int .i64 10])∧((10:Int)=0→t=s∧xJ R s.data.toList=some x)∧Below w.heap.size w _ from ⟨s,⟨xh,xm,xd,xa,xg,xc⟩,by unfold zV; rw [HLx.out],fun _=>⟨rfl,HXx.out⟩,HS.2.1⟩)
    unfold set5 at z0 z1 z2 z3 z4 HPOST
    clear HS
    go_wp2
    refine bodyPost_ret (v:=.tuple #[.agg #[.string s,.string xh,.string xm,.bool xd,.slice xa xl xc],.int .i64 10]) ?_ rfl HPOST.out
    simp [results,Tryz.results159,go_sem,z0,z1,z2,z3,z4]
  | true =>
   rw [hgn] at HN0
   cases hh:zx R s.data.toList with
   | false =>
    rw [hh] at HU0
    have Hd1d:=za (zr w (.slice A n c) (.slice A1 n1 c1))
    have HLO2d:Hid (w.heap.size≤w.heap.size):=Nat.le_refl _
    have HB3d:Hid (Below w.heap.size w (w.alloc (.cells #[.slice A n c,.slice A1 n1 c1] zn))):=z7 (Below.refl _ _) _
    have Hd4d:=za (Hd1d.out.later (z7 (Below.refl _ _) (.cells #[.string ⟨#[]⟩,.string ⟨#[]⟩,.string ⟨#[]⟩,.bool false,.slice none 0 0] 47)))
    have Hr5d:Hid (yf ((w.alloc (.cells #[.slice A n c,.slice A1 n1 c1] zn)).alloc (.cells #[.string ⟨#[]⟩,.string ⟨#[]⟩,.string ⟨#[]⟩,.bool false,.slice none 0 0] 47)) (w.heap.size+1) (.string ⟨#[]⟩) (.string ⟨#[]⟩) (.string ⟨#[]⟩) (.bool false) (.slice none 0 0)):=zi (by simp)
    have HLO6d:Hid (w.heap.size≤w.heap.size+1):=by have:=HB3d.out.size; show _≤_; simp at this; omega
    have HB7d:=za (z8 HB3d.out (z7 (Below.refl _ _) (.cells #[.string ⟨#[]⟩,.string ⟨#[]⟩,.string ⟨#[]⟩,.bool false,.slice none 0 0] 47)))
    have e1:E=8:=by
     have:=HE.out
     rw [hname] at this
     rw [hgn] at this
     rw [hh] at this
     exact this
    subst e1
    clear HE
    go_enter Tryz.func159,Tryz.ntmps159
    have ⟨kx9d,ky10d,kp11d,kq12d⟩:=Hd4d.out.q11
    have hr13d:=Hr5d.out
    have kf14d:=hr13d.free
    have kc15d:_=some (.string ⟨#[]⟩:Value):=hr13d.at_ 0
    have kc16d:_=some (.string ⟨#[]⟩:Value):=hr13d.at_ 1
    have kc17d:_=some (.string ⟨#[]⟩:Value):=hr13d.at_ 2
    have kc18d:_=some (.bool false:Value):=hr13d.at_ 3
    have kc19d:_=some (.slice none 0 0:Value):=hr13d.at_ 4
    clear hr13d
    go_wp2_with fail
    generalize (w.alloc (.cells #[.slice A n c,.slice A1 n1 c1] zn)).alloc (.cells #[.string ⟨#[]⟩,.string ⟨#[]⟩,.string ⟨#[]⟩,.bool false,.slice none 0 0] 47)=wg20d at *
    with_reducible refine (HU0.out wg20d HB7d.out).mono ?_
    rintro e w3 ⟨t,x,he,hyes,hno,hb⟩
    clear kx9d ky10d kp11d kq12d kf14d kc15d kc16d kc17d kc18d kc19d
    have Hd21d:=za (Hd4d.out.later hb)
    have Hr22d:=za (zh Hr5d.out hb)
    have HB23d:=za (z8 HB7d.out hb)
    clear hb
    have he':e=.returned (.tuple #[.agg #[.string ⟨#[]⟩,.string ⟨#[]⟩,.string ⟨#[]⟩,.bool false,.slice none 0 0],.int .i64 8]):=by
     obtain ⟨h1,h2⟩:=hno (by show (8:Int)≠0; decide)
     rw [he,h1,h2]; rfl
    subst he'
    clear he hyes hno
    have HLT24d:=za (Hd21d.out.lt)
    have HLT25d:=za (Hr22d.out.lt)
    have Hd26d:=za (Hd21d.out.later (z7 (Below.refl _ _) (.cells #[.string ⟨#[]⟩,.string ⟨#[]⟩,.string ⟨#[]⟩,.bool false,.slice none 0 0] 47)))
    have Hr27d:=za (zh Hr22d.out (z7 (Below.refl _ _) (.cells #[.string ⟨#[]⟩,.string ⟨#[]⟩,.string ⟨#[]⟩,.bool false,.slice none 0 0] 47)))
    have Hu28d:Hid (yf (w3.alloc (.cells #[.string ⟨#[]⟩,.string ⟨#[]⟩,.string ⟨#[]⟩,.bool false,.slice none 0 0] 47)) (w3.heap.size) (.string ⟨#[]⟩) (.string ⟨#[]⟩) (.string ⟨#[]⟩) (.bool false) (.slice none 0 0)):=heap_alloc_new w3 _
    have HLO29d:Hid (w.heap.size≤w3.heap.size):=by have:=HB23d.out.size; show _≤_; exact this
    have HB30d:=za (z8 HB23d.out (z7 (Below.refl _ _) (.cells #[.string ⟨#[]⟩,.string ⟨#[]⟩,.string ⟨#[]⟩,.bool false,.slice none 0 0] 47)))
    have ⟨kx32d,ky33d,kp34d,kq35d⟩:=Hd26d.out.q11
    have hr36d:=Hr27d.out
    have kf37d:=hr36d.free
    have kc38d:_=some (.string ⟨#[]⟩:Value):=hr36d.at_ 0
    have kc39d:_=some (.string ⟨#[]⟩:Value):=hr36d.at_ 1
    have kc40d:_=some (.string ⟨#[]⟩:Value):=hr36d.at_ 2
    have kc41d:_=some (.bool false:Value):=hr36d.at_ 3
    have kc42d:_=some (.slice none 0 0:Value):=hr36d.at_ 4
    clear hr36d
    have hu43d:=Hu28d.out
    have kf44d:=hu43d.free
    have kc45d:_=some (.string ⟨#[]⟩:Value):=hu43d.at_ 0
    have kc46d:_=some (.string ⟨#[]⟩:Value):=hu43d.at_ 1
    have kc47d:_=some (.string ⟨#[]⟩:Value):=hu43d.at_ 2
    have kc48d:_=some (.bool false:Value):=hu43d.at_ 3
    have kc49d:_=some (.slice none 0 0:Value):=hu43d.at_ 4
    clear hu43d
    go_wp2_with fail
    generalize w3.alloc (.cells #[.string ⟨#[]⟩,.string ⟨#[]⟩,.string ⟨#[]⟩,.bool false,.slice none 0 0] 47)=wg50d at *
    with_reducible refine (HN0.out _).mono ?_
    rintro e wn ⟨rfl,hw⟩
    replace hw:=hw.symm
    subst hw
    clear kx32d ky33d kp34d kq35d kf37d kc38d kc39d kc40d kc41d kc42d kf44d kc45d kc46d kc47d kc48d kc49d
    have ⟨kx52d,ky53d,kp54d,kq55d⟩:=Hd26d.out.q11
    have hr56d:=Hr27d.out
    have kf57d:=hr56d.free
    have kc58d:_=some (.string ⟨#[]⟩:Value):=hr56d.at_ 0
    have kc59d:_=some (.string ⟨#[]⟩:Value):=hr56d.at_ 1
    have kc60d:_=some (.string ⟨#[]⟩:Value):=hr56d.at_ 2
    have kc61d:_=some (.bool false:Value):=hr56d.at_ 3
    have kc62d:_=some (.slice none 0 0:Value):=hr56d.at_ 4
    clear hr56d
    have hu63d:=Hu28d.out
    have kf64d:=hu63d.free
    have kc65d:_=some (.string ⟨#[]⟩:Value):=hu63d.at_ 0
    have kc66d:_=some (.string ⟨#[]⟩:Value):=hu63d.at_ 1
    have kc67d:_=some (.string ⟨#[]⟩:Value):=hu63d.at_ 2
    have kc68d:_=some (.bool false:Value):=hu63d.at_ 3
    have kc69d:_=some (.slice none 0 0:Value):=hu63d.at_ 4
    clear hu63d
    have HS:=qL HB30d.out HLO6d.out Hr27d.out (.string ⟨#[]⟩) (.string ⟨#[]⟩) (.string ⟨#[]⟩) (.bool false) (.slice none 0 0)
    have z0:_=some (.string ⟨#[]⟩:Value):=HS.1.at_ 0
    have z1:_=some (.string ⟨#[]⟩:Value):=HS.1.at_ 1
    have z2:_=some (.string ⟨#[]⟩:Value):=HS.1.at_ 2
    have z3:_=some (.bool false:Value):=HS.1.at_ 3
    have z4:_=some (.slice none 0 0:Value):=HS.1.at_ 4
    have HPOST:=za (show ∃ t x,Ending.returned (.tuple #[.agg #[.string ⟨#[]⟩,.string ⟨#[]⟩,.string ⟨#[]⟩,.bool false,.slice none 0 0],.int .i64 8])=.returned (.tuple #[zV t x,.int .i64 8])∧((8:Int)=0→t=s∧xJ R s.data.toList=some x)∧Below w.heap.size w _ from ⟨⟨#[]⟩,Yc,rfl,fun h=>absurd h (by decide),HS.2.1⟩)
    unfold set5 at z0 z1 z2 z3 z4 HPOST
    clear HS
    go_wp2
    refine bodyPost_ret (v:=.tuple #[.agg #[.string ⟨#[]⟩,.string ⟨#[]⟩,.string ⟨#[]⟩,.bool false,.slice none 0 0],.int .i64 8]) ?_ rfl HPOST.out
    simp [results,Tryz.results159,go_sem,z0,z1,z2,z3,z4]
   | true =>
    rw [hh] at HU0
    cases hd:vl N g.data.toList with
    | false =>
     rw [hd] at HH0
     have Hd1e:=za (zr w (.slice A n c) (.slice A1 n1 c1))
     have HLO2e:Hid (w.heap.size≤w.heap.size):=Nat.le_refl _
     have HB3e:Hid (Below w.heap.size w (w.alloc (.cells #[.slice A n c,.slice A1 n1 c1] zn))):=z7 (Below.refl _ _) _
     have Hd4e:=za (Hd1e.out.later (z7 (Below.refl _ _) (.cells #[.string ⟨#[]⟩,.string ⟨#[]⟩,.string ⟨#[]⟩,.bool false,.slice none 0 0] 47)))
     have Hr5e:Hid (yf ((w.alloc (.cells #[.slice A n c,.slice A1 n1 c1] zn)).alloc (.cells #[.string ⟨#[]⟩,.string ⟨#[]⟩,.string ⟨#[]⟩,.bool false,.slice none 0 0] 47)) (w.heap.size+1) (.string ⟨#[]⟩) (.string ⟨#[]⟩) (.string ⟨#[]⟩) (.bool false) (.slice none 0 0)):=zi (by simp)
     have HLO6e:Hid (w.heap.size≤w.heap.size+1):=by have:=HB3e.out.size; show _≤_; simp at this; omega
     have HB7e:=za (z8 HB3e.out (z7 (Below.refl _ _) (.cells #[.string ⟨#[]⟩,.string ⟨#[]⟩,.string ⟨#[]⟩,.bool false,.slice none 0 0] 47)))
     have e1:E=8:=by
      have:=HE.out
      rw [hname] at this
      rw [hgn] at this
      rw [hh] at this
      rw [hd] at this
      exact this
     subst e1
     clear HE
     go_enter Tryz.func159,Tryz.ntmps159
     have ⟨kx9e,ky10e,kp11e,kq12e⟩:=Hd4e.out.q11
     have hr13e:=Hr5e.out
     have kf14e:=hr13e.free
     have kc15e:_=some (.string ⟨#[]⟩:Value):=hr13e.at_ 0
     have kc16e:_=some (.string ⟨#[]⟩:Value):=hr13e.at_ 1
     have kc17e:_=some (.string ⟨#[]⟩:Value):=hr13e.at_ 2
     have kc18e:_=some (.bool false:Value):=hr13e.at_ 3
     have kc19e:_=some (.slice none 0 0:Value):=hr13e.at_ 4
     clear hr13e
     go_wp2_with fail
     generalize (w.alloc (.cells #[.slice A n c,.slice A1 n1 c1] zn)).alloc (.cells #[.string ⟨#[]⟩,.string ⟨#[]⟩,.string ⟨#[]⟩,.bool false,.slice none 0 0] 47)=wg20e at *
     with_reducible refine (HU0.out wg20e HB7e.out).mono ?_
     rintro e w3 ⟨t,x,he,hyes,hno,hb⟩
     clear kx9e ky10e kp11e kq12e kf14e kc15e kc16e kc17e kc18e kc19e
     have Hd21e:=za (Hd4e.out.later hb)
     have Hr22e:=za (zh Hr5e.out hb)
     have HB23e:=za (z8 HB7e.out hb)
     clear hb
     obtain ⟨ht,hx⟩:=hyes rfl
     obtain ⟨xh,xm,xd,xa,xg,xc⟩:=x
     obtain ⟨xl,hxl⟩:∃ l,l=xg.length:=⟨_,rfl⟩
     have he':e=.returned (.tuple #[.agg #[.string s,.string xh,.string xm,.bool xd,.slice xa xl xc],.int .i64 0]):=by
      rw [he,ht,hxl]; rfl
     subst he'
     have HXx:=za hx
     have HLx:=za hxl
     clear he hyes hno ht hx hxl
     have HLT24e:=za (Hd21e.out.lt)
     have HLT25e:=za (Hr22e.out.lt)
     have Hd26e:=za (Hd21e.out.later (z7 (Below.refl _ _) (.cells #[.string s,.string xh,.string xm,.bool xd,.slice xa xl xc] 47)))
     have Hr27e:=za (zh Hr22e.out (z7 (Below.refl _ _) (.cells #[.string s,.string xh,.string xm,.bool xd,.slice xa xl xc] 47)))
     have Hu28e:Hid (yf (w3.alloc (.cells #[.string s,.string xh,.string xm,.bool xd,.slice xa xl xc] 47)) (w3.heap.size) (.string s) (.string xh) (.string xm) (.bool xd) (.slice xa xl xc)):=heap_alloc_new w3 _
     have HLO29e:Hid (w.heap.size≤w3.heap.size):=by have:=HB23e.out.size; show _≤_; exact this
     have HB30e:=za (z8 HB23e.out (z7 (Below.refl _ _) (.cells #[.string s,.string xh,.string xm,.bool xd,.slice xa xl xc] 47)))
     have ⟨kx32e,ky33e,kp34e,kq35e⟩:=Hd26e.out.q11
     have hr36e:=Hr27e.out
     have kf37e:=hr36e.free
     have kc38e:_=some (.string ⟨#[]⟩:Value):=hr36e.at_ 0
     have kc39e:_=some (.string ⟨#[]⟩:Value):=hr36e.at_ 1
     have kc40e:_=some (.string ⟨#[]⟩:Value):=hr36e.at_ 2
     have kc41e:_=some (.bool false:Value):=hr36e.at_ 3
     have kc42e:_=some (.slice none 0 0:Value):=hr36e.at_ 4
     clear hr36e
     have hu43e:=Hu28e.out
     have kf44e:=hu43e.free
     have kc45e:_=some (.string s:Value):=hu43e.at_ 0
     have kc46e:_=some (.string xh:Value):=hu43e.at_ 1
     have kc47e:_=some (.string xm:Value):=hu43e.at_ 2
     have kc48e:_=some (.bool xd:Value):=hu43e.at_ 3
     have kc49e:_=some (.slice xa xl xc:Value):=hu43e.at_ 4
     clear hu43e
     go_wp2_with fail
     generalize w3.alloc (.cells #[.string s,.string xh,.string xm,.bool xd,.slice xa xl xc] 47)=wg50e at *
     with_reducible refine (HN0.out _).mono ?_
     rintro e wn ⟨rfl,hw⟩
     replace hw:=hw.symm
     subst hw
     clear kx32e ky33e kp34e kq35e kf37e kc38e kc39e kc40e kc41e kc42e kf44e kc45e kc46e kc47e kc48e kc49e
     have ⟨kx52e,ky53e,kp54e,kq55e⟩:=Hd26e.out.q11
     have hr56e:=Hr27e.out
     have kf57e:=hr56e.free
     have kc58e:_=some (.string ⟨#[]⟩:Value):=hr56e.at_ 0
     have kc59e:_=some (.string ⟨#[]⟩:Value):=hr56e.at_ 1
     have kc60e:_=some (.string ⟨#[]⟩:Value):=hr56e.at_ 2
     have kc61e:_=some (.bool false:Value):=hr56e.at_ 3
     have kc62e:_=some (.slice none 0 0:Value):=hr56e.at_ 4
     clear hr56e
     have hu63e:=Hu28e.out
     have kf64e:=hu63e.free
     have kc65e:_=some (.string s:Value):=hu63e.at_ 0
     have kc66e:_=some (.string xh:Value):=hu63e.at_ 1
     have kc67e:_=some (.string xm:Value):=hu63e.at_ 2
     have kc68e:_=some (.bool xd:Value):=hu63e.at_ 3
     have kc69e:_=some (.slice xa xl xc:Value):=hu63e.at_ 4
     clear hu63e
     go_wp2_with fail
     with_reducible refine (HH0.out wg50e HB30e.out).mono ?_
     rintro e w5 ⟨rfl,hb⟩
     clear kx52e ky53e kp54e kq55e kf57e kc58e kc59e kc60e kc61e kc62e kf64e kc65e kc66e kc67e kc68e kc69e
     have Hd70e:=za (Hd26e.out.later hb)
     have Hr71e:=za (zh Hr27e.out hb)
     have Hu72e:=za (zh Hu28e.out hb)
     have HB73e:=za (z8 HB30e.out hb)
     clear hb
     have ⟨kx75e,ky76e,kp77e,kq78e⟩:=Hd70e.out.q11
     have hr79e:=Hr71e.out
     have kf80e:=hr79e.free
     have kc81e:_=some (.string ⟨#[]⟩:Value):=hr79e.at_ 0
     have kc82e:_=some (.string ⟨#[]⟩:Value):=hr79e.at_ 1
     have kc83e:_=some (.string ⟨#[]⟩:Value):=hr79e.at_ 2
     have kc84e:_=some (.bool false:Value):=hr79e.at_ 3
     have kc85e:_=some (.slice none 0 0:Value):=hr79e.at_ 4
     clear hr79e
     have hu86e:=Hu72e.out
     have kf87e:=hu86e.free
     have kc88e:_=some (.string s:Value):=hu86e.at_ 0
     have kc89e:_=some (.string xh:Value):=hu86e.at_ 1
     have kc90e:_=some (.string xm:Value):=hu86e.at_ 2
     have kc91e:_=some (.bool xd:Value):=hu86e.at_ 3
     have kc92e:_=some (.slice xa xl xc:Value):=hu86e.at_ 4
     clear hu86e
     have HS:=qL HB73e.out HLO6e.out Hr71e.out (.string s) (.string xh) (.string xm) (.bool xd) (.slice xa xl xc)
     have z0:_=some (.string s:Value):=HS.1.at_ 0
     have z1:_=some (.string xh:Value):=HS.1.at_ 1
     have z2:_=some (.string xm:Value):=HS.1.at_ 2
     have z3:_=some (.bool xd:Value):=HS.1.at_ 3
     have z4:_=some (.slice xa xl xc:Value):=HS.1.at_ 4
     have HPOST:=za (show ∃ t x,Ending.returned (.tuple #[.agg #[.string s,.string xh,.string xm,.bool xd,.slice xa xl xc],.int .i64 8])=.returned (.tuple #[zV t x,.int .i64 8])∧((8:Int)=0→t=s∧xJ R s.data.toList=some x)∧Below w.heap.size w _ from ⟨s,⟨xh,xm,xd,xa,xg,xc⟩,by unfold zV; rw [HLx.out],fun _=>⟨rfl,HXx.out⟩,HS.2.1⟩)
     unfold set5 at z0 z1 z2 z3 z4 HPOST
     clear HS
     go_wp2
     refine bodyPost_ret (v:=.tuple #[.agg #[.string s,.string xh,.string xm,.bool xd,.slice xa xl xc],.int .i64 8]) ?_ rfl HPOST.out
     simp [results,Tryz.results159,go_sem,z0,z1,z2,z3,z4]
    | true =>
     rw [hd] at HH0
     have Hd1f:=za (zr w (.slice A n c) (.slice A1 n1 c1))
     have HLO2f:Hid (w.heap.size≤w.heap.size):=Nat.le_refl _
     have HB3f:Hid (Below w.heap.size w (w.alloc (.cells #[.slice A n c,.slice A1 n1 c1] zn))):=z7 (Below.refl _ _) _
     have Hd4f:=za (Hd1f.out.later (z7 (Below.refl _ _) (.cells #[.string ⟨#[]⟩,.string ⟨#[]⟩,.string ⟨#[]⟩,.bool false,.slice none 0 0] 47)))
     have Hr5f:Hid (yf ((w.alloc (.cells #[.slice A n c,.slice A1 n1 c1] zn)).alloc (.cells #[.string ⟨#[]⟩,.string ⟨#[]⟩,.string ⟨#[]⟩,.bool false,.slice none 0 0] 47)) (w.heap.size+1) (.string ⟨#[]⟩) (.string ⟨#[]⟩) (.string ⟨#[]⟩) (.bool false) (.slice none 0 0)):=zi (by simp)
     have HLO6f:Hid (w.heap.size≤w.heap.size+1):=by have:=HB3f.out.size; show _≤_; simp at this; omega
     have HB7f:=za (z8 HB3f.out (z7 (Below.refl _ _) (.cells #[.string ⟨#[]⟩,.string ⟨#[]⟩,.string ⟨#[]⟩,.bool false,.slice none 0 0] 47)))
     have e1:E=0:=by
      have:=HE.out
      rw [hname] at this
      rw [hgn] at this
      rw [hh] at this
      rw [hd] at this
      exact this
     subst e1
     clear HE
     go_enter Tryz.func159,Tryz.ntmps159
     have ⟨kx9f,ky10f,kp11f,kq12f⟩:=Hd4f.out.q11
     have hr13f:=Hr5f.out
     have kf14f:=hr13f.free
     have kc15f:_=some (.string ⟨#[]⟩:Value):=hr13f.at_ 0
     have kc16f:_=some (.string ⟨#[]⟩:Value):=hr13f.at_ 1
     have kc17f:_=some (.string ⟨#[]⟩:Value):=hr13f.at_ 2
     have kc18f:_=some (.bool false:Value):=hr13f.at_ 3
     have kc19f:_=some (.slice none 0 0:Value):=hr13f.at_ 4
     clear hr13f
     go_wp2_with fail
     generalize (w.alloc (.cells #[.slice A n c,.slice A1 n1 c1] zn)).alloc (.cells #[.string ⟨#[]⟩,.string ⟨#[]⟩,.string ⟨#[]⟩,.bool false,.slice none 0 0] 47)=wg20f at *
     with_reducible refine (HU0.out wg20f HB7f.out).mono ?_
     rintro e w3 ⟨t,x,he,hyes,hno,hb⟩
     clear kx9f ky10f kp11f kq12f kf14f kc15f kc16f kc17f kc18f kc19f
     have Hd21f:=za (Hd4f.out.later hb)
     have Hr22f:=za (zh Hr5f.out hb)
     have HB23f:=za (z8 HB7f.out hb)
     clear hb
     obtain ⟨ht,hx⟩:=hyes rfl
     obtain ⟨xh,xm,xd,xa,xg,xc⟩:=x
     obtain ⟨xl,hxl⟩:∃ l,l=xg.length:=⟨_,rfl⟩
     have he':e=.returned (.tuple #[.agg #[.string s,.string xh,.string xm,.bool xd,.slice xa xl xc],.int .i64 0]):=by
      rw [he,ht,hxl]; rfl
     subst he'
     have HXx:=za hx
     have HLx:=za hxl
     clear he hyes hno ht hx hxl
     have HLT24f:=za (Hd21f.out.lt)
     have HLT25f:=za (Hr22f.out.lt)
     have Hd26f:=za (Hd21f.out.later (z7 (Below.refl _ _) (.cells #[.string s,.string xh,.string xm,.bool xd,.slice xa xl xc] 47)))
     have Hr27f:=za (zh Hr22f.out (z7 (Below.refl _ _) (.cells #[.string s,.string xh,.string xm,.bool xd,.slice xa xl xc] 47)))
     have Hu28f:Hid (yf (w3.alloc (.cells #[.string s,.string xh,.string xm,.bool xd,.slice xa xl xc] 47)) (w3.heap.size) (.string s) (.string xh) (.string xm) (.bool xd) (.slice xa xl xc)):=heap_alloc_new w3 _
     have HLO29f:Hid (w.heap.size≤w3.heap.size):=by have:=HB23f.out.size; show _≤_; exact this
     have HB30f:=za (z8 HB23f.out (z7 (Below.refl _ _) (.cells #[.string s,.string xh,.string xm,.bool xd,.slice xa xl xc] 47)))
     have ⟨kx32f,ky33f,kp34f,kq35f⟩:=Hd26f.out.q11
     have hr36f:=Hr27f.out
     have kf37f:=hr36f.free
     have kc38f:_=some (.string ⟨#[]⟩:Value):=hr36f.at_ 0
     have kc39f:_=some (.string ⟨#[]⟩:Value):=hr36f.at_ 1
     have kc40f:_=some (.string ⟨#[]⟩:Value):=hr36f.at_ 2
     have kc41f:_=some (.bool false:Value):=hr36f.at_ 3
     have kc42f:_=some (.slice none 0 0:Value):=hr36f.at_ 4
     clear hr36f
     have hu43f:=Hu28f.out
     have kf44f:=hu43f.free
     have kc45f:_=some (.string s:Value):=hu43f.at_ 0
     have kc46f:_=some (.string xh:Value):=hu43f.at_ 1
     have kc47f:_=some (.string xm:Value):=hu43f.at_ 2
     have kc48f:_=some (.bool xd:Value):=hu43f.at_ 3
     have kc49f:_=some (.slice xa xl xc:Value):=hu43f.at_ 4
     clear hu43f
     go_wp2_with fail
     generalize w3.alloc (.cells #[.string s,.string xh,.string xm,.bool xd,.slice xa xl xc] 47)=wg50f at *
     with_reducible refine (HN0.out _).mono ?_
     rintro e wn ⟨rfl,hw⟩
     replace hw:=hw.symm
     subst hw
     clear kx32f ky33f kp34f kq35f kf37f kc38f kc39f kc40f kc41f kc42f kf44f kc45f kc46f kc47f kc48f kc49f
     have ⟨kx52f,ky53f,kp54f,kq55f⟩:=Hd26f.out.q11
     have hr56f:=Hr27f.out
     have kf57f:=hr56f.free
     have kc58f:_=some (.string ⟨#[]⟩:Value):=hr56f.at_ 0
     have kc59f:_=some (.string ⟨#[]⟩:Value):=hr56f.at_ 1
     have kc60f:_=some (.string ⟨#[]⟩:Value):=hr56f.at_ 2
     have kc61f:_=some (.bool false:Value):=hr56f.at_ 3
     have kc62f:_=some (.slice none 0 0:Value):=hr56f.at_ 4
     clear hr56f
     have hu63f:=Hu28f.out
     have kf64f:=hu63f.free
     have kc65f:_=some (.string s:Value):=hu63f.at_ 0
     have kc66f:_=some (.string xh:Value):=hu63f.at_ 1
     have kc67f:_=some (.string xm:Value):=hu63f.at_ 2
     have kc68f:_=some (.bool xd:Value):=hu63f.at_ 3
     have kc69f:_=some (.slice xa xl xc:Value):=hu63f.at_ 4
     clear hu63f
     go_wp2_with fail
     with_reducible refine (HH0.out wg50f HB30f.out).mono ?_
     rintro e w5 ⟨rfl,hb⟩
     clear kx52f ky53f kp54f kq55f kf57f kc58f kc59f kc60f kc61f kc62f kf64f kc65f kc66f kc67f kc68f kc69f
     have Hd70f:=za (Hd26f.out.later hb)
     have Hr71f:=za (zh Hr27f.out hb)
     have Hu72f:=za (zh Hu28f.out hb)
     have HB73f:=za (z8 HB30f.out hb)
     clear hb
     have ⟨kx75f,ky76f,kp77f,kq78f⟩:=Hd70f.out.q11
     have hr79f:=Hr71f.out
     have kf80f:=hr79f.free
     have kc81f:_=some (.string ⟨#[]⟩:Value):=hr79f.at_ 0
     have kc82f:_=some (.string ⟨#[]⟩:Value):=hr79f.at_ 1
     have kc83f:_=some (.string ⟨#[]⟩:Value):=hr79f.at_ 2
     have kc84f:_=some (.bool false:Value):=hr79f.at_ 3
     have kc85f:_=some (.slice none 0 0:Value):=hr79f.at_ 4
     clear hr79f
     have hu86f:=Hu72f.out
     have kf87f:=hu86f.free
     have kc88f:_=some (.string s:Value):=hu86f.at_ 0
     have kc89f:_=some (.string xh:Value):=hu86f.at_ 1
     have kc90f:_=some (.string xm:Value):=hu86f.at_ 2
     have kc91f:_=some (.bool xd:Value):=hu86f.at_ 3
     have kc92f:_=some (.slice xa xl xc:Value):=hu86f.at_ 4
     clear hu86f
     have HS:=qL HB73f.out HLO6f.out Hr71f.out (.string s) (.string xh) (.string xm) (.bool xd) (.slice xa xl xc)
     have z0:_=some (.string s:Value):=HS.1.at_ 0
     have z1:_=some (.string xh:Value):=HS.1.at_ 1
     have z2:_=some (.string xm:Value):=HS.1.at_ 2
     have z3:_=some (.bool xd:Value):=HS.1.at_ 3
     have z4:_=some (.slice xa xl xc:Value):=HS.1.at_ 4
     have HPOST:=za (show ∃ t x,Ending.returned (.tuple #[.agg #[.string s,.string xh,.string xm,.bool xd,.slice xa xl xc],.int .i64 0])=.returned (.tuple #[zV t x,.int .i64 0])∧((0:Int)=0→t=s∧xJ R s.data.toList=some x)∧Below w.heap.size w _ from ⟨s,⟨xh,xm,xd,xa,xg,xc⟩,by unfold zV; rw [HLx.out],fun _=>⟨rfl,HXx.out⟩,HS.2.1⟩)
     unfold set5 at z0 z1 z2 z3 z4 HPOST
     clear HS
     go_wp2
     refine bodyPost_ret (v:=.tuple #[.agg #[.string s,.string xh,.string xm,.bool xd,.slice xa xl xc],.int .i64 0]) ?_ rfl HPOST.out
     simp [results,Tryz.results159,go_sem,z0,z1,z2,z3,z4]

set_option maxRecDepth 100000 in
theorem Uh (v vg:Value) (R:zL W11) (N:List (List UInt8)) (g s:ByteArray) (w:World) (hR:vQ 0 R w v) (hN:NmR w vg N) (h12:R.length≤12) (hr:zA R) (hN9:N.length≤900) (hgl:∀ p∈R,p.2.gs.length≤12) (hg:g.size≤1000) (hn:s.size≤1000) :
  Calls Tryz.prog 78 #[.agg #[v,vg],.string g,.string s] w (yx (fg (ze R) N g.data.toList s.data.toList) (qE (ze R) N g.data.toList s.data.toList) N w):=by
 obtain ⟨i0,hi,hz0,hz1,hz2⟩:=info_parts Xo
 have hzu:=uz
 have hnot:∀ (x:Bool) (w:World),(Op.unary .not (.bool x)).run Tryz.prog w=.ok (.bool (!x)) w:=fun _ _=>rfl
 obtain ⟨A,c,rfl⟩:=hR.rw.us.shape
 obtain ⟨A1,c1,rfl⟩:=hN.shape
 have HU0:Hid (∀ W,Below w.heap.size w W→Calls Tryz.prog 159 #[.agg #[.slice A R.length c,.slice A1 N.length c1],.string g,.string s] W (U3 R N g s W)):=fun W hb=>ji _ _ R N g s W (hR.later hb) (hN.later hb) h12 hr hN9 hg hn
 have HPT0:Hid (∀ (x:W11) W,Below w.heap.size w W→Calls Tryz.prog 145 #[.agg #[.slice A R.length c,.slice A1 N.length c1],zV s x] W fun e w'=>∃ v',e=.returned (.agg #[v',.slice A1 N.length c1])∧vP (zP R s.data.toList x) w' v'∧Below W.heap.size W w'):=fun x W hb=>vp _ _ R N s x W (hR.rw.later hb) (hN.later hb) h12 hr
 have HRC:=za hR
 have HNN:=za hN
 have HRI:=za hr
 have HGL:=za hgl
 clear hR hN hgl
 obtain ⟨n,hlen⟩:∃ n,n=R.length:=⟨_,rfl⟩
 obtain ⟨n1,hlen1⟩:∃ n,n=N.length:=⟨_,rfl⟩
 unfold U3 at HU0
 rw [← hlen] at HU0 HPT0 HRC ⊢
 rw [← hlen1] at HU0 HPT0 HNN ⊢
 clear hlen hlen1
 have HEQ:Hid (jV R N g.data.toList s.data.toList≠0→fg (ze R) N g.data.toList s.data.toList=jV R N g.data.toList s.data.toList):=fun h=>by
  revert h
  unfold fg jV
  rw [xq]
  unfold V8
  cases zf s.data.toList <;> cases zf g.data.toList <;> cases zx R s.data.toList <;> cases vl N g.data.toList <;> simp
 have HEZ:Hid (jV R N g.data.toList s.data.toList=0→fg (ze R) N g.data.toList s.data.toList=if vl (gsU (ze R) s.data.toList) g.data.toList then 9 else 0):=fun h=>by
  revert h
  unfold fg jV
  rw [xq]
  unfold V8
  cases zf s.data.toList <;> cases zf g.data.toList <;> cases zx R s.data.toList <;> cases vl N g.data.toList <;> simp
 have HLQ:Hid (qE (ze R) N g.data.toList s.data.toList=if fg (ze R) N g.data.toList s.data.toList=0 then fL (ze R) s.data.toList (fun u=>{ u with gs:=xu (u.gs++[g.data.toList]) }) else ze R):=rfl
 generalize jV R N g.data.toList s.data.toList=M at *
 generalize fg (ze R) N g.data.toList s.data.toList=E at *
 generalize qE (ze R) N g.data.toList s.data.toList=L' at *
 by_cases hm:M=0
 case neg =>
  have e1:=HEQ.out hm
  have e2:L'=ze R:=by
   have:=HLQ.out
   rw [e1,if_neg hm] at this
   exact this
  subst e1
  have q1:(E != 0)=true:=by simpa using hm
  have q2:(E == 0)=false:=by simpa using hm
  clear HEQ HEZ HLQ HPT0
  have Hd1a:=za (zr w (.slice A n c) (.slice A1 n1 c1))
  have HLO2a:Hid (w.heap.size≤w.heap.size):=Nat.le_refl _
  have HB3a:Hid (Below w.heap.size w (w.alloc (.cells #[.slice A n c,.slice A1 n1 c1] zn))):=z7 (Below.refl _ _) _
  have Hd4a:=za (Hd1a.out.later (z7 (Below.refl _ _) (.cells #[.slice none 0 0,.slice none 0 0] zn)))
  have Hr5a:Hid (yv ((w.alloc (.cells #[.slice A n c,.slice A1 n1 c1] zn)).alloc (.cells #[.slice none 0 0,.slice none 0 0] zn)) (w.heap.size+1) (.slice none 0 0) (.slice none 0 0)):=zi (by simp)
  have HLO6a:Hid (w.heap.size≤w.heap.size+1):=by have:=HB3a.out.size; show _≤_; simp at this; omega
  have HB7a:=za (z8 HB3a.out (z7 (Below.refl _ _) (.cells #[.slice none 0 0,.slice none 0 0] zn)))
  go_enter Tryz.func78,Tryz.ntmps78
  have ⟨kx9a,ky10a,kp11a,kq12a⟩:=Hd4a.out.q11
  have ⟨kx14a,ky15a,kp16a,kq17a⟩:=Hr5a.out.q11
  go_wp2_with fail
  generalize (w.alloc (.cells #[.slice A n c,.slice A1 n1 c1] zn)).alloc (.cells #[.slice none 0 0,.slice none 0 0] zn)=wg18a at *
  with_reducible refine (HU0.out wg18a HB7a.out).mono ?_
  rintro e w3 ⟨t,x,rfl,hyes,hb⟩
  clear kx9a ky10a kp11a kq12a kx14a ky15a kp16a kq17a
  have Hd19a:=za (Hd4a.out.later hb)
  have Hr20a:=za (Hr5a.out.later hb)
  have HB21a:=za (z8 HB7a.out hb)
  clear hb
  clear hyes
  obtain ⟨xh,xm,xd,xa,xg,xc⟩:=x
  unfold zV
  dsimp only
  generalize xg.length=xl
  have HLT22a:=za (Hd19a.out.lt)
  have HLT23a:=za (Hr20a.out.lt)
  have Hd24a:=za (Hd19a.out.later (z7 (Below.refl _ _) (.cells #[.string t,.string xh,.string xm,.bool xd,.slice xa xl xc] 47)))
  have Hr25a:=za (Hr20a.out.later (z7 (Below.refl _ _) (.cells #[.string t,.string xh,.string xm,.bool xd,.slice xa xl xc] 47)))
  have Hu26a:Hid (yf (w3.alloc (.cells #[.string t,.string xh,.string xm,.bool xd,.slice xa xl xc] 47)) (w3.heap.size) (.string t) (.string xh) (.string xm) (.bool xd) (.slice xa xl xc)):=heap_alloc_new w3 _
  have HLO27a:Hid (w.heap.size≤w3.heap.size):=by have:=HB21a.out.size; show _≤_; exact this
  have HB28a:=za (z8 HB21a.out (z7 (Below.refl _ _) (.cells #[.string t,.string xh,.string xm,.bool xd,.slice xa xl xc] 47)))
  have ⟨kx30a,ky31a,kp32a,kq33a⟩:=Hd24a.out.q11
  have ⟨kx35a,ky36a,kp37a,kq38a⟩:=Hr25a.out.q11
  have hu39a:=Hu26a.out
  have kf40a:=hu39a.free
  have kc41a:_=some (.string t:Value):=hu39a.at_ 0
  have kc42a:_=some (.string xh:Value):=hu39a.at_ 1
  have kc43a:_=some (.string xm:Value):=hu39a.at_ 2
  have kc44a:_=some (.bool xd:Value):=hu39a.at_ 3
  have kc45a:_=some (.slice xa xl xc:Value):=hu39a.at_ 4
  clear hu39a
  have HS:=yt HB28a.out Hr25a.out HLO6a.out (.slice A n c) (.slice A1 n1 c1)
  have z0:=HS.1.c0
  have z1:=HS.1.c1
  have HPOST:=za (show yx E L' N w (.returned (.tuple #[.agg #[.slice A n c,.slice A1 n1 c1],.int .i64 E])) _ from ⟨R,_,_,rfl,HRC.out.later HS.2.1,e2.symm,HNN.out.later HS.2.1,HS.2.1⟩)
  clear HS
  go_wp2
  refine bodyPost_ret (v:=.tuple #[.agg #[.slice A n c,.slice A1 n1 c1],.int .i64 E]) ?_ rfl HPOST.out
  simp [results,Tryz.results78,go_sem,z0,z1]
 subst hm
 have HE0:=za (HEZ.out rfl)
 have HXG:Hid (∀ x,xJ R s.data.toList=some x→gsU (ze R) s.data.toList=x.gs∧x.gs.length≤12∧fL (ze R) s.data.toList (fun u=>{ u with gs:=xu (u.gs++[g.data.toList]) })=zP (ze R) s.data.toList ((fun u=>{ u with gs:=xu (u.gs++[g.data.toList]) }) x.u)):=fun x h=>by
  refine ⟨?_,HGL.out (s.data.toList,x) ((zH HRI.out).1 h),?_⟩
  ·
   unfold gsU; rw [xr,h]; rfl
  ·
   unfold fL; rw [xr,h]; rfl
 clear HEQ HEZ HGL
 have Hd1b:=za (zr w (.slice A n c) (.slice A1 n1 c1))
 have HLO2b:Hid (w.heap.size≤w.heap.size):=Nat.le_refl _
 have HB3b:Hid (Below w.heap.size w (w.alloc (.cells #[.slice A n c,.slice A1 n1 c1] zn))):=z7 (Below.refl _ _) _
 have Hd4b:=za (Hd1b.out.later (z7 (Below.refl _ _) (.cells #[.slice none 0 0,.slice none 0 0] zn)))
 have Hr5b:Hid (yv ((w.alloc (.cells #[.slice A n c,.slice A1 n1 c1] zn)).alloc (.cells #[.slice none 0 0,.slice none 0 0] zn)) (w.heap.size+1) (.slice none 0 0) (.slice none 0 0)):=zi (by simp)
 have HLO6b:Hid (w.heap.size≤w.heap.size+1):=by have:=HB3b.out.size; show _≤_; simp at this; omega
 have HB7b:=za (z8 HB3b.out (z7 (Below.refl _ _) (.cells #[.slice none 0 0,.slice none 0 0] zn)))
 go_enter Tryz.func78,Tryz.ntmps78
 have ⟨kx9b,ky10b,kp11b,kq12b⟩:=Hd4b.out.q11
 have ⟨kx14b,ky15b,kp16b,kq17b⟩:=Hr5b.out.q11
 go_wp2_with fail
 generalize (w.alloc (.cells #[.slice A n c,.slice A1 n1 c1] zn)).alloc (.cells #[.slice none 0 0,.slice none 0 0] zn)=wg18b at *
 with_reducible refine (HU0.out wg18b HB7b.out).mono ?_
 rintro e w2 ⟨t,x,he,hyes,hb⟩
 clear kx9b ky10b kp11b kq12b kx14b ky15b kp16b kq17b
 have Hd19b:=za (Hd4b.out.later hb)
 have Hr20b:=za (Hr5b.out.later hb)
 have HB21b:=za (z8 HB7b.out hb)
 clear hb
 obtain ⟨ht,hx⟩:=hyes (by first | rfl | trivial)
 obtain ⟨h1,h2,h3⟩:=HXG.out x hx
 have hgs:=h1
 obtain ⟨xh,xm,xd,xa,xg,xc⟩:=x
 dsimp only at h1 h2 h3 hgs
 obtain ⟨xl,hxl⟩:∃ l,l=xg.length:=⟨_,rfl⟩
 have he':e=.returned (.tuple #[.agg #[.string s,.string xh,.string xm,.bool xd,.slice xa xl xc],.int .i64 0]):=by
  rw [he,ht,hxl]; rfl
 subst he'
 have HX:=za hx
 have HLx:=za hxl
 have HGS:=za hgs
 have HST:=za h3
 have hl12:xl≤12:=by rw [hxl]; exact h2
 have HRX:Hid (∀ W,Below w.heap.size w W→NmR W (.slice xa xl xc) xg):=fun W hb=>by
  have:=(HRC.out.later hb).2 (s.data.toList,⟨xh,xm,xd,xa,xg,xc⟩) ((zH HRI.out).1 HX.out)
  rw [HLx.out]
  exact this
 clear he hyes ht hx hxl h1 h2 h3 hgs HXG HU0
 have HH0:Hid (∀ W,Below w.heap.size w W→Calls Tryz.prog 160 #[.slice xa xl xc,.string g] W (zY (vl xg g.data.toList) W)):=fun W hb=>by
  have:=jj _ xg g W (by have:=HLx.out; omega) (HRX.out W hb)
  exact this
 have HLT22b:=za (Hd19b.out.lt)
 have HLT23b:=za (Hr20b.out.lt)
 have Hd24b:=za (Hd19b.out.later (z7 (Below.refl _ _) (.cells #[.string s,.string xh,.string xm,.bool xd,.slice xa xl xc] 47)))
 have Hr25b:=za (Hr20b.out.later (z7 (Below.refl _ _) (.cells #[.string s,.string xh,.string xm,.bool xd,.slice xa xl xc] 47)))
 have Hu26b:Hid (yf (w2.alloc (.cells #[.string s,.string xh,.string xm,.bool xd,.slice xa xl xc] 47)) (w2.heap.size) (.string s) (.string xh) (.string xm) (.bool xd) (.slice xa xl xc)):=heap_alloc_new w2 _
 have HLO27b:Hid (w.heap.size≤w2.heap.size):=by have:=HB21b.out.size; show _≤_; exact this
 have HB28b:=za (z8 HB21b.out (z7 (Below.refl _ _) (.cells #[.string s,.string xh,.string xm,.bool xd,.slice xa xl xc] 47)))
 have ⟨kx30b,ky31b,kp32b,kq33b⟩:=Hd24b.out.q11
 have ⟨kx35b,ky36b,kp37b,kq38b⟩:=Hr25b.out.q11
 have hu39b:=Hu26b.out
 have kf40b:=hu39b.free
 have kc41b:_=some (.string s:Value):=hu39b.at_ 0
 have kc42b:_=some (.string xh:Value):=hu39b.at_ 1
 have kc43b:_=some (.string xm:Value):=hu39b.at_ 2
 have kc44b:_=some (.bool xd:Value):=hu39b.at_ 3
 have kc45b:_=some (.slice xa xl xc:Value):=hu39b.at_ 4
 clear hu39b
 go_wp2_with fail
 generalize w2.alloc (.cells #[.string s,.string xh,.string xm,.bool xd,.slice xa xl xc] 47)=wg46b at *
 with_reducible refine (HH0.out wg46b HB28b.out).mono ?_
 rintro e w3 ⟨rfl,hb⟩
 clear kx30b ky31b kp32b kq33b kx35b ky36b kp37b kq38b kf40b kc41b kc42b kc43b kc44b kc45b
 have Hd47b:=za (Hd24b.out.later hb)
 have Hr48b:=za (Hr25b.out.later hb)
 have Hu49b:=za (zh Hu26b.out hb)
 have HB50b:=za (z8 HB28b.out hb)
 clear hb
 have hEx:E=if vl xg g.data.toList then 9 else 0:=by
  have:=HE0.out
  rw [HGS.out] at this
  exact this
 clear HE0 HH0
 cases hq:vl xg g.data.toList with
 | true =>
  rw [hq] at hEx
  have e1:E=9:=hEx
  have e2:L'=ze R:=by
   have:=HLQ.out
   rw [e1,if_neg (by decide)] at this
   exact this
  clear HLQ HPT0 hEx
  subst e1
  have ⟨kx52bt,ky53bt,kp54bt,kq55bt⟩:=Hd47b.out.q11
  have ⟨kx57bt,ky58bt,kp59bt,kq60bt⟩:=Hr48b.out.q11
  have hu61bt:=Hu49b.out
  have kf62bt:=hu61bt.free
  have kc63bt:_=some (.string s:Value):=hu61bt.at_ 0
  have kc64bt:_=some (.string xh:Value):=hu61bt.at_ 1
  have kc65bt:_=some (.string xm:Value):=hu61bt.at_ 2
  have kc66bt:_=some (.bool xd:Value):=hu61bt.at_ 3
  have kc67bt:_=some (.slice xa xl xc:Value):=hu61bt.at_ 4
  clear hu61bt
  have HS:=yt HB50b.out Hr48b.out HLO6b.out (.slice A n c) (.slice A1 n1 c1)
  have z0:=HS.1.c0
  have z1:=HS.1.c1
  have HPOST:=za (show yx 9 L' N w (.returned (.tuple #[.agg #[.slice A n c,.slice A1 n1 c1],.int .i64 9])) _ from ⟨R,_,_,rfl,HRC.out.later HS.2.1,e2.symm,HNN.out.later HS.2.1,HS.2.1⟩)
  clear HS
  go_wp2
  refine bodyPost_ret (v:=.tuple #[.agg #[.slice A n c,.slice A1 n1 c1],.int .i64 9]) ?_ rfl HPOST.out
  simp [results,Tryz.results78,go_sem,z0,z1]
 | false =>
  rw [hq] at hEx
  have e1:E=0:=hEx
  have e2:L'=zP (ze R) s.data.toList ((fun u=>{ u with gs:=xu (u.gs++[g.data.toList]) }) (W11.u ⟨xh,xm,xd,xa,xg,xc⟩)):=by
   have:=HLQ.out
   rw [e1,if_pos rfl] at this
   rw [this]
   exact HST.out
  clear hEx HLQ HST
  subst e1
  have HE2:=za e2
  clear e2
  have HEM:Hid ((w3.alloc (.cells #[] 9)).ownsRow 0 9 1 (.slice (some ⟨w3.heap.size,0,none⟩) 0 0) 0 []):=zC (X4 w3 9 1) (Nat.zero_le _)
  have HUP:Hid (∀ A4 c4 (w4:World),w4.ownsRow 0 9 1 (.slice A4 (0+xl) c4) (0+xl) ([]++xg.map encStr)→(w3.alloc (.cells #[] 9)).grownBy w4 (Value.ownBlock (.slice (some ⟨w3.heap.size,0,none⟩) 0 0))→(Value.ownBlock (.slice A4 (0+xl) c4)=Value.ownBlock (.slice (some ⟨w3.heap.size,0,none⟩) 0 0)∨Value.ownBlock (.slice A4 (0+xl) c4)=some (w3.alloc (.cells #[] 9)).heap.size) →
    w4.ownsRow w3.heap.size 9 1 (.slice A4 xl c4) xl (xg.map encStr)∧Below w3.heap.size w3 w4):=fun A4 c4 w4 h1 h2 h3=>by
   rw [Nat.zero_add,List.nil_append] at h1
   rw [Nat.zero_add] at h3
   refine ⟨own_up10 h1 (fun j hj=>?_),(z7 (Below.refl _ _) _).grown h2 (by simp) (fun j hj=>by cases hj; exact Nat.le_refl _)⟩
   rcases h3 with h3 | h3
   ·
    rw [h3] at hj; cases hj; exact Nat.le_refl _
   ·
    rw [h3] at hj; injection hj with hj; rw [← hj]; simp
  have HSRC:Hid (Src Tryz.prog 1 45 (.slice xa xl xc) xl (xg.map encStr) (w3.alloc (.cells #[] 9))):=by
   have:=(HRX.out _ (z8 HB50b.out (z7 (Below.refl w3.heap.size w3) (.cells #[] 9)))).src
   rwa [← HLx.out] at this
  have ⟨kx52bf,ky53bf,kp54bf,kq55bf⟩:=Hd47b.out.q11
  have ⟨kx57bf,ky58bf,kp59bf,kq60bf⟩:=Hr48b.out.q11
  have hu61bf:=Hu49b.out
  have kf62bf:=hu61bf.free
  have kc63bf:_=some (.string s:Value):=hu61bf.at_ 0
  have kc64bf:_=some (.string xh:Value):=hu61bf.at_ 1
  have kc65bf:_=some (.string xm:Value):=hu61bf.at_ 2
  have kc66bf:_=some (.bool xd:Value):=hu61bf.at_ 3
  have kc67bf:_=some (.slice xa xl xc:Value):=hu61bf.at_ 4
  clear hu61bf
  have Hd68bf:=za (Hd47b.out.later (z7 (Below.refl _ _) (.cells #[] 9)))
  have Hr69bf:=za (Hr48b.out.later (z7 (Below.refl _ _) (.cells #[] 9)))
  have Hu70bf:=za (zh Hu49b.out (z7 (Below.refl _ _) (.cells #[] 9)))
  have HB71bf:=za (z8 HB50b.out (z7 (Below.refl _ _) (.cells #[] 9)))
  have ⟨kx73bf,ky74bf,kp75bf,kq76bf⟩:=Hd68bf.out.q11
  have ⟨kx78bf,ky79bf,kp80bf,kq81bf⟩:=Hr69bf.out.q11
  have hu82bf:=Hu70bf.out
  have kf83bf:=hu82bf.free
  have kc84bf:_=some (.string s:Value):=hu82bf.at_ 0
  have kc85bf:_=some (.string xh:Value):=hu82bf.at_ 1
  have kc86bf:_=some (.string xm:Value):=hu82bf.at_ 2
  have kc87bf:_=some (.bool xd:Value):=hu82bf.at_ 3
  have kc88bf:_=some (.slice xa xl xc:Value):=hu82bf.at_ 4
  clear hu82bf
  go_wp2_with (first
  | (at_builtin; refine xO _ rfl (.tmp 26) (.tmp 28) 45 45 (by rfl) 9 i0 _ 1 16 Tryz.underlying45 hi hz0 hz1 hz2 rfl (.slice (some ⟨w3.heap.size,0,none⟩) 0 0) 0 [] (by rfl) HEM.out (.slice xa xl xc) xl (xg.map encStr) (by rfl) HSRC.out (by simp only [maxLen]; omega) (by omega) ?_; intro A4 c4 w4 ho4 hg4 ha4; have HO4:=za (HUP.out A4 c4 w4 ho4 hg4 ha4).1; have HB4:=za (HUP.out A4 c4 w4 ho4 hg4 ha4).2; clear ho4 hg4 ha4)
  | (at_builtin; refine wpList_append_own _ rfl (.tmp 29) (.tmp 31) 45 rfl w3.heap.size 9 i0 (.string ⟨#[]⟩) 1 16 Tryz.underlying45 hi hz0 hz1 hz2 rfl (by decide) _ _ _ rfl (HO4.out.alloc _) ⟨w4.heap.size,0,none⟩ 1 1 [.string g] rfl rfl (fun j u hu=>by rw [Addr.add_lit,Nat.zero_add,World.cell?_alloc_at _ _ _ _ (by simp)]; simpa using hu) (by simp [Value.oneCell']) (by unfold maxLen; omega) (by omega) (by have:=HB4.out.size; simp; omega) ?_; intro v5 w5 ho5 hg5 _; have HO5:=za ho5; have HB5:=za (Vj HB4.out HO4.out hg5); clear ho5 hg5)
  | fail)
  have hrow:NmR w5 v5 (xg++[g.data.toList]):=by
   have:=zC HO5.out (Nat.zero_le _)
   rw [← vx g] at this
   show World.ownsRow _ _ _ _ _ _ _
   rw [List.length_append,← HLx.out]
   simpa using this
  have HSR:=za (jf v5 (xg++[g.data.toList]) w5 (by rw [List.length_append,← HLx.out]; simp; omega) hrow)
  obtain ⟨A5,c5,rfl⟩:=hrow.shape
  clear hrow
  clear kx52bf ky53bf kp54bf kq55bf kx57bf ky58bf kp59bf kq60bf kf62bf kc63bf kc64bf kc65bf kc66bf kc67bf kx73bf ky74bf kp75bf kq76bf kx78bf ky79bf kp80bf kq81bf kf83bf kc84bf kc85bf kc86bf kc87bf kc88bf
  have Hd89bf:=za (Hd47b.out.later HB5.out)
  have Hr90bf:=za (Hr48b.out.later HB5.out)
  have Hu91bf:=za (zh Hu49b.out HB5.out)
  have HB92bf:=za (z8 HB50b.out HB5.out)
  have ⟨kx94bf,ky95bf,kp96bf,kq97bf⟩:=Hd89bf.out.q11
  have ⟨kx99bf,ky100bf,kp101bf,kq102bf⟩:=Hr90bf.out.q11
  have hu103bf:=Hu91bf.out
  have kf104bf:=hu103bf.free
  have kc105bf:_=some (.string s:Value):=hu103bf.at_ 0
  have kc106bf:_=some (.string xh:Value):=hu103bf.at_ 1
  have kc107bf:_=some (.string xm:Value):=hu103bf.at_ 2
  have kc108bf:_=some (.bool xd:Value):=hu103bf.at_ 3
  have kc109bf:_=some (.slice xa xl xc:Value):=hu103bf.at_ 4
  clear hu103bf
  go_wp2_with fail
  with_reducible refine (HSR.out).mono ?_
  rintro e w6 ⟨v6,rfl,hr6,hb⟩
  clear kx94bf ky95bf kp96bf kq97bf kx99bf ky100bf kp101bf kq102bf kf104bf kc105bf kc106bf kc107bf kc108bf kc109bf
  have Hd110bf:=za (Hd89bf.out.later hb)
  have Hr111bf:=za (Hr90bf.out.later hb)
  have Hu112bf:=za (zh Hu91bf.out hb)
  have HB113bf:=za (z8 HB92bf.out hb)
  have HNM:Hid (NmR w6 v6 (xu (xg++[g.data.toList]))):=NmR.of hr6
  obtain ⟨A6,c6,rfl⟩:=HNM.out.shape
  clear hr6 HSR
  clear hb
  obtain ⟨yg,hyg⟩:∃ y,y=xu (xg++[g.data.toList]):=⟨_,rfl⟩
  rw [← hyg] at HNM
  have HYG:=za hyg
  obtain ⟨yl,hyl⟩:∃ l,l=yg.length:=⟨_,rfl⟩
  rw [← hyg,← hyl]
  rw [← hyl] at HNM
  have HYL:=za hyl
  clear hyg hyl
  have ⟨kx115bf,ky116bf,kp117bf,kq118bf⟩:=Hd110bf.out.q11
  have ⟨kx120bf,ky121bf,kp122bf,kq123bf⟩:=Hr111bf.out.q11
  have hu124bf:=Hu112bf.out
  have kf125bf:=hu124bf.free
  have kc126bf:_=some (.string s:Value):=hu124bf.at_ 0
  have kc127bf:_=some (.string xh:Value):=hu124bf.at_ 1
  have kc128bf:_=some (.string xm:Value):=hu124bf.at_ 2
  have kc129bf:_=some (.bool xd:Value):=hu124bf.at_ 3
  have kc130bf:_=some (.slice xa xl xc:Value):=hu124bf.at_ 4
  clear hu124bf
  have Hd131bf:=za (Hd110bf.out.other (c:=w2.heap.size) (i:=4) (by have:=HLT22b.out; omega) (.slice A6 yl c6))
  have Hr132bf:=za (Hr111bf.out.other (c:=w2.heap.size) (i:=4) (by have:=HLT23b.out; omega) (.slice A6 yl c6))
  have Hu133bf:=za (Hu112bf.out.put411 (.slice A6 yl c6))
  have HB134bf:=za (HB113bf.out.setCell (p:=⟨w2.heap.size,4,none⟩) HLO27b.out (.slice A6 yl c6))
  have HPT:Hid (∀ W,Below w.heap.size w W→Calls Tryz.prog 145 #[.agg #[.slice A n c,.slice A1 n1 c1],.agg #[.string s,.string xh,.string xm,.bool xd,.slice A6 yl c6]] W fun e w'=>∃ v',e=.returned (.agg #[v',.slice A1 n1 c1])∧vP (zP R s.data.toList ⟨xh,xm,xd,A6,yg,c6⟩) w' v'∧Below W.heap.size W w'):=fun W hb=>by
   have:=HPT0.out ⟨xh,xm,xd,A6,yg,c6⟩ W hb
   unfold zV at this
   dsimp only at this
   rw [← HYL.out] at this
   exact this
  clear HPT0
  have HNK:Hid (NmR (w6.setCell ⟨w2.heap.size,4,none⟩ (.slice A6 yl c6)) (.slice A6 yl c6) yg):=X8 HNM.out Hu112bf.out _ _
  have ⟨kx136bf,ky137bf,kp138bf,kq139bf⟩:=Hd131bf.out.q11
  have ⟨kx141bf,ky142bf,kp143bf,kq144bf⟩:=Hr132bf.out.q11
  have hu145bf:=Hu133bf.out
  have kf146bf:=hu145bf.free
  have kc147bf:_=some (.string s:Value):=hu145bf.at_ 0
  have kc148bf:_=some (.string xh:Value):=hu145bf.at_ 1
  have kc149bf:_=some (.string xm:Value):=hu145bf.at_ 2
  have kc150bf:_=some (.bool xd:Value):=hu145bf.at_ 3
  have kc151bf:_=some (.slice A6 yl c6:Value):=hu145bf.at_ 4
  clear hu145bf
  go_wp2_with fail
  generalize w6.setCell ⟨w2.heap.size,4,none⟩ (.slice A6 yl c6)=wg152bf at *
  with_reducible refine (HPT.out wg152bf HB134bf.out).mono ?_
  rintro e w8 ⟨v7,rfl,hp,hb⟩
  clear kx115bf ky116bf kp117bf kq118bf kx120bf ky121bf kp122bf kq123bf kf125bf kc126bf kc127bf kc128bf kc129bf kc130bf kx136bf ky137bf kp138bf kq139bf kx141bf ky142bf kp143bf kq144bf kf146bf kc147bf kc148bf kc149bf kc150bf kc151bf
  have Hd153bf:=za (Hd131bf.out.later hb)
  have Hr154bf:=za (Hr132bf.out.later hb)
  have Hu155bf:=za (zh Hu133bf.out hb)
  have HB156bf:=za (z8 HB134bf.out hb)
  have HNK2:=za (HNK.out.later hb)
  obtain ⟨A7,c7,rfl⟩:=hp.us.shape
  have HP:=za hp
  clear hp
  obtain ⟨n7,hn7⟩:∃ m,m=(zP R s.data.toList (⟨xh,xm,xd,A6,yg,c6⟩:W11)).length:=⟨_,rfl⟩
  rw [← hn7] at HP ⊢
  clear hn7
  clear hb
  have HG5:Hid (qI 0 w8 (zP R s.data.toList ⟨xh,xm,xd,A6,yg,c6⟩)):=((HRC.out.later HB156bf.out).2).put _ _ (by have:=HNK2.out; rw [HYL.out] at this; exact this)
  have HPL:Hid (ze (zP R s.data.toList ⟨xh,xm,xd,A6,yg,c6⟩)=L'):=by
   show _=_
   rw [HE2.out,xS,HYG.out]
   rfl
  have ⟨kx158bf,ky159bf,kp160bf,kq161bf⟩:=Hd153bf.out.q11
  have ⟨kx163bf,ky164bf,kp165bf,kq166bf⟩:=Hr154bf.out.q11
  have hu167bf:=Hu155bf.out
  have kf168bf:=hu167bf.free
  have kc169bf:_=some (.string s:Value):=hu167bf.at_ 0
  have kc170bf:_=some (.string xh:Value):=hu167bf.at_ 1
  have kc171bf:_=some (.string xm:Value):=hu167bf.at_ 2
  have kc172bf:_=some (.bool xd:Value):=hu167bf.at_ 3
  have kc173bf:_=some (.slice A6 yl c6:Value):=hu167bf.at_ 4
  clear hu167bf
  have HS:=yt HB156bf.out Hr154bf.out HLO6b.out (.slice A7 n7 c7) (.slice A1 n1 c1)
  have z0:=HS.1.c0
  have z1:=HS.1.c1
  have HPOST:=za (show yx 0 L' N w (.returned (.tuple #[.agg #[.slice A7 n7 c7,.slice A1 n1 c1],.int .i64 0])) _ from ⟨_,_,_,rfl,⟨HP.out.keepD11 HS.2.2,HG5.out.keepD11 HS.2.2⟩,HPL.out,HNN.out.later HS.2.1,HS.2.1⟩)
  clear HS
  go_wp2
  refine bodyPost_ret (v:=.tuple #[.agg #[.slice A7 n7 c7,.slice A1 n1 c1],.int .i64 0]) ?_ rfl HPOST.out
  simp [results,Tryz.results78,go_sem,z0,z1]

set_option maxRecDepth 100000 in
theorem V0 (v vg:Value) (R:zL W11) (N:List (List UInt8)) (g s:ByteArray) (w:World) (hR:vQ 0 R w v) (hN:NmR w vg N) (h12:R.length≤12) (hr:zA R) (hN9:N.length≤900) (hgl:∀ p∈R,p.2.gs.length≤12) (hg:g.size≤1000) (hn:s.size≤1000) :
  Calls Tryz.prog 80 #[.agg #[v,vg],.string g,.string s] w (yx (ff (ze R) N g.data.toList s.data.toList) (qD (ze R) N g.data.toList s.data.toList) N w):=by
 obtain ⟨i0,hi,hz0,hz1,hz2⟩:=info_parts Xo
 have hzu:=uz
 have hnot:∀ (x:Bool) (w:World),(Op.unary .not (.bool x)).run Tryz.prog w=.ok (.bool (!x)) w:=fun _ _=>rfl
 obtain ⟨A,c,rfl⟩:=hR.rw.us.shape
 obtain ⟨A1,c1,rfl⟩:=hN.shape
 have HU0:Hid (∀ W,Below w.heap.size w W→Calls Tryz.prog 159 #[.agg #[.slice A R.length c,.slice A1 N.length c1],.string g,.string s] W (U3 R N g s W)):=fun W hb=>ji _ _ R N g s W (hR.later hb) (hN.later hb) h12 hr hN9 hg hn
 have HPT0:Hid (∀ (x:W11) W,Below w.heap.size w W→Calls Tryz.prog 145 #[.agg #[.slice A R.length c,.slice A1 N.length c1],zV s x] W fun e w'=>∃ v',e=.returned (.agg #[v',.slice A1 N.length c1])∧vP (zP R s.data.toList x) w' v'∧Below W.heap.size W w'):=fun x W hb=>vp _ _ R N s x W (hR.rw.later hb) (hN.later hb) h12 hr
 have HRC:=za hR
 have HNN:=za hN
 have HRI:=za hr
 have HGL:=za hgl
 clear hR hN hgl
 obtain ⟨n,hlen⟩:∃ n,n=R.length:=⟨_,rfl⟩
 obtain ⟨n1,hlen1⟩:∃ n,n=N.length:=⟨_,rfl⟩
 unfold U3 at HU0
 rw [← hlen] at HU0 HPT0 HRC ⊢
 rw [← hlen1] at HU0 HPT0 HNN ⊢
 clear hlen hlen1
 have HEQ:Hid (jV R N g.data.toList s.data.toList≠0→ff (ze R) N g.data.toList s.data.toList=jV R N g.data.toList s.data.toList):=fun h=>by
  revert h
  unfold ff jV
  rw [xq]
  unfold V8
  cases zf s.data.toList <;> cases zf g.data.toList <;> cases zx R s.data.toList <;> cases vl N g.data.toList <;> simp
 have HEZ:Hid (jV R N g.data.toList s.data.toList=0→ff (ze R) N g.data.toList s.data.toList=if !vl (gsU (ze R) s.data.toList) g.data.toList then 12 else 0):=fun h=>by
  revert h
  unfold ff jV
  rw [xq]
  unfold V8
  cases zf s.data.toList <;> cases zf g.data.toList <;> cases zx R s.data.toList <;> cases vl N g.data.toList <;> simp
 have HLQ:Hid (qD (ze R) N g.data.toList s.data.toList=if ff (ze R) N g.data.toList s.data.toList=0 then fL (ze R) s.data.toList (fun u=>{ u with gs:=xZ u.gs g.data.toList }) else ze R):=rfl
 generalize jV R N g.data.toList s.data.toList=M at *
 generalize ff (ze R) N g.data.toList s.data.toList=E at *
 generalize qD (ze R) N g.data.toList s.data.toList=L' at *
 by_cases hm:M=0
 case neg =>
  have e1:=HEQ.out hm
  have e2:L'=ze R:=by
   have:=HLQ.out
   rw [e1,if_neg hm] at this
   exact this
  subst e1
  have q1:(E != 0)=true:=by simpa using hm
  have q2:(E == 0)=false:=by simpa using hm
  clear HEQ HEZ HLQ HPT0
  have Hd1a:=za (zr w (.slice A n c) (.slice A1 n1 c1))
  have HLO2a:Hid (w.heap.size≤w.heap.size):=Nat.le_refl _
  have HB3a:Hid (Below w.heap.size w (w.alloc (.cells #[.slice A n c,.slice A1 n1 c1] zn))):=z7 (Below.refl _ _) _
  have Hd4a:=za (Hd1a.out.later (z7 (Below.refl _ _) (.cells #[.slice none 0 0,.slice none 0 0] zn)))
  have Hr5a:Hid (yv ((w.alloc (.cells #[.slice A n c,.slice A1 n1 c1] zn)).alloc (.cells #[.slice none 0 0,.slice none 0 0] zn)) (w.heap.size+1) (.slice none 0 0) (.slice none 0 0)):=zi (by simp)
  have HLO6a:Hid (w.heap.size≤w.heap.size+1):=by have:=HB3a.out.size; show _≤_; simp at this; omega
  have HB7a:=za (z8 HB3a.out (z7 (Below.refl _ _) (.cells #[.slice none 0 0,.slice none 0 0] zn)))
  go_enter Tryz.func80,Tryz.ntmps80
  have ⟨kx9a,ky10a,kp11a,kq12a⟩:=Hd4a.out.q11
  have ⟨kx14a,ky15a,kp16a,kq17a⟩:=Hr5a.out.q11
  go_wp2_with fail
  generalize (w.alloc (.cells #[.slice A n c,.slice A1 n1 c1] zn)).alloc (.cells #[.slice none 0 0,.slice none 0 0] zn)=wg18a at *
  with_reducible refine (HU0.out wg18a HB7a.out).mono ?_
  rintro e w3 ⟨t,x,rfl,hyes,hb⟩
  clear kx9a ky10a kp11a kq12a kx14a ky15a kp16a kq17a
  have Hd19a:=za (Hd4a.out.later hb)
  have Hr20a:=za (Hr5a.out.later hb)
  have HB21a:=za (z8 HB7a.out hb)
  clear hb
  clear hyes
  obtain ⟨xh,xm,xd,xa,xg,xc⟩:=x
  unfold zV
  dsimp only
  generalize xg.length=xl
  have HLT22a:=za (Hd19a.out.lt)
  have HLT23a:=za (Hr20a.out.lt)
  have Hd24a:=za (Hd19a.out.later (z7 (Below.refl _ _) (.cells #[.string t,.string xh,.string xm,.bool xd,.slice xa xl xc] 47)))
  have Hr25a:=za (Hr20a.out.later (z7 (Below.refl _ _) (.cells #[.string t,.string xh,.string xm,.bool xd,.slice xa xl xc] 47)))
  have Hu26a:Hid (yf (w3.alloc (.cells #[.string t,.string xh,.string xm,.bool xd,.slice xa xl xc] 47)) (w3.heap.size) (.string t) (.string xh) (.string xm) (.bool xd) (.slice xa xl xc)):=heap_alloc_new w3 _
  have HLO27a:Hid (w.heap.size≤w3.heap.size):=by have:=HB21a.out.size; show _≤_; exact this
  have HB28a:=za (z8 HB21a.out (z7 (Below.refl _ _) (.cells #[.string t,.string xh,.string xm,.bool xd,.slice xa xl xc] 47)))
  have ⟨kx30a,ky31a,kp32a,kq33a⟩:=Hd24a.out.q11
  have ⟨kx35a,ky36a,kp37a,kq38a⟩:=Hr25a.out.q11
  have hu39a:=Hu26a.out
  have kf40a:=hu39a.free
  have kc41a:_=some (.string t:Value):=hu39a.at_ 0
  have kc42a:_=some (.string xh:Value):=hu39a.at_ 1
  have kc43a:_=some (.string xm:Value):=hu39a.at_ 2
  have kc44a:_=some (.bool xd:Value):=hu39a.at_ 3
  have kc45a:_=some (.slice xa xl xc:Value):=hu39a.at_ 4
  clear hu39a
  have HS:=yt HB28a.out Hr25a.out HLO6a.out (.slice A n c) (.slice A1 n1 c1)
  have z0:=HS.1.c0
  have z1:=HS.1.c1
  have HPOST:=za (show yx E L' N w (.returned (.tuple #[.agg #[.slice A n c,.slice A1 n1 c1],.int .i64 E])) _ from ⟨R,_,_,rfl,HRC.out.later HS.2.1,e2.symm,HNN.out.later HS.2.1,HS.2.1⟩)
  clear HS
  go_wp2
  refine bodyPost_ret (v:=.tuple #[.agg #[.slice A n c,.slice A1 n1 c1],.int .i64 E]) ?_ rfl HPOST.out
  simp [results,Tryz.results80,go_sem,z0,z1]
 subst hm
 have HE0:=za (HEZ.out rfl)
 have HXG:Hid (∀ x,xJ R s.data.toList=some x→gsU (ze R) s.data.toList=x.gs∧x.gs.length≤12∧fL (ze R) s.data.toList (fun u=>{ u with gs:=xZ u.gs g.data.toList })=zP (ze R) s.data.toList ((fun u=>{ u with gs:=xZ u.gs g.data.toList }) x.u)):=fun x h=>by
  refine ⟨?_,HGL.out (s.data.toList,x) ((zH HRI.out).1 h),?_⟩
  ·
   unfold gsU; rw [xr,h]; rfl
  ·
   unfold fL; rw [xr,h]; rfl
 clear HEQ HEZ HGL
 have Hd1b:=za (zr w (.slice A n c) (.slice A1 n1 c1))
 have HLO2b:Hid (w.heap.size≤w.heap.size):=Nat.le_refl _
 have HB3b:Hid (Below w.heap.size w (w.alloc (.cells #[.slice A n c,.slice A1 n1 c1] zn))):=z7 (Below.refl _ _) _
 have Hd4b:=za (Hd1b.out.later (z7 (Below.refl _ _) (.cells #[.slice none 0 0,.slice none 0 0] zn)))
 have Hr5b:Hid (yv ((w.alloc (.cells #[.slice A n c,.slice A1 n1 c1] zn)).alloc (.cells #[.slice none 0 0,.slice none 0 0] zn)) (w.heap.size+1) (.slice none 0 0) (.slice none 0 0)):=zi (by simp)
 have HLO6b:Hid (w.heap.size≤w.heap.size+1):=by have:=HB3b.out.size; show _≤_; simp at this; omega
 have HB7b:=za (z8 HB3b.out (z7 (Below.refl _ _) (.cells #[.slice none 0 0,.slice none 0 0] zn)))
 go_enter Tryz.func80,Tryz.ntmps80
 have ⟨kx9b,ky10b,kp11b,kq12b⟩:=Hd4b.out.q11
 have ⟨kx14b,ky15b,kp16b,kq17b⟩:=Hr5b.out.q11
 go_wp2_with fail
 generalize (w.alloc (.cells #[.slice A n c,.slice A1 n1 c1] zn)).alloc (.cells #[.slice none 0 0,.slice none 0 0] zn)=wg18b at *
 with_reducible refine (HU0.out wg18b HB7b.out).mono ?_
 rintro e w2 ⟨t,x,he,hyes,hb⟩
 clear kx9b ky10b kp11b kq12b kx14b ky15b kp16b kq17b
 have Hd19b:=za (Hd4b.out.later hb)
 have Hr20b:=za (Hr5b.out.later hb)
 have HB21b:=za (z8 HB7b.out hb)
 clear hb
 obtain ⟨ht,hx⟩:=hyes (by first | rfl | trivial)
 obtain ⟨h1,h2,h3⟩:=HXG.out x hx
 have hgs:=h1
 obtain ⟨xh,xm,xd,xa,xg,xc⟩:=x
 dsimp only at h1 h2 h3 hgs
 obtain ⟨xl,hxl⟩:∃ l,l=xg.length:=⟨_,rfl⟩
 have he':e=.returned (.tuple #[.agg #[.string s,.string xh,.string xm,.bool xd,.slice xa xl xc],.int .i64 0]):=by
  rw [he,ht,hxl]; rfl
 subst he'
 have HX:=za hx
 have HLx:=za hxl
 have HGS:=za hgs
 have HST:=za h3
 have hl12:xl≤12:=by rw [hxl]; exact h2
 have HRX:Hid (∀ W,Below w.heap.size w W→NmR W (.slice xa xl xc) xg):=fun W hb=>by
  have:=(HRC.out.later hb).2 (s.data.toList,⟨xh,xm,xd,xa,xg,xc⟩) ((zH HRI.out).1 HX.out)
  rw [HLx.out]
  exact this
 clear he hyes ht hx hxl h1 h2 h3 hgs HXG HU0
 have HH0:Hid (∀ W,Below w.heap.size w W→Calls Tryz.prog 160 #[.slice xa xl xc,.string g] W (zY (vl xg g.data.toList) W)):=fun W hb=>by
  have:=jj _ xg g W (by have:=HLx.out; omega) (HRX.out W hb)
  exact this
 have HLT22b:=za (Hd19b.out.lt)
 have HLT23b:=za (Hr20b.out.lt)
 have Hd24b:=za (Hd19b.out.later (z7 (Below.refl _ _) (.cells #[.string s,.string xh,.string xm,.bool xd,.slice xa xl xc] 47)))
 have Hr25b:=za (Hr20b.out.later (z7 (Below.refl _ _) (.cells #[.string s,.string xh,.string xm,.bool xd,.slice xa xl xc] 47)))
 have Hu26b:Hid (yf (w2.alloc (.cells #[.string s,.string xh,.string xm,.bool xd,.slice xa xl xc] 47)) (w2.heap.size) (.string s) (.string xh) (.string xm) (.bool xd) (.slice xa xl xc)):=heap_alloc_new w2 _
 have HLO27b:Hid (w.heap.size≤w2.heap.size):=by have:=HB21b.out.size; show _≤_; exact this
 have HB28b:=za (z8 HB21b.out (z7 (Below.refl _ _) (.cells #[.string s,.string xh,.string xm,.bool xd,.slice xa xl xc] 47)))
 have ⟨kx30b,ky31b,kp32b,kq33b⟩:=Hd24b.out.q11
 have ⟨kx35b,ky36b,kp37b,kq38b⟩:=Hr25b.out.q11
 have hu39b:=Hu26b.out
 have kf40b:=hu39b.free
 have kc41b:_=some (.string s:Value):=hu39b.at_ 0
 have kc42b:_=some (.string xh:Value):=hu39b.at_ 1
 have kc43b:_=some (.string xm:Value):=hu39b.at_ 2
 have kc44b:_=some (.bool xd:Value):=hu39b.at_ 3
 have kc45b:_=some (.slice xa xl xc:Value):=hu39b.at_ 4
 clear hu39b
 go_wp2_with fail
 generalize w2.alloc (.cells #[.string s,.string xh,.string xm,.bool xd,.slice xa xl xc] 47)=wg46b at *
 with_reducible refine (HH0.out wg46b HB28b.out).mono ?_
 rintro e w3 ⟨rfl,hb⟩
 clear kx30b ky31b kp32b kq33b kx35b ky36b kp37b kq38b kf40b kc41b kc42b kc43b kc44b kc45b
 have Hd47b:=za (Hd24b.out.later hb)
 have Hr48b:=za (Hr25b.out.later hb)
 have Hu49b:=za (zh Hu26b.out hb)
 have HB50b:=za (z8 HB28b.out hb)
 clear hb
 have hEx:E=if !vl xg g.data.toList then 12 else 0:=by
  have:=HE0.out
  rw [HGS.out] at this
  exact this
 clear HE0 HH0
 cases hq:vl xg g.data.toList with
 | true =>
  rw [hq] at hEx
  have e1:E=0:=hEx
  have e2:L'=zP (ze R) s.data.toList ((fun u=>{ u with gs:=xZ u.gs g.data.toList }) (W11.u ⟨xh,xm,xd,xa,xg,xc⟩)):=by
   have:=HLQ.out
   rw [e1,if_pos rfl] at this
   rw [this]
   exact HST.out
  clear hEx HLQ HST
  subst e1
  have HE2:=za e2
  clear e2
  have HWO:Hid (∀ W,Below w.heap.size w W→Calls Tryz.prog 157 #[.slice xa xl xc,.string g] W fun e w'=>∃ v',e=.returned v'∧NmR w' v' (xZ xg g.data.toList)∧Below W.heap.size W w'):=fun W hb=>qW _ xg g W (by have:=HLx.out; omega) (HRX.out W hb)
  have ⟨kx52bt,ky53bt,kp54bt,kq55bt⟩:=Hd47b.out.q11
  have ⟨kx57bt,ky58bt,kp59bt,kq60bt⟩:=Hr48b.out.q11
  have hu61bt:=Hu49b.out
  have kf62bt:=hu61bt.free
  have kc63bt:_=some (.string s:Value):=hu61bt.at_ 0
  have kc64bt:_=some (.string xh:Value):=hu61bt.at_ 1
  have kc65bt:_=some (.string xm:Value):=hu61bt.at_ 2
  have kc66bt:_=some (.bool xd:Value):=hu61bt.at_ 3
  have kc67bt:_=some (.slice xa xl xc:Value):=hu61bt.at_ 4
  clear hu61bt
  go_wp2_with fail
  with_reducible refine (HWO.out w3 HB50b.out).mono ?_
  rintro e w6 ⟨v6,rfl,hr6,hb⟩
  clear kx52bt ky53bt kp54bt kq55bt kx57bt ky58bt kp59bt kq60bt kf62bt kc63bt kc64bt kc65bt kc66bt kc67bt
  have Hd68bt:=za (Hd47b.out.later hb)
  have Hr69bt:=za (Hr48b.out.later hb)
  have Hu70bt:=za (zh Hu49b.out hb)
  have HB71bt:=za (z8 HB50b.out hb)
  have HNM:=za hr6
  obtain ⟨A6,c6,rfl⟩:=HNM.out.shape
  clear hr6 HWO
  clear hb
  obtain ⟨yg,hyg⟩:∃ y,y=xZ xg g.data.toList:=⟨_,rfl⟩
  rw [← hyg] at HNM
  have HYG:=za hyg
  obtain ⟨yl,hyl⟩:∃ l,l=yg.length:=⟨_,rfl⟩
  rw [← hyg,← hyl]
  rw [← hyl] at HNM
  have HYL:=za hyl
  clear hyg hyl
  have ⟨kx73bt,ky74bt,kp75bt,kq76bt⟩:=Hd68bt.out.q11
  have ⟨kx78bt,ky79bt,kp80bt,kq81bt⟩:=Hr69bt.out.q11
  have hu82bt:=Hu70bt.out
  have kf83bt:=hu82bt.free
  have kc84bt:_=some (.string s:Value):=hu82bt.at_ 0
  have kc85bt:_=some (.string xh:Value):=hu82bt.at_ 1
  have kc86bt:_=some (.string xm:Value):=hu82bt.at_ 2
  have kc87bt:_=some (.bool xd:Value):=hu82bt.at_ 3
  have kc88bt:_=some (.slice xa xl xc:Value):=hu82bt.at_ 4
  clear hu82bt
  have Hd89bt:=za (Hd68bt.out.other (c:=w2.heap.size) (i:=4) (by have:=HLT22b.out; omega) (.slice A6 yl c6))
  have Hr90bt:=za (Hr69bt.out.other (c:=w2.heap.size) (i:=4) (by have:=HLT23b.out; omega) (.slice A6 yl c6))
  have Hu91bt:=za (Hu70bt.out.put411 (.slice A6 yl c6))
  have HB92bt:=za (HB71bt.out.setCell (p:=⟨w2.heap.size,4,none⟩) HLO27b.out (.slice A6 yl c6))
  have HPT:Hid (∀ W,Below w.heap.size w W→Calls Tryz.prog 145 #[.agg #[.slice A n c,.slice A1 n1 c1],.agg #[.string s,.string xh,.string xm,.bool xd,.slice A6 yl c6]] W fun e w'=>∃ v',e=.returned (.agg #[v',.slice A1 n1 c1])∧vP (zP R s.data.toList ⟨xh,xm,xd,A6,yg,c6⟩) w' v'∧Below W.heap.size W w'):=fun W hb=>by
   have:=HPT0.out ⟨xh,xm,xd,A6,yg,c6⟩ W hb
   unfold zV at this
   dsimp only at this
   rw [← HYL.out] at this
   exact this
  clear HPT0
  have HNK:Hid (NmR (w6.setCell ⟨w2.heap.size,4,none⟩ (.slice A6 yl c6)) (.slice A6 yl c6) yg):=X8 HNM.out Hu70bt.out _ _
  have ⟨kx94bt,ky95bt,kp96bt,kq97bt⟩:=Hd89bt.out.q11
  have ⟨kx99bt,ky100bt,kp101bt,kq102bt⟩:=Hr90bt.out.q11
  have hu103bt:=Hu91bt.out
  have kf104bt:=hu103bt.free
  have kc105bt:_=some (.string s:Value):=hu103bt.at_ 0
  have kc106bt:_=some (.string xh:Value):=hu103bt.at_ 1
  have kc107bt:_=some (.string xm:Value):=hu103bt.at_ 2
  have kc108bt:_=some (.bool xd:Value):=hu103bt.at_ 3
  have kc109bt:_=some (.slice A6 yl c6:Value):=hu103bt.at_ 4
  clear hu103bt
  go_wp2_with fail
  generalize w6.setCell ⟨w2.heap.size,4,none⟩ (.slice A6 yl c6)=wg110bt at *
  with_reducible refine (HPT.out wg110bt HB92bt.out).mono ?_
  rintro e w8 ⟨v7,rfl,hp,hb⟩
  clear kx73bt ky74bt kp75bt kq76bt kx78bt ky79bt kp80bt kq81bt kf83bt kc84bt kc85bt kc86bt kc87bt kc88bt kx94bt ky95bt kp96bt kq97bt kx99bt ky100bt kp101bt kq102bt kf104bt kc105bt kc106bt kc107bt kc108bt kc109bt
  have Hd111bt:=za (Hd89bt.out.later hb)
  have Hr112bt:=za (Hr90bt.out.later hb)
  have Hu113bt:=za (zh Hu91bt.out hb)
  have HB114bt:=za (z8 HB92bt.out hb)
  have HNK2:=za (HNK.out.later hb)
  obtain ⟨A7,c7,rfl⟩:=hp.us.shape
  have HP:=za hp
  clear hp
  obtain ⟨n7,hn7⟩:∃ m,m=(zP R s.data.toList (⟨xh,xm,xd,A6,yg,c6⟩:W11)).length:=⟨_,rfl⟩
  rw [← hn7] at HP ⊢
  clear hn7
  clear hb
  have HG5:Hid (qI 0 w8 (zP R s.data.toList ⟨xh,xm,xd,A6,yg,c6⟩)):=((HRC.out.later HB114bt.out).2).put _ _ (by have:=HNK2.out; rw [HYL.out] at this; exact this)
  have HPL:Hid (ze (zP R s.data.toList ⟨xh,xm,xd,A6,yg,c6⟩)=L'):=by
   show _=_
   rw [HE2.out,xS,HYG.out]
   rfl
  have ⟨kx116bt,ky117bt,kp118bt,kq119bt⟩:=Hd111bt.out.q11
  have ⟨kx121bt,ky122bt,kp123bt,kq124bt⟩:=Hr112bt.out.q11
  have hu125bt:=Hu113bt.out
  have kf126bt:=hu125bt.free
  have kc127bt:_=some (.string s:Value):=hu125bt.at_ 0
  have kc128bt:_=some (.string xh:Value):=hu125bt.at_ 1
  have kc129bt:_=some (.string xm:Value):=hu125bt.at_ 2
  have kc130bt:_=some (.bool xd:Value):=hu125bt.at_ 3
  have kc131bt:_=some (.slice A6 yl c6:Value):=hu125bt.at_ 4
  clear hu125bt
  have HS:=yt HB114bt.out Hr112bt.out HLO6b.out (.slice A7 n7 c7) (.slice A1 n1 c1)
  have z0:=HS.1.c0
  have z1:=HS.1.c1
  have HPOST:=za (show yx 0 L' N w (.returned (.tuple #[.agg #[.slice A7 n7 c7,.slice A1 n1 c1],.int .i64 0])) _ from ⟨_,_,_,rfl,⟨HP.out.keepD11 HS.2.2,HG5.out.keepD11 HS.2.2⟩,HPL.out,HNN.out.later HS.2.1,HS.2.1⟩)
  clear HS
  go_wp2
  refine bodyPost_ret (v:=.tuple #[.agg #[.slice A7 n7 c7,.slice A1 n1 c1],.int .i64 0]) ?_ rfl HPOST.out
  simp [results,Tryz.results80,go_sem,z0,z1]
 | false =>
  rw [hq] at hEx
  have e1:E=12:=hEx
  have e2:L'=ze R:=by
   have:=HLQ.out
   rw [e1,if_neg (by decide)] at this
   exact this
  clear HLQ HPT0 hEx
  subst e1
  have ⟨kx52bf,ky53bf,kp54bf,kq55bf⟩:=Hd47b.out.q11
  have ⟨kx57bf,ky58bf,kp59bf,kq60bf⟩:=Hr48b.out.q11
  have hu61bf:=Hu49b.out
  have kf62bf:=hu61bf.free
  have kc63bf:_=some (.string s:Value):=hu61bf.at_ 0
  have kc64bf:_=some (.string xh:Value):=hu61bf.at_ 1
  have kc65bf:_=some (.string xm:Value):=hu61bf.at_ 2
  have kc66bf:_=some (.bool xd:Value):=hu61bf.at_ 3
  have kc67bf:_=some (.slice xa xl xc:Value):=hu61bf.at_ 4
  clear hu61bf
  have HS:=yt HB50b.out Hr48b.out HLO6b.out (.slice A n c) (.slice A1 n1 c1)
  have z0:=HS.1.c0
  have z1:=HS.1.c1
  have HPOST:=za (show yx 12 L' N w (.returned (.tuple #[.agg #[.slice A n c,.slice A1 n1 c1],.int .i64 12])) _ from ⟨R,_,_,rfl,HRC.out.later HS.2.1,e2.symm,HNN.out.later HS.2.1,HS.2.1⟩)
  clear HS
  go_wp2
  refine bodyPost_ret (v:=.tuple #[.agg #[.slice A n c,.slice A1 n1 c1],.int .i64 12]) ?_ rfl HPOST.out
  simp [results,Tryz.results80,go_sem,z0,z1]

theorem rnF_leaf (a b c d:Bool):rnF11 a b c d=if jD a c=10∨jD b d=10 then 10 else if jD a c≠0 then jD a c else if jD b d=0 then 9 else 0:=by
 cases a <;> cases b <;> cases c <;> cases d <;> decide
def YRd11 (b0:Nat) (R:zL W11) (o n:ByteArray) (v:Value) (uv:Value) (x:W11):Nat→Value→World→Prop
 | 1,u,_=>u=v
 | 2,u,_=>u=.string o
 | 3,u,W=>vP (yu R o.data.toList) W u
 | 4,u,_=>u=uv
 | 5,u,W=>vP (zP (yu R o.data.toList) n.data.toList x) W u
 | _,u,_=>u=.pointer (some ⟨b0,0,none⟩)
theorem VZ {b0:Nat} {R:zL W11} {o n:ByteArray} {v uv:Value} {x:W11} {W W':World} (hb:Below W.heap.size W W') (j:Nat) (u:Value) (h:YRd11 b0 R o n v uv x j u W):YRd11 b0 R o n v uv x j u W':=by
 match j,h with
 | 0,h=>exact h
 | 1,h=>exact h
 | 2,h=>exact h
 | 3,h=>exact zG h hb
 | 4,h=>exact h
 | 5,h=>exact zG h hb
 | _+6,h=>exact h
def Rnd11 (w:World) (b0 b1:Nat) (R':zL W11) (vg:Value) (w3 W:World):Prop:=∃ v',yv W b0 v' vg∧yv W b1 (.slice none 0 0) (.slice none 0 0)∧vP R' W v'∧Below w.heap.size w W∧∀ v (N:List (List UInt8)),NmR w3 v N→NmR W v N
set_option maxRecDepth 100000 in
theorem YP (v vg:Value) (R:zL W11) (N:List (List UInt8)) (o s:ByteArray) (w:World) (hR:vQ 0 R w v) (hN:NmR w vg N) (h12:R.length≤12) (hr:zA R) (ho:o.size≤1000) (hn:s.size≤1000) :
  Calls Tryz.prog 72 #[.agg #[v,vg],.string o,.string s] w (yx (drnE (ze R) o.data.toList s.data.toList) (drnL (ze R) o.data.toList s.data.toList) N w):=by
 have hnot:∀ (x:Bool) (w:World),(Op.unary .not (.bool x)).run Tryz.prog w=.ok (.bool (!x)) w:=fun _ _=>rfl
 have hzu:=uz
 obtain ⟨A,c,rfl⟩:=hR.rw.us.shape
 obtain ⟨A1,c1,rfl⟩:=hN.shape
 have HU0:Hid (∀ W,Below w.heap.size w W→Calls Tryz.prog 143 #[.agg #[.slice A R.length c,.slice A1 N.length c1],.string o] W (qG R o W)):=fun W hb=>xR _ _ R N o W (hR.later hb) (hN.later hb) h12 hr ho
 have HU1:Hid (∀ W,Below w.heap.size w W→Calls Tryz.prog 143 #[.agg #[.slice A R.length c,.slice A1 N.length c1],.string s] W (qG R s W)):=fun W hb=>xR _ _ R N s W (hR.later hb) (hN.later hb) h12 hr hn
 have HDR:Hid (∀ W,Below w.heap.size w W→Calls Tryz.prog 151 #[.slice A R.length c,.string o] W fun e w'=>∃ v,e=.returned v∧vP (yu R o.data.toList) w' v∧Below W.heap.size W w'):=fun W hb=>fU A c R.length R o W rfl h12 (hR.rw.us.later hb)
 have HPU:Hid (∀ (x:W11) v W,vP (yu R o.data.toList) W v→Calls Tryz.prog 150 #[v,zV s x] W fun e w'=>∃ v,e=.returned v∧vP (zP (yu R o.data.toList) s.data.toList x) w' v∧Below W.heap.size W w'):=fun x v W hv=>by
  obtain ⟨A',c',rfl⟩:=hv.us.shape
  exact jg A' c' _ _ s x W rfl (Nat.le_trans (jC R _) h12) (yj hr _) hv.us
 have HRC:=za hR
 have HNN:=za hN
 have HRI:=za hr
 clear hR hN
 obtain ⟨n,hlen⟩:∃ n,n=R.length:=⟨_,rfl⟩
 obtain ⟨n1,hlen1⟩:∃ n,n=N.length:=⟨_,rfl⟩
 have HLR:=za hlen
 have HLN:=za hlen1
 unfold qG at HU0 HU1
 rw [← hlen] at HU0 HU1 HDR HRC ⊢
 rw [← hlen1] at HU0 HU1 HNN ⊢
 clear hlen hlen1
 have HE:Hid (drnE (ze R) o.data.toList s.data.toList=rnF11 (zf o.data.toList) (zf s.data.toList) (zx R o.data.toList) (zx R s.data.toList)):=by
  show _=_
  unfold drnE; rw [xq,xq]
 have HLF:=HE.out.trans (rnF_leaf _ _ _ _)
 have HL2:Hid (drnL (ze R) o.data.toList s.data.toList=if drnE (ze R) o.data.toList s.data.toList=0 then (match xJ (ze R) o.data.toList with | some u=>zP (yu (ze R) o.data.toList) s.data.toList u | none=>ze R) else ze R):=rfl
 clear HE
 generalize drnE (ze R) o.data.toList s.data.toList=E at *
 generalize drnL (ze R) o.data.toList s.data.toList=L' at *
 have HLF2:=za HLF
 clear HLF
 generalize jD (zf o.data.toList) (zx R o.data.toList)=E1 at *
 generalize jD (zf s.data.toList) (zx R s.data.toList)=E2 at *
 by_cases hE110:E1=10
 ·
  have Hd1a:=za (zr w (.slice A n c) (.slice A1 n1 c1))
  have HLO2a:Hid (w.heap.size≤w.heap.size):=Nat.le_refl _
  have HB3a:Hid (Below w.heap.size w (w.alloc (.cells #[.slice A n c,.slice A1 n1 c1] zn))):=z7 (Below.refl _ _) _
  have Hd4a:=za (Hd1a.out.later (z7 (Below.refl _ _) (.cells #[.slice none 0 0,.slice none 0 0] zn)))
  have Hr5a:Hid (yv ((w.alloc (.cells #[.slice A n c,.slice A1 n1 c1] zn)).alloc (.cells #[.slice none 0 0,.slice none 0 0] zn)) (w.heap.size+1) (.slice none 0 0) (.slice none 0 0)):=zi (by simp)
  have HLO6a:Hid (w.heap.size≤w.heap.size+1):=by have:=HB3a.out.size; show _≤_; simp at this; omega
  have HB7a:=za (z8 HB3a.out (z7 (Below.refl _ _) (.cells #[.slice none 0 0,.slice none 0 0] zn)))
  have e1:E=10:=by rw [HLF2.out,if_pos (.inl hE110)]
  have hz:¬ (10:Int)=0:=by decide
  subst hE110
  have e2:L'=ze R:=by
   have:=HL2.out
   rw [e1,if_neg hz] at this
   exact this
  clear HL2 HLF2 HDR HPU hz
  replace e1:=e1.symm
  subst e1
  go_enter Tryz.func72,Tryz.ntmps72
  have ⟨kx9a,ky10a,kp11a,kq12a⟩:=Hd4a.out.q11
  have ⟨kx14a,ky15a,kp16a,kq17a⟩:=Hr5a.out.q11
  go_wp2_with fail
  generalize (w.alloc (.cells #[.slice A n c,.slice A1 n1 c1] zn)).alloc (.cells #[.slice none 0 0,.slice none 0 0] zn)=wg18a at *
  with_reducible refine (HU0.out wg18a HB7a.out).mono ?_
  rintro e w2 ⟨t0,x0,rfl,hyes0,hno0,hb⟩
  clear kx9a ky10a kp11a kq12a kx14a ky15a kp16a kq17a
  have Hd19a:=za (Hd4a.out.later hb)
  have Hr20a:=za (Hr5a.out.later hb)
  have HB21a:=za (z8 HB7a.out hb)
  clear hb
  obtain ⟨x0h,x0m,x0d,x0a,x0g,x0c⟩:=x0
  unfold zV
  dsimp only
  obtain ⟨x0l,hxl0⟩:∃ l,l=x0g.length:=⟨_,rfl⟩
  rw [← hxl0]
  have HXL0:=za hxl0
  have HYES0:=za hyes0
  clear hxl0 hyes0 hno0
  have HLT22a:=za (Hd19a.out.lt)
  have HLT23a:=za (Hr20a.out.lt)
  have Hd24a:=za (Hd19a.out.later (z7 (Below.refl _ _) (.cells #[.string t0,.string x0h,.string x0m,.bool x0d,.slice x0a x0l x0c] 47)))
  have Hr25a:=za (Hr20a.out.later (z7 (Below.refl _ _) (.cells #[.string t0,.string x0h,.string x0m,.bool x0d,.slice x0a x0l x0c] 47)))
  have Hu26a:Hid (yf (w2.alloc (.cells #[.string t0,.string x0h,.string x0m,.bool x0d,.slice x0a x0l x0c] 47)) (w2.heap.size) (.string t0) (.string x0h) (.string x0m) (.bool x0d) (.slice x0a x0l x0c)):=heap_alloc_new w2 _
  have HLO27a:Hid (w.heap.size≤w2.heap.size):=by have:=HB21a.out.size; show _≤_; exact this
  have HB28a:=za (z8 HB21a.out (z7 (Below.refl _ _) (.cells #[.string t0,.string x0h,.string x0m,.bool x0d,.slice x0a x0l x0c] 47)))
  have ⟨kx30a,ky31a,kp32a,kq33a⟩:=Hd24a.out.q11
  have ⟨kx35a,ky36a,kp37a,kq38a⟩:=Hr25a.out.q11
  have hu39a:=Hu26a.out
  have kf40a:=hu39a.free
  have kc41a:_=some (.string t0:Value):=hu39a.at_ 0
  have kc42a:_=some (.string x0h:Value):=hu39a.at_ 1
  have kc43a:_=some (.string x0m:Value):=hu39a.at_ 2
  have kc44a:_=some (.bool x0d:Value):=hu39a.at_ 3
  have kc45a:_=some (.slice x0a x0l x0c:Value):=hu39a.at_ 4
  clear hu39a
  go_wp2_with fail
  generalize w2.alloc (.cells #[.string t0,.string x0h,.string x0m,.bool x0d,.slice x0a x0l x0c] 47)=wg46a at *
  with_reducible refine (HU1.out wg46a HB28a.out).mono ?_
  rintro e w3 ⟨t1,x1,rfl,hyes1,hno1,hb⟩
  clear kx30a ky31a kp32a kq33a kx35a ky36a kp37a kq38a kf40a kc41a kc42a kc43a kc44a kc45a
  have Hd47a:=za (Hd24a.out.later hb)
  have Hr48a:=za (Hr25a.out.later hb)
  have Hu49a:=za (zh Hu26a.out hb)
  have HB50a:=za (z8 HB28a.out hb)
  clear hb
  obtain ⟨x1h,x1m,x1d,x1a,x1g,x1c⟩:=x1
  unfold zV
  dsimp only
  obtain ⟨x1l,hxl1⟩:∃ l,l=x1g.length:=⟨_,rfl⟩
  rw [← hxl1]
  have HXL1:=za hxl1
  have HYES1:=za hyes1
  clear hxl1 hyes1 hno1
  have HLT51a:=za (Hd47a.out.lt)
  have HLT52a:=za (Hr48a.out.lt)
  have HLT53a:=za (Hu49a.out.lt)
  have Hd54a:=za (Hd47a.out.later (z7 (Below.refl _ _) (.cells #[.string t1,.string x1h,.string x1m,.bool x1d,.slice x1a x1l x1c] 47)))
  have Hr55a:=za (Hr48a.out.later (z7 (Below.refl _ _) (.cells #[.string t1,.string x1h,.string x1m,.bool x1d,.slice x1a x1l x1c] 47)))
  have Hu56a:=za (zh Hu49a.out (z7 (Below.refl _ _) (.cells #[.string t1,.string x1h,.string x1m,.bool x1d,.slice x1a x1l x1c] 47)))
  have Ht57a:Hid (yf (w3.alloc (.cells #[.string t1,.string x1h,.string x1m,.bool x1d,.slice x1a x1l x1c] 47)) (w3.heap.size) (.string t1) (.string x1h) (.string x1m) (.bool x1d) (.slice x1a x1l x1c)):=heap_alloc_new w3 _
  have HLO58a:Hid (w.heap.size≤w3.heap.size):=by have:=HB50a.out.size; show _≤_; exact this
  have HB59a:=za (z8 HB50a.out (z7 (Below.refl _ _) (.cells #[.string t1,.string x1h,.string x1m,.bool x1d,.slice x1a x1l x1c] 47)))
  clear HYES0 HYES1 HXL0 HXL1
  have ⟨kx61a,ky62a,kp63a,kq64a⟩:=Hd54a.out.q11
  have ⟨kx66a,ky67a,kp68a,kq69a⟩:=Hr55a.out.q11
  have hu70a:=Hu56a.out
  have kf71a:=hu70a.free
  have kc72a:_=some (.string t0:Value):=hu70a.at_ 0
  have kc73a:_=some (.string x0h:Value):=hu70a.at_ 1
  have kc74a:_=some (.string x0m:Value):=hu70a.at_ 2
  have kc75a:_=some (.bool x0d:Value):=hu70a.at_ 3
  have kc76a:_=some (.slice x0a x0l x0c:Value):=hu70a.at_ 4
  clear hu70a
  have ht77a:=Ht57a.out
  have kf78a:=ht77a.free
  have kc79a:_=some (.string t1:Value):=ht77a.at_ 0
  have kc80a:_=some (.string x1h:Value):=ht77a.at_ 1
  have kc81a:_=some (.string x1m:Value):=ht77a.at_ 2
  have kc82a:_=some (.bool x1d:Value):=ht77a.at_ 3
  have kc83a:_=some (.slice x1a x1l x1c:Value):=ht77a.at_ 4
  clear ht77a
  have HS:=yt HB59a.out Hr55a.out HLO6a.out (.slice A n c) (.slice A1 n1 c1)
  have z0:=HS.1.c0
  have z1:=HS.1.c1
  have HPOST:=za (show yx 10 L' N w (.returned (.tuple #[.agg #[.slice A n c,.slice A1 n1 c1],.int .i64 10])) _ from ⟨R,_,_,rfl,HRC.out.later HS.2.1,e2.symm,HNN.out.later HS.2.1,HS.2.1⟩)
  clear HS
  go_wp2
  refine bodyPost_ret (v:=.tuple #[.agg #[.slice A n c,.slice A1 n1 c1],.int .i64 10]) ?_ rfl HPOST.out
  simp [results,Tryz.results72,go_sem,z0,z1]
 by_cases hE210:E2=10
 ·
  have Hd1b:=za (zr w (.slice A n c) (.slice A1 n1 c1))
  have HLO2b:Hid (w.heap.size≤w.heap.size):=Nat.le_refl _
  have HB3b:Hid (Below w.heap.size w (w.alloc (.cells #[.slice A n c,.slice A1 n1 c1] zn))):=z7 (Below.refl _ _) _
  have Hd4b:=za (Hd1b.out.later (z7 (Below.refl _ _) (.cells #[.slice none 0 0,.slice none 0 0] zn)))
  have Hr5b:Hid (yv ((w.alloc (.cells #[.slice A n c,.slice A1 n1 c1] zn)).alloc (.cells #[.slice none 0 0,.slice none 0 0] zn)) (w.heap.size+1) (.slice none 0 0) (.slice none 0 0)):=zi (by simp)
  have HLO6b:Hid (w.heap.size≤w.heap.size+1):=by have:=HB3b.out.size; show _≤_; simp at this; omega
  have HB7b:=za (z8 HB3b.out (z7 (Below.refl _ _) (.cells #[.slice none 0 0,.slice none 0 0] zn)))
  have e1:E=10:=by rw [HLF2.out,if_pos (.inr hE210)]
  have hz:¬ (10:Int)=0:=by decide
  subst hE210
  have qE110:(E1 == 10)=false:=by simpa using hE110
  have pE110:(E1 != 10)=true:=by simpa using hE110
  have oE110:decide (E1=10)=false:=by simpa using hE110
  have e2:L'=ze R:=by
   have:=HL2.out
   rw [e1,if_neg hz] at this
   exact this
  clear HL2 HLF2 HDR HPU hz
  replace e1:=e1.symm
  subst e1
  go_enter Tryz.func72,Tryz.ntmps72
  have ⟨kx9b,ky10b,kp11b,kq12b⟩:=Hd4b.out.q11
  have ⟨kx14b,ky15b,kp16b,kq17b⟩:=Hr5b.out.q11
  go_wp2_with fail
  generalize (w.alloc (.cells #[.slice A n c,.slice A1 n1 c1] zn)).alloc (.cells #[.slice none 0 0,.slice none 0 0] zn)=wg18b at *
  with_reducible refine (HU0.out wg18b HB7b.out).mono ?_
  rintro e w2 ⟨t0,x0,rfl,hyes0,hno0,hb⟩
  clear kx9b ky10b kp11b kq12b kx14b ky15b kp16b kq17b
  have Hd19b:=za (Hd4b.out.later hb)
  have Hr20b:=za (Hr5b.out.later hb)
  have HB21b:=za (z8 HB7b.out hb)
  clear hb
  obtain ⟨x0h,x0m,x0d,x0a,x0g,x0c⟩:=x0
  unfold zV
  dsimp only
  obtain ⟨x0l,hxl0⟩:∃ l,l=x0g.length:=⟨_,rfl⟩
  rw [← hxl0]
  have HXL0:=za hxl0
  have HYES0:=za hyes0
  clear hxl0 hyes0 hno0
  have HLT22b:=za (Hd19b.out.lt)
  have HLT23b:=za (Hr20b.out.lt)
  have Hd24b:=za (Hd19b.out.later (z7 (Below.refl _ _) (.cells #[.string t0,.string x0h,.string x0m,.bool x0d,.slice x0a x0l x0c] 47)))
  have Hr25b:=za (Hr20b.out.later (z7 (Below.refl _ _) (.cells #[.string t0,.string x0h,.string x0m,.bool x0d,.slice x0a x0l x0c] 47)))
  have Hu26b:Hid (yf (w2.alloc (.cells #[.string t0,.string x0h,.string x0m,.bool x0d,.slice x0a x0l x0c] 47)) (w2.heap.size) (.string t0) (.string x0h) (.string x0m) (.bool x0d) (.slice x0a x0l x0c)):=heap_alloc_new w2 _
  have HLO27b:Hid (w.heap.size≤w2.heap.size):=by have:=HB21b.out.size; show _≤_; exact this
  have HB28b:=za (z8 HB21b.out (z7 (Below.refl _ _) (.cells #[.string t0,.string x0h,.string x0m,.bool x0d,.slice x0a x0l x0c] 47)))
  have ⟨kx30b,ky31b,kp32b,kq33b⟩:=Hd24b.out.q11
  have ⟨kx35b,ky36b,kp37b,kq38b⟩:=Hr25b.out.q11
  have hu39b:=Hu26b.out
  have kf40b:=hu39b.free
  have kc41b:_=some (.string t0:Value):=hu39b.at_ 0
  have kc42b:_=some (.string x0h:Value):=hu39b.at_ 1
  have kc43b:_=some (.string x0m:Value):=hu39b.at_ 2
  have kc44b:_=some (.bool x0d:Value):=hu39b.at_ 3
  have kc45b:_=some (.slice x0a x0l x0c:Value):=hu39b.at_ 4
  clear hu39b
  go_wp2_with fail
  generalize w2.alloc (.cells #[.string t0,.string x0h,.string x0m,.bool x0d,.slice x0a x0l x0c] 47)=wg46b at *
  with_reducible refine (HU1.out wg46b HB28b.out).mono ?_
  rintro e w3 ⟨t1,x1,rfl,hyes1,hno1,hb⟩
  clear kx30b ky31b kp32b kq33b kx35b ky36b kp37b kq38b kf40b kc41b kc42b kc43b kc44b kc45b
  have Hd47b:=za (Hd24b.out.later hb)
  have Hr48b:=za (Hr25b.out.later hb)
  have Hu49b:=za (zh Hu26b.out hb)
  have HB50b:=za (z8 HB28b.out hb)
  clear hb
  obtain ⟨x1h,x1m,x1d,x1a,x1g,x1c⟩:=x1
  unfold zV
  dsimp only
  obtain ⟨x1l,hxl1⟩:∃ l,l=x1g.length:=⟨_,rfl⟩
  rw [← hxl1]
  have HXL1:=za hxl1
  have HYES1:=za hyes1
  clear hxl1 hyes1 hno1
  have HLT51b:=za (Hd47b.out.lt)
  have HLT52b:=za (Hr48b.out.lt)
  have HLT53b:=za (Hu49b.out.lt)
  have Hd54b:=za (Hd47b.out.later (z7 (Below.refl _ _) (.cells #[.string t1,.string x1h,.string x1m,.bool x1d,.slice x1a x1l x1c] 47)))
  have Hr55b:=za (Hr48b.out.later (z7 (Below.refl _ _) (.cells #[.string t1,.string x1h,.string x1m,.bool x1d,.slice x1a x1l x1c] 47)))
  have Hu56b:=za (zh Hu49b.out (z7 (Below.refl _ _) (.cells #[.string t1,.string x1h,.string x1m,.bool x1d,.slice x1a x1l x1c] 47)))
  have Ht57b:Hid (yf (w3.alloc (.cells #[.string t1,.string x1h,.string x1m,.bool x1d,.slice x1a x1l x1c] 47)) (w3.heap.size) (.string t1) (.string x1h) (.string x1m) (.bool x1d) (.slice x1a x1l x1c)):=heap_alloc_new w3 _
  have HLO58b:Hid (w.heap.size≤w3.heap.size):=by have:=HB50b.out.size; show _≤_; exact this
  have HB59b:=za (z8 HB50b.out (z7 (Below.refl _ _) (.cells #[.string t1,.string x1h,.string x1m,.bool x1d,.slice x1a x1l x1c] 47)))
  clear HYES0 HYES1 HXL0 HXL1
  have ⟨kx61b,ky62b,kp63b,kq64b⟩:=Hd54b.out.q11
  have ⟨kx66b,ky67b,kp68b,kq69b⟩:=Hr55b.out.q11
  have hu70b:=Hu56b.out
  have kf71b:=hu70b.free
  have kc72b:_=some (.string t0:Value):=hu70b.at_ 0
  have kc73b:_=some (.string x0h:Value):=hu70b.at_ 1
  have kc74b:_=some (.string x0m:Value):=hu70b.at_ 2
  have kc75b:_=some (.bool x0d:Value):=hu70b.at_ 3
  have kc76b:_=some (.slice x0a x0l x0c:Value):=hu70b.at_ 4
  clear hu70b
  have ht77b:=Ht57b.out
  have kf78b:=ht77b.free
  have kc79b:_=some (.string t1:Value):=ht77b.at_ 0
  have kc80b:_=some (.string x1h:Value):=ht77b.at_ 1
  have kc81b:_=some (.string x1m:Value):=ht77b.at_ 2
  have kc82b:_=some (.bool x1d:Value):=ht77b.at_ 3
  have kc83b:_=some (.slice x1a x1l x1c:Value):=ht77b.at_ 4
  clear ht77b
  have HS:=yt HB59b.out Hr55b.out HLO6b.out (.slice A n c) (.slice A1 n1 c1)
  have z0:=HS.1.c0
  have z1:=HS.1.c1
  have HPOST:=za (show yx 10 L' N w (.returned (.tuple #[.agg #[.slice A n c,.slice A1 n1 c1],.int .i64 10])) _ from ⟨R,_,_,rfl,HRC.out.later HS.2.1,e2.symm,HNN.out.later HS.2.1,HS.2.1⟩)
  clear HS
  go_wp2
  refine bodyPost_ret (v:=.tuple #[.agg #[.slice A n c,.slice A1 n1 c1],.int .i64 10]) ?_ rfl HPOST.out
  simp [results,Tryz.results72,go_sem,z0,z1]
 by_cases hE10:E1=0
 case neg =>
  have Hd1c:=za (zr w (.slice A n c) (.slice A1 n1 c1))
  have HLO2c:Hid (w.heap.size≤w.heap.size):=Nat.le_refl _
  have HB3c:Hid (Below w.heap.size w (w.alloc (.cells #[.slice A n c,.slice A1 n1 c1] zn))):=z7 (Below.refl _ _) _
  have Hd4c:=za (Hd1c.out.later (z7 (Below.refl _ _) (.cells #[.slice none 0 0,.slice none 0 0] zn)))
  have Hr5c:Hid (yv ((w.alloc (.cells #[.slice A n c,.slice A1 n1 c1] zn)).alloc (.cells #[.slice none 0 0,.slice none 0 0] zn)) (w.heap.size+1) (.slice none 0 0) (.slice none 0 0)):=zi (by simp)
  have HLO6c:Hid (w.heap.size≤w.heap.size+1):=by have:=HB3c.out.size; show _≤_; simp at this; omega
  have HB7c:=za (z8 HB3c.out (z7 (Below.refl _ _) (.cells #[.slice none 0 0,.slice none 0 0] zn)))
  have e1:E=E1:=by rw [HLF2.out,if_neg (fun h=>h.elim hE110 hE210),if_pos hE10]
  have hz:¬ E1=0:=hE10
  have qE110:(E1 == 10)=false:=by simpa using hE110
  have pE110:(E1 != 10)=true:=by simpa using hE110
  have oE110:decide (E1=10)=false:=by simpa using hE110
  have qE210:(E2 == 10)=false:=by simpa using hE210
  have pE210:(E2 != 10)=true:=by simpa using hE210
  have oE210:decide (E2=10)=false:=by simpa using hE210
  have qE10:(E1 == 0)=false:=by simpa using hE10
  have pE10:(E1 != 0)=true:=by simpa using hE10
  have oE10:decide (E1=0)=false:=by simpa using hE10
  have e2:L'=ze R:=by
   have:=HL2.out
   rw [e1,if_neg hz] at this
   exact this
  clear HL2 HLF2 HDR HPU hz
  replace e1:=e1.symm
  subst e1
  go_enter Tryz.func72,Tryz.ntmps72
  have ⟨kx9c,ky10c,kp11c,kq12c⟩:=Hd4c.out.q11
  have ⟨kx14c,ky15c,kp16c,kq17c⟩:=Hr5c.out.q11
  go_wp2_with fail
  generalize (w.alloc (.cells #[.slice A n c,.slice A1 n1 c1] zn)).alloc (.cells #[.slice none 0 0,.slice none 0 0] zn)=wg18c at *
  with_reducible refine (HU0.out wg18c HB7c.out).mono ?_
  rintro e w2 ⟨t0,x0,rfl,hyes0,hno0,hb⟩
  clear kx9c ky10c kp11c kq12c kx14c ky15c kp16c kq17c
  have Hd19c:=za (Hd4c.out.later hb)
  have Hr20c:=za (Hr5c.out.later hb)
  have HB21c:=za (z8 HB7c.out hb)
  clear hb
  obtain ⟨x0h,x0m,x0d,x0a,x0g,x0c⟩:=x0
  unfold zV
  dsimp only
  obtain ⟨x0l,hxl0⟩:∃ l,l=x0g.length:=⟨_,rfl⟩
  rw [← hxl0]
  have HXL0:=za hxl0
  have HYES0:=za hyes0
  clear hxl0 hyes0 hno0
  have HLT22c:=za (Hd19c.out.lt)
  have HLT23c:=za (Hr20c.out.lt)
  have Hd24c:=za (Hd19c.out.later (z7 (Below.refl _ _) (.cells #[.string t0,.string x0h,.string x0m,.bool x0d,.slice x0a x0l x0c] 47)))
  have Hr25c:=za (Hr20c.out.later (z7 (Below.refl _ _) (.cells #[.string t0,.string x0h,.string x0m,.bool x0d,.slice x0a x0l x0c] 47)))
  have Hu26c:Hid (yf (w2.alloc (.cells #[.string t0,.string x0h,.string x0m,.bool x0d,.slice x0a x0l x0c] 47)) (w2.heap.size) (.string t0) (.string x0h) (.string x0m) (.bool x0d) (.slice x0a x0l x0c)):=heap_alloc_new w2 _
  have HLO27c:Hid (w.heap.size≤w2.heap.size):=by have:=HB21c.out.size; show _≤_; exact this
  have HB28c:=za (z8 HB21c.out (z7 (Below.refl _ _) (.cells #[.string t0,.string x0h,.string x0m,.bool x0d,.slice x0a x0l x0c] 47)))
  have ⟨kx30c,ky31c,kp32c,kq33c⟩:=Hd24c.out.q11
  have ⟨kx35c,ky36c,kp37c,kq38c⟩:=Hr25c.out.q11
  have hu39c:=Hu26c.out
  have kf40c:=hu39c.free
  have kc41c:_=some (.string t0:Value):=hu39c.at_ 0
  have kc42c:_=some (.string x0h:Value):=hu39c.at_ 1
  have kc43c:_=some (.string x0m:Value):=hu39c.at_ 2
  have kc44c:_=some (.bool x0d:Value):=hu39c.at_ 3
  have kc45c:_=some (.slice x0a x0l x0c:Value):=hu39c.at_ 4
  clear hu39c
  go_wp2_with fail
  generalize w2.alloc (.cells #[.string t0,.string x0h,.string x0m,.bool x0d,.slice x0a x0l x0c] 47)=wg46c at *
  with_reducible refine (HU1.out wg46c HB28c.out).mono ?_
  rintro e w3 ⟨t1,x1,rfl,hyes1,hno1,hb⟩
  clear kx30c ky31c kp32c kq33c kx35c ky36c kp37c kq38c kf40c kc41c kc42c kc43c kc44c kc45c
  have Hd47c:=za (Hd24c.out.later hb)
  have Hr48c:=za (Hr25c.out.later hb)
  have Hu49c:=za (zh Hu26c.out hb)
  have HB50c:=za (z8 HB28c.out hb)
  clear hb
  obtain ⟨x1h,x1m,x1d,x1a,x1g,x1c⟩:=x1
  unfold zV
  dsimp only
  obtain ⟨x1l,hxl1⟩:∃ l,l=x1g.length:=⟨_,rfl⟩
  rw [← hxl1]
  have HXL1:=za hxl1
  have HYES1:=za hyes1
  clear hxl1 hyes1 hno1
  have HLT51c:=za (Hd47c.out.lt)
  have HLT52c:=za (Hr48c.out.lt)
  have HLT53c:=za (Hu49c.out.lt)
  have Hd54c:=za (Hd47c.out.later (z7 (Below.refl _ _) (.cells #[.string t1,.string x1h,.string x1m,.bool x1d,.slice x1a x1l x1c] 47)))
  have Hr55c:=za (Hr48c.out.later (z7 (Below.refl _ _) (.cells #[.string t1,.string x1h,.string x1m,.bool x1d,.slice x1a x1l x1c] 47)))
  have Hu56c:=za (zh Hu49c.out (z7 (Below.refl _ _) (.cells #[.string t1,.string x1h,.string x1m,.bool x1d,.slice x1a x1l x1c] 47)))
  have Ht57c:Hid (yf (w3.alloc (.cells #[.string t1,.string x1h,.string x1m,.bool x1d,.slice x1a x1l x1c] 47)) (w3.heap.size) (.string t1) (.string x1h) (.string x1m) (.bool x1d) (.slice x1a x1l x1c)):=heap_alloc_new w3 _
  have HLO58c:Hid (w.heap.size≤w3.heap.size):=by have:=HB50c.out.size; show _≤_; exact this
  have HB59c:=za (z8 HB50c.out (z7 (Below.refl _ _) (.cells #[.string t1,.string x1h,.string x1m,.bool x1d,.slice x1a x1l x1c] 47)))
  clear HYES0 HYES1 HXL0 HXL1
  have ⟨kx61c,ky62c,kp63c,kq64c⟩:=Hd54c.out.q11
  have ⟨kx66c,ky67c,kp68c,kq69c⟩:=Hr55c.out.q11
  have hu70c:=Hu56c.out
  have kf71c:=hu70c.free
  have kc72c:_=some (.string t0:Value):=hu70c.at_ 0
  have kc73c:_=some (.string x0h:Value):=hu70c.at_ 1
  have kc74c:_=some (.string x0m:Value):=hu70c.at_ 2
  have kc75c:_=some (.bool x0d:Value):=hu70c.at_ 3
  have kc76c:_=some (.slice x0a x0l x0c:Value):=hu70c.at_ 4
  clear hu70c
  have ht77c:=Ht57c.out
  have kf78c:=ht77c.free
  have kc79c:_=some (.string t1:Value):=ht77c.at_ 0
  have kc80c:_=some (.string x1h:Value):=ht77c.at_ 1
  have kc81c:_=some (.string x1m:Value):=ht77c.at_ 2
  have kc82c:_=some (.bool x1d:Value):=ht77c.at_ 3
  have kc83c:_=some (.slice x1a x1l x1c:Value):=ht77c.at_ 4
  clear ht77c
  have HS:=yt HB59c.out Hr55c.out HLO6c.out (.slice A n c) (.slice A1 n1 c1)
  have z0:=HS.1.c0
  have z1:=HS.1.c1
  have HPOST:=za (show yx E1 L' N w (.returned (.tuple #[.agg #[.slice A n c,.slice A1 n1 c1],.int .i64 E1])) _ from ⟨R,_,_,rfl,HRC.out.later HS.2.1,e2.symm,HNN.out.later HS.2.1,HS.2.1⟩)
  clear HS
  go_wp2
  refine bodyPost_ret (v:=.tuple #[.agg #[.slice A n c,.slice A1 n1 c1],.int .i64 E1]) ?_ rfl HPOST.out
  simp [results,Tryz.results72,go_sem,z0,z1]
 by_cases hE20:E2=0
 ·
  have Hd1d:=za (zr w (.slice A n c) (.slice A1 n1 c1))
  have HLO2d:Hid (w.heap.size≤w.heap.size):=Nat.le_refl _
  have HB3d:Hid (Below w.heap.size w (w.alloc (.cells #[.slice A n c,.slice A1 n1 c1] zn))):=z7 (Below.refl _ _) _
  have Hd4d:=za (Hd1d.out.later (z7 (Below.refl _ _) (.cells #[.slice none 0 0,.slice none 0 0] zn)))
  have Hr5d:Hid (yv ((w.alloc (.cells #[.slice A n c,.slice A1 n1 c1] zn)).alloc (.cells #[.slice none 0 0,.slice none 0 0] zn)) (w.heap.size+1) (.slice none 0 0) (.slice none 0 0)):=zi (by simp)
  have HLO6d:Hid (w.heap.size≤w.heap.size+1):=by have:=HB3d.out.size; show _≤_; simp at this; omega
  have HB7d:=za (z8 HB3d.out (z7 (Below.refl _ _) (.cells #[.slice none 0 0,.slice none 0 0] zn)))
  have e1:E=9:=by rw [HLF2.out,if_neg (fun h=>h.elim hE110 hE210),if_neg (fun h=>h hE10),if_pos hE20]
  have hz:¬ (9:Int)=0:=by decide
  subst hE10
  subst hE20
  have e2:L'=ze R:=by
   have:=HL2.out
   rw [e1,if_neg hz] at this
   exact this
  clear HL2 HLF2 HDR HPU hz
  replace e1:=e1.symm
  subst e1
  go_enter Tryz.func72,Tryz.ntmps72
  have ⟨kx9d,ky10d,kp11d,kq12d⟩:=Hd4d.out.q11
  have ⟨kx14d,ky15d,kp16d,kq17d⟩:=Hr5d.out.q11
  go_wp2_with fail
  generalize (w.alloc (.cells #[.slice A n c,.slice A1 n1 c1] zn)).alloc (.cells #[.slice none 0 0,.slice none 0 0] zn)=wg18d at *
  with_reducible refine (HU0.out wg18d HB7d.out).mono ?_
  rintro e w2 ⟨t0,x0,rfl,hyes0,hno0,hb⟩
  clear kx9d ky10d kp11d kq12d kx14d ky15d kp16d kq17d
  have Hd19d:=za (Hd4d.out.later hb)
  have Hr20d:=za (Hr5d.out.later hb)
  have HB21d:=za (z8 HB7d.out hb)
  clear hb
  obtain ⟨x0h,x0m,x0d,x0a,x0g,x0c⟩:=x0
  unfold zV
  dsimp only
  obtain ⟨x0l,hxl0⟩:∃ l,l=x0g.length:=⟨_,rfl⟩
  rw [← hxl0]
  have HXL0:=za hxl0
  have HYES0:=za hyes0
  clear hxl0 hyes0 hno0
  have HLT22d:=za (Hd19d.out.lt)
  have HLT23d:=za (Hr20d.out.lt)
  have Hd24d:=za (Hd19d.out.later (z7 (Below.refl _ _) (.cells #[.string t0,.string x0h,.string x0m,.bool x0d,.slice x0a x0l x0c] 47)))
  have Hr25d:=za (Hr20d.out.later (z7 (Below.refl _ _) (.cells #[.string t0,.string x0h,.string x0m,.bool x0d,.slice x0a x0l x0c] 47)))
  have Hu26d:Hid (yf (w2.alloc (.cells #[.string t0,.string x0h,.string x0m,.bool x0d,.slice x0a x0l x0c] 47)) (w2.heap.size) (.string t0) (.string x0h) (.string x0m) (.bool x0d) (.slice x0a x0l x0c)):=heap_alloc_new w2 _
  have HLO27d:Hid (w.heap.size≤w2.heap.size):=by have:=HB21d.out.size; show _≤_; exact this
  have HB28d:=za (z8 HB21d.out (z7 (Below.refl _ _) (.cells #[.string t0,.string x0h,.string x0m,.bool x0d,.slice x0a x0l x0c] 47)))
  have ⟨kx30d,ky31d,kp32d,kq33d⟩:=Hd24d.out.q11
  have ⟨kx35d,ky36d,kp37d,kq38d⟩:=Hr25d.out.q11
  have hu39d:=Hu26d.out
  have kf40d:=hu39d.free
  have kc41d:_=some (.string t0:Value):=hu39d.at_ 0
  have kc42d:_=some (.string x0h:Value):=hu39d.at_ 1
  have kc43d:_=some (.string x0m:Value):=hu39d.at_ 2
  have kc44d:_=some (.bool x0d:Value):=hu39d.at_ 3
  have kc45d:_=some (.slice x0a x0l x0c:Value):=hu39d.at_ 4
  clear hu39d
  go_wp2_with fail
  generalize w2.alloc (.cells #[.string t0,.string x0h,.string x0m,.bool x0d,.slice x0a x0l x0c] 47)=wg46d at *
  with_reducible refine (HU1.out wg46d HB28d.out).mono ?_
  rintro e w3 ⟨t1,x1,rfl,hyes1,hno1,hb⟩
  clear kx30d ky31d kp32d kq33d kx35d ky36d kp37d kq38d kf40d kc41d kc42d kc43d kc44d kc45d
  have Hd47d:=za (Hd24d.out.later hb)
  have Hr48d:=za (Hr25d.out.later hb)
  have Hu49d:=za (zh Hu26d.out hb)
  have HB50d:=za (z8 HB28d.out hb)
  clear hb
  obtain ⟨x1h,x1m,x1d,x1a,x1g,x1c⟩:=x1
  unfold zV
  dsimp only
  obtain ⟨x1l,hxl1⟩:∃ l,l=x1g.length:=⟨_,rfl⟩
  rw [← hxl1]
  have HXL1:=za hxl1
  have HYES1:=za hyes1
  clear hxl1 hyes1 hno1
  have HLT51d:=za (Hd47d.out.lt)
  have HLT52d:=za (Hr48d.out.lt)
  have HLT53d:=za (Hu49d.out.lt)
  have Hd54d:=za (Hd47d.out.later (z7 (Below.refl _ _) (.cells #[.string t1,.string x1h,.string x1m,.bool x1d,.slice x1a x1l x1c] 47)))
  have Hr55d:=za (Hr48d.out.later (z7 (Below.refl _ _) (.cells #[.string t1,.string x1h,.string x1m,.bool x1d,.slice x1a x1l x1c] 47)))
  have Hu56d:=za (zh Hu49d.out (z7 (Below.refl _ _) (.cells #[.string t1,.string x1h,.string x1m,.bool x1d,.slice x1a x1l x1c] 47)))
  have Ht57d:Hid (yf (w3.alloc (.cells #[.string t1,.string x1h,.string x1m,.bool x1d,.slice x1a x1l x1c] 47)) (w3.heap.size) (.string t1) (.string x1h) (.string x1m) (.bool x1d) (.slice x1a x1l x1c)):=heap_alloc_new w3 _
  have HLO58d:Hid (w.heap.size≤w3.heap.size):=by have:=HB50d.out.size; show _≤_; exact this
  have HB59d:=za (z8 HB50d.out (z7 (Below.refl _ _) (.cells #[.string t1,.string x1h,.string x1m,.bool x1d,.slice x1a x1l x1c] 47)))
  clear HYES0 HYES1 HXL0 HXL1
  have ⟨kx61d,ky62d,kp63d,kq64d⟩:=Hd54d.out.q11
  have ⟨kx66d,ky67d,kp68d,kq69d⟩:=Hr55d.out.q11
  have hu70d:=Hu56d.out
  have kf71d:=hu70d.free
  have kc72d:_=some (.string t0:Value):=hu70d.at_ 0
  have kc73d:_=some (.string x0h:Value):=hu70d.at_ 1
  have kc74d:_=some (.string x0m:Value):=hu70d.at_ 2
  have kc75d:_=some (.bool x0d:Value):=hu70d.at_ 3
  have kc76d:_=some (.slice x0a x0l x0c:Value):=hu70d.at_ 4
  clear hu70d
  have ht77d:=Ht57d.out
  have kf78d:=ht77d.free
  have kc79d:_=some (.string t1:Value):=ht77d.at_ 0
  have kc80d:_=some (.string x1h:Value):=ht77d.at_ 1
  have kc81d:_=some (.string x1m:Value):=ht77d.at_ 2
  have kc82d:_=some (.bool x1d:Value):=ht77d.at_ 3
  have kc83d:_=some (.slice x1a x1l x1c:Value):=ht77d.at_ 4
  clear ht77d
  have HS:=yt HB59d.out Hr55d.out HLO6d.out (.slice A n c) (.slice A1 n1 c1)
  have z0:=HS.1.c0
  have z1:=HS.1.c1
  have HPOST:=za (show yx 9 L' N w (.returned (.tuple #[.agg #[.slice A n c,.slice A1 n1 c1],.int .i64 9])) _ from ⟨R,_,_,rfl,HRC.out.later HS.2.1,e2.symm,HNN.out.later HS.2.1,HS.2.1⟩)
  clear HS
  go_wp2
  refine bodyPost_ret (v:=.tuple #[.agg #[.slice A n c,.slice A1 n1 c1],.int .i64 9]) ?_ rfl HPOST.out
  simp [results,Tryz.results72,go_sem,z0,z1]
 have Hd1e:=za (zr w (.slice A n c) (.slice A1 n1 c1))
 have HLO2e:Hid (w.heap.size≤w.heap.size):=Nat.le_refl _
 have HB3e:Hid (Below w.heap.size w (w.alloc (.cells #[.slice A n c,.slice A1 n1 c1] zn))):=z7 (Below.refl _ _) _
 have Hd4e:=za (Hd1e.out.later (z7 (Below.refl _ _) (.cells #[.slice none 0 0,.slice none 0 0] zn)))
 have Hr5e:Hid (yv ((w.alloc (.cells #[.slice A n c,.slice A1 n1 c1] zn)).alloc (.cells #[.slice none 0 0,.slice none 0 0] zn)) (w.heap.size+1) (.slice none 0 0) (.slice none 0 0)):=zi (by simp)
 have HLO6e:Hid (w.heap.size≤w.heap.size+1):=by have:=HB3e.out.size; show _≤_; simp at this; omega
 have HB7e:=za (z8 HB3e.out (z7 (Below.refl _ _) (.cells #[.slice none 0 0,.slice none 0 0] zn)))
 have e1:E=0:=by rw [HLF2.out,if_neg (fun h=>h.elim hE110 hE210),if_neg (fun h=>h hE10),if_neg hE20]
 have e2:=HL2.out
 rw [e1,if_pos rfl] at e2
 have HE2:=za e2
 clear HL2 HLF2 e2
 subst e1
 subst hE10
 have qE210:(E2 == 10)=false:=by simpa using hE210
 have pE210:(E2 != 10)=true:=by simpa using hE210
 have oE210:decide (E2=10)=false:=by simpa using hE210
 have qE20:(E2 == 0)=false:=by simpa using hE20
 have pE20:(E2 != 0)=true:=by simpa using hE20
 have oE20:decide (E2=0)=false:=by simpa using hE20
 go_enter Tryz.func72,Tryz.ntmps72
 have ⟨kx9e,ky10e,kp11e,kq12e⟩:=Hd4e.out.q11
 have ⟨kx14e,ky15e,kp16e,kq17e⟩:=Hr5e.out.q11
 go_wp2_with fail
 generalize (w.alloc (.cells #[.slice A n c,.slice A1 n1 c1] zn)).alloc (.cells #[.slice none 0 0,.slice none 0 0] zn)=wg18e at *
 with_reducible refine (HU0.out wg18e HB7e.out).mono ?_
 rintro e w2 ⟨t0,x0,rfl,hyes0,hno0,hb⟩
 clear kx9e ky10e kp11e kq12e kx14e ky15e kp16e kq17e
 have Hd19e:=za (Hd4e.out.later hb)
 have Hr20e:=za (Hr5e.out.later hb)
 have HB21e:=za (z8 HB7e.out hb)
 clear hb
 obtain ⟨x0h,x0m,x0d,x0a,x0g,x0c⟩:=x0
 unfold zV
 dsimp only
 obtain ⟨x0l,hxl0⟩:∃ l,l=x0g.length:=⟨_,rfl⟩
 rw [← hxl0]
 have HXL0:=za hxl0
 have HYES0:=za hyes0
 clear hxl0 hyes0 hno0
 have HLT22e:=za (Hd19e.out.lt)
 have HLT23e:=za (Hr20e.out.lt)
 have Hd24e:=za (Hd19e.out.later (z7 (Below.refl _ _) (.cells #[.string t0,.string x0h,.string x0m,.bool x0d,.slice x0a x0l x0c] 47)))
 have Hr25e:=za (Hr20e.out.later (z7 (Below.refl _ _) (.cells #[.string t0,.string x0h,.string x0m,.bool x0d,.slice x0a x0l x0c] 47)))
 have Hu26e:Hid (yf (w2.alloc (.cells #[.string t0,.string x0h,.string x0m,.bool x0d,.slice x0a x0l x0c] 47)) (w2.heap.size) (.string t0) (.string x0h) (.string x0m) (.bool x0d) (.slice x0a x0l x0c)):=heap_alloc_new w2 _
 have HLO27e:Hid (w.heap.size≤w2.heap.size):=by have:=HB21e.out.size; show _≤_; exact this
 have HB28e:=za (z8 HB21e.out (z7 (Below.refl _ _) (.cells #[.string t0,.string x0h,.string x0m,.bool x0d,.slice x0a x0l x0c] 47)))
 obtain ⟨ht0,hx0⟩:=HYES0.out (by first | rfl | trivial)
 subst ht0
 have HX0:=za hx0
 clear hx0 HYES0
 have ⟨kx30e,ky31e,kp32e,kq33e⟩:=Hd24e.out.q11
 have ⟨kx35e,ky36e,kp37e,kq38e⟩:=Hr25e.out.q11
 have hu39e:=Hu26e.out
 have kf40e:=hu39e.free
 have kc41e:_=some (.string t0:Value):=hu39e.at_ 0
 have kc42e:_=some (.string x0h:Value):=hu39e.at_ 1
 have kc43e:_=some (.string x0m:Value):=hu39e.at_ 2
 have kc44e:_=some (.bool x0d:Value):=hu39e.at_ 3
 have kc45e:_=some (.slice x0a x0l x0c:Value):=hu39e.at_ 4
 clear hu39e
 go_wp2_with fail
 generalize w2.alloc (.cells #[.string t0,.string x0h,.string x0m,.bool x0d,.slice x0a x0l x0c] 47)=wg46e at *
 with_reducible refine (HU1.out wg46e HB28e.out).mono ?_
 rintro e w3 ⟨t1,x1,rfl,hyes1,hno1,hb⟩
 clear kx30e ky31e kp32e kq33e kx35e ky36e kp37e kq38e kf40e kc41e kc42e kc43e kc44e kc45e
 have Hd47e:=za (Hd24e.out.later hb)
 have Hr48e:=za (Hr25e.out.later hb)
 have Hu49e:=za (zh Hu26e.out hb)
 have HB50e:=za (z8 HB28e.out hb)
 clear hb
 obtain ⟨x1h,x1m,x1d,x1a,x1g,x1c⟩:=x1
 unfold zV
 dsimp only
 obtain ⟨x1l,hxl1⟩:∃ l,l=x1g.length:=⟨_,rfl⟩
 rw [← hxl1]
 have HXL1:=za hxl1
 have HYES1:=za hyes1
 clear hxl1 hyes1 hno1
 have HLT51e:=za (Hd47e.out.lt)
 have HLT52e:=za (Hr48e.out.lt)
 have HLT53e:=za (Hu49e.out.lt)
 have Hd54e:=za (Hd47e.out.later (z7 (Below.refl _ _) (.cells #[.string t1,.string x1h,.string x1m,.bool x1d,.slice x1a x1l x1c] 47)))
 have Hr55e:=za (Hr48e.out.later (z7 (Below.refl _ _) (.cells #[.string t1,.string x1h,.string x1m,.bool x1d,.slice x1a x1l x1c] 47)))
 have Hu56e:=za (zh Hu49e.out (z7 (Below.refl _ _) (.cells #[.string t1,.string x1h,.string x1m,.bool x1d,.slice x1a x1l x1c] 47)))
 have Ht57e:Hid (yf (w3.alloc (.cells #[.string t1,.string x1h,.string x1m,.bool x1d,.slice x1a x1l x1c] 47)) (w3.heap.size) (.string t1) (.string x1h) (.string x1m) (.bool x1d) (.slice x1a x1l x1c)):=heap_alloc_new w3 _
 have HLO58e:Hid (w.heap.size≤w3.heap.size):=by have:=HB50e.out.size; show _≤_; exact this
 have HB59e:=za (z8 HB50e.out (z7 (Below.refl _ _) (.cells #[.string t1,.string x1h,.string x1m,.bool x1d,.slice x1a x1l x1c] 47)))
 clear HYES1 HXL1
 have ⟨kx61e,ky62e,kp63e,kq64e⟩:=Hd54e.out.q11
 have ⟨kx66e,ky67e,kp68e,kq69e⟩:=Hr55e.out.q11
 have hu70e:=Hu56e.out
 have kf71e:=hu70e.free
 have kc72e:_=some (.string t0:Value):=hu70e.at_ 0
 have kc73e:_=some (.string x0h:Value):=hu70e.at_ 1
 have kc74e:_=some (.string x0m:Value):=hu70e.at_ 2
 have kc75e:_=some (.bool x0d:Value):=hu70e.at_ 3
 have kc76e:_=some (.slice x0a x0l x0c:Value):=hu70e.at_ 4
 clear hu70e
 have ht77e:=Ht57e.out
 have kf78e:=ht77e.free
 have kc79e:_=some (.string t1:Value):=ht77e.at_ 0
 have kc80e:_=some (.string x1h:Value):=ht77e.at_ 1
 have kc81e:_=some (.string x1m:Value):=ht77e.at_ 2
 have kc82e:_=some (.bool x1d:Value):=ht77e.at_ 3
 have kc83e:_=some (.slice x1a x1l x1c:Value):=ht77e.at_ 4
 clear ht77e
 have Hd84e:=za (Hd54e.out.other (c:=w2.heap.size) (i:=0) (by have:=HLT22e.out; omega) (.string s))
 have Hr85e:=za (Hr55e.out.other (c:=w2.heap.size) (i:=0) (by have:=HLT23e.out; omega) (.string s))
 have Hu86e:=za (Hu56e.out.put011 (.string s))
 have Ht87e:=za (Ht57e.out.other (C:=w2.heap.size) (j:=0) (by have:=HLT53e.out; omega) (.string s))
 have HB88e:=za (HB59e.out.setCell (p:=⟨w2.heap.size,0,none⟩) HLO27e.out (.string s))
 have ⟨kx90e,ky91e,kp92e,kq93e⟩:=Hd84e.out.q11
 have ⟨kx95e,ky96e,kp97e,kq98e⟩:=Hr85e.out.q11
 have hu99e:=Hu86e.out
 have kf100e:=hu99e.free
 have kc101e:_=some (.string s:Value):=hu99e.at_ 0
 have kc102e:_=some (.string x0h:Value):=hu99e.at_ 1
 have kc103e:_=some (.string x0m:Value):=hu99e.at_ 2
 have kc104e:_=some (.bool x0d:Value):=hu99e.at_ 3
 have kc105e:_=some (.slice x0a x0l x0c:Value):=hu99e.at_ 4
 clear hu99e
 have ht106e:=Ht87e.out
 have kf107e:=ht106e.free
 have kc108e:_=some (.string t1:Value):=ht106e.at_ 0
 have kc109e:_=some (.string x1h:Value):=ht106e.at_ 1
 have kc110e:_=some (.string x1m:Value):=ht106e.at_ 2
 have kc111e:_=some (.bool x1d:Value):=ht106e.at_ 3
 have kc112e:_=some (.slice x1a x1l x1c:Value):=ht106e.at_ 4
 clear ht106e
 go_wp2_with fail
 generalize (w3.alloc (.cells #[.string t1,.string x1h,.string x1m,.bool x1d,.slice x1a x1l x1c] 47)).setCell ⟨w2.heap.size,0,none⟩ (.string s)=wg113e at *
 clear kx61e ky62e kp63e kq64e kx66e ky67e kp68e kq69e kf71e kc72e kc73e kc74e kc75e kc76e kf78e kc79e kc80e kc81e kc82e kc83e kx90e ky91e kp92e kq93e kx95e ky96e kp97e kq98e kf100e kc101e kc102e kc103e kc104e kc105e kf107e kc108e kc109e kc110e kc111e kc112e
 have HPU2:Hid (∀ v W,vP (yu R t0.data.toList) W v→Calls Tryz.prog 150 #[v,.agg #[.string s,.string x0h,.string x0m,.bool x0d,.slice x0a x0l x0c]] W fun e w'=>∃ v,e=.returned v∧vP (zP (yu R t0.data.toList) s.data.toList ⟨x0h,x0m,x0d,x0a,x0g,x0c⟩) w' v∧Below W.heap.size W w'):=fun v W hv=>by
  have:=HPU.out ⟨x0h,x0m,x0d,x0a,x0g,x0c⟩ v W hv
  unfold zV at this
  dsimp only at this
  rw [← HXL0.out] at this
  exact this
 clear HPU
 refine yI (by kernel_rfl) 7 (fun W=>Below wg113e.heap.size wg113e W) (fun W=>Rnd11 w (w.heap.size) (w.heap.size+1) (zP (yu R t0.data.toList) s.data.toList ⟨x0h,x0m,x0d,x0a,x0g,x0c⟩) (.slice A1 n1 c1) wg113e W) (YRd11 (w.heap.size) R t0 s (.slice A n c) (.agg #[.string s,.string x0h,.string x0m,.bool x0d,.slice x0a x0l x0c]) ⟨x0h,x0m,x0d,x0a,x0g,x0c⟩) (fun _=>True) ?F ?hF (by kernel_rfl) (by kernel_rfl) (by kernel_rfl) (by kernel_rfl) (by decide) (zZ (Below.refl _ _)) ?step ?fin
 case hF =>
   intro x
   simp only [List.map_cons,List.map_nil,vH,Act.put,List.setIfInBounds_toArray,List.set_cons_zero,List.set_cons_succ,Nat.zero_add,Nat.reduceAdd]
   exact rfl
 case step =>
  refine ⟨?_,?_,?_,?_,?_,?_,?_,?_,trivial⟩
  ·
   intro x W
   refine ⟨fun _ hW hdep K hK=>?_,(fun h=>absurd h (by decide)),(fun h=>absurd h (by decide))⟩
   clear hdep
   go_simp
   exact hK _ _ rfl hW (fun _ _ h=>h)
  ·
   intro x W
   refine ⟨fun _ hW hdep K hK=>?_,(fun h=>absurd h (by decide)),(fun h=>absurd h (by decide))⟩
   have h0:x 0=_:=hdep 0 rfl
   have hx:=Hd84e.out.later hW
   have c0:=hx.c0
   clear hdep
   simp only [h0] at hK
   go_simp
   exact hK _ _ rfl hW (fun _ _ h=>h)
  ·
   intro x W
   refine ⟨fun _ hW hdep K hK=>?_,(fun h=>absurd h (by decide)),(fun h=>absurd h (by decide))⟩
   clear hdep
   go_simp
   exact hK _ _ rfl hW (fun _ _ h=>h)
  ·
   intro x W
   refine ⟨fun _ hW hdep K hK=>?_,(fun h=>absurd h (by decide)),(fun h=>absurd h (by decide))⟩
   have h1:x 1=_:=hdep 1 rfl
   have h2:x 2=_:=hdep 2 rfl
   have hc:=HDR.out W (z8 HB88e.out hW)
   clear hdep
   simp only [h1,h2] at hK
   go_simp
   refine hc.mono ?_
   rintro e W' ⟨v',rfl,hv,hb⟩
   exact hK _ _ hv (z8 hW hb) (fun j u h=>VZ hb j u h)
  ·
   intro x W
   refine ⟨fun _ hW hdep K hK=>?_,(fun h=>absurd h (by decide)),(fun h=>absurd h (by decide))⟩
   have hu:=zh Hu86e.out hW
   have kc0:_=some (.string s:Value):=hu.at_ 0
   have kc1:_=some (.string x0h:Value):=hu.at_ 1
   have kc2:_=some (.string x0m:Value):=hu.at_ 2
   have kc3:_=some (.bool x0d:Value):=hu.at_ 3
   have kc4:_=some (.slice x0a x0l x0c:Value):=hu.at_ 4
   clear hu
   clear hdep
   go_simp
   exact hK _ _ rfl hW (fun _ _ h=>h)
  ·
   intro x W
   refine ⟨fun _ hW hdep K hK=>?_,(fun h=>absurd h (by decide)),(fun h=>absurd h (by decide))⟩
   have h4:x 4=_:=hdep 4 rfl
   have hA:vP (yu R t0.data.toList) W (x 3):=hdep 3 rfl
   have hc:=HPU2.out _ W hA
   clear hdep
   simp only [h4] at hK
   go_simp
   refine hc.mono ?_
   rintro e W' ⟨v',rfl,hv,hb⟩
   exact hK _ _ hv (z8 hW hb) (fun j u h=>VZ hb j u h)
  ·
   intro x W
   refine ⟨fun _ hW hdep K hK=>?_,(fun h=>absurd h (by decide)),(fun h=>absurd h (by decide))⟩
   clear hdep
   go_simp
   exact hK _ _ rfl hW (fun _ _ h=>h)
  ·
   intro x W
   refine ⟨(fun h=>absurd h (by decide)),fun _ hW hdep K hK=>?_,(fun h=>absurd h (by decide))⟩
   have h6:x 6=_:=hdep 6 rfl
   have hA:vP (zP (yu R t0.data.toList) s.data.toList ⟨x0h,x0m,x0d,x0a,x0g,x0c⟩) W (x 5):=hdep 5 rfl
   have hx:=Hd84e.out.later hW
   have hr:=Hr85e.out.later hW
   have f0:=hx.f0
   have k0:=hx.c0
   have hq:Rnd11 w (w.heap.size) (w.heap.size+1) (zP (yu R t0.data.toList) s.data.toList ⟨x0h,x0m,x0d,x0a,x0g,x0c⟩) (.slice A1 n1 c1) wg113e (W.setCell ⟨w.heap.size,0,none⟩ (x 5)):=⟨_,hx.set0 _,hr.other (by omega) _,hA.keepD11 (hx.keep 0 _),(z8 HB88e.out hW).setCell (p:=⟨w.heap.size,0,none⟩) (Nat.le_refl _) _,fun v N hn=>(hn.later hW).keepD11 (hx.keep 0 _)⟩
   have h1c:(x 5).oneCell'=true:=by obtain ⟨_,_,e⟩:=hA.us.shape; rw [e]; rfl
   generalize x 5=v5 at *
   obtain ⟨A5,c5,rfl⟩:=hA.us.shape
   clear hA hx hr
   clear hdep
   simp only [h6] at hK
   go_simp
   exact hK undef _ trivial hq
 case fin =>
  intro x W hW _
  obtain ⟨v6,hx,hr,hv,hb,hN⟩:=hW
  obtain ⟨A6,c6,rfl⟩:=hv.us.shape
  have HD6:=za hx
  have HR6:=za hr
  have HB6:=za hb
  have HV6:=za hv
  have HG5:Hid (qI 0 W (zP (yu R t0.data.toList) s.data.toList ⟨x0h,x0m,x0d,x0a,x0g,x0c⟩)):=((HRC.out.later hb).2.del _).put _ _ ((HRC.out.later hb).2 (t0.data.toList,⟨x0h,x0m,x0d,x0a,x0g,x0c⟩) ((zH HRI.out).1 HX0.out))
  have HPL:Hid (ze (zP (yu R t0.data.toList) s.data.toList ⟨x0h,x0m,x0d,x0a,x0g,x0c⟩)=L'):=by
   show _=_
   rw [HE2.out,xS,VB,xr,HX0.out]
   rfl
  obtain ⟨n6,hn6⟩:∃ m,m=(zP (yu R t0.data.toList) s.data.toList (⟨x0h,x0m,x0d,x0a,x0g,x0c⟩:W11)).length:=⟨_,rfl⟩
  rw [← hn6] at HV6 HD6
  clear hx hr hv hb hN hn6 HE2 HDR HPU2
  have hd114e:=HD6.out
  have kx115e:=hd114e.c0
  have ky116e:=hd114e.c1
  have kp117e:=hd114e.f0
  have kq118e:=hd114e.f1
  clear hd114e
  have hr119e:=HR6.out
  have kx120e:=hr119e.c0
  have ky121e:=hr119e.c1
  have kp122e:=hr119e.f0
  have kq123e:=hr119e.f1
  clear hr119e
  have HS:=yt HB6.out HR6.out (Nat.le_succ _) (.slice A6 n6 c6) (.slice A1 n1 c1)
  have z0:=HS.1.c0
  have z1:=HS.1.c1
  have HPOST:=za (show yx 0 L' N w (.returned (.tuple #[.agg #[.slice A6 n6 c6,.slice A1 n1 c1],.int .i64 0])) _ from ⟨_,_,_,rfl,⟨HV6.out.keepD11 HS.2.2,HG5.out.keepD11 HS.2.2⟩,HPL.out,HNN.out.later HS.2.1,HS.2.1⟩)
  clear HS
  go_wp2
  refine bodyPost_ret (v:=.tuple #[.agg #[.slice A6 n6 c6,.slice A1 n1 c1],.int .i64 0]) ?_ rfl HPOST.out
  simp [results,Tryz.results72,go_sem,z0,z1]
end Go.Proofs.YthmomkjingcbiaaGreatDoor
