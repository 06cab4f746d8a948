/-
  The texts that the laws of this seat share, part 9: what the code and the document's own answers tell, walked function by function.
  Conditions: each theorem's own.
-/
import Derived.Test.YthmomkjingcbiaaGreatDoorMigGBH
set_option maxHeartbeats 16000000
namespace Go.Proofs.YthmomkjingcbiaaGreatDoor
open Go.RowKit Go.Maps



def tell12 (st:St):Us:=if (fa 2 st).1.e=0 then (fa 2 st).2 else zeroU
def Vt:Nat→St→St×List Us
 | 0,st=>(st,[])
 | k+1,st=>((Vt k (fa 2 st).1).1,tell12 st::(Vt k (fa 2 st).1).2)
def FQ (st:St):St:=if (yi st 1).2=2 then (yi st 1).1 else yr (yi st 1).1 6
def Fi (st:St):St×Nat:=if 12<(yi st 2).2 then (yr (yi st 2).1 7,0) else yi st 2
def code12 (G:List ByteArray) (r:St×List Us):Int×List Us×List ByteArray :=
 if r.1.e≠0 then (r.1.e,[],[]) else if vJ r.2 G≠0 then (vJ r.2 G,[],[]) else if Jc r.1≠0 then (Jc r.1,[],[]) else (0,r.2,G)
def tail12 (g:St×List ByteArray):Int×List Us×List ByteArray:=code12 g.2 (Vt (Fi g.1).2 (Fi g.1).1)
def read12 (bs:List UInt8):Int×List Us×List ByteArray:=tail12 (rowS (FQ ⟨bs,0⟩) 6 12)
def Jb (l:List Us) (G:List ByteArray):List UInt8:=le 2 1++(Uw G++(le l.length 2++l.flatMap (qY 2)))


/-! ### What was read is what is written -/

/-! ### What is written is read -/
structure May12 (l:List Us) (G:List ByteArray):Prop where
 of:vJ l G=0
 all:∀ u∈l,yM 2 u=0
 few:l.length≤12
 names:zM G=true
 rise:zA G=true
 gfew:G.length≤6
theorem may12 {l:List Us} {G:List ByteArray} (h:vJ l G=0):May12 l G:=by
 have hc:J2 l G=0:=by
  by_cases hc:J2 l G=0
  ·
   exact hc
  ·
   have:=(cE_of (l:=l) (G:=G)).1 hc
   rw [h] at this
   exact absurd this.symm hc
 obtain ⟨h1,_,h3,h4,h5,h6⟩:=X2 hc
 exact ⟨h,h1,h3,h4,h5,h6⟩
theorem May12.sizes {l:List Us} {G:List ByteArray} (h:May12 l G):∀ g∈G,g.size≤12:=fun g hg=>uB (by
 have:=List.all_eq_true.1 h.names g hg
 exact this)
theorem Y4 (l:List Us) (G:List ByteArray):Jb (l.map yl) G=Jb l G:=by
 unfold Jb
 rw [List.length_map,List.flatMap_map]
 rfl

/-! ### How long -/
theorem vc {n:Nat}:∀ {ss:List ByteArray},(∀ s∈ss,s.size≤n)→(ye ss).length≤(n+2) * ss.length
 | [],_=>by simp [ye]
 | s::ss,h=>by
  have h1:=h s (List.mem_cons_self ..)
  have h2:=vc (n:=n) (ss:=ss) (fun x hx=>h x (List.mem_cons_of_mem _ hx))
  show (yj s++ye ss).length≤_
  rw [List.length_append,yV,List.length_cons,Nat.mul_succ]
  omega
theorem Za {u:Us} (h:yM 2 u=0):(qY 2 u).length≤137:=by
 obtain ⟨hl,_⟩:=qv h
 have h1:=hl.nm
 have h2:=hl.hs
 have h3:=hl.ml
 have h4:=vc hl.all
 have h5:=hl.len
 show (yj u.nm++yj u.hs++(yj u.ml++le u.dis.toNat 1++(le u.gs.length 2++ye u.gs))).length≤137
 simp only [List.length_append,yV,zZ]
 omega
theorem uc:∀ {l:List Us},(∀ u∈l,yM 2 u=0)→(l.flatMap (qY 2)).length≤137 * l.length
 | [],_=>Nat.le_refl _
 | q::l,h=>by
  have h1:=Za (h q (List.mem_cons_self ..))
  have h2:=uc (l:=l) (fun x hx=>h x (List.mem_cons_of_mem _ hx))
  rw [List.flatMap_cons,List.length_append,List.length_cons]
  omega

/-! ### The document's way -/

/-! ### A directory's rows -/
def xK (p:List UInt8×U11):Us:=⟨zY p.1,zY p.2.hs,zY p.2.ml,p.2.dis,none,p.2.gs.map zY,0⟩
theorem Fk (N:List (List UInt8)):xX (N.map zY)=N:=by
 unfold xX
 rw [List.map_map]
 conv=>rhs; rw [← List.map_id N]
 exact List.map_congr_left fun x _=>zU x
theorem Jj (G:List ByteArray):(xX G).map zY=G:=by
 unfold xX
 rw [List.map_map]
 conv=>rhs; rw [← List.map_id G]
 exact List.map_congr_left fun x _=>ue x
theorem Zy (l:List Us):(vH l).map xK=l.map yl:=by
 unfold vH
 rw [List.map_map]
 refine List.map_congr_left fun u _=>?_
 show (⟨zY u.nm.data.toList,zY u.hs.data.toList,zY u.ml.data.toList,u.dis,none,(xX u.gs).map zY,0⟩:Us)=yl u
 rw [ue,ue,ue,Jj]
 rfl
def Y3 (T:xI) (N:List (List UInt8)):List UInt8:=Jb (T.map xK) (N.map zY)
theorem JW (l:List Us) (G:List ByteArray):Y3 (vH l) (xX G)=Jb l G:=by
 unfold Y3
 rw [Zy,Jj,Y4]
theorem je:∀ {ss:List ByteArray},(ss.Pairwise fun a b=>bytesBefore a.data.toList b.data.toList=true)→zA ss=true
 | [],_=>rfl
 | [_],_=>rfl
 | a::b::r,h=>by
  obtain ⟨h1,h2⟩:=List.pairwise_cons.1 h
  unfold zA
  rw [je h2,Bool.and_true]
  unfold yg
  rw [xY]
  exact h1 b (List.mem_cons_self ..)
theorem jd {N:List (List UInt8)} (h:vl N):zA (N.map zY)=true:=by
 refine je (List.pairwise_map.2 (List.Pairwise.imp (fun {a b} hab=>?_) h))
 rw [zU,zU]
 exact hab
theorem fG {N:List (List UInt8)} (h:∀ n∈N,zf n=true):zM (N.map zY)=true:=by
 unfold zM
 rw [List.all_eq_true]
 intro g hg
 obtain ⟨n,hn,rfl⟩:=List.mem_map.1 hg
 rw [zU]
 exact h n hn
section
variable {A:zt} {L:zg} {S:zj} {k:Nat}
theorem U1 (h:zs A L S k) (n:List UInt8):uO (zY (yF L n))=true:=by
 unfold uO
 rw [Bool.or_eq_true,Bool.and_eq_true,decide_eq_true_eq,decide_eq_true_eq,zU,ud]
 cases hh:yb L n with
 | false=>exact .inl (by rw [yC hh]; rfl)
 | true =>
  obtain ⟨_,h2,h3⟩:=h.all _ (xz hh)
  refine .inr ⟨h2,?_⟩
  unfold jj
  rw [if_pos h2]
  show zY (zD (yF L n))=_
  rw [h3]
theorem QM (h:zs A L S k) (p:List UInt8×(List UInt8×Bool)) (hp:p∈A):yM 2 (xK (p.1,xl L S p.1 p.2))=0:=by
 obtain ⟨h1,h2⟩:=h.nm p hp
 have h3:=U1 h p.1
 have h4:((yX S p.1).map zY).length≤6:=by rw [List.length_map]; exact Nat.le_trans (JG S p.1) h.grp.few
 have h5:zM ((yX S p.1).map zY)=true:=fG fun g hg=>by
  obtain ⟨q,hq,rfl⟩:=List.mem_map.1 (jX hg)
  exact h.grp.named q hq
 have h6:zA ((yX S p.1).map zY)=true:=jd (uj h.grp.rise p.1)
 unfold yM
 dsimp only
 rw [if_neg (by decide)]
 show zu [zu [ze (jk 2) 6,ze (zf (zY p.1).data.toList) 10,ze (zL (zY p.2.1).data.toList) 4],ze (uO (zY (yF L p.1))) 11,ze (decide (((yX S p.1).map zY).length≤6)) 7,ze (zM ((yX S p.1).map zY)) 10,ze (zA ((yX S p.1).map zY)) 9]=0
 rw [zU,zU,h1,h2,h3,h5,h6,decide_eq_true h4]
 rfl
theorem qC (A:zt) (L:zg) (S:zj):(zm A L S).map xK=A.map fun p=>xK (p.1,xl L S p.1 p.2):=by
 unfold zm
 rw [List.map_map]
 rfl
theorem ji:∀ {l:List Us},(∀ u∈l,yM 2 u=0)→yO l=0
 | [],_=>rfl
 | u::l,h=>by
  unfold yO
  rw [if_pos (h u (List.mem_cons_self ..))]
  exact ji fun x hx=>h x (List.mem_cons_of_mem _ hx)
theorem qd (G:List ByteArray):∀ (l pre:List Us),(∀ u∈l,u.gs.all (fun g=>fO (xX G) g.data.toList)=true)→(pre++l).Pairwise (fun u v=>u.ml.data.toList≠[]→v.ml.data.toList≠u.ml.data.toList)→yk G pre l=0
 | [],_,_,_=>rfl
 | u::l,pre,h1,h2=>by
  obtain ⟨_,_,p3⟩:=List.pairwise_append.1 h2
  have h0:yN G pre u=0:=by
   unfold yN
   rw [if_pos (h1 u (List.mem_cons_self ..)),if_neg]
   rw [Bool.not_eq_true,List.any_eq_false]
   intro v hv hc
   rw [Bool.and_eq_true,Bool.not_eq_true',beq_eq_false_iff_ne,beq_iff_eq] at hc
   exact p3 v hv u (List.mem_cons_self ..) (by rw [← hc.2]; exact hc.1) hc.2
  show (if yN G pre u=0 then yk G (pre++[u]) l else yN G pre u)=0
  rw [if_pos h0]
  exact qd G l (pre++[u]) (fun x hx=>h1 x (List.mem_cons_of_mem _ hx)) (by rw [List.append_assoc]; exact h2)
theorem JS (h:zs A L S k):vJ ((zm A L S).map xK) ((zb S).map zY)=0:=by
 have h1:yO ((zm A L S).map xK)=0:=ji fun u hu=>by
  rw [qC] at hu
  obtain ⟨p,hp,rfl⟩:=List.mem_map.1 hu
  exact QM h p hp
 have h2:zA (((zm A L S).map xK).map (·.nm))=true:=by
  have e:((zm A L S).map xK).map (·.nm)=(zb A).map zY:=by
   rw [qC,List.map_map]
   unfold zb
   rw [List.map_map]
   rfl
  rw [e]
  exact jd (zB.names h.rise)
 have h3:((zm A L S).map xK).length≤12:=by rw [List.length_map,uy]; exact h.few
 have h4:zM ((zb S).map zY)=true:=fG fun n hn=>by
  obtain ⟨q,hq,rfl⟩:=List.mem_map.1 hn
  exact h.grp.named q hq
 have h5:zA ((zb S).map zY)=true:=jd (zB.names h.grp.rise)
 have h6:((zb S).map zY).length≤6:=by
  rw [List.length_map]
  unfold zb
  rw [List.length_map]
  exact h.grp.few
 have h7:yk ((zb S).map zY) [] ((zm A L S).map xK)=0:=by
  refine qd _ _ _ (fun u hu=>?_) ?_
  ·
   rw [qC] at hu
   obtain ⟨p,hp,rfl⟩:=List.mem_map.1 hu
   rw [List.all_eq_true]
   intro g hg
   obtain ⟨x,hx,rfl⟩:=List.mem_map.1 (show g∈(yX S p.1).map zY from hg)
   rw [Fk,zU,jZ]
   exact jX hx
  ·
   rw [List.nil_append,qC]
   refine List.pairwise_map.2 (List.Pairwise.imp (fun {p q} hpq=>?_) h.rise)
   show (zY (yF L p.1)).data.toList≠[]→(zY (yF L q.1)).data.toList≠(zY (yF L p.1)).data.toList
   rw [zU,zU]
   intro hne he
   obtain ⟨M,hM⟩:=h.mir
   have hp:yb L p.1=true:=by
    cases hh:yb L p.1 with
    | true=>rfl
    | false=>exact absurd (yC hh) hne
   have hq:yb L q.1=true:=by
    cases hh:yb L q.1 with
    | true=>rfl
    | false=>exact absurd (he ▸ yC hh) hne
   have m1:=(hM.iff _ _).1 (xz hp)
   have m2:=(hM.iff _ _).1 (xz hq)
   rw [he] at m2
   have e:=Yq hM.rm m1 m2
   rw [e] at hpq
   rw [zn] at hpq
   cases hpq
 unfold vJ fC
 rw [h1,h2,decide_eq_true (show ((((zm A L S).map xK).length:Nat):Int)≤12 by omega),h4,h5,if_pos h6,h7]
 rfl
end
end Go.Proofs.YthmomkjingcbiaaGreatDoor
namespace Go.Proofs.YthmomkjingcbiaaGreatDoor
open Go.RowKit Go.Maps Go.Sort Go.Shelf

def X6 (w:World) (B:Nat) (bs:List UInt8) (e:Ending) (w':World):Prop:=e=.returned (.pointer (some ⟨B,0,none⟩))∧NW6 w B bs w'
theorem NW6.byte12 {w W:World} {B:Nat} {bs:List UInt8} (xi:Int) (x:Nat) (h:NW6 w B bs W) (ex:xi=x) (hx:x<256) (hr:bs.length≤500000) :
  Calls Tryz.prog 36 #[.pointer (some ⟨B,0,none⟩),.int .u8 xi] W (X6 w B (bs++le x 1)):=by
 subst ex
 obtain ⟨hB,⟨v,hw,hv⟩,ht⟩:=h
 exact (jn B v bs x W hw hx (by omega)).mono fun e w' ⟨he,hg⟩=>⟨he,hg.nw6 hB hv ht⟩
theorem NW6.two12 {w W:World} {B:Nat} {bs:List UInt8} (xi:Int) (x:Nat) (h:NW6 w B bs W) (ex:xi=x) (hx:x<65536) (hr:bs.length≤500000) :
  Calls Tryz.prog 37 #[.pointer (some ⟨B,0,none⟩),.int .u16 xi] W (X6 w B (bs++le x 2)):=by
 subst ex
 obtain ⟨hB,⟨v,hw,hv⟩,ht⟩:=h
 exact (uf B v bs x W hw hx (by omega)).mono fun e w' ⟨he,hg⟩=>⟨he,hg.nw6 hB hv ht⟩
theorem NW6.row12 {w W:World} {B:Nat} {bs:List UInt8} {b c:Nat} {A:Option Addr} (ss:List ByteArray) (h:NW6 w B bs W) (ho:W.ownsRow b 9 1 (.slice A ss.length c) ss.length (yz ss)) (hl:ss.length≤65535) (hs:∀ s∈ss,s.size≤65535) (hr:bs.length≤500000) :
  Calls Tryz.prog 46 #[.pointer (some ⟨B,0,none⟩),.slice A ss.length c] W (X6 w B (bs++Uw ss)):=by
 obtain ⟨hB,⟨v,hw,hv⟩,ht⟩:=h
 obtain ⟨f1,_,f3,f4⟩:=fA ho rfl
 refine (Xn B v bs A ss.length c ss W hw f3 f4 (by omega) f1 (fun hne a ha=>?_) hs (by omega)).mono fun e w' ⟨he,hg⟩=>⟨he,hg.nw6 hB hv ht⟩
 rcases ho.2 with ⟨h0,h1⟩ | ⟨g,cap,cur,hv',_,hg,_⟩
 ·
  exact absurd (List.eq_nil_of_length_eq_zero h1) hne
 ·
  injection hv' with hA _ _
  rw [hA] at ha
  injection ha with ha
  subst ha
  rintro (he | he)
  ·
   have he':g=B:=he
   subst he'
   have:=hw.1.symm.trans hg
   simp at this
  ·
   rcases hw.2.2 with ⟨hv2,_⟩ | ⟨g',cap',cur',hv2,_,hg',_⟩
   ·
    rw [hv2] at he; simp [Value.ownBlock] at he
   ·
    rw [hv2] at he
    have:g'=g:=by simpa [Value.ownBlock] using he
    subst this
    have:=hg'.symm.trans hg
    simp at this

theorem FX (R:zX W11):vH (R.map Ji)=ZM R:=by
 unfold vH ZM
 rw [List.map_map]
 refine List.map_congr_left fun q _=>?_
 show ((zY q.1).data.toList,(⟨q.2.hs.data.toList,q.2.ml.data.toList,q.2.dis,xX (q.2.gs.map zY)⟩:U11))=(q.1,q.2.u)
 rw [zU,Fk]
 rfl
theorem U4 (N:List (List UInt8)):N.map encStr=yz (N.map zY):=by
 unfold yz
 rw [List.map_map]
 rfl
section
variable {w0 w:World} {D P M G:Nat} {A:zt} {L:zg} {S:zj} {k:Nat}
theorem V3 (ho:zl w0 w D P M G A L S) (hg:zs A L S k):Calls Tryz.prog 45 #[.pointer (some ⟨D,0,none⟩)] w fun e w' =>
  ∃ Aa c l,e=.returned (.slice Aa l.length c)∧Z9 w' Aa l∧(∀ u∈l,u.Ok w')∧vH l=zm A L S∧Below w.heap.size w w':=by
 refine (XG ho hg).mono fun e w' ⟨v,R,he,hr,hp,hb⟩=>?_
 have hs:=short11 hg
 have hr0:=hr.low (Nat.zero_le _)
 obtain ⟨Aa,c,rfl⟩:=hr0.rw.us.shape
 obtain ⟨h1,h2⟩:=rd_us11 hr0.rw.us
 refine ⟨Aa,c,R.map Ji,by rw [← h1]; exact he,h2,fun u hu=>?_,by rw [FX]; exact hp,hb⟩
 obtain ⟨q,hq,rfl⟩:=List.mem_map.1 hu
 have hm:(q.1,q.2.u)∈zm A L S:=by rw [← hp]; exact List.mem_map.2 ⟨q,hq,rfl⟩
 have a2:=hs.hs _ hm
 have a3:=hs.ml _ hm
 exact us11_ok (hr0.2 q hq) (hs.nm _ hm) (by rw [← zi]; exact a2) (by rw [← zi]; exact a3) (hs.gs _ hm)
theorem fU (ho:zl w0 w D P M G A L S) (hg:zs A L S k):Calls Tryz.prog 47 #[.pointer (some ⟨D,0,none⟩)] w fun e w' =>
  ∃ Aa c,e=.returned (.slice Aa ((zb S).map zY).length c)∧w'.ownsRow 0 9 1 (.slice Aa ((zb S).map zY).length c) ((zb S).map zY).length (yz ((zb S).map zY))∧Below w.heap.size w w':=by
 refine (fE ho hg.grp).mono fun e w' ⟨v,he,hr,hb⟩=>?_
 have hr0:=zv hr (Nat.zero_le _)
 obtain ⟨Aa,c,rfl⟩:=yW hr0
 rw [U4] at hr0
 refine ⟨Aa,c,by rw [List.length_map]; exact he,?_,hb⟩
 rw [List.length_map]
 exact hr0

set_option maxRecDepth 100000 in
theorem Zn (ho:zl w0 w D P M G A L S) (hg:zs A L S k) (h5:vQ w) :
  Calls Tryz.prog 16 #[.pointer (some ⟨D,0,none⟩)] w (Fs w (Y3 (zm A L S) (zb S))):=by
 have hz:=JS hg
 have hmay:=may12 hz
 have HAL:Hid (Calls Tryz.prog 45 #[.pointer (some ⟨D,0,none⟩)] w fun e w'=>∃ Aa c l,e=.returned (.slice Aa l.length c)∧Z9 w' Aa l∧(∀ u∈l,u.Ok w')∧l.map yl=(zm A L S).map xK∧Below w.heap.size w w') :=
  (V3 ho hg).mono fun e w' ⟨Aa,c,l,h1,h2,h3,h4,h5⟩=>⟨Aa,c,l,h1,h2,h3,by rw [← Zy,h4],h5⟩
 have HGR:Hid (∀ W,Below w.heap.size w W→Calls Tryz.prog 47 #[.pointer (some ⟨D,0,none⟩)] W fun e w'=>∃ Aa c,e=.returned (.slice Aa ((zb S).map zY).length c)∧w'.ownsRow 0 9 1 (.slice Aa ((zb S).map zY).length c) ((zb S).map zY).length (yz ((zb S).map zY))∧Below W.heap.size W w'):=fun W hb=>fU (ho.later hb) hg
 have H5:=za h5
 have hgz:=hmay.sizes
 have hg6:=hmay.gfew
 unfold Y3
 generalize (zb S).map zY=Gs at *
 have HCH:Hid (∀ l:List Us,l.map yl=(zm A L S).map xK→l.length≤12∧(∀ u∈l,yM 2 u=0)∧Jb ((zm A L S).map xK) Gs=Jb l Gs):=fun l he=>by
  have m2:May12 l Gs:=may12 (by rw [← Yw,he]; exact hz)
  exact ⟨m2.few,m2.all,by rw [← he,Y4]⟩
 clear hz hmay h5 ho hg
 generalize (zm A L S).map xK=T at *
 generalize Jb T Gs=out at *
 have HGZ:Hid (∀ g∈Gs,g.size≤65535):=fun g h=>Nat.le_trans (hgz g h) (by decide)
 have HRL:Hid ((Uw Gs).length≤1000):=by
  have:=vc hgz
  show (le Gs.length 2++ye Gs).length≤1000
  rw [List.length_append,zZ]
  omega
 obtain ⟨m,hm⟩:∃ m,m=Gs.length:=⟨_,rfl⟩
 have HMG:=za hm
 rw [← hm] at HGR hg6
 clear hm hgz
 go_enter Tryz.func16,Tryz.ntmps16
 go_wp2_with fail
 with_reducible refine HAL.out.mono ?_
 rintro e w1 ⟨Aa,c,l,rfl,hu,hok,hse,hb⟩
 obtain ⟨hfew,hck,hfo⟩:=HCH.out l hse
 obtain ⟨n,hn⟩:∃ n,n=l.length:=⟨_,rfl⟩
 have HLN:Hid (n=l.length):=hn
 have HU:=za hu
 have HOK:=za hok
 have HCK:=za hck
 have HB1:=za hb
 have HSH:Hid (out=le 2 1++Uw Gs++le l.length 2++l.flatMap (qY 2)):=by show out=_; rw [hfo]; unfold Jb; simp only [List.append_assoc]
 have hbl:∀ k,((l.take k).flatMap (qY 2)).length≤137 * 12:=fun k=>by
  have:=uc (l:=l.take k) (fun q hq=>hck q (List.mem_of_mem_take hq))
  have h2:(l.take k).length≤l.length:=by rw [List.length_take]; omega
  omega
 have HBL:=za hbl
 rw [← hn] at hfew HSH ⊢
 have HM1:=za (H5.out.later hb)
 clear hu hok hck hse hfo hb HAL HCH hn hbl H5
 have HZ:=za (NW6.zero w1)
 go_wp2_with fail
 with_reducible refine (NW6.byte12 _ 2 HZ.out (by simp) (by omega) (by simp)).mono ?_
 rintro e w2 ⟨rfl,h1⟩
 rw [List.nil_append] at h1
 have H1:=za h1
 have HG2:=za (HGR.out w2 (z7 HB1.out h1.2.2))
 clear h1 HZ HGR
 go_wp2_with fail
 with_reducible refine HG2.out.mono ?_
 rintro e w3 ⟨Ag,cg,rfl,hog,hb⟩
 have H2:=za (H1.out.below hb)
 have HOG:=za hog
 clear hb hog HG2 H1
 have HRC:Hid (Calls Tryz.prog 46 #[.pointer (some ⟨w1.heap.size,0,none⟩),.slice Ag m cg] w3 (X6 w1 w1.heap.size (le 2 1++Uw Gs))):=by
  have ho:=HOG.out
  rw [HMG.out] at ho ⊢
  exact NW6.row12 Gs H2.out ho (by rw [← HMG.out]; omega) HGZ.out (by rw [zZ]; omega)
 go_wp2_with fail
 with_reducible refine HRC.out.mono ?_
 rintro e w4 ⟨rfl,h1⟩
 have H3:=za h1
 clear h1 HRC H2 HOG
 go_wp2_with fail
 with_reducible refine (NW6.two12 _ n H3.out (by go_num) (by omega) (by have:=HRL.out; rw [List.length_append,zZ]; omega)).mono ?_
 rintro e w5 ⟨rfl,h1⟩
 have H4:=za h1
 have hpre:(le 2 1++Uw Gs++le n 2).length≤2000:=by have:=HRL.out; rw [List.length_append,List.length_append,zZ,zZ]; omega
 clear h1 H3
 generalize le 2 1++Uw Gs++le n 2=pre at *
 generalize hB:w1.heap.size=BW at *
 have HBW:=za hB
 clear hB
 go_wp2
 go_loopg [6,21] n (fun gg _ s21 wr=>∃ k:Nat,k≤n∧n - k≤gg∧s21=.int .i64 k∧Hid (NW6 w1 BW (pre++(l.take k).flatMap (qY 2)) wr))
 case atStart=>exact ⟨0,Nat.zero_le _,by omega,rfl,by show NW6 w1 BW (pre++[]) w5; rw [List.append_nil]; exact H4.out⟩
 case round =>
  clear H4
  obtain ⟨k,hk,hg,rfl,HW⟩:=hrel
  have hbw:=HW.out.2.2
  by_cases hlt:k<n
  ·
   have hltz:(k:Int)<(n:Int):=by omega
   have hkl:k<l.length:=HLN.out ▸ hlt
   obtain ⟨b,off,rfl,hb,hc⟩:=(HU.out.later hbw) (by intro e; rw [e] at hkl; exact absurd hkl (Nat.not_lt_zero _))
   have c0:wr.cell? ⟨b,off+k * 5,none⟩=some (.string l[k].nm):=hc k hkl 0 _ rfl
   have c1:wr.cell? ⟨b,off+k * 5+1,none⟩=some (.string l[k].hs):=hc k hkl 1 _ rfl
   have c2:wr.cell? ⟨b,off+k * 5+2,none⟩=some (.string l[k].ml):=hc k hkl 2 _ rfl
   have c3:wr.cell? ⟨b,off+k * 5+3,none⟩=some (.bool l[k].dis):=hc k hkl 3 _ rfl
   have c4:wr.cell? ⟨b,off+k * 5+4,none⟩=some (.slice l[k].ga l[k].gs.length l[k].gc):=hc k hkl 4 _ rfl
   have hb1:=z8 (Below.refl wr.heap.size wr) (.cells #[.string l[k].nm,.string l[k].hs,.string l[k].ml,.bool l[k].dis,.slice l[k].ga l[k].gs.length l[k].gc] 47)
   have hch:=HCK.out l[k] (List.getElem_mem hkl)
   have hlen:(pre++(l.take k).flatMap (qY 2)).length≤100000:=by have:=HBL.out k; rw [List.length_append]; omega
   have HP:Hid (Calls Tryz.prog 38 #[.pointer (some ⟨BW,0,none⟩),.int .i64 2,.agg #[.string l[k].nm,.string l[k].hs,.string l[k].ml,.bool l[k].dis,.slice l[k].ga l[k].gs.length l[k].gc]] (wr.alloc (.cells #[.string l[k].nm,.string l[k].hs,.string l[k].ml,.bool l[k].dis,.slice l[k].ga l[k].gs.length l[k].gc] 47)) fun e w'=>e=.returned (.bool true)∧NW6 w1 BW (pre++(l.take (k+1)).flatMap (qY 2)) w'):=by
    refine (Xu w1 BW _ 2 l[k] _ (HW.out.below hb1) (HOK.out _ (List.getElem_mem hkl)) HM1.out hlen).mono fun e w' h=>?_
    rcases h with ⟨_,he,hn⟩ | ⟨h0,_⟩
    ·
     refine ⟨he,?_⟩
     rw [List.take_succ_eq_append_getElem hkl,List.flatMap_append,List.flatMap_singleton,← List.append_assoc]
     exact hn
    ·
     exact absurd hch h0
   clear hc hb hb1 hch hlen hbw HW
   generalize l[k].nm=nm at *
   generalize l[k].hs=hs at *
   generalize l[k].ml=ml at *
   generalize l[k].dis=dis at *
   generalize l[k].ga=ga at *
   generalize l[k].gs.length=gl at *
   generalize l[k].gc=gc at *
   go_wp2_with (go_at_call 38; (with_reducible refine HP.out.mono ?_); rintro e w6 ⟨rfl,h4⟩; have H5:=za h4; clear h4)
   go_roundg (n - (k+1))
   case measure=>omega
   case rel=>exact ⟨k+1,by omega,by omega,by go_num,H5⟩
  ·
   have hltz:¬ (k:Int)<(n:Int):=by omega
   obtain rfl:k=n:=by omega
   have hw:=HW.out
   rw [List.take_of_length_le (by have:=HLN.out; omega),← HSH.out] at hw
   have hol:out.length≤1000000:=by
    have:=HBL.out k
    rw [List.take_of_length_le (by have:=HLN.out; omega)] at this
    rw [HSH.out,List.length_append]
    omega
   have HBY:=za (hw.bytes hol)
   have HBB:=za (z7 HB1.out hw.2.2)
   have hszb:=HBB.out.size
   clear hw hol hbw HW
   go_wp2_with fail
   with_reducible refine HBY.out.mono ?_
   rintro e w7 ⟨v7,rfl,ho,hn,hb⟩
   have HF:Hid (Fs w out (.returned v7) w7):=⟨v7,rfl,ho,fun j hj=>Nat.le_trans hszb (hn j hj),z7 HBB.out hb⟩
   clear ho hn hb HBY
   go_wp2
   go_ret
   exact HF.out
end

def vd:List UInt8→Int
 | []=>0
 | b::_=>if b.toNat=1∨b.toNat=2 then b.toNat else 0
set_option maxRecDepth 100000 in
theorem VC (u:Value) (bs:List UInt8) (w:World) (hu:Rd w u bs) :
  Calls Tryz.prog 9 #[u] w fun e w'=>e=.returned (.int .i64 (vd bs))∧w=w':=by
 obtain ⟨A0,c0,rfl⟩:=hu.shape
 cases bs with
 | nil =>
  clear hu
  show Calls Tryz.prog 9 #[.slice A0 0 c0] w fun e w'=>e=.returned (.int .i64 0)∧w=w'
  go_enter Tryz.func9,Tryz.ntmps9
  go_wp2
  go_ret
  exact ⟨rfl,rfl⟩
 | cons b r =>
  obtain ⟨g,off,c,he,hc⟩:=hu.at_ 0 (by simp)
  injection he with e1 _ e3
  subst e1 e3
  rw [Nat.add_zero] at hc
  have hcell:w.cell? ⟨g,off,none⟩=some (.int .u8 (b.toNat:Int)):=hc
  have hs:vd (b::r)=if b.toNat=1∨b.toNat=2 then (b.toNat:Int) else 0:=rfl
  rw [hs]
  have hb:b.toNat<256:=b.toNat_lt
  clear hc hs hu
  obtain ⟨n,hn⟩:∃ n,n=(b::r).length:=⟨_,rfl⟩
  have hp:0<n:=by rw [hn]; simp
  have hpz:(n:Int) > 0:=by omega
  rw [← hn]
  clear hn
  generalize b.toNat=x at *
  by_cases h1:x=1
  ·
   subst h1
   go_enter Tryz.func9,Tryz.ntmps9
   go_wp2
   go_ret
   exact ⟨rfl,rfl⟩
  ·
   by_cases h2:x=2
   ·
    subst h2
    go_enter Tryz.func9,Tryz.ntmps9
    go_wp2
    go_ret
    exact ⟨rfl,rfl⟩
   ·
    have z1:((x:Int) == 1)=false:=by simp; omega
    have z2:((x:Int) == 2)=false:=by simp; omega
    rw [if_neg (by omega)]
    go_enter Tryz.func9,Tryz.ntmps9
    go_wp2
    go_ret
    exact ⟨rfl,rfl⟩
end Go.Proofs.YthmomkjingcbiaaGreatDoor
namespace Go.Proofs.YthmomkjingcbiaaGreatDoor
open Go.RowKit Go.Maps
set_option linter.unusedVariables false

/-! ### no more than its users -/
theorem few12 {α:Type} [DecidableEq α]:∀ (l N:List α),l.Nodup→(∀ x∈l,x∈N)→l.length≤N.length
 | [],_,_,_=>Nat.zero_le _
 | x::l,N,hd,hs=>by
  have hx:x∈N:=hs x (List.mem_cons_self ..)
  have hd':=List.nodup_cons.1 hd
  have h:=few12 l (N.erase x) hd'.2 (fun y hy=>(List.mem_erase_of_ne (fun e=>hd'.1 (by subst e; exact hy))).2 (hs y (List.mem_cons_of_mem _ hy)))
  rw [List.length_erase_of_mem hx] at h
  have:=List.length_pos_of_mem hx
  rw [List.length_cons]
  omega
theorem Xo {V:Type} {L:zX V} (h:zB L):(zb L).Nodup:=by
 unfold zb
 refine List.Pairwise.map _ (fun a b hab e=>?_) h
 rw [e,zn] at hab
 cases hab
theorem UK {V V':Type} {X:zX V} {A:zX V'} (h:zB X) (hs:∀ x∈X,zE A x.1=true):X.length≤A.length:=by
 have:=few12 (zb X) (zb A) (Xo h) (fun n hn=>by
  obtain ⟨x,hx,rfl⟩:=List.mem_map.1 hn
  exact yo.1 (hs x hx))
 simpa [zb] using this
theorem zs.trim {A:zt} {L:zg} {S:zj} {k:Nat} (h:zs A L S k):zs A L S 12:=by
 obtain ⟨M,hM⟩:=h.mir
 refine ⟨h.rise,h.few,h.nm,h.mir,h.all,h.has,?_,⟨h.grp.rise,h.grp.sets,h.grp.few,fun p hp=>?_,h.grp.named,h.grp.whos⟩,h.mem⟩
 ·
  exact Nat.le_trans (UK (V:=List UInt8) (X:=L) hM.rl h.has) h.few
 ·
  refine Nat.le_trans (UK (h.grp.sets p hp) (A:=A) fun x hx=>h.mem p.1 x.1 ?_) h.few
  unfold uC
  rw [qI h.grp.rise hp]
  exact xf.2 ⟨x,hx,rfl⟩

/-! ### a directory's blocks -/
def Vp (D P M:Nat) (p q:Option Nat) (G:Nat) (pg:Option Nat) (T:zp) (i:Nat):Prop:=i=D∨i=P∨vY M p q i∨vZ G pg T i
section
variable {w0 W W':World} {D P M G:Nat} {A:zt} {p q pg:Option Nat} {L LM:zg} {T:zp}
theorem xh.foot_lt (h:xh W D P A M p q L LM G pg T) {i:Nat} (hi:Vp D P M p q G pg T i):i<W.heap.size:=by
 rcases hi with rfl | rfl | hi | hi
 ·
  exact h.lt
 ·
  exact h.acc.lt
 ·
  exact fpM_lt h.idx hi
 ·
  exact fpG_lt h.grp hi
theorem xh.foot_ty (h:xh W D P A M p q L LM G pg T) {i:Nat} {c:Array Value} {X:TypeId} {fr:Nat×Nat} (hi:Vp D P M p q G pg T i) (hb:W.heap[i]? = some (.cells c X fr)):X=108∨X=164∨X=167:=by
 rcases hi with rfl | rfl | hi | hi
 ·
  by_cases e:X=108
  ·
   exact .inl e
  ·
   exact absurd rfl (uG hb h.blk e)
 ·
  exact absurd rfl (ff h.acc hb)
 ·
  by_cases e:X=164
  ·
   exact .inr (.inl e)
  ·
   exact absurd hi (qN h.idx hb e)
 ·
  by_cases e:X=167
  ·
   exact .inr (.inr e)
  ·
   exact absurd hi (qO h.grp hb e)
theorem xh.kept (h:xh W D P A M p q L LM G pg T) (ht:zc (fun i=>¬ Vp D P M p q G pg T i) W W'):xh W' D P A M p q L LM G pg T :=
 ⟨(ht.block D h.lt (fun n=>n (.inl rfl))).trans h.blk,h.acc.kept (ht.block P h.acc.lt (fun n=>n (.inr (.inl rfl)))),h.idx.turnsF ht (fun i hi n=>n (.inr (.inr (.inl hi)))),h.grp.turnsF ht (fun i hi n=>n (.inr (.inr (.inr hi)))),h.sep1,h.sep2,h.sep3⟩
end

section
variable {w0 W W' w2:World} {D1 P1 M1 G1 D2 P2 M2 G2:Nat} {A1 A2:zt} {L1 L2:zg} {S1 S2:zj} {k:Nat}
end
end Go.Proofs.YthmomkjingcbiaaGreatDoor
namespace Go.Proofs.YthmomkjingcbiaaGreatDoor
open Go.RowKit Go.Maps Go.Sort Go.Shelf

/-! ### One user of any bytes -/
structure Us.Wide (u:Us):Prop where
 nm:u.nm.size≤100000
 hs:u.hs.size≤100000
 ml:u.ml.size≤100000
 all:∀ s∈u.gs,s.size≤100000


/-! ### Part by part -/



structure Fx (b:Nat) (w:World) (v:Value) (n:Nat) (l l2:List Us):Prop where
 same:l2.map yl=l
 row:w.ownsRow b 47 5 v n (xu l2)
 wide:∀ u∈l2,u.Wide
 txt:∀ u∈l2,w.ownsRow b 9 1 (.slice u.ga u.gs.length u.gc) u.gs.length (yz u.gs)
theorem Fx.turns {S:Nat→Prop} {b n:Nat} {w w':World} {v:Value} {l l2:List Us} (h:Fx b w v n l l2) (ht:zc S w w') (hS:∀ k,b≤k→¬ S k):Fx b w' v n l l2 :=
 ⟨h.same,vI h.row (Nat.le_refl _) ht hS,h.wide,fun u hu=>vI (h.txt u hu) (Nat.le_refl _) ht hS⟩
theorem Fx.ok {b n:Nat} {w:World} {v:Value} {l l2:List Us} (h:Fx b w v n l l2):∀ u∈l2,u.Ok w:=fun u hu=>by
 obtain ⟨f1,f2,f3,f4⟩:=fA (h.txt u hu) rfl
 have hw:=h.wide u hu
 exact ⟨f1,Nat.le_trans hw.nm (by omega),Nat.le_trans hw.hs (by omega),Nat.le_trans hw.ml (by omega),f2,f3,f4,fun s hs=>Nat.le_trans (hw.all s hs) (by omega)⟩


end Go.Proofs.YthmomkjingcbiaaGreatDoor
namespace Go.Proofs.YthmomkjingcbiaaGreatDoor
open Go.RowKit Go.Maps

def Q9 (h:List UInt8):U11:=⟨h,[],false,[]⟩
def uJ (L:zg):xI:=L.map fun q=>(q.1,Q9 q.2)
structure yH (L:zg):Prop where
 rise:yY L
 few:L.length≤12
 all:∀ q∈L,zf q.1=true∧zL q.2=true
theorem yH.nil:yH []:=⟨List.Pairwise.nil,Nat.zero_le _,fun _ h=>nomatch h⟩

variable {L:zg}
/-! ### rows of both kinds -/
theorem ins13 (x:List UInt8×List UInt8):∀ L:zg,Vq x L=YH x L
 | []=>rfl
 | y::r=>by
  unfold Vq YH
  rw [ins13 x r]
theorem put13 (L:zg) (n h:List UInt8):yR L n h=yB L n h:=by
 unfold yR yB
 rw [ins13]
 rfl
theorem Ur (L:zg) (n h:List UInt8):uJ (yR L n h)=yB (uJ L) n (Q9 h):=by
 rw [put13]
 exact UF Q9 L n h
theorem FE (L:zg) (n:List UInt8):uJ (xH L n)=vR (uJ L) n:=UH Q9 L n
theorem jU (L:zg) (n:List UInt8):zE (uJ L) n=yb L n:=by
 unfold zE uJ yb
 rw [List.any_map]
 rfl
theorem FC (L:zg):(uJ L).length=L.length:=List.length_map _
theorem Yf (L:zg) (n:List UInt8):xV (uJ L) n=(xV (V:=List UInt8) L n).map Q9:=by
 unfold xV uJ
 rw [List.find?_map]
 simp only [Option.map_map]
 rfl
theorem get13 (L:zg) (n:List UInt8):yF L n=((xV (V:=List UInt8) L n).getD []):=by
 unfold yF xV
 cases List.find? (fun p=>p.1 == n) L <;> rfl
theorem FD (L:zg) (n:List UInt8):disU (uJ L) n=false:=by
 unfold disU
 rw [Yf]
 cases xV (V:=List UInt8) L n <;> rfl
theorem Q8 (L:zg):zb (uJ L)=L.map (·.1):=by
 unfold zb uJ
 rw [List.map_map]
 rfl

/-! ### deeds -/
theorem Ff (L:zg) (n h:List UInt8):dcrE (uJ L) n h=crE L n h∧dcrL (uJ L) n h=uJ (crL L n h):=by
 have e:dcrE (uJ L) n h=crE L n h:=by
  unfold dcrE crE Fh
  rw [jU,FC]
  by_cases hl:12≤L.length
  ·
   rw [decide_eq_true hl,decide_eq_false (show ¬ ((L.length:Int)+1≤12) by omega)]
   cases zf n <;> cases zL h <;> cases yb L n <;> rfl
  ·
   rw [decide_eq_false hl,decide_eq_true (show ((L.length:Int)+1≤12) by omega)]
   cases zf n <;> cases zL h <;> cases yb L n <;> rfl
 refine ⟨e,?_⟩
 unfold dcrL crL
 rw [e]
 split
 ·
  exact (Ur L n h).symm
 ·
  rfl
theorem U8 (L:zg) (n:List UInt8):ddeE (uJ L) n=deE L n∧ddeL (uJ L) n=uJ (deL L n):=by
 have e:ddeE (uJ L) n=deE L n:=by
  unfold ddeE deE deF11
  rw [jU]
  cases zf n <;> cases yb L n <;> rfl
 refine ⟨e,?_⟩
 unfold ddeL deL
 rw [e]
 split
 ·
  exact (FE L n).symm
 ·
  rfl
theorem seE13 {L:zg} {n h:List UInt8} (e:seE L n h=0):zf n=true∧zL h=true∧yb L n=true:=by
 obtain ⟨e1,e⟩:=zx e
 obtain ⟨e2,e⟩:=zx e
 obtain ⟨e3,_⟩:=zx e
 exact ⟨(ya (by decide)).1 e1,(ya (by decide)).1 e2,(ya (by decide)).1 e3⟩
theorem Jr (L:zg) (n h:List UInt8):dshE (uJ L) n h=seE L n h∧dshL (uJ L) n h=uJ (seL L n h):=by
 have e:dshE (uJ L) n h=seE L n h:=by
  unfold dshE seE Jq
  rw [jU,FD]
  cases zf n <;> cases zL h <;> cases yb L n <;> rfl
 refine ⟨e,?_⟩
 unfold dshL seL
 rw [e]
 split
 ·
  next h0 =>
  obtain ⟨_,_,h3⟩:=seE13 h0
  rw [← jU] at h3
  obtain ⟨u,hu⟩:=YM h3
  rw [Ur]
  unfold setU
  rw [hu]
  rw [Yf] at hu
  cases hg:xV (V:=List UInt8) L n with
  | none=>rw [hg] at hu; cases hu
  | some x =>
   rw [hg] at hu
   injection hu with hu
   subst hu
   rfl
 ·
  rfl
theorem yH.create (h:yH L) (n s:List UInt8):yH (crL L n s):=by
 unfold crL
 split
 ·
  next e =>
  obtain ⟨e1,e⟩:=zx e
  obtain ⟨e2,e⟩:=zx e
  obtain ⟨e3,e⟩:=zx e
  obtain ⟨e4,_⟩:=zx e
  have h1:=(ya (by decide)).1 e1
  have h2:=(ya (by decide)).1 e2
  have h4:=(ya (by decide)).1 e4
  rw [decide_eq_true_eq] at h4
  refine ⟨xO h.rise n s,?_,fun q hq=>?_⟩
  ·
   rw [xm h.rise]
   split <;> omega
  ·
   unfold yR at hq
   rcases jh.1 hq with rfl | hq
   ·
    exact ⟨h1,h2⟩
   ·
    exact h.all q (yn.1 hq).1
 ·
  exact h
theorem yH.set (h:yH L) (n s:List UInt8):yH (seL L n s):=by
 unfold seL
 split
 ·
  next e =>
  obtain ⟨h1,h2,h3⟩:=seE13 e
  refine ⟨xO h.rise n s,?_,fun q hq=>?_⟩
  ·
   rw [xm h.rise,if_pos h3]
   exact h.few
  ·
   unfold yR at hq
   rcases jh.1 hq with rfl | hq
   ·
    exact ⟨h1,h2⟩
   ·
    exact h.all q (yn.1 hq).1
 ·
  exact h
theorem yH.delete (h:yH L) (n:List UInt8):yH (deL L n):=by
 unfold deL
 split
 ·
  refine ⟨uz h.rise n,?_,fun q hq=>h.all q (yn.1 hq).1⟩
  exact Nat.le_trans (List.length_filter_le _ _) h.few
 ·
  exact h

/-! ### what may be -/
theorem chk1_13 {q:List UInt8×List UInt8} (h1:zf q.1=true) (h2:zL q.2=true):yM 1 (zq q)=0:=by
 have b:uR (zq q)=true:=by
  unfold uR Js upU zq
  simp
 unfold yM
 rw [if_pos rfl,b]
 show zu [zu [ze (jk 1) 6,ze (zf (tx7 q.1).data.toList) 10,ze (zL (tx7 q.2).data.toList) 4],ze true 12]=0
 rw [yv,yv,h1,h2]
 decide
theorem chk2_13 {q:List UInt8×List UInt8} (h1:zf q.1=true) (h2:zL q.2=true):yM 2 (zq q)=0:=by
 unfold yM
 rw [if_neg (by decide)]
 show zu [zu [ze (jk 2) 6,ze (zf (tx7 q.1).data.toList) 10,ze (zL (tx7 q.2).data.toList) 4],ze (uO ⟨#[]⟩) 11,ze (decide (([]:List ByteArray).length≤6)) 7,ze (zM []) 10,ze (zA []) 9]=0
 rw [yv,yv,h1,h2]
 decide
theorem yH.chk (h:yH L):∀ q∈L,yM 1 (zq q)=0:=fun q hq=>chk1_13 (h.all q hq).1 (h.all q hq).2
theorem plU13 (L:zg):vH (L.map zq)=uJ L:=by
 unfold vH uJ
 rw [List.map_map]
 refine List.map_congr_left fun q _=>?_
 show ((tx7 q.1).data.toList,(⟨(tx7 q.2).data.toList,[],false,[]⟩:U11))=(q.1,Q9 q.2)
 rw [yv,yv]
 rfl
theorem yH.of (h:yH L):vJ (L.map zq) []=0:=by
 have h1:yO (L.map zq)=0:=ji fun u hu=>by
  obtain ⟨q,hq,rfl⟩:=List.mem_map.1 hu
  exact chk2_13 (h.all q hq).1 (h.all q hq).2
 have h2:zA ((L.map zq).map (·.nm))=true:=by
  refine je ?_
  rw [List.map_map,List.pairwise_map]
  refine List.Pairwise.imp (fun {a b} hab=>?_) h.rise
  show bytesBefore (tx7 a.1).data.toList (tx7 b.1).data.toList=true
  rw [yv,yv]
  exact hab
 have h3:((((L.map zq).length:Nat):Int)≤12):=by have:=h.few; rw [List.length_map]; omega
 have h7:yk [] [] (L.map zq)=0:=by
  refine qd _ _ _ (fun u hu=>?_) ?_
  ·
   obtain ⟨q,_,rfl⟩:=List.mem_map.1 hu
   rfl
  ·
   rw [List.nil_append,List.pairwise_map]
   exact List.Pairwise.imp (fun {a b} _ hne=>absurd rfl hne) h.rise
 unfold vJ fC
 rw [h1,h2,decide_eq_true h3,h7]
 rfl
theorem JR (hq:∀ q∈L,yM 1 (zq q)=0) (ho:ofE (L.map zq)=0):yH L:=by
 obtain ⟨_,h2,h3,_⟩:=UC ho
 rw [fu] at h2
 rw [List.length_map] at h3
 refine ⟨h2,h3,fun q h=>?_⟩
 obtain ⟨_,a,b⟩:=uo (hq q h)
 unfold zq at a b
 dsimp only at a b
 rw [yv] at a b
 exact ⟨a,b⟩
theorem VG {bs:List UInt8} (h:(uL bs).1=0):yH (uL bs).2:=JR (Xs h).1 (Xs h).2.1

/-! ### bytes -/
theorem JV (L:zg):Y3 (uJ L) []=Jb (L.map zq) []:=by
 have:=JW (L.map zq) []
 rwa [plU13] at this
def Yz (bs:List UInt8):Int×List UInt8 :=
 if vd bs=2 then (if (read12 bs).1=0 then (0,bs) else ((read12 bs).1,[]))
 else (if (uL bs).1=0 then (0,Jb ((uL bs).2.map zq) []) else ((uL bs).1,[]))
theorem JJ {bs:List UInt8} (h:vd bs≠2):Yz bs=if (uL bs).1=0 then (0,Jb ((uL bs).2.map zq) []) else ((uL bs).1,[]):=by
 unfold Yz
 rw [if_neg h]

/-! ### taken down -/
end Go.Proofs.YthmomkjingcbiaaGreatDoor
namespace Go.Proofs.YthmomkjingcbiaaGreatDoor
open Go.RowKit Go.Maps Go.Sort Go.Shelf

def Made13 (w:World) (T:xI) (e:Ending) (w':World):Prop :=
 ∃ D P M G A L S k,e=.returned (.pointer (some ⟨D,0,none⟩))∧zl w w' D P M G A L S∧zs A L S k∧zm A L S=T∧zb S=[]∧k≤200

theorem ui {w:World} {base g n cap size:Nat} {e:TypeId} {xs:List Value} (h:w.ownsRow base e size (.slice (some ⟨g,0,none⟩) n cap) n xs) (j:Nat) (u:Value) (hu:xs[j]? = some u):(w.setCell ⟨g,j,none⟩ u).ownsRow base e size (.slice (some ⟨g,0,none⟩) n cap) n xs:=by
 have h2:=(h.stored j u).1
 obtain ⟨hj,rfl⟩:=List.getElem?_eq_some_iff.1 hu
 rwa [List.set_getElem_self] at h2
section
variable {w:World} {base g n cap:Nat} {L:zg}
theorem xq (k:Nat) (hk:k<L.length) (j:Nat) (hj:j<5):(yt (L.map zq))[k * 5+j]? = (zq L[k]).cells[j]? := by
 rw [fk _ k j (by rw [List.length_map]; exact hk) hj,List.getElem_map]
theorem Vg (h:w.ownsRow base 47 5 (.slice (some ⟨g,0,none⟩) n cap) n (yt (L.map zq))) (hn:n=L.length) (k:Nat) (hk:k<L.length) :
  w.cell? ⟨g,k * 5,none⟩=some (.string (tx7 L[k].1))∧w.cell? ⟨g,k * 5+1,none⟩=some (.string (tx7 L[k].2))∧w.cell? ⟨g,k * 5+2,none⟩=some (.string ⟨#[]⟩)∧w.cell? ⟨g,k * 5+3,none⟩=some (.bool false)∧w.cell? ⟨g,k * 5+4,none⟩=some (.slice none 0 0):=by
 have hc:∀ j,j<5→w.cell? ⟨g,k * 5+j,none⟩=(zq L[k]).cells[j]? := fun j hj=>(h.cellAt (k * 5+j) (by omega)).trans (xq k hk j hj)
 exact ⟨hc 0 (by decide),hc 1 (by decide),hc 2 (by decide),hc 3 (by decide),hc 4 (by decide)⟩
theorem J4 (h:w.ownsRow base 47 5 (.slice (some ⟨g,0,none⟩) n cap) n (yt (L.map zq))) (k:Nat) (hk:k<L.length) :
  (((((w.setCell ⟨g,k * 5,none⟩ (.string (tx7 L[k].1))).setCell ⟨g,k * 5+1,none⟩ (.string (tx7 L[k].2))).setCell ⟨g,k * 5+2,none⟩ (.string ⟨#[]⟩)).setCell ⟨g,k * 5+3,none⟩ (.bool false)).setCell ⟨g,k * 5+4,none⟩ (.slice none 0 0)).ownsRow base 47 5 (.slice (some ⟨g,0,none⟩) n cap) n (yt (L.map zq)) :=
 ui (ui (ui (ui (ui h (k * 5) _ (xq k hk 0 (by decide))) (k * 5+1) _ (xq k hk 1 (by decide))) (k * 5+2) _ (xq k hk 2 (by decide))) (k * 5+3) _ (xq k hk 3 (by decide))) (k * 5+4) _ (xq k hk 4 (by decide))
end

set_option maxRecDepth 100000 in
theorem Xd (w:World):Calls Tryz.prog 14 #[.pointer none] w fun e w'=>e=.returned (.pointer none)∧w=w':=by
 go_enter Tryz.func14,Tryz.ntmps14
 go_wp2
 go_ret
 exact ⟨rfl,rfl⟩

set_option maxRecDepth 100000 in
theorem Qa {w0 w:World} {B:Nat} {L:zg} (h:xL w0 w B L) (hg:yH L) (h5:vQ w) :
  Calls Tryz.prog 14 #[.pointer (some ⟨B,0,none⟩)] w (Made13 w (uJ L)):=by
 have HAL:Hid (Calls Tryz.prog 27 #[.pointer (some ⟨B,0,none⟩)] w fun e w'=>∃ v,e=.returned v∧w'.ownsRow w.heap.size 47 5 v L.length (yt (L.map zq))∧Below w.heap.size w w') :=
  h.allu.mono fun e w' ⟨v,he,hu,hb⟩=>⟨v,he,by rw [← Xb]; exact hu,hb⟩
 have hnl:(L.map zq).length=L.length:=List.length_map _
 have HBO:Hid (∀ W,∀ u∈L.map zq,u.Ok W):=fun W u hu=>by
  obtain ⟨q,hq,rfl⟩:=List.mem_map.1 hu
  exact Q0 (h.all q hq)
 obtain ⟨n,hn⟩:∃ n,n=L.length:=⟨_,rfl⟩
 have HLN:Hid (n=L.length):=hn
 have hn12:n≤12:=by rw [hn]; exact h.few
 have HOF:Hid (∀ A c W,Z9 W A (L.map zq)→vQ W→Calls Tryz.prog 41 #[.slice A n c,.slice none 0 0] W fun e w'=>∃ D P M G A' L' S k,e=.returned (.tuple #[.pointer (some ⟨D,0,none⟩),.int .i64 0])∧zl W w' D P M G A' L' S∧zs A' L' S k∧zm A' L' S=uJ L∧zb S=[]∧k≤200):=fun A c W hr hm=>by
  refine (VQ A none c 0 n 0 (L.map zq) [] W (by rw [hn]; exact hnl.symm) (by omega) hr (HBO.out W) rfl (by omega) (fun h=>absurd rfl h) (fun _ h=>nomatch h) hm).mono fun e w' hh=>?_
  unfold Of11 at hh
  rcases hh with ⟨h0,_⟩ | ⟨_,D,P,M,Gr,A',L',S,k,he,ho,hs,hk⟩
  ·
   exact absurd hg.of h0
  ·
   exact ⟨D,P,M,Gr,A',L',S,k,he,ho,hs.1.1,by rw [hs.1.2.1,plU13],hs.1.2.2,hk⟩
 have HM:=za h5
 rw [← hn] at HAL
 clear h hg h5 hn hnl HBO
 generalize hT:uJ L=T at *
 clear hT
 go_enter Tryz.func14,Tryz.ntmps14
 go_wp2_with fail
 with_reducible refine HAL.out.mono ?_
 rintro e w1 ⟨v,rfl,hu,hb⟩
 obtain ⟨A,c,rfl⟩:=yW (zv hu (Nat.zero_le _))
 have HU1:=za hu
 have HB1:=za hb
 clear hu hb HAL
 go_wp2
 go_loopg [4,5,14] n (fun gg _ _ s14 wr=>∃ k:Nat,k≤n∧n - k≤gg∧s14=.int .i64 k∧Hid (Below w.heap.size w wr)∧Hid (wr.ownsRow w.heap.size 47 5 (.slice A n c) n (yt (L.map zq))))
 case atStart=>exact ⟨0,Nat.zero_le _,by omega,rfl,HB1.out,HU1.out⟩
 case round =>
  clear HU1 HB1
  obtain ⟨k,hk,hg,rfl,HW,HO⟩:=hrel
  by_cases hlt:k<n
  ·
   have hltz:(k:Int)<(n:Int):=by omega
   have hkl:k<L.length:=HLN.out ▸ hlt
   obtain ⟨g,cap,hv,hgb,_⟩:=HO.out.form (by omega)
   injection hv with hA _ hc
   subst hA hc
   obtain ⟨c0,c1,c2,c3,c4⟩:=Vg HO.out HLN.out k hkl
   have hba:=z8 (Below.refl wr.heap.size wr) (.cells #[.string (tx7 L[k].1),.string (tx7 L[k].2),.string ⟨#[]⟩,.bool false,.slice none 0 0] 47)
   have HUP:Hid (∀ W,Calls Tryz.prog 40 #[.agg #[.string (tx7 L[k].1),.string (tx7 L[k].2),.string ⟨#[]⟩,.bool false,.slice none 0 0]] W fun e w'=>e=.returned (.agg #[.string (tx7 L[k].1),.string (tx7 L[k].2),.string ⟨#[]⟩,.bool false,.slice none 0 0])∧Below W.heap.size W w'):=fun W=>Xc (zq L[k]) W
   have HNX:Hid (∀ W,Below (wr.alloc (.cells #[.string (tx7 L[k].1),.string (tx7 L[k].2),.string ⟨#[]⟩,.bool false,.slice none 0 0] 47)).heap.size (wr.alloc (.cells #[.string (tx7 L[k].1),.string (tx7 L[k].2),.string ⟨#[]⟩,.bool false,.slice none 0 0] 47)) W →
     (∀ j,W.frozen? ⟨g,j,none⟩=false)∧(W.cell? ⟨g,k * 5,none⟩=some (.string (tx7 L[k].1))∧W.cell? ⟨g,k * 5+1,none⟩=some (.string (tx7 L[k].2))∧W.cell? ⟨g,k * 5+2,none⟩=some (.string ⟨#[]⟩)∧W.cell? ⟨g,k * 5+3,none⟩=some (.bool false)∧W.cell? ⟨g,k * 5+4,none⟩=some (.slice none 0 0)) ∧
     Hid (Below w.heap.size w (((((W.setCell ⟨g,k * 5,none⟩ (.string (tx7 L[k].1))).setCell ⟨g,k * 5+1,none⟩ (.string (tx7 L[k].2))).setCell ⟨g,k * 5+2,none⟩ (.string ⟨#[]⟩)).setCell ⟨g,k * 5+3,none⟩ (.bool false)).setCell ⟨g,k * 5+4,none⟩ (.slice none 0 0))) ∧
     Hid ((((((W.setCell ⟨g,k * 5,none⟩ (.string (tx7 L[k].1))).setCell ⟨g,k * 5+1,none⟩ (.string (tx7 L[k].2))).setCell ⟨g,k * 5+2,none⟩ (.string ⟨#[]⟩)).setCell ⟨g,k * 5+3,none⟩ (.bool false)).setCell ⟨g,k * 5+4,none⟩ (.slice none 0 0)).ownsRow w.heap.size 47 5 (.slice (some ⟨g,0,none⟩) n c) n (yt (L.map zq)))):=fun W hb=>by
    have hb2:=z7 hba hb
    have ho2:=vI HO.out (Nat.le_refl _) (zc.of_below hb2 (fun _=>False)) (fun _ _ f=>f)
    have hbw:=z7 HW.out hb2
    exact ⟨fun j=>ho2.frozenAt j,Vg ho2 HLN.out k hkl,((((hbw.setCell (p:=⟨g,k * 5,none⟩) hgb _).setCell (p:=⟨g,k * 5+1,none⟩) hgb _).setCell (p:=⟨g,k * 5+2,none⟩) hgb _).setCell (p:=⟨g,k * 5+3,none⟩) hgb _).setCell (p:=⟨g,k * 5+4,none⟩) hgb _,J4 ho2 k hkl⟩
   clear hba HO HW
   generalize tx7 L[k].1=nm at *
   generalize tx7 L[k].2=hs at *
   go_wp2_with (go_at_call 40; (with_reducible refine (HUP.out _).mono ?_); rintro e w6 ⟨rfl,h4⟩; obtain ⟨f0,⟨d0,d1,d2,d3,d4⟩,R1,R2⟩:=HNX.out w6 h4; have e0:=f0 (k * 5); have e1:=f0 (k * 5+1); have e2:=f0 (k * 5+2); have e3:=f0 (k * 5+3); have e4:=f0 (k * 5+4); clear f0 h4 HNX HUP)
   go_roundg (n - (k+1))
   case measure=>omega
   case rel=>exact ⟨k+1,by omega,by omega,by go_num,R1,R2⟩
  ·
   have hltz:¬ (k:Int)<(n:Int):=by omega
   obtain rfl:k=n:=by omega
   have HOF1:=za (HOF.out A c wr (ZP HO.out (by rw [List.length_map]; exact HLN.out)) (HM.out.later HW.out))
   clear HO HOF
   go_wp2_with fail
   with_reducible refine HOF1.out.mono ?_
   rintro e w2 ⟨D,P,M,G,A',L',S,q,rfl,ho,hgd,ht,hnm,hq⟩
   have HF:Hid (Made13 w T (.returned (.pointer (some ⟨D,0,none⟩))) w2):=⟨D,P,M,G,A',L',S,q,rfl,ho.base HW.out,hgd,ht,hnm,hq⟩
   clear ho hgd ht hnm hq HOF1 HW HM
   go_wp2
   go_ret
   exact HF.out
end Go.Proofs.YthmomkjingcbiaaGreatDoor
namespace Go.Proofs.YthmomkjingcbiaaGreatDoor
open Go.RowKit Go.Maps Go.Sort Go.Shelf
set_option linter.unusedVariables false

def yx (W w':World):Prop:=∀ (k:Nat) (c:Array Value) (T:TypeId) (fr:Nat×Nat),W.heap[k]? = some (.cells c T fr)→T≠78→T≠108→T≠164→T≠167→w'.heap[k]? = some (.cells c T fr)
theorem yx.trans {a b c:World} (h:yx a b) (k:yx b c):yx a c:=fun i x T fr hi h0 h1 h2 h3=>k i x T fr (h i x T fr hi h0 h1 h2 h3) h0 h1 h2 h3
theorem yx.of_below {W w':World} (hb:Below W.heap.size W w'):yx W w':=fun k _ _ _ h _ _ _ _=>(hb.block k (Array.getElem?_eq_some_iff.1 h).1).trans h
theorem xM.keeps13 {W w':World} (h:xM W w'):yx W w':=fun k c T fr hk h0 _ _ _=>h k c T fr hk h0
theorem zN.keeps13 {W w':World} (h:zN W w'):yx W w':=fun k c T fr hk _ h1 h2 h3=>h k c T fr hk h1 h2 h3

section
variable {w0 w2 W W':World} {B:Nat} {E:zg} {D P M G:Nat} {A:zt} {L:zg} {S:zj} {p q pg:Option Nat} {LM:zg} {T:zp}
theorem VU {i:Nat} {c:Array Value} {X:TypeId} {fr:Nat×Nat} (hd:xg W B p E) (hi:p=some i) (hb:W.heap[i]? = some (.cells c X fr)):False:=by
 obtain ⟨es,clock,h1,_⟩:=hd.map i hi
 rw [h1] at hb
 cases hb
abbrev xg.fr13 (hd:xg W B p E):Fr11 :=
 ⟨fun i=>p=some i,fun i=>W.heap[i]?,W.heap.size,fun i hi=>hd.mlt i hi,fun i c T fr hi hb=>(VU hd hi hb).elim⟩
def xj (w0 W:World) (B:Nat) (E:zg) (D P M G:Nat) (A:zt) (L:zg) (S:zj):Prop :=
 ∃ p p1 q1 LM pg T,xg W B p E∧xh W D P A M p1 q1 L LM G pg T∧zh T=S ∧
  (∀ i,i=B∨p=some i→w0.heap.size≤i∧¬ Vp D P M p1 q1 G pg T i)∧(∀ i,Vp D P M p1 q1 G pg T i→w0.heap.size≤i)∧Below w0.heap.size w0 W
theorem xj.below (h:xj w0 W B E D P M G A L S):Below w0.heap.size w0 W:=by
 obtain ⟨p,p1,q1,LM,pg,T,hd,hn,hS,l1,l2,hb⟩:=h
 exact hb
theorem xj.fst (h:xj w0 W B E D P M G A L S):xL w0 W B E:=by
 obtain ⟨p,p1,q1,LM,pg,T,hd,hn,hS,l1,l2,hb⟩:=h
 exact ⟨p,hd,(l1 B (.inl rfl)).1,fun b e=>(l1 b (.inr e)).1,hb⟩
theorem xj.snd (h:xj w0 W B E D P M G A L S):zl w0 W D P M G A L S:=by
 obtain ⟨p,p1,q1,LM,pg,T,hd,hn,hS,l1,l2,hb⟩:=h
 exact ⟨p1,q1,LM,pg,T,hn,hS,fun i hi=>⟨l2 i hi,id⟩,hb,Nat.zero_le _,fun _ f=>f.elim⟩
theorem xj.later (h:xj w0 W B E D P M G A L S) (hb:Below W.heap.size W W'):xj w0 W' B E D P M G A L S:=by
 obtain ⟨p,p1,q1,LM,pg,T,hd,hn,hS,l1,l2,h0⟩:=h
 exact ⟨p,p1,q1,LM,pg,T,hd.later hb,hn.later hb,hS,l1,l2,z7 h0 hb⟩
theorem xj.make (ha:xL w0 w2 B E) (hc:zl w2 W D P M G A L S):xj w0 W B E D P M G A L S:=by
 obtain ⟨p,hd,b1,b2,b3⟩:=ha
 have hb:=hc.below
 obtain ⟨p1,q1,LM,pg,T,hn,hS,l2,_⟩:=hc
 refine ⟨p,p1,q1,LM,pg,T,hd.later hb,hn,hS,fun i hi=>⟨?_,fun f=>?_⟩,fun i f=>Nat.le_trans b3.size (l2 i f).1,z7 b3 hb⟩
 ·
  rcases hi with rfl | e
  ·
   exact b1
  ·
   exact b2 i e
 ·
  have h1:=(l2 i f).1
  rcases hi with rfl | e
  ·
   have:=hd.lt
   omega
  ·
   have:=hd.mlt i e
   omega
theorem xj.old (h:xj w0 W B E D P M G A L S):∃ p,xg W B p E∧∀ E' w',yy W B p E' w'→xj w0 w' B E' D P M G A L S∧yx W w':=by
 obtain ⟨p,p1,q1,LM,pg,T,hd,hn,hS,l1,l2,hb⟩:=h
 refine ⟨p,hd,fun E' w' hg=>⟨?_,(hg.keeps hd).keeps13⟩⟩
 obtain ⟨p',hd',hp,ht⟩:=hg
 refine ⟨p',p1,q1,LM,pg,T,hd',hn.kept (ht.mono fun i _ hi f=>(l1 i hi).2 f),hS,fun i hi=>?_,l2,hb.trans (ht.below_at hb.size fun i hi=>(l1 i hi).1)⟩
 rcases hi with e | e
 ·
  exact l1 i (.inl e)
 ·
  rcases hp i e with e | e
  ·
   exact l1 i (.inr e)
  ·
   refine ⟨Nat.le_trans hb.size e,fun f=>?_⟩
   have:=hn.foot_lt f
   omega
theorem xj.new (h:xj w0 W B E D P M G A L S):∃ p,∃ hd:xg W B p E,@zl hd.fr13 w0 W D P M G A L S∧∀ A' L' S' w',@zK hd.fr13 w0 W D P M G A' L' S' w'→xj w0 w' B E D P M G A' L' S'∧yx W w':=by
 obtain ⟨p,p1,q1,LM,pg,T,hd,hn,hS,l1,l2,hb⟩:=h
 refine ⟨p,hd,⟨p1,q1,LM,pg,T,hn,hS,fun i f=>⟨l2 i f,fun e=>(l1 i (.inr e)).2 f⟩,hb,Nat.le_refl _,fun _ _=>rfl⟩,fun A' L' S' w' hg=>?_⟩
 obtain ⟨ho,hk⟩:=hg
 refine ⟨?_,hk.keeps13⟩
 obtain ⟨p1',q1',LM',pg',T',n1,n2,n3,n4⟩:=ho
 have hblk:=hk B _ _ _ hd.blk (by decide) (by decide) (by decide)
 refine ⟨p,p1',q1',LM',pg',T',⟨hblk,hd.nil,fun b e=>(hd.map b e).kept (n4.2.2 b e),hd.rise,hd.few,hd.all⟩,n1,n2,fun i hi=>⟨(l1 i hi).1,fun f=>?_⟩,fun i f=>(n3 i f).1,n4.1⟩
 rcases hi with rfl | e
 ·
  rcases n1.foot_ty f hblk with e | e | e
  ·
   exact absurd e (by decide)
  ·
   exact absurd e (by decide)
  ·
   exact absurd e (by decide)
 ·
  exact (n3 i f).2 e
end

/-! ### deeds of both -/
def FA (kd:Nat) (E:zg) (a b:List UInt8):Int:=if kd % 3=0 then crE E a b else if kd % 3=1 then deE E a else seE E a b
def UW (kd:Nat) (E:zg) (a b:List UInt8):zg:=if kd % 3=0 then crL E a b else if kd % 3=1 then deL E a else seL E a b
theorem yH.deed {E:zg} (h:yH E) (kd:Nat) (a b:List UInt8):yH (UW kd E a b):=by
 unfold UW
 split
 ·
  exact h.create a b
 ·
  split
  ·
   exact h.delete a
  ·
   exact h.set a b
def yu (w0:World) (B D:Nat) (E F:zg) (W:World):Prop:=∃ P M G A L S,xj w0 W B E D P M G A L S∧zs A L S 12∧zm A L S=uJ F∧zb S=[]∧yH E∧yH F
section
variable {w0 W W':World} {B D:Nat} {E F:zg}
theorem yu.later (h:yu w0 B D E F W) (hb:Below W.heap.size W W'):yu w0 B D E F W':=by
 obtain ⟨P,M,G,A,L,S,hp,r⟩:=h
 exact ⟨P,M,G,A,L,S,hp.later hb,r⟩
theorem yu.below (h:yu w0 B D E F W):Below w0.heap.size w0 W:=by
 obtain ⟨P,M,G,A,L,S,hp,r⟩:=h
 exact hp.below
theorem yu.old (h:yu w0 B D E F W):xL w0 W B E∧yH E:=by
 obtain ⟨P,M,G,A,L,S,hp,_,_,_,hE,_⟩:=h
 exact ⟨hp.fst,hE⟩
theorem yu.new (h:yu w0 B D E F W):∃ P M G A L S,zl w0 W D P M G A L S∧zs A L S 12∧zm A L S=uJ F∧zb S=[]:=by
 obtain ⟨P,M,G,A,L,S,hp,h1,h2,h3,_⟩:=h
 exact ⟨P,M,G,A,L,S,hp.snd,h1,h2,h3⟩
def jL (w0:World) (B D:Nat) (E' F:zg) (n:Int) (W:World) (e:Ending) (w':World):Prop:=e=.returned (.int .i64 n)∧yu w0 B D E' F w'∧yx W w'
theorem yu.olds (h:yu w0 B D E F W) (n s:ByteArray) (hn:n.size≤9223372036854775807) (hs:s.size≤9223372036854775807) :
  Calls Tryz.prog 33 #[.pointer (some ⟨B,0,none⟩),.string n,.string s] W (jL w0 B D (crL E n.data.toList s.data.toList) F (crE E n.data.toList s.data.toList) W) ∧
  Calls Tryz.prog 34 #[.pointer (some ⟨B,0,none⟩),.string n] W (jL w0 B D (deL E n.data.toList) F (deE E n.data.toList) W) ∧
  Calls Tryz.prog 35 #[.pointer (some ⟨B,0,none⟩),.string n,.string s] W (jL w0 B D (seL E n.data.toList s.data.toList) F (seE E n.data.toList s.data.toList) W):=by
 obtain ⟨P,M,G,A,L,S,hp,h1,h2,h3,hE,hF⟩:=h
 obtain ⟨p,hd,hgo⟩:=hp.old
 refine ⟨(qR B p E n s W hd hn hs).mono fun e w' ⟨he,hg⟩=>?_,(qQ B p E n W hd hn).mono fun e w' ⟨he,hg⟩=>?_,(uV B p E n s W hd hn hs).mono fun e w' ⟨he,hg⟩=>?_⟩
 ·
  obtain ⟨a,b⟩:=hgo _ _ hg
  exact ⟨he,⟨P,M,G,A,L,S,a,h1,h2,h3,hE.create _ _,hF⟩,b⟩
 ·
  obtain ⟨a,b⟩:=hgo _ _ hg
  exact ⟨he,⟨P,M,G,A,L,S,a,h1,h2,h3,hE.delete _,hF⟩,b⟩
 ·
  obtain ⟨a,b⟩:=hgo _ _ hg
  exact ⟨he,⟨P,M,G,A,L,S,a,h1,h2,h3,hE.set _ _,hF⟩,b⟩
theorem deA13 {A:zt} {L:zg} {S:zj} {k:Nat} (hg:zs A L S k) (n:List UInt8):Uo (F8 A n) (F7 A L n) (F6 A S n) (ddeL (zm A L S) n) (zb S) (k+1):=by
 by_cases e:uQ A n=0
 ·
  have:=de_one hg n e
  unfold F8 F7 F6
  rw [if_pos e,if_pos e,if_pos e]
  exact this
 ·
  unfold F8 F7 F6 ddeL
  rw [YV,if_neg e,if_neg e,if_neg e,if_neg e]
  exact ⟨hg.mono (Nat.le_succ _),rfl,rfl⟩
theorem yu.news (h:yu w0 B D E F W) (n s:ByteArray) (hn:n.size≤9223372036854775807) (hs:s.size≤9223372036854775807) :
  Calls Tryz.prog 42 #[.pointer (some ⟨D,0,none⟩),.string n,.string s] W (jL w0 B D E (crL F n.data.toList s.data.toList) (crE F n.data.toList s.data.toList) W) ∧
  Calls Tryz.prog 43 #[.pointer (some ⟨D,0,none⟩),.string n] W (jL w0 B D E (deL F n.data.toList) (deE F n.data.toList) W) ∧
  Calls Tryz.prog 44 #[.pointer (some ⟨D,0,none⟩),.string n,.string s] W (jL w0 B D E (seL F n.data.toList s.data.toList) (seE F n.data.toList s.data.toList) W):=by
 obtain ⟨P,M,G,A,L,S,hp,h1,h2,h3,hE,hF⟩:=h
 obtain ⟨p,hd,ho,hgo⟩:=hp.new
 letI:Fr11:=hd.fr13
 refine ⟨(Zs n s ho h1 hn hs).mono fun e w' ⟨he,hg⟩=>?_,(Zq n ho h1 hn).mono fun e w' ⟨he,hg⟩=>?_,(fs n s ho h1 hn hs).mono fun e w' ⟨he,hg⟩=>?_⟩
 ·
  obtain ⟨a,b⟩:=hgo _ _ _ _ hg
  obtain ⟨o1,o2,o3⟩:=cr_one h1 n.data.toList s.data.toList
  have hs:=@Fg A L S n.data.toList s.data.toList
  rw [h2] at o2 hs
  rw [← hs,(Ff F _ _).1] at he
  rw [(Ff F _ _).2] at o2
  exact ⟨he,⟨P,M,G,_,_,_,a,o1.trim,o2,o3.trans h3,hE,hF.create _ _⟩,b⟩
 ·
  obtain ⟨a,b⟩:=hgo _ _ _ _ hg
  obtain ⟨o1,o2,o3⟩:=deA13 h1 n.data.toList
  have hs:=@YV A L S n.data.toList
  rw [h2] at o2 hs
  rw [← hs,(U8 F _).1] at he
  rw [(U8 F _).2] at o2
  exact ⟨he,⟨P,M,G,_,_,_,a,o1.trim,o2,o3.trans h3,hE,hF.delete _⟩,b⟩
 ·
  obtain ⟨a,b⟩:=hgo _ _ _ _ hg
  obtain ⟨o1,o2,o3⟩:=sh_one h1 n.data.toList s.data.toList
  have hs:=Jp h1 n.data.toList s.data.toList
  rw [h2] at o2 hs
  rw [← hs,(Jr F _ _).1] at he
  rw [(Jr F _ _).2] at o2
  exact ⟨he,⟨P,M,G,_,_,_,a,o1.trim,o2,o3.trans h3,hE,hF.set _ _⟩,b⟩
end
end Go.Proofs.YthmomkjingcbiaaGreatDoor
namespace Go.Proofs.YthmomkjingcbiaaGreatDoor
open Go.RowKit Go.Maps Go.Sort Go.Shelf
set_option linter.unusedVariables false

set_option maxRecDepth 100000 in
theorem F1 (R:Int→World→Prop) (B kd:Nat) (a b:ByteArray) (W:World)
  (h:∀ W',Below W.heap.size W W'→(kd % 3=0→Calls Tryz.prog 33 #[.pointer (some ⟨B,0,none⟩),.string a,.string b] W' fun e w'=>∃ n,e=.returned (.int .i64 n)∧R n w')∧(kd % 3=1→Calls Tryz.prog 34 #[.pointer (some ⟨B,0,none⟩),.string a] W' fun e w'=>∃ n,e=.returned (.int .i64 n)∧R n w')∧(kd % 3=2→Calls Tryz.prog 35 #[.pointer (some ⟨B,0,none⟩),.string a,.string b] W' fun e w'=>∃ n,e=.returned (.int .i64 n)∧R n w')) :
  Calls Tryz.prog 12 #[.pointer (some ⟨B,0,none⟩),.agg #[.int .u8 (kd:Int),.string a,.string b]] W fun e w'=>∃ n,e=.returned (.int .i64 n)∧R n w':=by
 obtain ⟨h0,h1,h2⟩:=h _ (z8 (Below.refl W.heap.size W) (.cells #[.int .u8 (kd:Int),.string a,.string b] 36))
 have hr:(kd:Int).tmod 3=((kd % 3:Nat):Int):=rfl
 have hc:kd % 3=0∨kd % 3=1∨kd % 3=2:=by omega
 clear h
 rcases hc with hc | hc | hc
 ·
  have HC:=za (h0 hc)
  rw [hc] at hr
  have hrem:(kd:Int).tmod 3=0:=hr
  clear hr h0 h1 h2 hc
  go_enter Tryz.func12,Tryz.ntmps12
  go_wp2_with fail
  with_reducible refine HC.out.mono ?_
  rintro e w2 ⟨n,rfl,hn⟩
  have HF:=za hn
  clear hn HC
  go_wp2
  go_ret
  exact ⟨n,rfl,HF.out⟩
 ·
  have HC:=za (h1 hc)
  rw [hc] at hr
  have hrem:(kd:Int).tmod 3=1:=hr
  clear hr h0 h1 h2 hc
  go_enter Tryz.func12,Tryz.ntmps12
  go_wp2_with fail
  with_reducible refine HC.out.mono ?_
  rintro e w2 ⟨n,rfl,hn⟩
  have HF:=za hn
  clear hn HC
  go_wp2
  go_ret
  exact ⟨n,rfl,HF.out⟩
 ·
  have HC:=za (h2 hc)
  rw [hc] at hr
  have hrem:(kd:Int).tmod 3=2:=hr
  clear hr h0 h1 h2 hc
  go_enter Tryz.func12,Tryz.ntmps12
  go_wp2_with fail
  with_reducible refine HC.out.mono ?_
  rintro e w2 ⟨n,rfl,hn⟩
  have HF:=za hn
  clear hn HC
  go_wp2
  go_ret
  exact ⟨n,rfl,HF.out⟩
set_option maxRecDepth 100000 in
theorem J5 (R:Int→World→Prop) (B kd:Nat) (a b:ByteArray) (W:World)
  (h:∀ W',Below W.heap.size W W'→(kd % 3=0→Calls Tryz.prog 42 #[.pointer (some ⟨B,0,none⟩),.string a,.string b] W' fun e w'=>∃ n,e=.returned (.int .i64 n)∧R n w')∧(kd % 3=1→Calls Tryz.prog 43 #[.pointer (some ⟨B,0,none⟩),.string a] W' fun e w'=>∃ n,e=.returned (.int .i64 n)∧R n w')∧(kd % 3=2→Calls Tryz.prog 44 #[.pointer (some ⟨B,0,none⟩),.string a,.string b] W' fun e w'=>∃ n,e=.returned (.int .i64 n)∧R n w')) :
  Calls Tryz.prog 15 #[.pointer (some ⟨B,0,none⟩),.agg #[.int .u8 (kd:Int),.string a,.string b]] W fun e w'=>∃ n,e=.returned (.int .i64 n)∧R n w':=by
 obtain ⟨h0,h1,h2⟩:=h _ (z8 (Below.refl W.heap.size W) (.cells #[.int .u8 (kd:Int),.string a,.string b] 36))
 have hr:(kd:Int).tmod 3=((kd % 3:Nat):Int):=rfl
 have hc:kd % 3=0∨kd % 3=1∨kd % 3=2:=by omega
 clear h
 rcases hc with hc | hc | hc
 ·
  have HC:=za (h0 hc)
  rw [hc] at hr
  have hrem:(kd:Int).tmod 3=0:=hr
  clear hr h0 h1 h2 hc
  go_enter Tryz.func15,Tryz.ntmps15
  go_wp2_with fail
  with_reducible refine HC.out.mono ?_
  rintro e w2 ⟨n,rfl,hn⟩
  have HF:=za hn
  clear hn HC
  go_wp2
  go_ret
  exact ⟨n,rfl,HF.out⟩
 ·
  have HC:=za (h1 hc)
  rw [hc] at hr
  have hrem:(kd:Int).tmod 3=1:=hr
  clear hr h0 h1 h2 hc
  go_enter Tryz.func15,Tryz.ntmps15
  go_wp2_with fail
  with_reducible refine HC.out.mono ?_
  rintro e w2 ⟨n,rfl,hn⟩
  have HF:=za hn
  clear hn HC
  go_wp2
  go_ret
  exact ⟨n,rfl,HF.out⟩
 ·
  have HC:=za (h2 hc)
  rw [hc] at hr
  have hrem:(kd:Int).tmod 3=2:=hr
  clear hr h0 h1 h2 hc
  go_enter Tryz.func15,Tryz.ntmps15
  go_wp2_with fail
  with_reducible refine HC.out.mono ?_
  rintro e w2 ⟨n,rfl,hn⟩
  have HF:=za hn
  clear hn HC
  go_wp2
  go_ret
  exact ⟨n,rfl,HF.out⟩

section
variable {w0 W W':World} {B D:Nat} {E F:zg}
theorem Fe {kd:Nat} (h:kd % 3=0) (E:zg) (a b:List UInt8):FA kd E a b=crE E a b∧UW kd E a b=crL E a b:=by unfold FA UW; rw [if_pos h,if_pos h]; exact ⟨rfl,rfl⟩
theorem Fd {kd:Nat} (h:kd % 3=1) (E:zg) (a b:List UInt8):FA kd E a b=deE E a∧UW kd E a b=deL E a:=by unfold FA UW; rw [if_neg (by omega),if_pos h,if_neg (by omega),if_pos h]; exact ⟨rfl,rfl⟩
theorem Fc {kd:Nat} (h:kd % 3=2) (E:zg) (a b:List UInt8):FA kd E a b=seE E a b∧UW kd E a b=seL E a b:=by unfold FA UW; rw [if_neg (by omega),if_neg (by omega),if_neg (by omega),if_neg (by omega)]; exact ⟨rfl,rfl⟩
theorem yu.does (h:yu w0 B D E F W) (kd:Nat) (a b:ByteArray) (ha:a.size≤50) (hb:b.size≤50) :
  Calls Tryz.prog 12 #[.pointer (some ⟨B,0,none⟩),.agg #[.int .u8 (kd:Int),.string a,.string b]] W (jL w0 B D (UW kd E a.data.toList b.data.toList) F (FA kd E a.data.toList b.data.toList) W):=by
 refine (F1 (fun n w'=>n=FA kd E a.data.toList b.data.toList∧yu w0 B D (UW kd E a.data.toList b.data.toList) F w'∧yx W w') B kd a b W fun W' hb'=>?_).mono fun e w' ⟨n,he,hn,h1,h2⟩=>⟨by rw [← hn]; exact he,h1,h2⟩
 obtain ⟨c0,c1,c2⟩:=(h.later hb').olds a b (by omega) (by omega)
 refine ⟨fun hk=>?_,fun hk=>?_,fun hk=>?_⟩
 ·
  obtain ⟨x,y⟩:=Fe hk E a.data.toList b.data.toList
  rw [x,y]
  exact c0.mono fun e w' ⟨he,h1,h2⟩=>⟨_,he,rfl,h1,(yx.of_below hb').trans h2⟩
 ·
  obtain ⟨x,y⟩:=Fd hk E a.data.toList b.data.toList
  rw [x,y]
  exact c1.mono fun e w' ⟨he,h1,h2⟩=>⟨_,he,rfl,h1,(yx.of_below hb').trans h2⟩
 ·
  obtain ⟨x,y⟩:=Fc hk E a.data.toList b.data.toList
  rw [x,y]
  exact c2.mono fun e w' ⟨he,h1,h2⟩=>⟨_,he,rfl,h1,(yx.of_below hb').trans h2⟩
theorem yu.again (h:yu w0 B D E F W) (kd:Nat) (a b:ByteArray) (ha:a.size≤50) (hb:b.size≤50) :
  Calls Tryz.prog 15 #[.pointer (some ⟨D,0,none⟩),.agg #[.int .u8 (kd:Int),.string a,.string b]] W (jL w0 B D E (UW kd F a.data.toList b.data.toList) (FA kd F a.data.toList b.data.toList) W):=by
 refine (J5 (fun n w'=>n=FA kd F a.data.toList b.data.toList∧yu w0 B D E (UW kd F a.data.toList b.data.toList) w'∧yx W w') D kd a b W fun W' hb'=>?_).mono fun e w' ⟨n,he,hn,h1,h2⟩=>⟨by rw [← hn]; exact he,h1,h2⟩
 obtain ⟨c0,c1,c2⟩:=(h.later hb').news a b (by omega) (by omega)
 refine ⟨fun hk=>?_,fun hk=>?_,fun hk=>?_⟩
 ·
  obtain ⟨x,y⟩:=Fe hk F a.data.toList b.data.toList
  rw [x,y]
  exact c0.mono fun e w' ⟨he,h1,h2⟩=>⟨_,he,rfl,h1,(yx.of_below hb').trans h2⟩
 ·
  obtain ⟨x,y⟩:=Fd hk F a.data.toList b.data.toList
  rw [x,y]
  exact c1.mono fun e w' ⟨he,h1,h2⟩=>⟨_,he,rfl,h1,(yx.of_below hb').trans h2⟩
 ·
  obtain ⟨x,y⟩:=Fc hk F a.data.toList b.data.toList
  rw [x,y]
  exact c2.mono fun e w' ⟨he,h1,h2⟩=>⟨_,he,rfl,h1,(yx.of_below hb').trans h2⟩
theorem xL.does13 (h:xL w0 W B E) (kd:Nat) (a b:ByteArray) (ha:a.size≤50) (hb:b.size≤50) :
  Calls Tryz.prog 12 #[.pointer (some ⟨B,0,none⟩),.agg #[.int .u8 (kd:Int),.string a,.string b]] W fun e w'=>∃ n,e=.returned (.int .i64 n)∧xL w0 w' B (UW kd E a.data.toList b.data.toList)∧xM W w':=by
 refine F1 (fun n w'=>xL w0 w' B (UW kd E a.data.toList b.data.toList)∧xM W w') B kd a b W fun W' hb'=>?_
 have h':=h.later hb'
 refine ⟨fun hk=>?_,fun hk=>?_,fun hk=>?_⟩
 ·
  rw [(Fe hk E a.data.toList b.data.toList).2]
  exact (h'.create a b (by omega) (by omega)).mono fun e w' ⟨he,h1,h2⟩=>⟨_,he,h1,(xM.of_below hb').trans h2⟩
 ·
  rw [(Fd hk E a.data.toList b.data.toList).2]
  exact (h'.delete a (by omega)).mono fun e w' ⟨he,h1,h2⟩=>⟨_,he,h1,(xM.of_below hb').trans h2⟩
 ·
  rw [(Fc hk E a.data.toList b.data.toList).2]
  exact (h'.sethash a b (by omega) (by omega)).mono fun e w' ⟨he,h1,h2⟩=>⟨_,he,h1,(xM.of_below hb').trans h2⟩

/-! ### what is asked -/
theorem has_up13 {A:zt} {L:zg} {S:zj} {k:Nat} (hg:zs A L S k) (h:zm A L S=uJ F) (n:List UInt8):Zm A n=yF F n:=by
 have h1:=yP (L:=L) (S:=S) hg.rise n
 rw [h,Yf] at h1
 rw [get13]
 unfold Zm
 cases ha:xV A n with
 | none =>
  rw [ha] at h1
  cases hf:xV (V:=List UInt8) F n with
  | none=>rfl
  | some x=>rw [hf] at h1; cases h1
 | some a =>
  rw [ha] at h1
  cases hf:xV (V:=List UInt8) F n with
  | none=>rw [hf] at h1; cases h1
  | some x =>
   rw [hf] at h1
   injection h1 with h1
   exact (congrArg U11.hs h1).symm
theorem yu.nlookup (h:yu w0 B D E F W) (n:ByteArray) (hn:n.size≤50) :
  Calls Tryz.prog 18 #[.pointer (some ⟨D,0,none⟩),.string n] W fun e w'=>∃ t cm cd ca cl cc,e=.returned (.tuple #[.agg #[.string t,.string (tx7 (loS F n.data.toList)),.string cm,.bool cd,.slice ca cl cc],.int .i64 (deE F n.data.toList)])∧Below W.heap.size W w':=by
 obtain ⟨P,M,G,A,L,S,ho,h1,h2,h3⟩:=h.new
 have hde:uQ A n.data.toList=deE F n.data.toList:=by
  have:=@YV A L S n.data.toList
  rw [h2,(U8 F _).1] at this
  exact this.symm
 refine (Zi n ho h1.grp (by omega)).mono fun e w' ⟨v,he,hl,hb⟩=>?_
 rw [hde] at he
 unfold Fy at hl
 rw [hde] at hl
 by_cases h0:deE F n.data.toList=0
 ·
  obtain ⟨ga,gc,hv,_⟩:=hl.1 h0
  refine ⟨n,zY (yF L n.data.toList),uP A n.data.toList,ga,(yX S n.data.toList).length,gc,?_,hb⟩
  rw [he,hv,has_up13 h1 h2]
  unfold loS
  rw [if_pos h0]
  rfl
 ·
  refine ⟨⟨#[]⟩,⟨#[]⟩,false,none,0,0,?_,hb⟩
  rw [he,hl.2 h0]
  unfold loS
  rw [if_neg h0]
  rfl
theorem li13 (pre:List UInt8):liE pre=ze (xF pre) 10∧liL F pre=XM (F.map (·.1)) pre:=by
 unfold liE liL XM liE
 cases xF pre <;> exact ⟨rfl,rfl⟩
theorem yu.nlist (h:yu w0 B D E F W) (pre:ByteArray) (hp:pre.size≤50) :
  Calls Tryz.prog 20 #[.pointer (some ⟨D,0,none⟩),.string pre] W fun e w'=>∃ v,e=.returned (.tuple #[v,.int .i64 (liE pre.data.toList)])∧uS w' v (liL F pre.data.toList)∧Below W.heap.size W w':=by
 obtain ⟨P,M,G,A,L,S,ho,h1,h2,h3⟩:=h.new
 have hnm:zb A=F.map (·.1):=by rw [← ux A L S,h2,Q8]
 obtain ⟨e1,e2⟩:=li13 (F:=F) pre.data.toList
 rw [e1,e2,← hnm]
 exact Yy pre ho h1.rise h1.few (by omega)
theorem yu.elist (h:yu w0 B D E F W) (pre:ByteArray) (hp:pre.size≤50) :
  Calls Tryz.prog 19 #[.pointer (some ⟨B,0,none⟩),.string pre] W fun e w'=>∃ v,e=.returned (.tuple #[v,.int .i64 (liE pre.data.toList)])∧uS w' v (liL E pre.data.toList)∧Below W.heap.size W w' :=
 (h.old.1.list pre (by omega)).mono fun e w' ⟨v,he,ht,hb⟩=>⟨v,he,ht,hb⟩
end
end Go.Proofs.YthmomkjingcbiaaGreatDoor
namespace Go.Proofs.YthmomkjingcbiaaGreatDoor
open Go.RowKit Go.Maps Go.Sort Go.Shelf

def xR (t:Uq):Bool:=decide (t.nm.size≤50) && decide (t.hs.size≤50)
def V2 (l:List Uq):Bool:=l.all xR && decide (l.length≤60)

set_option maxRecDepth 100000 in
theorem few13_calls (A:Option Addr) (c n:Nat) (l:List Uq) (w:World) (hl:n=l.length) (hn:n≤9223372036854775807) (hr:RdA7 w A l) :
  Calls Tryz.prog 10 #[.slice A n c] w (zQ (V2 l) w):=by
 have HR:=za hr
 have HL:=za hl
 clear hr hl
 obtain ⟨r,hr⟩:∃ r,r=V2 l:=⟨_,rfl⟩
 rw [← hr]
 have HRR:=za hr
 clear hr
 go_enter Tryz.func10,Tryz.ntmps10
 go_wp2
 go_loopg [4,7] n (fun gg _ s7 wr=>∃ k:Nat,k≤n∧n - k≤gg∧s7=.int .i64 k∧Hid (Below w.heap.size w wr)∧Hid (∀ j (h:j<l.length),j<k→xR l[j]=true))
 case atStart=>exact ⟨0,Nat.zero_le _,by omega,rfl,Below.refl _ _,fun j _ hj=>absurd hj (Nat.not_lt_zero _)⟩
 case round =>
  obtain ⟨k,hk,hg,rfl,HW,A0⟩:=hrel
  by_cases hlt:k<n
  ·
   have hltz:(k:Int)<(n:Int):=by omega
   have hkl:k<l.length:=HL.out ▸ hlt
   obtain ⟨b,off,rfl,hb,hc⟩:=(HR.out.later HW.out) (by intro e; rw [e] at hkl; exact absurd hkl (Nat.not_lt_zero _))
   have c0:wr.cell? ⟨b,off+k * 3,none⟩=some (.int .u8 (l[k].kd:Int)):=hc k hkl 0 _ rfl
   have c1:wr.cell? ⟨b,off+k * 3+1,none⟩=some (.string l[k].nm):=hc k hkl 1 _ rfl
   have c2:wr.cell? ⟨b,off+k * 3+2,none⟩=some (.string l[k].hs):=hc k hkl 2 _ rfl
   have HX:Hid (xR l[k]=true→∀ j (h:j<l.length),j<k+1→xR l[j]=true):=fun hq j h hj=>by
    by_cases e:j=k
    ·
     subst e; exact hq
    ·
     exact A0.out j h (by omega)
   have HF:Hid (xR l[k]=false→r=false):=fun hf=>by
    rw [HRR.out]
    have:l.all xR=false:=List.all_eq_false.2 ⟨l[k],List.getElem_mem hkl,by rw [hf]; simp⟩
    unfold V2
    rw [this]; rfl
   have HB3:=za (z7 HW.out (z8 (Below.refl wr.heap.size wr) (.cells #[.int .u8 (l[k].kd:Int),.string l[k].nm,.string l[k].hs] 36)))
   unfold xR at HX HF
   clear hc hb A0
   generalize l[k].kd=kd at *
   generalize l[k].nm=nm at *
   generalize l[k].hs=hs at *
   by_cases h1:nm.size≤50
   ·
    by_cases h2:hs.size≤50
    ·
     have HY:=za (HX.out (by simp [h1,h2]))
     have z1:¬ (nm.size:Int) > 50:=by omega
     have z2:¬ (hs.size:Int) > 50:=by omega
     have y1:¬ 50<nm.size:=by omega
     have y2:¬ 50<hs.size:=by omega
     have x1:decide ((nm.size:Int) > 50)=false:=decide_eq_false z1
     have x2:decide ((hs.size:Int) > 50)=false:=decide_eq_false z2
     clear HX HF
     go_wp2
     go_roundg (n - (k+1))
     case measure=>omega
     case rel=>exact ⟨k+1,by omega,by omega,by go_num,HB3,HY⟩
    ·
     have hr:r=false:=HF.out (by simp [h2])
     subst hr
     have z1:¬ (nm.size:Int) > 50:=by omega
     have z2:(hs.size:Int) > 50:=by omega
     have y1:¬ 50<nm.size:=by omega
     have y2:50<hs.size:=by omega
     have x1:decide ((nm.size:Int) > 50)=false:=decide_eq_false z1
     have x2:decide ((hs.size:Int) > 50)=true:=decide_eq_true z2
     clear HX HF
     go_wp2
     go_ret
     exact ⟨rfl,HB3.out⟩
   ·
    have hr:r=false:=HF.out (by simp [h1])
    subst hr
    have z1:(nm.size:Int) > 50:=by omega
    have y1:50<nm.size:=by omega
    have x1:decide ((nm.size:Int) > 50)=true:=decide_eq_true z1
    clear HX HF
    go_wp2
    go_ret
    exact ⟨rfl,HB3.out⟩
  ·
   have hltz:¬ (k:Int)<(n:Int):=by omega
   obtain rfl:k=n:=by omega
   have hr0:r=decide (k≤60):=by
    rw [HRR.out]
    have:l.all xR=true:=by
     rw [List.all_eq_true]
     intro x hx
     obtain ⟨j,hj,rfl⟩:=List.getElem_of_mem hx
     exact A0.out j hj (by have:=HL.out; omega)
    unfold V2
    rw [this,← HL.out]; rfl
   have HZ:=za hr0
   clear A0 hr0
   by_cases h60:k≤60
   ·
    have z:(k:Int)≤60:=by omega
    go_wp2
    go_ret
    exact ⟨by rw [HZ.out,decide_eq_true h60]; rfl,HW.out⟩
   ·
    have z:¬ (k:Int)≤60:=by omega
    go_wp2
    go_ret
    exact ⟨by rw [HZ.out,decide_eq_false h60]; rfl,HW.out⟩
theorem few13_len {l:List Uq} (h:V2 l=true):l.length≤60:=by
 unfold V2 at h
 simp only [Bool.and_eq_true,decide_eq_true_eq] at h
 exact h.2
theorem few13_size {l:List Uq} (h:V2 l=true):∀ t∈l,t.nm.size≤50∧t.hs.size≤50:=by
 unfold V2 at h
 simp only [Bool.and_eq_true] at h
 intro t ht
 have:=List.all_eq_true.1 h.1 t ht
 unfold xR at this
 simpa using this

def Up (w:World) (r:Int×List UInt8) (e:Ending) (w':World):Prop :=
 (r.1≠0∧e=.returned (.tuple #[.pointer none,.int .i64 r.1])∧Below w.heap.size w w') ∨
 (r.1=0∧∃ D P M G A L S k,e=.returned (.tuple #[.pointer (some ⟨D,0,none⟩),.int .i64 0])∧zl w w' D P M G A L S∧zs A L S k∧Y3 (zm A L S) (zb S)=r.2)
set_option maxRecDepth 100000 in
theorem jg (u:Value) (bs:List UInt8) (w:World) (hu:Rd w u bs) (h2:vd bs≠2) (hl:bs.length≤1000) (hm:vQ w) :
  Calls Tryz.prog 28 #[u] w (Up w (Yz bs)):=by
 have HS:=za (VC u bs w hu)
 obtain ⟨A0,c0,rfl⟩:=hu.shape
 have HR:Hid (Calls Tryz.prog 86 #[.slice A0 bs.length c0] w fun e w'=>∃ dv er,e=.returned (.tuple #[dv,.int .i64 er])∧Hid (Calls Tryz.prog 14 #[dv] w' fun e2 w2=>∃ nv,e2=.returned nv∧Up w (Yz bs) (.returned (.tuple #[nv,.int .i64 er])) w2)):=by
  refine (VH _ bs w hu hl hm).mono fun e w' h=>?_
  rw [JJ h2]
  have hg:=@VG bs
  generalize uL bs=r at *
  rcases h with ⟨h0,he,hb⟩ | ⟨h0,B,he,ho⟩
  ·
   refine ⟨_,_,he,(Xd w').mono fun e2 w2 ⟨a,b⟩=>⟨_,a,.inl ⟨by rw [if_neg h0]; exact h0,by rw [if_neg h0],?_⟩⟩⟩
   rw [← b]
   exact hb
  ·
   refine ⟨_,_,he,(Qa ho (hg h0) (hm.later ho.below)).mono fun e2 w2 ⟨D,P,M,G,A,L,S,k,a,b,c,d,f,_⟩=>⟨_,a,.inr ⟨by rw [if_pos h0],D,P,M,G,A,L,S,k,rfl,b.base ho.below,c,?_⟩⟩⟩
   rw [if_pos h0,d,f,JV]
 have hz:(vd bs == 2)=false:=by simpa using h2
 clear hu hl hm h2
 generalize Yz bs=r at *
 generalize bs.length=n at *
 generalize vd bs=sc at *
 go_enter Tryz.func28,Tryz.ntmps28
 go_wp2_with fail
 with_reducible refine HS.out.mono ?_
 rintro e w1 ⟨rfl,rfl⟩
 clear HS
 go_wp2_with fail
 with_reducible refine HR.out.mono ?_
 rintro e w2 ⟨dv,er,rfl,hu⟩
 clear HR
 go_wp2_with fail
 with_reducible refine hu.out.mono ?_
 rintro e w3 ⟨nv,rfl,hf⟩
 have HF:=za hf
 clear hf hu
 go_wp2
 go_ret2
 exact HF.out

def fg (w:World) (r:Int×List UInt8) (e:Ending) (w':World):Prop :=
 ∃ v,e=.returned (.tuple #[v,.int .i64 r.1])∧w'.ownsRow 0 5 1 v r.2.length (cellsOf r.2)∧(∀ k,v.ownBlock=some k→w.heap.size≤k)∧Below w.heap.size w w'
theorem QB {bs:List UInt8} (h:(Yz bs).1≠0):(Yz bs).2=[]:=by
 unfold Yz at h ⊢
 split
 ·
  split
  ·
   next h2 h0=>rw [if_pos h2,if_pos h0] at h; exact absurd rfl h
  ·
   rfl
 ·
  split
  ·
   next h2 h0=>rw [if_neg h2,if_pos h0] at h; exact absurd rfl h
  ·
   rfl

set_option maxRecDepth 100000 in
theorem VT (u:Value) (r:Int×List UInt8) (w:World) (hr:Calls Tryz.prog 28 #[u] w (Up w r)) (hn:r.1≠0→r.2=[]) (hu:∃ A n c,u=.slice A n c) (hm:vQ w) :
  Calls Tryz.prog 7 #[u] w (fg w r):=by
 have HR:=za hr
 have HM:=za hm
 have HN:=za hn
 obtain ⟨A0,n,c0,rfl⟩:=hu
 clear hr hn hm
 obtain ⟨er,out⟩:=r
 go_enter Tryz.func7,Tryz.ntmps7
 go_wp2_with fail
 with_reducible refine HR.out.mono ?_
 rintro e w1 hcase
 clear HR
 rcases hcase with ⟨h0,rfl,hb⟩ | ⟨h0,D,P,M,G,A,L,S,k,rfl,ho,hg,ht⟩
 ·
  dsimp only at h0 HN ⊢
  have hz:(er != 0)=true:=by simpa using h0
  have hn:=HN.out h0
  subst hn
  have HF:Hid (fg w (er,[]) (.returned (.tuple #[.slice none 0 0,.int .i64 er])) w1):=⟨_,rfl,World.ownsRow_nil _ _ _ _,(fun k h=>by simp [Value.ownBlock] at h),hb⟩
  clear hb h0 HN
  go_wp2
  go_ret2
  exact HF.out
 ·
  dsimp only at h0 ht
  subst h0
  have HB:=Zn ho hg (HM.out.later ho.below)
  rw [ht] at HB
  have HB1:=za HB
  have HBL:=za ho.below
  clear HB ho hg ht HN HM
  go_wp2_with fail
  with_reducible refine HB1.out.mono ?_
  rintro e w2 ⟨v,rfl,hrow,hnew,hb⟩
  have HF:Hid (fg w (0,out) (.returned (.tuple #[v,.int .i64 0])) w2):=⟨v,rfl,hrow,fun k h=>Nat.le_trans HBL.out.size (hnew k h),z7 HBL.out hb⟩
  clear hrow hnew hb HB1 HBL
  go_wp2
  go_ret2
  exact HF.out

theorem ex13:Yz [1,0,0]=(0,[2,0,0,0,0]):=by decide +kernel
set_option maxRecDepth 100000 in
theorem lives13_calls (w:World) (h5:vQ w):Calls Tryz.prog 6 #[] w (zQ true w):=by
 have HB:Hid (∀ W A,Below w.heap.size w W→Rd W (.slice A 3 3) [1,0,0]→Calls Tryz.prog 7 #[.slice A 3 3] W (fg W (0,[2,0,0,0,0]))):=fun W A hb hr=>by
  have:=VT _ _ W (jg _ [1,0,0] W hr (by decide) (by decide) (h5.later hb)) (@QB [1,0,0]) ⟨_,_,_,rfl⟩ (h5.later hb)
  rwa [ex13] at this
 have hb:=z8 (Below.refl w.heap.size w) (.cells #[.int .u8 1,.int .u8 0,.int .u8 0] 5)
 have HB0:=za hb
 have HRD:Hid (Rd (w.alloc (.cells #[.int .u8 1,.int .u8 0,.int .u8 0] 5)) (.slice (some ⟨w.heap.size,0,none⟩) 3 3) [1,0,0]) :=
  ⟨some ⟨w.heap.size,0,none⟩,3,rfl,fun _=>⟨⟨w.heap.size,0,none⟩,rfl,by simp,fun j u hj=>by
   rw [Addr.add_lit,Nat.zero_add,World.cell?_alloc_at _ _ _ _ rfl]
   simpa [cellsOf] using hj⟩⟩
 have HC:=za (HB.out _ _ hb HRD.out)
 clear hb HB HRD h5
 go_enter Tryz.func6,Tryz.ntmps6
 go_wp2_with fail
 with_reducible refine HC.out.mono ?_
 rintro e w2 ⟨v2,rfl,ho,_,hb⟩
 have hrd:=(Rd.of_own ho).string (P:=Tryz.prog) (src:=22) (dst:=9) Tryz.underlying22 Tryz.underlying5 Tryz.underlying9
 obtain ⟨A2,c2,rfl⟩:=yW ho
 have HB2:=za (z7 HB0.out hb)
 clear ho hb HC
 have hrd6:(convert 22 9 (.slice A2 5 c2)).run Tryz.prog w2=.ok (.string ⟨#[2,0,0,0,0]⟩) w2:=hrd
 clear hrd
 go_wp2
 go_ret
 exact ⟨rfl,HB2.out⟩
end Go.Proofs.YthmomkjingcbiaaGreatDoor
