/-
  The texts that the laws of this seat share, part 8: what the code and the document's own answers tell, walked function by function.
  Conditions: each theorem's own.
-/
import Derived.Test.YtmcomnocpibiiaaGreatDoorFolMBA
import Derived.Test.YtmcomnocpibiiaaGreatDoorFolMBB
import Derived.Test.YtmcomnocpibiiaaGreatDoorFolMBC
import Derived.Test.YtmcomnocpibiiaaGreatDoorFolMBD
import Derived.Test.YtmcomnocpibiiaaGreatDoorFolMBE
import Derived.Test.YtmcomnocpibiiaaGreatDoorFolMBF
import Derived.Test.YtmcomnocpibiiaaGreatDoorFolMBG
namespace Go.Proofs.YtmcomnocpibiiaaGreatDoor
open Go.RowKit Go.Maps



def folB (l : List Us) (G : List ByteArray) : List UInt8 := le 2 1 ++ (rowB G ++ (le l.length 2 ++ l.flatMap (userB 2)))


/-! ### What was read is what is written -/

/-! ### What is written is read -/
structure May12 (l : List Us) (G : List ByteArray) : Prop where
 of : ofD11 l G = 0
 all : ∀ u ∈ l, chk6 2 u = 0
 few : l.length ≤ 12
 names : names6 G = true
 rise : rise6 G = true
 gfew : G.length ≤ 6
theorem may12 {l : List Us} {G : List ByteArray} (h : ofD11 l G = 0) : May12 l G := by
 have hc : cE11 l G = 0 := by
  by_cases hc : cE11 l G = 0
  ·
   exact hc
  ·
   have := (cE_of (l := l) (G := G)).1 hc
   rw [h] at this
   exact absurd this.symm hc
 obtain ⟨h1, _, h3, h4, h5, h6⟩ := cE_facts hc
 exact ⟨h, h1, h3, h4, h5, h6⟩
theorem May12.sizes {l : List Us} {G : List ByteArray} (h : May12 l G) : ∀ g ∈ G, g.size ≤ 12 := fun g hg => name5_size (by
 have := List.all_eq_true.1 h.names g hg
 exact this)
theorem folB_nrm12 (l : List Us) (G : List ByteArray) : folB (l.map nrm11) G = folB l G := by
 unfold folB
 rw [List.length_map, List.flatMap_map]
 rfl

/-! ### How long -/
theorem textsB_length12 {n : Nat} : ∀ {ss : List ByteArray}, (∀ s ∈ ss, s.size ≤ n) → (textsB ss).length ≤ (n + 2) * ss.length
 | [], _ => by simp [textsB]
 | s :: ss, h => by
  have h1 := h s (List.mem_cons_self ..)
  have h2 := textsB_length12 (n := n) (ss := ss) (fun x hx => h x (List.mem_cons_of_mem _ hx))
  show (textB s ++ textsB ss).length ≤ _
  rw [List.length_append, textB_length, List.length_cons, Nat.mul_succ]
  omega
theorem userB_length12 {u : Us} (h : chk6 2 u = 0) : (userB 2 u).length ≤ 137 := by
 obtain ⟨hl, _⟩ := chk6_little h
 have h1 := hl.nm
 have h2 := hl.hs
 have h3 := hl.ml
 have h4 := textsB_length12 hl.all
 have h5 := hl.len
 show (textB u.nm ++ textB u.hs ++ (textB u.ml ++ le u.dis.toNat 1 ++ (le u.gs.length 2 ++ textsB u.gs))).length ≤ 137
 simp only [List.length_append, textB_length, le_length]
 omega
theorem usersB_length12 : ∀ {l : List Us}, (∀ u ∈ l, chk6 2 u = 0) → (l.flatMap (userB 2)).length ≤ 137 * l.length
 | [], _ => Nat.le_refl _
 | q :: l, h => by
  have h1 := userB_length12 (h q (List.mem_cons_self ..))
  have h2 := usersB_length12 (l := l) (fun x hx => h x (List.mem_cons_of_mem _ hx))
  rw [List.flatMap_cons, List.length_append, List.length_cons]
  omega

/-! ### The document's way -/

/-! ### A directory's rows -/
def usOf12 (p : List UInt8 × U11) : Us := ⟨tx10 p.1, tx10 p.2.hs, tx10 p.2.ml, p.2.dis, none, p.2.gs.map tx10, 0⟩
theorem bl_tx12 (N : List (List UInt8)) : bl11 (N.map tx10) = N := by
 unfold bl11
 rw [List.map_map]
 conv => rhs; rw [← List.map_id N]
 exact List.map_congr_left fun x _ => tx10_list x
theorem tx_bl12 (G : List ByteArray) : (bl11 G).map tx10 = G := by
 unfold bl11
 rw [List.map_map]
 conv => rhs; rw [← List.map_id G]
 exact List.map_congr_left fun x _ => tx10_back x
theorem usOf_plU12 (l : List Us) : (plU11 l).map usOf12 = l.map nrm11 := by
 unfold plU11
 rw [List.map_map]
 refine List.map_congr_left fun u _ => ?_
 show (⟨tx10 u.nm.data.toList, tx10 u.hs.data.toList, tx10 u.ml.data.toList, u.dis, none, (bl11 u.gs).map tx10, 0⟩ : Us) = nrm11 u
 rw [tx10_back, tx10_back, tx10_back, tx_bl12]
 rfl
def folT12 (T : Usr11) (N : List (List UInt8)) : List UInt8 := folB (T.map usOf12) (N.map tx10)
theorem folT_of12 (l : List Us) (G : List ByteArray) : folT12 (plU11 l) (bl11 G) = folB l G := by
 unfold folT12
 rw [usOf_plU12, tx_bl12, folB_nrm12]
theorem rise6_of12 : ∀ {ss : List ByteArray}, (ss.Pairwise fun a b => bytesBefore a.data.toList b.data.toList = true) → rise6 ss = true
 | [], _ => rfl
 | [_], _ => rfl
 | a :: b :: r, h => by
  obtain ⟨h1, h2⟩ := List.pairwise_cons.1 h
  unfold rise6
  rw [rise6_of12 h2, Bool.and_true]
  unfold ahead6
  rw [before_cmp]
  exact h1 b (List.mem_cons_self ..)
theorem rise6_tx12 {N : List (List UInt8)} (h : RiseT N) : rise6 (N.map tx10) = true := by
 refine rise6_of12 (List.pairwise_map.2 (List.Pairwise.imp (fun {a b} hab => ?_) h))
 rw [tx10_list, tx10_list]
 exact hab
theorem names6_tx12 {N : List (List UInt8)} (h : ∀ n ∈ N, name5 n = true) : names6 (N.map tx10) = true := by
 unfold names6
 rw [List.all_eq_true]
 intro g hg
 obtain ⟨n, hn, rfl⟩ := List.mem_map.1 hg
 rw [tx10_list]
 exact h n hn
section
variable {A : Acc11} {L : Row7} {S : Grs10} {k : Nat}
theorem good_mail12 (h : Good11 A L S k) (n : List UInt8) : fold6 (tx10 (getE L n)) = true := by
 unfold fold6
 rw [Bool.or_eq_true, Bool.and_eq_true, decide_eq_true_eq, decide_eq_true_eq, tx10_list, tx10_size]
 cases hh : hasE L n with
 | false => exact .inl (by rw [getE_none hh]; rfl)
 | true =>
  obtain ⟨_, h2, h3⟩ := h.all _ (hasE_mem hh)
  refine .inr ⟨h2, ?_⟩
  unfold mailT
  rw [if_pos h2]
  show tx10 (fold5 (getE L n)) = _
  rw [h3]
theorem good_chk12 (h : Good11 A L S k) (p : List UInt8 × (List UInt8 × Bool)) (hp : p ∈ A) : chk6 2 (usOf12 (p.1, tell1 L S p.1 p.2)) = 0 := by
 obtain ⟨h1, h2⟩ := h.nm p hp
 have h3 := good_mail12 h p.1
 have h4 : ((of10 S p.1).map tx10).length ≤ 6 := by rw [List.length_map]; exact Nat.le_trans (of10_le S p.1) h.grp.few
 have h5 : names6 ((of10 S p.1).map tx10) = true := names6_tx12 fun g hg => by
  obtain ⟨q, hq, rfl⟩ := List.mem_map.1 (of10_sub hg)
  exact h.grp.named q hq
 have h6 : rise6 ((of10 S p.1).map tx10) = true := rise6_tx12 (of10_rise h.grp.rise p.1)
 unfold chk6
 dsimp only
 rw [if_neg (by decide)]
 show first6 [first6 [err5 (know6 2) 6, err5 (name5 (tx10 p.1).data.toList) 10, err5 (hash5 (tx10 p.2.1).data.toList) 4], err5 (fold6 (tx10 (getE L p.1))) 11, err5 (decide (((of10 S p.1).map tx10).length ≤ 6)) 7, err5 (names6 ((of10 S p.1).map tx10)) 10, err5 (rise6 ((of10 S p.1).map tx10)) 9] = 0
 rw [tx10_list, tx10_list, h1, h2, h3, h5, h6, decide_eq_true h4]
 rfl
theorem tell_us12 (A : Acc11) (L : Row7) (S : Grs10) : (tell11 A L S).map usOf12 = A.map fun p => usOf12 (p.1, tell1 L S p.1 p.2) := by
 unfold tell11
 rw [List.map_map]
 rfl
theorem may_zero12 : ∀ {l : List Us}, (∀ u ∈ l, chk6 2 u = 0) → mayE11 l = 0
 | [], _ => rfl
 | u :: l, h => by
  unfold mayE11
  rw [if_pos (h u (List.mem_cons_self ..))]
  exact may_zero12 fun x hx => h x (List.mem_cons_of_mem _ hx)
theorem rest_zero12 (G : List ByteArray) : ∀ (l pre : List Us), (∀ u ∈ l, u.gs.all (fun g => hasT (bl11 G) g.data.toList) = true) → (pre ++ l).Pairwise (fun u v => u.ml.data.toList ≠ [] → v.ml.data.toList ≠ u.ml.data.toList) → restD11 G pre l = 0
 | [], _, _, _ => rfl
 | u :: l, pre, h1, h2 => by
  obtain ⟨_, _, p3⟩ := List.pairwise_append.1 h2
  have h0 : oneD11 G pre u = 0 := by
   unfold oneD11
   rw [if_pos (h1 u (List.mem_cons_self ..)), if_neg]
   rw [Bool.not_eq_true, List.any_eq_false]
   intro v hv hc
   rw [Bool.and_eq_true, Bool.not_eq_true', beq_eq_false_iff_ne, beq_iff_eq] at hc
   exact p3 v hv u (List.mem_cons_self ..) (by rw [← hc.2]; exact hc.1) hc.2
  show (if oneD11 G pre u = 0 then restD11 G (pre ++ [u]) l else oneD11 G pre u) = 0
  rw [if_pos h0]
  exact rest_zero12 G l (pre ++ [u]) (fun x hx => h1 x (List.mem_cons_of_mem _ hx)) (by rw [List.append_assoc]; exact h2)
theorem good_of12 (h : Good11 A L S k) : ofD11 ((tell11 A L S).map usOf12) ((names10 S).map tx10) = 0 := by
 have h1 : mayE11 ((tell11 A L S).map usOf12) = 0 := may_zero12 fun u hu => by
  rw [tell_us12] at hu
  obtain ⟨p, hp, rfl⟩ := List.mem_map.1 hu
  exact good_chk12 h p hp
 have h2 : rise6 (((tell11 A L S).map usOf12).map (·.nm)) = true := by
  have e : ((tell11 A L S).map usOf12).map (·.nm) = (names10 A).map tx10 := by
   rw [tell_us12, List.map_map]
   unfold names10
   rw [List.map_map]
   rfl
  rw [e]
  exact rise6_tx12 (RiseV.names h.rise)
 have h3 : ((tell11 A L S).map usOf12).length ≤ 12 := by rw [List.length_map, tell_len]; exact h.few
 have h4 : names6 ((names10 S).map tx10) = true := names6_tx12 fun n hn => by
  obtain ⟨q, hq, rfl⟩ := List.mem_map.1 hn
  exact h.grp.named q hq
 have h5 : rise6 ((names10 S).map tx10) = true := rise6_tx12 (RiseV.names h.grp.rise)
 have h6 : ((names10 S).map tx10).length ≤ 6 := by
  rw [List.length_map]
  unfold names10
  rw [List.length_map]
  exact h.grp.few
 have h7 : restD11 ((names10 S).map tx10) [] ((tell11 A L S).map usOf12) = 0 := by
  refine rest_zero12 _ _ _ (fun u hu => ?_) ?_
  ·
   rw [tell_us12] at hu
   obtain ⟨p, hp, rfl⟩ := List.mem_map.1 hu
   rw [List.all_eq_true]
   intro g hg
   obtain ⟨x, hx, rfl⟩ := List.mem_map.1 (show g ∈ (of10 S p.1).map tx10 from hg)
   rw [bl_tx12, tx10_list, hasT_iff]
   exact of10_sub hx
  ·
   rw [List.nil_append, tell_us12]
   refine List.pairwise_map.2 (List.Pairwise.imp (fun {p q} hpq => ?_) h.rise)
   show (tx10 (getE L p.1)).data.toList ≠ [] → (tx10 (getE L q.1)).data.toList ≠ (tx10 (getE L p.1)).data.toList
   rw [tx10_list, tx10_list]
   intro hne he
   obtain ⟨M, hM⟩ := h.mir
   have hp : hasE L p.1 = true := by
    cases hh : hasE L p.1 with
    | true => rfl
    | false => exact absurd (getE_none hh) hne
   have hq : hasE L q.1 = true := by
    cases hh : hasE L q.1 with
    | true => rfl
    | false => exact absurd (he ▸ getE_none hh) hne
   have m1 := (hM.iff _ _).1 (hasE_mem hp)
   have m2 := (hM.iff _ _).1 (hasE_mem hq)
   rw [he] at m2
   have e := rise_one hM.rm m1 m2
   rw [e] at hpq
   rw [before_irrefl] at hpq
   cases hpq
 unfold ofD11 ofE11
 rw [h1, h2, decide_eq_true (show ((((tell11 A L S).map usOf12).length : Nat) : Int) ≤ 12 by omega), h4, h5, if_pos h6, h7]
 rfl
end
end Go.Proofs.YtmcomnocpibiiaaGreatDoor
namespace Go.Proofs.YtmcomnocpibiiaaGreatDoor
open Go.RowKit Go.Maps Go.Sort Go.Shelf

/-! ### One user of any bytes -/
structure Us.Wide (u : Us) : Prop where
 nm : u.nm.size ≤ 100000
 hs : u.hs.size ≤ 100000
 ml : u.ml.size ≤ 100000
 all : ∀ s ∈ u.gs, s.size ≤ 100000


/-! ### Part by part -/



structure Mem12 (b : Nat) (w : World) (v : Value) (n : Nat) (l l2 : List Us) : Prop where
 same : l2.map nrm11 = l
 row : w.ownsRow b 37 5 v n (ucells11 l2)
 wide : ∀ u ∈ l2, u.Wide
 txt : ∀ u ∈ l2, w.ownsRow b 9 1 (.slice u.ga u.gs.length u.gc) u.gs.length (textCells u.gs)
theorem Mem12.turns {S : Nat → Prop} {b n : Nat} {w w' : World} {v : Value} {l l2 : List Us} (h : Mem12 b w v n l l2) (ht : Turns S w w') (hS : ∀ k, b ≤ k → ¬ S k) : Mem12 b w' v n l l2 :=
 ⟨h.same, owns_turns h.row (Nat.le_refl _) ht hS, h.wide, fun u hu => owns_turns (h.txt u hu) (Nat.le_refl _) ht hS⟩
theorem Mem12.ok {b n : Nat} {w : World} {v : Value} {l l2 : List Us} (h : Mem12 b w v n l l2) : ∀ u ∈ l2, u.Ok w := fun u hu => by
 obtain ⟨f1, f2, f3, f4⟩ := owns_facts6 (h.txt u hu) rfl
 have hw := h.wide u hu
 exact ⟨f1, Nat.le_trans hw.nm (by omega), Nat.le_trans hw.hs (by omega), Nat.le_trans hw.ml (by omega), f2, f3, f4, fun s hs => Nat.le_trans (hw.all s hs) (by omega)⟩

end Go.Proofs.YtmcomnocpibiiaaGreatDoor
namespace Go.Proofs.YtmcomnocpibiiaaGreatDoor
open Go.RowKit Go.Maps Go.Sort Go.Shelf

theorem St11.nrm12 {A : Acc11} {L : Row7} {S : Grs10} {l l2 : List Us} {G : List ByteArray} {k : Nat} (h : St11 A L S l2 G k) (e : l2.map nrm11 = l) : St11 A L S l G k := by
 subst e
 unfold St11 at h ⊢
 rw [pl_nrm11, List.length_map]
 exact h
theorem nof12_calls (A A2 : Option Addr) (c c2 n m : Nat) (l l2 : List Us) (G : List ByteArray) (w : World) (he : l2.map nrm11 = l) (hl : n = l.length) (hn : n ≤ 1000) (hr : RdU7 w A l2) (ho : ∀ u ∈ l2, u.Ok w) (hm : m = G.length) (hm1 : m ≤ 1000) (hg : RdS w A2 G) (hgs : ∀ g ∈ G, g.size ≤ 9223372036854775807) (h5 : Len5 w) :
  Calls Tryz.prog 27 #[.slice A n c, .slice A2 m c2] w (Of11 l G w) := by
 have hx : ofD11 l2 G = ofD11 l G := by rw [← he, of_nrm11]
 refine (nof11_calls A A2 c c2 n m l2 G w (by rw [hl, ← he, List.length_map]) hn hr ho hm hm1 hg hgs h5).mono fun e w' h => ?_
 unfold Of11 at h ⊢
 rw [hx] at h
 rcases h with h | ⟨h0, D, P, M, Gr, A, L, S, k, h1, h2, h3, h4⟩
 ·
  exact .inl h
 ·
  exact .inr ⟨h0, D, P, M, Gr, A, L, S, k, h1, h2, h3.nrm12 he, h4⟩

end Go.Proofs.YtmcomnocpibiiaaGreatDoor
namespace Go.Proofs.YtmcomnocpibiiaaGreatDoor
open Go.RowKit Go.Maps Go.Sort Go.Shelf

def Grows12 (w : World) (B : Nat) (bs : List UInt8) (e : Ending) (w' : World) : Prop := e = .returned (.pointer (some ⟨B, 0, none⟩)) ∧ NW6 w B bs w'
theorem NW6.byte12 {w W : World} {B : Nat} {bs : List UInt8} (xi : Int) (x : Nat) (h : NW6 w B bs W) (ex : xi = x) (hx : x < 256) (hr : bs.length ≤ 500000) :
  Calls Tryz.prog 95 #[.pointer (some ⟨B, 0, none⟩), .int .u8 xi] W (Grows12 w B (bs ++ le x 1)) := by
 subst ex
 obtain ⟨hB, ⟨v, hw, hv⟩, ht⟩ := h
 exact (byte_calls B v bs x W hw hx (by omega)).mono fun e w' ⟨he, hg⟩ => ⟨he, hg.nw6 hB hv ht⟩
theorem NW6.two12 {w W : World} {B : Nat} {bs : List UInt8} (xi : Int) (x : Nat) (h : NW6 w B bs W) (ex : xi = x) (hx : x < 65536) (hr : bs.length ≤ 500000) :
  Calls Tryz.prog 97 #[.pointer (some ⟨B, 0, none⟩), .int .u16 xi] W (Grows12 w B (bs ++ le x 2)) := by
 subst ex
 obtain ⟨hB, ⟨v, hw, hv⟩, ht⟩ := h
 exact (two_calls B v bs x W hw hx (by omega)).mono fun e w' ⟨he, hg⟩ => ⟨he, hg.nw6 hB hv ht⟩
theorem NW6.row12 {w W : World} {B : Nat} {bs : List UInt8} {b c : Nat} {A : Option Addr} (ss : List ByteArray) (h : NW6 w B bs W) (ho : W.ownsRow b 9 1 (.slice A ss.length c) ss.length (textCells ss)) (hl : ss.length ≤ 65535) (hs : ∀ s ∈ ss, s.size ≤ 65535) (hr : bs.length ≤ 500000) :
  Calls Tryz.prog 96 #[.pointer (some ⟨B, 0, none⟩), .slice A ss.length c] W (Grows12 w B (bs ++ rowB ss)) := by
 obtain ⟨hB, ⟨v, hw, hv⟩, ht⟩ := h
 obtain ⟨f1, _, f3, f4⟩ := owns_facts6 ho rfl
 refine (row_calls B v bs A ss.length c ss W hw f3 f4 (by omega) f1 (fun hne a ha => ?_) hs (by omega)).mono fun e w' ⟨he, hg⟩ => ⟨he, hg.nw6 hB hv ht⟩
 rcases ho.2 with ⟨h0, h1⟩ | ⟨g, cap, cur, hv', _, hg, _⟩
 ·
  exact absurd (List.eq_nil_of_length_eq_zero h1) hne
 ·
  injection hv' with hA _ _
  rw [hA] at ha
  injection ha with ha
  subst ha
  rintro (he | he)
  ·
   have he' : g = B := he
   subst he'
   have := hw.1.symm.trans hg
   simp at this
  ·
   rcases hw.2.2 with ⟨hv2, _⟩ | ⟨g', cap', cur', hv2, _, hg', _⟩
   ·
    rw [hv2] at he; simp [Value.ownBlock] at he
   ·
    rw [hv2] at he
    have : g' = g := by simpa [Value.ownBlock] using he
    subst this
    have := hg'.symm.trans hg
    simp at this

set_option maxRecDepth 100000 in
theorem fmost_calls (w : World) : Calls Tryz.prog 37 #[] w fun e w' => e = .returned (.int .i64 1733) ∧ w = w' := by
 go_enter Tryz.func37, Tryz.ntmps37
 go_wp2
 go_ret
 exact ⟨rfl, rfl⟩

theorem plU_us12 (R : RowV W11) : plU11 (R.map us11) = plainR R := by
 unfold plU11 plainR
 rw [List.map_map]
 refine List.map_congr_left fun q _ => ?_
 show ((tx10 q.1).data.toList, (⟨q.2.hs.data.toList, q.2.ml.data.toList, q.2.dis, bl11 (q.2.gs.map tx10)⟩ : U11)) = (q.1, q.2.u)
 rw [tx10_list, bl_tx12]
 rfl
theorem enc_cells12 (N : List (List UInt8)) : N.map encStr = textCells (N.map tx10) := by
 unfold textCells
 rw [List.map_map]
 rfl
section
variable {w0 w : World} {D P M G : Nat} {A : Acc11} {L : Row7} {S : Grs10} {k : Nat}
theorem fall12_calls (ho : Own11 w0 w D P M G A L S) (hg : Good11 A L S k) : Calls Tryz.prog 29 #[.pointer (some ⟨D, 0, none⟩)] w fun e w' =>
  ∃ Aa c l, e = .returned (.slice Aa l.length c) ∧ RdU7 w' Aa l ∧ (∀ u ∈ l, u.Ok w') ∧ plU11 l = tell11 A L S ∧ Below w.heap.size w w' := by
 refine (nall11_calls ho hg).mono fun e w' ⟨v, R, he, hr, hp, hb⟩ => ?_
 have hs := short11 hg
 have hr0 := hr.low (Nat.zero_le _)
 obtain ⟨Aa, c, rfl⟩ := hr0.rw.us.shape
 obtain ⟨h1, h2⟩ := rd_us11 hr0.rw.us
 refine ⟨Aa, c, R.map us11, by rw [← h1]; exact he, h2, fun u hu => ?_, by rw [plU_us12]; exact hp, hb⟩
 obtain ⟨q, hq, rfl⟩ := List.mem_map.1 hu
 have hm : (q.1, q.2.u) ∈ tell11 A L S := by rw [← hp]; exact List.mem_map.2 ⟨q, hq, rfl⟩
 have a2 := hs.hs _ hm
 have a3 := hs.ml _ hm
 exact us11_ok (hr0.2 q hq) (hs.nm _ hm) (by rw [← size_list]; exact a2) (by rw [← size_list]; exact a3) (hs.gs _ hm)
theorem fgroups12_calls (ho : Own11 w0 w D P M G A L S) (hg : Good11 A L S k) : Calls Tryz.prog 63 #[.pointer (some ⟨D, 0, none⟩)] w fun e w' =>
  ∃ Aa c, e = .returned (.slice Aa ((names10 S).map tx10).length c) ∧ w'.ownsRow 0 9 1 (.slice Aa ((names10 S).map tx10).length c) ((names10 S).map tx10).length (textCells ((names10 S).map tx10)) ∧ Below w.heap.size w w' := by
 refine (ngroups11_calls ho hg.grp).mono fun e w' ⟨v, he, hr, hb⟩ => ?_
 have hr0 := ownsRow_low10 hr (Nat.zero_le _)
 obtain ⟨Aa, c, rfl⟩ := owns_shape hr0
 rw [enc_cells12] at hr0
 refine ⟨Aa, c, by rw [List.length_map]; exact he, ?_, hb⟩
 rw [List.length_map]
 exact hr0

set_option maxRecDepth 100000 in
set_option maxHeartbeats 4000000 in
theorem fbytes12_calls (ho : Own11 w0 w D P M G A L S) (hg : Good11 A L S k) (h5 : Len5 w) :
  Calls Tryz.prog 34 #[.pointer (some ⟨D, 0, none⟩)] w (Told6 w (folT12 (tell11 A L S) (names10 S))) := by
 have hz := good_of12 hg
 have hmay := may12 hz
 have HAL : Hid (Calls Tryz.prog 29 #[.pointer (some ⟨D, 0, none⟩)] w fun e w' => ∃ Aa c l, e = .returned (.slice Aa l.length c) ∧ RdU7 w' Aa l ∧ (∀ u ∈ l, u.Ok w') ∧ l.map nrm11 = (tell11 A L S).map usOf12 ∧ Below w.heap.size w w') :=
  (fall12_calls ho hg).mono fun e w' ⟨Aa, c, l, h1, h2, h3, h4, h5⟩ => ⟨Aa, c, l, h1, h2, h3, by rw [← usOf_plU12, h4], h5⟩
 have HGR : Hid (∀ W, Below w.heap.size w W → Calls Tryz.prog 63 #[.pointer (some ⟨D, 0, none⟩)] W fun e w' => ∃ Aa c, e = .returned (.slice Aa ((names10 S).map tx10).length c) ∧ w'.ownsRow 0 9 1 (.slice Aa ((names10 S).map tx10).length c) ((names10 S).map tx10).length (textCells ((names10 S).map tx10)) ∧ Below W.heap.size W w') := fun W hb => fgroups12_calls (ho.later hb) hg
 have H5 := Lib.hid h5
 have hgz := hmay.sizes
 have hg6 := hmay.gfew
 unfold folT12
 generalize (names10 S).map tx10 = Gs at *
 have HCH : Hid (∀ l : List Us, l.map nrm11 = (tell11 A L S).map usOf12 → l.length ≤ 12 ∧ (∀ u ∈ l, chk6 2 u = 0) ∧ folB ((tell11 A L S).map usOf12) Gs = folB l Gs) := fun l he => by
  have m2 : May12 l Gs := may12 (by rw [← of_nrm11, he]; exact hz)
  exact ⟨m2.few, m2.all, by rw [← he, folB_nrm12]⟩
 clear hz hmay h5 ho hg
 generalize (tell11 A L S).map usOf12 = T at *
 generalize folB T Gs = out at *
 have HGZ : Hid (∀ g ∈ Gs, g.size ≤ 65535) := fun g h => Nat.le_trans (hgz g h) (by decide)
 have HRL : Hid ((rowB Gs).length ≤ 1000) := by
  have := textsB_length12 hgz
  show (le Gs.length 2 ++ textsB Gs).length ≤ 1000
  rw [List.length_append, le_length]
  omega
 obtain ⟨m, hm⟩ : ∃ m, m = Gs.length := ⟨_, rfl⟩
 have HMG := Lib.hid hm
 rw [← hm] at HGR hg6
 clear hm hgz
 go_enter Tryz.func34, Tryz.ntmps34
 go_wp2_with fail
 with_reducible refine HAL.out.mono ?_
 rintro e w1 ⟨Aa, c, l, rfl, hu, hok, hse, hb⟩
 obtain ⟨hfew, hck, hfo⟩ := HCH.out l hse
 obtain ⟨n, hn⟩ : ∃ n, n = l.length := ⟨_, rfl⟩
 have HLN : Hid (n = l.length) := hn
 have HU := Lib.hid hu
 have HOK := Lib.hid hok
 have HCK := Lib.hid hck
 have HB1 := Lib.hid hb
 have HSH : Hid (out = le 2 1 ++ rowB Gs ++ le l.length 2 ++ l.flatMap (userB 2)) := by show out = _; rw [hfo]; unfold folB; simp only [List.append_assoc]
 have hbl : ∀ k, ((l.take k).flatMap (userB 2)).length ≤ 137 * 12 := fun k => by
  have := usersB_length12 (l := l.take k) (fun q hq => hck q (List.mem_of_mem_take hq))
  have h2 : (l.take k).length ≤ l.length := by rw [List.length_take]; omega
  omega
 have HBL := Lib.hid hbl
 rw [← hn] at hfew HSH ⊢
 have HM1 := Lib.hid (H5.out.later hb)
 clear hu hok hck hse hfo hb HAL HCH hn hbl H5
 have HZ := Lib.hid (NW6.zero w1)
 go_wp2_with fail
 with_reducible refine (NW6.byte12 _ 2 HZ.out (by simp) (by omega) (by simp)).mono ?_
 rintro e w2 ⟨rfl, h1⟩
 rw [List.nil_append] at h1
 have H1 := Lib.hid h1
 have HG2 := Lib.hid (HGR.out w2 (below_next HB1.out h1.2.2))
 clear h1 HZ HGR
 go_wp2_with fail
 with_reducible refine HG2.out.mono ?_
 rintro e w3 ⟨Ag, cg, rfl, hog, hb⟩
 have H2 := Lib.hid (H1.out.below hb)
 have HOG := Lib.hid hog
 clear hb hog HG2 H1
 have HRC : Hid (Calls Tryz.prog 96 #[.pointer (some ⟨w1.heap.size, 0, none⟩), .slice Ag m cg] w3 (Grows12 w1 w1.heap.size (le 2 1 ++ rowB Gs))) := by
  have ho := HOG.out
  rw [HMG.out] at ho ⊢
  exact NW6.row12 Gs H2.out ho (by rw [← HMG.out]; omega) HGZ.out (by rw [le_length]; omega)
 go_wp2_with fail
 with_reducible refine HRC.out.mono ?_
 rintro e w4 ⟨rfl, h1⟩
 have H3 := Lib.hid h1
 clear h1 HRC H2 HOG
 go_wp2_with fail
 with_reducible refine (NW6.two12 _ n H3.out (by go_num) (by omega) (by have := HRL.out; rw [List.length_append, le_length]; omega)).mono ?_
 rintro e w5 ⟨rfl, h1⟩
 have H4 := Lib.hid h1
 have hpre : (le 2 1 ++ rowB Gs ++ le n 2).length ≤ 2000 := by have := HRL.out; rw [List.length_append, List.length_append, le_length, le_length]; omega
 clear h1 H3
 generalize le 2 1 ++ rowB Gs ++ le n 2 = pre at *
 generalize hB : w1.heap.size = BW at *
 have HBW := Lib.hid hB
 clear hB
 go_wp2
 go_loopg [6, 21] n (fun gg _ s21 wr => ∃ k : Nat, k ≤ n ∧ n - k ≤ gg ∧ s21 = .int .i64 k ∧ Hid (NW6 w1 BW (pre ++ (l.take k).flatMap (userB 2)) wr))
 case atStart => exact ⟨0, Nat.zero_le _, by omega, rfl, by show NW6 w1 BW (pre ++ []) w5; rw [List.append_nil]; exact H4.out⟩
 case round =>
  clear H4
  obtain ⟨k, hk, hg, rfl, HW⟩ := hrel
  have hbw := HW.out.2.2
  by_cases hlt : k < n
  ·
   have hltz : (k : Int) < (n : Int) := by omega
   have hkl : k < l.length := HLN.out ▸ hlt
   obtain ⟨b, off, rfl, hb, hc⟩ := (HU.out.later hbw) (by intro e; rw [e] at hkl; exact absurd hkl (Nat.not_lt_zero _))
   have c0 : wr.cell? ⟨b, off + k * 5, none⟩ = some (.string l[k].nm) := hc k hkl 0 _ rfl
   have c1 : wr.cell? ⟨b, off + k * 5 + 1, none⟩ = some (.string l[k].hs) := hc k hkl 1 _ rfl
   have c2 : wr.cell? ⟨b, off + k * 5 + 2, none⟩ = some (.string l[k].ml) := hc k hkl 2 _ rfl
   have c3 : wr.cell? ⟨b, off + k * 5 + 3, none⟩ = some (.bool l[k].dis) := hc k hkl 3 _ rfl
   have c4 : wr.cell? ⟨b, off + k * 5 + 4, none⟩ = some (.slice l[k].ga l[k].gs.length l[k].gc) := hc k hkl 4 _ rfl
   have hb1 := below_alloc (Below.refl wr.heap.size wr) (.cells #[.string l[k].nm, .string l[k].hs, .string l[k].ml, .bool l[k].dis, .slice l[k].ga l[k].gs.length l[k].gc] 37)
   have hch := HCK.out l[k] (List.getElem_mem hkl)
   have hlen : (pre ++ (l.take k).flatMap (userB 2)).length ≤ 100000 := by have := HBL.out k; rw [List.length_append]; omega
   have HP : Hid (Calls Tryz.prog 98 #[.pointer (some ⟨BW, 0, none⟩), .int .i64 2, .agg #[.string l[k].nm, .string l[k].hs, .string l[k].ml, .bool l[k].dis, .slice l[k].ga l[k].gs.length l[k].gc]] (wr.alloc (.cells #[.string l[k].nm, .string l[k].hs, .string l[k].ml, .bool l[k].dis, .slice l[k].ga l[k].gs.length l[k].gc] 37)) fun e w' => e = .returned (.bool true) ∧ NW6 w1 BW (pre ++ (l.take (k + 1)).flatMap (userB 2)) w') := by
    refine (put6_wide w1 BW _ 2 l[k] _ (HW.out.below hb1) (HOK.out _ (List.getElem_mem hkl)) HM1.out hlen).mono fun e w' h => ?_
    rcases h with ⟨_, he, hn⟩ | ⟨h0, _⟩
    ·
     refine ⟨he, ?_⟩
     rw [List.take_succ_eq_append_getElem hkl, List.flatMap_append, List.flatMap_singleton, ← List.append_assoc]
     exact hn
    ·
     exact absurd hch h0
   clear hc hb hb1 hch hlen hbw HW
   generalize l[k].nm = nm at *
   generalize l[k].hs = hs at *
   generalize l[k].ml = ml at *
   generalize l[k].dis = dis at *
   generalize l[k].ga = ga at *
   generalize l[k].gs.length = gl at *
   generalize l[k].gc = gc at *
   go_wp2_with (go_at_call 98; (with_reducible refine HP.out.mono ?_); rintro e w6 ⟨rfl, h4⟩; have H5 := Lib.hid h4; clear h4)
   go_roundg (n - (k + 1))
   case measure => omega
   case rel => exact ⟨k + 1, by omega, by omega, by go_num, H5⟩
  ·
   have hltz : ¬ (k : Int) < (n : Int) := by omega
   obtain rfl : k = n := by omega
   have hw := HW.out
   rw [List.take_of_length_le (by have := HLN.out; omega), ← HSH.out] at hw
   have hol : out.length ≤ 1000000 := by
    have := HBL.out k
    rw [List.take_of_length_le (by have := HLN.out; omega)] at this
    rw [HSH.out, List.length_append]
    omega
   have HBY := Lib.hid (hw.bytes hol)
   have HBB := Lib.hid (below_next HB1.out hw.2.2)
   have hszb := HBB.out.size
   clear hw hol hbw HW
   go_wp2_with fail
   with_reducible refine HBY.out.mono ?_
   rintro e w7 ⟨v7, rfl, ho, hn, hb⟩
   have HF : Hid (Told6 w out (.returned v7) w7) := ⟨v7, rfl, ho, fun j hj => Nat.le_trans hszb (hn j hj), below_next HBB.out hb⟩
   clear ho hn hb HBY
   go_wp2
   go_ret
   exact HF.out
end

set_option maxRecDepth 100000 in
set_option maxHeartbeats 1000000 in
theorem lives12_calls (w : World) (h5 : Len5 w) : Calls Tryz.prog 32 #[] w (Tells5 true w) := by
 have HN := Lib.hid (nnew11_calls w)
 have HBY : Hid (∀ W D P M G, Own11 w W D P M G [] [] [] → Calls Tryz.prog 34 #[.pointer (some ⟨D, 0, none⟩)] W (Told6 W [2, 0, 0, 0, 0])) := fun W D P M G h => fbytes12_calls h Good11.nil (h5.later h.below)
 clear h5
 go_enter Tryz.func32, Tryz.ntmps32
 go_wp2_with fail
 with_reducible refine HN.out.mono ?_
 rintro e w1 ⟨D, P, M, G, rfl, ho⟩
 have HB1 := Lib.hid ho.below
 have HB := Lib.hid (HBY.out w1 D P M G ho)
 clear ho HN HBY
 go_wp2_with fail
 with_reducible refine HB.out.mono ?_
 rintro e w2 ⟨v2, rfl, ho, _, hb⟩
 have hrd := (Rd.of_own ho).string (P := Tryz.prog) (src := 66) (dst := 9) Tryz.underlying66 Tryz.underlying5 Tryz.underlying9
 obtain ⟨A2, c2, rfl⟩ := owns_shape ho
 have HB2 := Lib.hid (below_next HB1.out hb)
 clear ho hb HB
 have hrd6 : (convert 66 9 (.slice A2 5 c2)).run Tryz.prog w2 = .ok (.string ⟨#[2, 0, 0, 0, 0]⟩) w2 := hrd
 clear hrd
 go_wp2
 go_ret
 exact ⟨rfl, HB2.out⟩

end Go.Proofs.YtmcomnocpibiiaaGreatDoor
namespace Go.Proofs.YtmcomnocpibiiaaGreatDoor
open Go.RowKit Go.Maps Go.Sort Go.Shelf

def longT (l : List UInt8) (x : UInt8) : List UInt8 := l ++ List.replicate (12 - l.length) x
set_option maxRecDepth 100000 in
set_option maxHeartbeats 2000000 in
theorem long12_calls (C : Nat) (l : List UInt8) (x : UInt8) (w : World) (hc : w.cell? ⟨C, 0, none⟩ = some (.string ⟨#[x]⟩)) (hl : l.length ≤ 12) :
  Calls Tryz.prog 40 #[.string ⟨l.toArray⟩, .int .i64 12, .pointer (some ⟨C, 0, none⟩)] w fun e w' => e = .returned (.string ⟨(longT l x).toArray⟩) ∧ w' = w := by
 obtain ⟨m, hm⟩ : ∃ m, m = 12 - l.length := ⟨_, rfl⟩
 have HM := Lib.hid hm
 have HC := Lib.hid hc
 obtain ⟨out, hout⟩ : ∃ out, out = (⟨(longT l x).toArray⟩ : ByteArray) := ⟨_, rfl⟩
 have HOUT : Hid (out = ⟨(l ++ List.replicate m x).toArray⟩) := by rw [hm]; exact hout
 rw [← hout]
 obtain ⟨s, hs⟩ : ∃ s, s = (⟨l.toArray⟩ : ByteArray) := ⟨_, rfl⟩
 have HS : Hid (s = ⟨(l ++ List.replicate 0 x).toArray⟩) := by rw [List.replicate_zero, List.append_nil]; exact hs
 rw [← hs]
 clear hm hout hs hc
 go_enter Tryz.func40, Tryz.ntmps40
 go_wp2
 go_loopg [0] m (fun gg s0 wr => ∃ (k : Nat) (t : ByteArray), k ≤ m ∧ m - k ≤ gg ∧ s0 = .string t ∧ Hid (t = ⟨(l ++ List.replicate k x).toArray⟩) ∧ wr = w)
 case atStart => exact ⟨0, s, Nat.zero_le _, by omega, rfl, HS, rfl⟩
 case round =>
  clear HS
  obtain ⟨k, t, hk, hg, rfl, HT, rfl⟩ := hrel
  have hts : t.size = l.length + k := by rw [HT.out]; show (l ++ List.replicate k x).toArray.size = _; rw [List.size_toArray, List.length_append, List.length_replicate]
  have hc := HC.out
  by_cases hlt : k < m
  ·
   have hz : (t.size : Int) < 12 := by have := HM.out; omega
   have hz1 : t.size < 12 := by omega
   obtain ⟨t2, ht2⟩ : ∃ t2, t2 = (⟨(l ++ List.replicate (k + 1) x).toArray⟩ : ByteArray) := ⟨_, rfl⟩
   have HA : Hid (∀ W, (Op.stringOp .add t ⟨#[x]⟩).run Tryz.prog W = .ok (.string t2) W) := fun W => by
    have := add_str (P := Tryz.prog) W (l ++ List.replicate k x) [x] (by rw [List.length_append, List.length_replicate]; simp; omega)
    rw [List.append_assoc, ← List.replicate_succ', ← ht2, ← HT.out] at this
    exact this
   have ha := HA.out wr
   have HT2 := Lib.hid ht2
   clear hts HT ht2 HA
   go_wp2
   go_roundg (m - (k + 1))
   case measure => omega
   case rel => exact ⟨k + 1, t2, by omega, by omega, rfl, HT2, rfl⟩
  ·
   have hz : ¬ (t.size : Int) < 12 := by have := HM.out; omega
   have hz1 : ¬ t.size < 12 := by have := HM.out; omega
   obtain rfl : k = m := by omega
   obtain rfl : t = out := by rw [HT.out, HOUT.out]
   clear HT HOUT hts
   go_wp2
   go_ret
   exact ⟨rfl, rfl⟩
end Go.Proofs.YtmcomnocpibiiaaGreatDoor
namespace Go.Proofs.YtmcomnocpibiiaaGreatDoor
open Go.RowKit Go.Maps Go.Sort Go.Shelf

def tx12 (l : List UInt8) : ByteArray := ⟨l.toArray⟩
def gb12 : List (List UInt8) := [[97, 49], [98, 49], [99, 49], [100, 49], [101, 49], [102, 49]]
def ub12 : List (List UInt8) := [[97], [98], [99], [100], [101], [102], [103], [104], [105], [106], [107], [108]]
def gM12 (x : UInt8) : List ByteArray := gb12.map fun l => tx12 (longT l x)
def at12 : List UInt8 := [64, 98, 99, 100, 46, 101, 102]
def hs12 : List UInt8 := [48, 49, 50, 51, 52, 53, 54, 55, 56, 57, 97, 98]
def u12 (x : UInt8) (A : Option Addr) (c : Nat) (l : List UInt8) : Us := ⟨tx12 (longT l x), tx12 hs12, tx12 (longT l x ++ at12 ++ [x]), true, A, gM12 x, c⟩
def uM12 (x : UInt8) (A : Option Addr) (c : Nat) : List Us := ub12.map (u12 x A c)
theorem letters12 : ∀ k : Fin 26, ofD11 (uM12 (UInt8.ofNat (97 + k.val)) none 0) (gM12 (UInt8.ofNat (97 + k.val))) = 0 ∧ (folB (uM12 (UInt8.ofNat (97 + k.val)) none 0) (gM12 (UInt8.ofNat (97 + k.val)))).length = 1733 := by decide +kernel
theorem uM_nrm12 (x : UInt8) (A : Option Addr) (c : Nat) : (uM12 x A c).map nrm11 = uM12 x none 0 := rfl
end Go.Proofs.YtmcomnocpibiiaaGreatDoor
namespace Go.Proofs.YtmcomnocpibiiaaGreatDoor
open Go.RowKit

section
variable {P : Program} {ops : Array Oper} {Q : Exit → Act → World → Prop}
theorem wp_region_own12 {id : Nat} {w : World} {a : Act} (hm : P.follows .mixedOrders = true) (Y : Nat → Value → World → Prop) (G : (Nat → Bool) → World → Prop) (k : Nat) (y : Value) (F : (Nat → Value) → Act) (hF : ∀ x, putL (ops.toList.map (·.dst)) x 0 a = F x)
  (hap : apartL (ops.toList.map (·.dst)) = true) (hback : (ops.toList.zipIdx.all fun p => p.1.after.all fun e => !(Region.binds .any e) || decide (e.on < p.2)) = true) (hG : G (fun _ => false) w.drew)
  (hy : ownAt a (((ops.toList.map (·.dst))[k]?).getD none) = y)
  (hk : ((List.range k).all fun d => (ops.toList[k]?.map fun o => o.after.toList.any fun e => Region.binds .any e && e.on == d).getD false) = true)
  (step : AllO (fun i o => ∀ (L : Nat → Bool) (x : Nat → Value) (w : World), L i = false → (∀ d, (o.after.toList.any fun e => Region.binds .any e && e.on == d) = true → L d = true) → G L w → (i < k → x k = y) → (∀ j, (o.after.toList.any fun e => Region.binds .any e && e.on == j) = true → Y j (x j) w) →
   ∀ K : Act → World → Prop, (∀ v w', Y i v w' → G (updL L i) w' → (∀ j, L j = true → Y j (x j) w → Y j (x j) w') → K ((F x).put o.dst v) w') →
    if Region.wanted o (yielded ops (F x).tmps) = true then Oper.wp P o (F x) w K Q else K ((F x).put o.dst undef) w) ops.toList 0)
  (fin : ∀ (L : Nat → Bool) (x : Nat → Value) (w : World), (∀ j, j < ops.size → L j = true) → G L w → (∀ j, j < ops.size → Y j (x j) w) → Q .normal (F x) w) : (Code.region id ops true).wp P Q a w := by
 refine wp_region_any hm ?_
 have hb : ∀ (i : Nat) (o : Oper), ops[i]? = some o → ∀ e ∈ o.after, Region.binds .any e = true → e.on < i := by
  intro i o ho e he hbd
  have hin : (o, i) ∈ ops.toList.zipIdx := by
   rw [List.mem_zipIdx_iff_getElem?]
   simpa using ho
  have := List.all_eq_true.1 hback _ hin
  have := Array.all_eq_true_iff_forall_mem.1 this e he
  rw [hbd] at this
  simpa using this
 have h0 : (fun j => (Array.replicate ops.size false).getD j false) = fun _ => false := by
  funext j
  by_cases h : j < ops.size <;> simp [Array.getD_eq_getD_getElem?, h]
 have hkd : ∀ o, ops[k]? = some o → ∀ d, d < k → (o.after.toList.any fun e => Region.binds .any e && e.on == d) = true := by
  intro o ho d hd
  have := List.all_eq_true.1 hk d (List.mem_range.2 hd)
  have ho' : ops.toList[k]? = some o := by simpa using ho
  rw [ho'] at this
  exact this
 have := wpAny_gen (P := P) (md := .any) (Q := Q) a (fun L x W => G L W ∧ (∀ j, L j = true → Y j (x j) W) ∧ (L k = false → x k = y) ∧ (L k = true → ∀ j, j < k → L j = true)) hap hb (fun i o ho L x w h1 h2 h3 K hK => by
   obtain ⟨hr, hY, hx, hc⟩ := h3
   have hs := step.at_ i o (by simpa using ho)
   rw [Nat.zero_add] at hs
   rw [hF] at hK ⊢
   refine hs L x w h1 h2 hr (fun hik => hx ?_) (fun j hj => hY j (h2 j hj)) K (fun v w' hv hr' hkeep => hK v w' ⟨hr', fun j hj => ?_, fun hl => ?_, fun hl j hj => ?_⟩)
   ·
    cases hLk : L k with
    | false => rfl
    | true => rw [hc hLk i hik] at h1; cases h1
   ·
    by_cases e : j = i
    ·
     subst e
     rw [show upd x j v j = v from if_pos rfl]
     exact hv
    ·
     rw [show upd x i v j = x j from if_neg e]
     rw [show updL L i j = L j from if_neg e] at hj
     exact hkeep j hj (hY j hj)
   ·
    by_cases e : k = i
    ·
     rw [show updL L i k = true from if_pos e] at hl; cases hl
    ·
     rw [show updL L i k = L k from if_neg e] at hl
     rw [show upd x i v k = x k from if_neg e]
     exact hx hl
   ·
    by_cases ej : j = i
    ·
     exact if_pos ej
    ·
     rw [show updL L i j = L j from if_neg ej]
     by_cases e : k = i
     ·
      subst e
      exact h2 j (hkd o ho j hj)
     ·
      rw [show updL L i k = L k from if_neg e] at hl
      exact hc hl j hj) (fun L x w h1 h2 => by rw [hF]; exact fin L x w h1 h2.1 (fun j hj => h2.2.1 j (h1 j hj))) ops.size (Array.replicate ops.size false) (fun i => ownAt a (((ops.toList.map (·.dst))[i]?).getD none)) w.drew (by simp) (by simp)
   (by rw [h0]; exact ⟨hG, fun _ h => by (cases h), fun _ => hy, fun h => by (cases h)⟩)
 rw [putL_own (fun i d hd => by rw [Nat.zero_add, hd]; rfl)] at this
 exact this
theorem step_append12 {o : Oper} {a : Act} {w : World} {K : Act → World → Prop} {E : Prop} (hw : Region.wanted o (yielded ops a.tmps) = true) (s x : Operand) (t : TypeId) (ho : o.op = .call { callee := .builtin .append, args := #[s, x], argTypes := #[t, t] })
  (v u : Value) (hs : a.eval s = v) (hx : a.eval x = u) (v' : Value) (w' : World) (hr : (Builtin.append_ #[t, t] o.type #[v, u]).run P w = .ok v' w') (h : K (a.put o.dst v') w') : if Region.wanted o (yielded ops a.tmps) = true then Oper.wp P o a w K Q else E := by
 rw [if_pos hw]
 unfold Oper.wp
 simp [execOp, ho, resolve, invoke, builtin, hs, hx, hr, Result.andThen]
 exact h
end
end Go.Proofs.YtmcomnocpibiiaaGreatDoor
