/-
  A Writer that is new since some world: what it writes, and what it leaves; and the bytes of an operation, written.
  Conditions: texts of at most 65535 bytes; the table reads as it is laid.
-/
import Derived.Test.YtacmjmfdhegojaaDoorOpForm
import Derived.Test.YtacmjmfdhegojaaDoorWriteC
namespace Go.Proofs.YtacmjmfdhegojaaDoor
open Go.RowKit

/-- Iterators over texts are left as they are. -/
def Iters14 (w w' : World) : Prop := ∀ (k : Nat) (s : ByteArray) (p : Nat), w.heap[k]? = some (Obj.stringIter s p) → w'.heap[k]? = some (Obj.stringIter s p)
theorem Wtr.no_iter14 {w : World} {B : Nat} {v : Value} {bs : List UInt8} (h : Wtr w B v bs) {k : Nat} {s : ByteArray} {p : Nat} (hk : w.heap[k]? = some (.stringIter s p)) : ¬ (k = B ∨ v.ownBlock = some k) := by
  rintro (rfl | hv)
  · rw [h.1] at hk; cases hk
  · rcases h.2.2 with ⟨rfl, _⟩ | ⟨g, cap, cur, rfl, _, hg, _⟩
    · simp [Value.ownBlock] at hv
    · have : g = k := by simpa [Value.ownBlock] using hv
      subst this
      rw [hg] at hk; cases hk
/-- A Writer that is new since w, with all that it wrote. -/
def NW14 (w : World) (B : Nat) (bs : List UInt8) (wr : World) : Prop :=
  w.heap.size ≤ B ∧ (∃ v, Wtr wr B v bs ∧ ∀ k, v.ownBlock = some k → w.heap.size ≤ k) ∧ Below w.heap.size w wr
theorem NW14.zero (w : World) : NW14 w w.heap.size [] (w.alloc (.cells #[.slice none 0 0] 81)) :=
  ⟨Nat.le_refl _, ⟨_, ⟨heap_alloc_new w _, World.ownsRow_nil _ _ _ _⟩, fun k hk => by simp [Value.ownBlock] at hk⟩, alloc14 (Below.refl _ _) _⟩
theorem Went.nw14 {w w1 w2 : World} {B : Nat} {v : Value} {bs : List UInt8} (hB : w.heap.size ≤ B) (hv : ∀ k, v.ownBlock = some k → w.heap.size ≤ k) (ht : Below w.heap.size w w1) (h : Went w1 B v bs w2) : NW14 w B bs w2 := by
  obtain ⟨v', hw, ho, ht2⟩ := h
  refine ⟨hB, ⟨v', hw, fun k hk => ?_⟩, ht.trans ((ht2.below_at ht.size (fun i hs => ?_)))⟩
  · rcases ho with ho | ⟨k', ho, hk'⟩
    · exact hv k (ho ▸ hk)
    · rw [ho] at hk; injection hk with hk; have := ht.size; omega
  · rcases hs with hs | hs
    · omega
    · exact hv i hs
theorem Wtr.below14 {w W : World} {B : Nat} {v : Value} {bs : List UInt8} (h : Wtr w B v bs) (hb : Below w.heap.size w W) : Wtr W B v bs :=
  ⟨(hb.block B h.lt).trans h.1, (turns14 hb).owns h.2 (fun _ _ f => f)⟩
theorem NW14.below {w w1 w2 : World} {B : Nat} {bs : List UInt8} (h : NW14 w B bs w1) (hb : Below w1.heap.size w1 w2) : NW14 w B bs w2 := by
  obtain ⟨hB, ⟨v, hw, hv⟩, ht⟩ := h
  exact ⟨hB, ⟨v, hw.below14 hb, hv⟩, next14 ht hb⟩
theorem NW14.iter {w w1 : World} {B : Nat} {bs : List UInt8} (h : NW14 w B bs w1) {k : Nat} {s : ByteArray} {p : Nat} (hk : w1.heap[k]? = some (.stringIter s p)) (hw : w.heap.size ≤ k) (q : Nat) : NW14 w B bs (w1.iterAt k s q) := by
  obtain ⟨hB, ⟨v, hv, ho⟩, ht⟩ := h
  have hn := hv.no_iter14 hk
  refine ⟨hB, ⟨v, ⟨?_, hv.2.1, ?_⟩, ho⟩, Lib.below_iterAt ht hw s q⟩
  · rw [Lib.iterAt_other _ _ _ _ _ (fun e => hn (.inl e.symm))]; exact hv.1
  · rcases hv.2.2 with h0 | ⟨g, cap, cur, rfl, hb, hg, rest⟩
    · exact .inl h0
    · exact .inr ⟨g, cap, cur, rfl, hb, by rw [Lib.iterAt_other _ _ _ _ _ (fun e => hn (.inr (by rw [← e]; rfl)))]; exact hg, rest⟩
theorem Went.iters14 {w w' : World} {B : Nat} {v : Value} {bs bs' : List UInt8} (hw : Wtr w B v bs) (h : Went w B v bs' w') : Iters14 w w' := by
  intro k s p hk
  obtain ⟨_, _, _, ht⟩ := h
  exact (ht.block k (Array.getElem?_eq_some_iff.1 hk).1 (hw.no_iter14 hk)).trans hk

/-- The Writer is told, with so much; iterators are left. -/
def Grows14 (w W : World) (B : Nat) (bs : List UInt8) (e : Ending) (w' : World) : Prop := e = .returned (.pointer (some ⟨B, 0, none⟩)) ∧ NW14 w B bs w' ∧ Iters14 W w'
theorem NW14.byte {w W : World} {B : Nat} {bs : List UInt8} (xi : Int) (x : Nat) (h : NW14 w B bs W) (ex : xi = x) (hx : x < 256) (hr : bs.length ≤ 500000) :
    Calls Tryd.prog 37 #[.pointer (some ⟨B, 0, none⟩), .int .u8 xi] W (Grows14 w W B (bs ++ le x 1)) := by
  subst ex
  obtain ⟨hB, ⟨v, hw, hv⟩, ht⟩ := h
  exact (byte_calls B v bs x W hw hx (by omega)).mono fun e w' ⟨he, hg⟩ => ⟨he, hg.nw14 hB hv ht, hg.iters14 hw⟩
theorem NW14.text {w W : World} {B : Nat} {bs : List UInt8} (s : ByteArray) (h : NW14 w B bs W) (hs : s.size ≤ 65535) (hr : bs.length ≤ 500000) :
    Calls Tryd.prog 46 #[.pointer (some ⟨B, 0, none⟩), .string s] W (Grows14 w W B (bs ++ textB s)) := by
  obtain ⟨hB, ⟨v, hw, hv⟩, ht⟩ := h
  exact (text_calls B v bs s W hw hs (by omega)).mono fun e w' ⟨he, hg⟩ => ⟨he, hg.nw14 hB hv ht, hg.iters14 hw⟩
theorem NW14.row {w W : World} {B : Nat} {bs : List UInt8} (A : Option Addr) (N c : Nat) (ss : List ByteArray) (h : NW14 w B bs W) (hc : N ≤ c) (hm : c ≤ 9223372036854775807) (hN : ss.length = min N 65535) (hr : RdS W A ss)
    (hA : ss ≠ [] → ∀ a, A = some a → a.block < w.heap.size) (hs : ∀ s ∈ ss, s.size ≤ 65535) (hl : bs.length ≤ 500000) :
    Calls Tryd.prog 38 #[.pointer (some ⟨B, 0, none⟩), .slice A N c] W (Grows14 w W B (bs ++ rowB ss)) := by
  obtain ⟨hB, ⟨v, hw, hv⟩, ht⟩ := h
  exact (row_calls B v bs A N c ss W hw hc hm hN hr (fun hne a ha => by
    have := hA hne a ha
    rintro (h1 | h1)
    · omega
    · have := hv _ h1; omega) hs (by omega)).mono fun e w' ⟨he, hg⟩ => ⟨he, hg.nw14 hB hv ht, hg.iters14 hw⟩
/-- New bytes are told. -/
def Told14 (w : World) (l : List UInt8) (e : Ending) (w' : World) : Prop := ∃ v, e = .returned v ∧ w'.ownsRow 0 5 1 v l.length (cellsOf l) ∧ (∀ k, v.ownBlock = some k → w.heap.size ≤ k) ∧ Below w.heap.size w w'
theorem NW14.bytes {w W : World} {B : Nat} {bs : List UInt8} (h : NW14 w B bs W) (hr : bs.length ≤ 1000000) :
    Calls Tryd.prog 40 #[.pointer (some ⟨B, 0, none⟩)] W (Told14 w bs) := by
  obtain ⟨hB, ⟨v, hw, hv⟩, ht⟩ := h
  exact (bytes_calls B v bs W hw (by omega)).mono fun e w' ⟨v', he, ho, hb, ht'⟩ => ⟨v', he, ho, fun k hk => Nat.le_trans ht.size (hb k hk), next14 ht (still14 ht')⟩

/-- What is written of the part of that sign. -/
def part14 (o : O14) (c : UInt8) : List UInt8 := if c = 97 then textB o.a else if c = 98 then textB o.b else if c = 110 then le o.nd.toNat 1 else le o.rl.toNat 1
/-- Its bytes. -/
def opB14 (o : O14) : List UInt8 := le o.kd.toNat 1 ++ (sig14 o.kd.toNat).flatMap (part14 o)
/-- It is not too long to be written whole. -/
def Lit14 (o : O14) : Prop := o.a.size ≤ 65535 ∧ o.b.size ≤ 65535
theorem part14_length {o : O14} (h : Lit14 o) (c : UInt8) : (part14 o c).length ≤ 65537 := by
  obtain ⟨h1, h2⟩ := h
  unfold part14
  split
  · rw [textB_length]; omega
  · split
    · rw [textB_length]; omega
    · split
      · rw [le_length]; omega
      · rw [le_length]; omega
theorem parts14_length {o : O14} (h : Lit14 o) : ∀ l : List UInt8, (l.flatMap (part14 o)).length ≤ 65537 * l.length
  | [] => by simp
  | c :: l => by
    have h1 := part14_length h c
    have h2 := parts14_length h l
    simp only [List.flatMap_cons, List.length_append, List.length_cons]
    omega

set_option maxRecDepth 100000 in
set_option maxHeartbeats 2000000 in
theorem written14_calls (o : O14) (w : World) (h : Laid14 w) (hlit : Lit14 o) : Calls Tryd.prog 23 #[o.v] w (Told14 w (opB14 o)) := by
  obtain ⟨l, hl⟩ : ∃ l, l = sig14 o.kd.toNat := ⟨_, rfl⟩
  have hsg := sig14_signs o.kd.toNat
  have hfew := sig14_few o.kd.toNat
  rw [← hl] at hsg hfew
  have HS := Lib.hid hsg
  obtain ⟨r, hr⟩ : ∃ r, r = opB14 o := ⟨_, rfl⟩
  rw [← hr]
  have HR : Hid (r = le o.kd.toNat 1 ++ l.flatMap (part14 o)) := by rw [hr, hl]; rfl
  have HF := fun W (hw : Laid14 W) => of14_calls o.kd.toNat W hw
  unfold trt14 at HF
  rw [← hl] at HF
  clear hr hsg hl
  generalize tx14 (nam14 o.kd.toNat) = s0 at *
  generalize frm14 o.kd.toNat = f at *
  have hf := fun W => fieldS14 s0 (tx14 l) f W
  have hw64 : wrap64 (o.kd.toNat : Int) = o.kd.toNat := IntWalk.wrap64_in _ (by have := o.kd.toNat_lt; omega)
  have HFF := Lib.hid HF
  have HLT1 : Hid (o.a.size ≤ 65535) := hlit.1
  have HLT2 : Hid (o.b.size ≤ 65535) := hlit.2
  have HPL : Hid (∀ k, (le o.kd.toNat 1 ++ (l.take k).flatMap (part14 o)).length ≤ 131075) := fun k => by
    have h1 := parts14_length hlit (l.take k)
    have h2 : (l.take k).length ≤ 2 := by rw [List.length_take]; omega
    rw [List.length_append, le_length]
    omega
  have hb1 := alloc14 (Below.refl _ w) (.cells #[.int .u8 o.kd.toNat, .string o.a, .string o.b, .int .u8 o.nd.toNat, .int .u8 o.rl.toNat] 24)
  have ha1 : OpAt (w.alloc (.cells #[.int .u8 o.kd.toNat, .string o.a, .string o.b, .int .u8 o.nd.toNat, .int .u8 o.rl.toNat] 24)) w.heap.size o := heap_alloc_new w _
  obtain ⟨w1, hw1⟩ : ∃ w1, w1 = w.alloc (.cells #[.int .u8 o.kd.toNat, .string o.a, .string o.b, .int .u8 o.nd.toNat, .int .u8 o.rl.toNat] 24) := ⟨_, rfl⟩
  have hs1 : w1.heap.size = w.heap.size + 1 := by rw [hw1]; simp
  rw [← hw1] at hb1 ha1
  have HL := Lib.hid (h.later hb1)
  have HB1 := Lib.hid hb1
  have HA1 := Lib.hid ha1
  have hz := NW14.zero w1
  rw [hs1, hw1] at hz
  rw [← hw1] at hz
  have HZ : Hid (NW14 w1 (w.heap.size + 1) [] ((w.alloc (.cells #[.int .u8 o.kd.toNat, .string o.a, .string o.b, .int .u8 o.nd.toNat, .int .u8 o.rl.toNat] 24)).alloc (.cells #[.slice none 0 0] 81))) := by rw [← hw1]; exact hz
  have HOA : Hid (∀ W B bs, NW14 w1 B bs W → OpAt W w.heap.size o) := fun W B bs hn => ha1.later (by omega) hn.2.2
  have HLA : Hid (∀ W B bs, NW14 w1 B bs W → Laid14 W) := fun W B bs hn => HL.out.later hn.2.2
  clear HF h hz hb1 ha1 hw1
  unfold O14.v O14.cells
  obtain ⟨n, hn⟩ : ∃ n, n = l.length := ⟨_, rfl⟩
  have HN := Lib.hid hn
  clear hn
  go_enter Tryd.func23, Tryd.ntmps23
  go_wp2_with fail
  with_reducible refine (NW14.byte _ o.kd.toNat HZ.out rfl o.kd.toNat_lt (by simp)).mono ?_
  rintro e w2 ⟨rfl, hn2, _⟩
  rw [List.nil_append] at hn2
  have HN2 := Lib.hid hn2
  have q2 := HOA.out _ _ _ hn2
  have z0 := q2.c0
  have HL2 := Lib.hid (HLA.out _ _ _ hn2)
  clear hn2 q2 HZ
  go_wp2_with fail
  with_reducible refine (HFF.out _ HL2.out).mono ?_
  rintro e w3 ⟨rfl, hb⟩
  have HN3 := Lib.hid (HN2.out.below hb)
  have hs3 : w1.heap.size ≤ w3.heap.size := HN3.out.2.2.size
  clear hb HN2 HL2 z0
  go_wp2
  go_loopg [5] n (fun gg _ wr => ∃ k : Nat, k ≤ n ∧ n - k ≤ gg ∧ Hid (wr.heap[w3.heap.size]? = some (.stringIter (tx14 l) k)) ∧ Hid (NW14 w1 (w.heap.size + 1) (le o.kd.toNat 1 ++ (l.take k).flatMap (part14 o)) wr))
  case atStart =>
    have hi := World.iter_heap w3 (tx14 l) 0
    have hz := alloc14 (Below.refl _ w3) (.stringIter (tx14 l) 0)
    exact ⟨0, Nat.zero_le _, by omega, hi, by show NW14 w1 _ (_ ++ []) _; rw [List.append_nil]; exact HN3.out.below hz⟩
  case round =>
    obtain ⟨k, hk, hg, HI, HW⟩ := hrel
    by_cases hlt : k < n
    · have hkl : k < l.length := HN.out ▸ hlt
      have hc := HS.out l[k] (List.getElem_mem hkl)
      have hst : le o.kd.toNat 1 ++ (l.take (k + 1)).flatMap (part14 o) = (le o.kd.toNat 1 ++ (l.take k).flatMap (part14 o)) ++ part14 o l[k] := by
        rw [List.take_succ_eq_append_getElem hkl, List.flatMap_append, List.flatMap_singleton, List.append_assoc]
      have hit := Lib.iterAt_heap wr w3.heap.size (tx14 l) k (k + 1) HI.out
      have hnx := next_more14 HI.out hkl (by rcases hc with h | h | h | h <;> rw [h] <;> decide)
      have HIT := Lib.hid hit
      have HV := Lib.hid (HW.out.iter HI.out (by omega) (k + 1))
      have HST := Lib.hid hst
      have HPK := Lib.hid (HPL.out k)
      clear hst hit HI HW
      generalize le o.kd.toNat 1 ++ (l.take k).flatMap (part14 o) = acc at *
      generalize l[k] = c at *
      generalize wr.iterAt w3.heap.size (tx14 l) (k + 1) = wi at *
      have q2 := HOA.out _ _ _ HV.out
      have z1 := q2.c1
      have z2 := q2.c2
      have z3 := q2.c3
      have z4 := q2.c4
      have hroom : acc.length ≤ 500000 := by have := HPK.out; omega
      have HRM := Lib.hid hroom
      clear q2 hroom
      rcases hc with rfl | rfl | rfl | rfl
      · have e : ((97 : UInt8).toNat : Int) = 97 := rfl
        rw [e] at hnx
        clear e
        have hput : part14 o 97 = textB o.a := by unfold part14; simp
        rw [hput] at HST
        go_wp2_with fail
        with_reducible refine (HV.out.text o.a HLT1.out HRM.out).mono ?_
        rintro e w4 ⟨rfl, hw4, hi4⟩
        have HI4 := Lib.hid (hi4 _ _ _ HIT.out)
        have HW4 := Lib.hid hw4
        clear hw4 hi4 z1 z2 z3 z4 hput
        go_wp2
        go_roundg (n - (k + 1))
        case measure => omega
        case rel => exact ⟨k + 1, by omega, by omega, HI4.out, by rw [HST.out]; exact HW4.out⟩
      · have e : ((98 : UInt8).toNat : Int) = 98 := rfl
        rw [e] at hnx
        clear e
        have hput : part14 o 98 = textB o.b := by unfold part14; simp
        rw [hput] at HST
        go_wp2_with fail
        with_reducible refine (HV.out.text o.b HLT2.out HRM.out).mono ?_
        rintro e w4 ⟨rfl, hw4, hi4⟩
        have HI4 := Lib.hid (hi4 _ _ _ HIT.out)
        have HW4 := Lib.hid hw4
        clear hw4 hi4 z1 z2 z3 z4 hput
        go_wp2
        go_roundg (n - (k + 1))
        case measure => omega
        case rel => exact ⟨k + 1, by omega, by omega, HI4.out, by rw [HST.out]; exact HW4.out⟩
      · have e : ((110 : UInt8).toNat : Int) = 110 := rfl
        rw [e] at hnx
        clear e
        have hput : part14 o 110 = le o.nd.toNat 1 := by unfold part14; simp
        rw [hput] at HST
        go_wp2_with fail
        with_reducible refine (HV.out.byte _ o.nd.toNat rfl o.nd.toNat_lt HRM.out).mono ?_
        rintro e w4 ⟨rfl, hw4, hi4⟩
        have HI4 := Lib.hid (hi4 _ _ _ HIT.out)
        have HW4 := Lib.hid hw4
        clear hw4 hi4 z1 z2 z3 z4 hput
        go_wp2
        go_roundg (n - (k + 1))
        case measure => omega
        case rel => exact ⟨k + 1, by omega, by omega, HI4.out, by rw [HST.out]; exact HW4.out⟩
      · have e : ((114 : UInt8).toNat : Int) = 114 := rfl
        rw [e] at hnx
        clear e
        have hput : part14 o 114 = le o.rl.toNat 1 := by unfold part14; simp
        rw [hput] at HST
        go_wp2_with fail
        with_reducible refine (HV.out.byte _ o.rl.toNat rfl o.rl.toNat_lt HRM.out).mono ?_
        rintro e w4 ⟨rfl, hw4, hi4⟩
        have HI4 := Lib.hid (hi4 _ _ _ HIT.out)
        have HW4 := Lib.hid hw4
        clear hw4 hi4 z1 z2 z3 z4 hput
        go_wp2
        go_roundg (n - (k + 1))
        case measure => omega
        case rel => exact ⟨k + 1, by omega, by omega, HI4.out, by rw [HST.out]; exact HW4.out⟩
    · obtain rfl : k = n := by omega
      have HK := HN.out
      subst HK
      have hnx := next_end14 HI.out
      rw [List.take_length, ← HR.out] at HW
      have hroom : r.length ≤ 1000000 := by
        have := HPL.out l.length
        rw [List.take_length, ← HR.out] at this
        omega
      have HRM := Lib.hid hroom
      clear hroom
      go_wp2_with fail
      with_reducible refine (HW.out.bytes HRM.out).mono ?_
      rintro e w4 ⟨v, rfl, ho, hv, hb⟩
      obtain ⟨A, c, rfl⟩ := owns_shape ho
      have HO := Lib.hid ho
      have HV := Lib.hid hv
      have HB4 := Lib.hid (next14 HB1.out hb)
      clear ho hv hb
      go_wp2
      go_ret
      exact ⟨_, rfl, HO.out, fun k hk => Nat.le_trans HB1.out.size (HV.out k hk), HB4.out⟩
end Go.Proofs.YtacmjmfdhegojaaDoor
