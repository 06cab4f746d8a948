/-
  Read of a board's bytes; Copy.
  Conditions: the bytes are a board's.
-/
import Derived.Test.YtkcddihigagknaaAdvW
import Derived.Test.YtkcddihigagknaaReadB
import Derived.Test.YtkcddihigagknaaGen
namespace Go.Proofs.Ytkcddihigagknaa
open Go.RowKit

theorem numS_byte16 (b : UInt8) (rest : List UInt8) : numS ⟨b :: rest, 0⟩ 1 = (⟨rest, 0⟩, b.toNat) := by
  simp [numS, takeS, val]
theorem Rdr.shift16 {S : Nat → Prop} {w w' : World} {B : Nat} {st : St} (h : Rdr w B st) (ht : Turns S w w') (hB : ¬ S B) (hS : ∀ g, ByteBlk w g → ¬ S g) : Rdr w' B st := by
  obtain ⟨v, h1, h2⟩ := h
  refine ⟨v, (ht.block B (Array.getElem?_eq_some_iff.1 h1).1 hB).trans h1, ?_⟩
  rcases h2 with h | ⟨g, off, c, rfl, h1, h2, h3, h4, hbk, h5⟩
  · exact .inl h
  · have hn := hS g hbk
    exact .inr ⟨g, off, c, rfl, h1, h2, Nat.lt_of_lt_of_le h3 ht.size, h4, hbk.keep ht hn, fun j hj => (ht.cell (p := ⟨g, off + j, none⟩) h3 hn).trans (h5 j hj)⟩
/-- A board's row is no reader's bytes. -/
theorem Rdr.board16 {w w' : World} {R : Nat} {st : St} {B A c : Nat} {L : List UInt8} (h : Rdr w R st) (hb : Bd16 w B A c L) (hne : R ≠ A) (ht : Turns (fun k => k = A) w w') : Rdr w' R st := by
  refine h.shift16 ht hne ?_
  rintro g ⟨cur, fr, hg⟩ rfl
  obtain ⟨cur', hg', _⟩ := hb.row
  rw [hg] at hg'
  simp at hg'
theorem Rdr.ne_board16 {w : World} {R : Nat} {st : St} {B A c : Nat} {L : List UInt8} (h : Rdr w R st) (hb : Bd16 w B A c L) : R ≠ B ∧ R ≠ A := by
  obtain ⟨v, h1, _⟩ := h
  constructor
  · rintro rfl
    have := h1.symm.trans hb.blk
    simp at this
  · rintro rfl
    obtain ⟨cur', hg', _⟩ := hb.row
    have := h1.symm.trans hg'
    simp at this

/-- A release is read. -/
def RRel16 (w : World) (R x : Nat) (rest : List UInt8) (e : Ending) (w' : World) : Prop := e = .returned (.int .u8 (x : Nat)) ∧ Did w R ⟨rest, 0⟩ w'
set_option maxRecDepth 100000 in
theorem readRelease16_calls {w : World} {R : Nat} (b : UInt8) (rest : List UInt8) (h : Rdr w R ⟨b :: rest, 0⟩) (hb : b.toNat ≤ 3) (hl : rest.length ≤ 1000000) :
    Calls Try.prog 31 #[.pointer (some ⟨R, 0, none⟩)] w (RRel16 w R b.toNat rest) := by
  have hc := rbyte_calls R ⟨b :: rest, 0⟩ w h (by simp; omega)
  rw [numS_byte16] at hc
  unfold Numb at hc
  have HC := Lib.hid hc
  clear hc h
  generalize b.toNat = x at *
  have d1 : decide ((x : Int) > 3) = false := by simp; omega
  have d2 : decide (3 < x) = false := by simp; omega
  unfold RRel16
  clear hb hl
  go_enter Try.func31, Try.ntmps31
  go_wp2_with fail
  with_reducible refine HC.out.mono ?_
  rintro e w1 ⟨rfl, hd⟩
  have HD := Lib.hid hd
  clear hd HC
  go_wp2
  go_ret
  exact ⟨rfl, HD.out⟩

theorem Bd16.put {w : World} {B A c : Nat} {L : List UInt8} (h : Bd16 w B A c L) {i r : Nat} (hr : r ≤ 3) : Bd16 (w.setCell ⟨A, i, none⟩ (.int .u8 (r : Int))) B A c (L.set i (UInt8.ofNat r)) := by
  have hl : (L.set i (UInt8.ofNat r)).length = L.length := by simp
  refine ⟨?_, ?_, h.ne, by rw [hl]; exact h.good.may, fun x hx => ?_⟩
  · rw [hl, Below.heap_setCell _ _ _ _ (fun k => h.ne k.symm)]
    exact h.blk
  · rw [hl, cellsOf_set16 L i (by omega)]
    exact (h.own.stored i _).1
  · rcases List.mem_or_eq_of_mem_set hx with hx | rfl
    · exact h.good.low x hx
    · rw [ofNat_toNat16 (by omega)]
      exact hr
/-- So many of a row are read. -/
def rowK16 (L : List UInt8) (k : Nat) : List UInt8 := L.take k ++ List.replicate (L.length - k) 0
theorem rowK16_zero (L : List UInt8) : rowK16 L 0 = List.replicate L.length 0 := by simp [rowK16]
theorem rowK16_all (L : List UInt8) : rowK16 L L.length = L := by simp [rowK16]
theorem rowK16_len (L : List UInt8) {k : Nat} (hk : k ≤ L.length) : (rowK16 L k).length = L.length := by simp [rowK16]; omega
theorem rowK16_succ (L : List UInt8) {k : Nat} (hk : k < L.length) : (rowK16 L k).set k (UInt8.ofNat (of16 L k)) = rowK16 L (k + 1) := by
  have e : UInt8.ofNat (of16 L k) = L[k] := by
    unfold of16
    rw [List.getD_eq_getElem?_getD, List.getElem?_eq_getElem hk]
    simp
  rw [e]
  unfold rowK16
  rw [List.take_succ_eq_append_getElem hk, show L.length - k = (L.length - (k + 1)) + 1 by omega, List.replicate_succ, List.set_append]
  have hl : (L.take k).length = k := by rw [List.length_take]; omega
  rw [hl, if_neg (by omega), Nat.sub_self, List.append_assoc]
  rfl

/-- A board under way. -/
def Rds16 (w : World) (B A R : Nat) (L : List UInt8) (k : Nat) (W : World) : Prop := Rdr W R ⟨L.drop k, 0⟩ ∧ Turns (fun j => j = R) w W ∧ Bd16 W B A L.length (rowK16 L k)
/-- A release under way. -/
def GRd16 (w : World) (B A R : Nat) (L : List UInt8) (k : Nat) (D : Nat → Bool) (W : World) : Prop :=
  (D 6 = false ∧ D 8 = false ∧ Rds16 w B A R L k W) ∨
  (D 6 = true ∧ D 8 = false ∧ Rdr W R ⟨L.drop (k + 1), 0⟩ ∧ Turns (fun j => j = R) w W ∧ Bd16 W B A L.length (rowK16 L k)) ∨
  (D 6 = true ∧ D 8 = true ∧ Rds16 w B A R L (k + 1) W)
theorem GRd16.same {w W : World} {B A R k : Nat} {L : List UInt8} {D : Nat → Bool} (h : GRd16 w B A R L k D W) (i : Nat) (h6 : 6 ≠ i) (h8 : 8 ≠ i) : GRd16 w B A R L k (updL D i) W := by
  have e6 : updL D i 6 = D 6 := if_neg h6
  have e8 : updL D i 8 = D 8 := if_neg h8
  unfold GRd16
  rw [e6, e8]
  exact h
theorem GRd16.cell {w W : World} {B A R k : Nat} {L : List UInt8} {D : Nat → Bool} (h : GRd16 w B A R L k D W) (hk : k < L.length) : W.cell? ⟨B, 0, none⟩ = some (.slice (some ⟨A, 0, none⟩) L.length L.length) := by
  rcases h with h | h | h
  · have := h.2.2.2.2.cell
    rwa [rowK16_len L (by omega)] at this
  · have := h.2.2.2.2.cell
    rwa [rowK16_len L (by omega)] at this
  · have := h.2.2.2.2.cell
    rwa [rowK16_len L (by omega)] at this
/-- What each operation makes. -/
def YRd16 (B A R n k x : Nat) : Nat → Value → World → Prop
  | 0, v, _ => v = .pointer (some ⟨B, 0, none⟩)
  | 1, v, _ => v = .pointer (some ⟨B, 0, none⟩)
  | 2, v, _ => v = .pointer (some ⟨B, 0, none⟩)
  | 3, v, _ => v = .slice (some ⟨A, 0, none⟩) n n
  | 4, v, _ => v = .int .i64 k
  | 5, v, _ => v = .pointer (some ⟨R, 0, none⟩)
  | 6, v, _ => v = .int .u8 x
  | 7, v, _ => v = .pointer (some ⟨A, k, none⟩)
  | _, _, _ => True
theorem YRd16_any {B A R n k x : Nat} {W W' : World} (j : Nat) (z : Value) (h : YRd16 B A R n k x j z W) : YRd16 B A R n k x j z W' := by
  match j, h with
  | 0, h => exact h
  | 1, h => exact h
  | 2, h => exact h
  | 3, h => exact h
  | 4, h => exact h
  | 5, h => exact h
  | 6, h => exact h
  | 7, h => exact h
  | _ + 8, _ => trivial

set_option maxRecDepth 100000 in
set_option maxHeartbeats 4000000 in
theorem Read16_calls {w : World} {R : Nat} (L : List UInt8) (hL : Good16 L) (h : Rdr w R ⟨boardB L, 0⟩) :
    Calls Try.prog 13 #[.pointer (some ⟨R, 0, none⟩)] w fun e w' => ∃ B A, e = .returned (.pointer (some ⟨B, 0, none⟩)) ∧ w.heap.size ≤ B ∧ w.heap.size ≤ A ∧ Rdr w' R ⟨[], 0⟩ ∧ Turns (fun j => j = R) w w' ∧ Bd16 w' B A L.length L := by
  have hlen := hL.len
  have HG := Lib.hid hL
  have hby := rbyte_calls R ⟨boardB L, 0⟩ w h (by show (boardB L).length ≤ _; unfold boardB; rw [List.length_cons]; omega)
  unfold boardB at hby
  rw [numS_byte16, ofNat_toNat16 (by omega)] at hby
  unfold Numb at hby
  have HBY := Lib.hid hby
  have HRW := Lib.hid h.lt
  clear h hby hL
  obtain ⟨n, hn⟩ : ∃ n, n = L.length := ⟨_, rfl⟩
  rw [← hn] at hlen HBY
  have HN := Lib.hid hn
  have HNE : Hid (∀ W, Calls Try.prog 6 #[.int .i64 (n : Int)] W (Newly16 n W)) := fun W => New16_calls n W (by rw [hn]; exact HG.out.may)
  unfold Newly16 at HNE
  have hcv : wrap64 (n : Int) = n := IntWalk.wrap64_in _ (by omega)
  clear hn
  go_enter Try.func13, Try.ntmps13
  go_wp2_with fail
  with_reducible refine HBY.out.mono ?_
  rintro e w1 ⟨rfl, hd⟩
  have HD := Lib.hid hd
  clear hd HBY
  go_wp2_with fail
  with_reducible refine (HNE.out _).mono ?_
  rintro e w2 ⟨B, A, rfl, hA, hB, hb, hbd⟩
  have hRB : R ≠ B := by have := HD.out.1.lt; omega
  have hRA : R ≠ A := by have := HD.out.1.lt; omega
  have HR2 : Hid (Rds16 w B A R L 0 w2) := by
    refine ⟨HD.out.1.still (turns14 hb), HD.out.2.next (Turns.of_below hb (fun _ => False)) (fun _ _ f => f.elim), ?_⟩
    rw [rowK16_zero, ← HN.out]
    exact hbd
  have HWB : Hid (w.heap.size ≤ B ∧ w.heap.size ≤ A) := ⟨Nat.le_trans HD.out.2.size hB, Nat.le_trans HD.out.2.size hA⟩
  have hc := hbd.cell
  rw [List.length_replicate] at hc
  clear HD hb hbd HNE hA hB
  go_wp2
  go_loopg [18] n (fun gg s18 wr => ∃ k : Nat, k ≤ n ∧ n - k ≤ gg ∧ s18 = .int .i64 k ∧ Hid (Rds16 w B A R L k wr))
  case atStart => exact ⟨0, Nat.zero_le _, by omega, rfl, HR2.out⟩
  case round =>
    clear HR2 hc
    obtain ⟨k, hk, hg, rfl, HK⟩ := hrel
    generalize wr = wo at *
    by_cases hlt : k < n
    case neg =>
      obtain rfl : k = n := by omega
      obtain ⟨hr8, ht8, hv8⟩ := HK.out
      rw [HN.out, List.drop_length] at hr8
      rw [HN.out, rowK16_all] at hv8
      have HER := Lib.hid (rerr_calls R _ wo hr8)
      have HR8 := Lib.hid hr8
      have HT8 := Lib.hid ht8
      have HV8 := Lib.hid hv8
      clear hr8 ht8 hv8 HK
      go_wp2_with fail
      with_reducible refine HER.out.mono ?_
      rintro e w5 ⟨rfl, rfl⟩
      go_wp2
      go_ret
      exact ⟨B, A, rfl, HWB.out.1, HWB.out.2, HR8.out, HT8.out, HV8.out⟩
    have hkL : k < L.length := by rw [← HN.out]; exact hlt
    have hltz : (k : Int) < n := by omega
    have g0 : (0 : Int) ≤ k ∧ (k : Int) < n := by omega
    obtain ⟨hr, ht, hbd⟩ := HK.out
    have HG0 : Hid (GRd16 w B A R L k (fun _ => false) wo.drew) := .inl ⟨rfl, rfl, hr.still ((Turns.refl _ _).drew), ht.drew, hbd.turns (S := fun _ => False) ((Turns.refl _ _).drew) (fun f => f) (fun f => f)⟩
    have hx3 : of16 L k ≤ 3 := HG.out.of k
    have HRR : Hid (∀ W, Rdr W R ⟨L.drop k, 0⟩ → Calls Try.prog 31 #[.pointer (some ⟨R, 0, none⟩)] W (RRel16 W R (of16 L k) (L.drop (k + 1)))) := fun W hW => by
      rw [List.drop_eq_getElem_cons hkL] at hW
      have e : of16 L k = (L[k]).toNat := by
        unfold of16
        rw [List.getD_eq_getElem?_getD, List.getElem?_eq_getElem hkL]
        rfl
      rw [e]
      exact readRelease16_calls L[k] _ hW (by rw [← e]; exact hx3) (by rw [List.length_drop]; have := HN.out; omega)
    unfold RRel16 at HRR
    have HSET : Hid (∀ W W3, Turns (fun j => j = R) w W → Bd16 W B A L.length (rowK16 L k) → Rdr W R ⟨L.drop (k + 1), 0⟩ → W3 = W.setCell ⟨A, k, none⟩ (.int .u8 (of16 L k : Nat)) → Rds16 w B A R L (k + 1) W3) := fun W W3 htw hbw hrw hw => by
      rw [hw]
      have hp := hbw.put (i := k) hx3
      rw [rowK16_succ L hkL] at hp
      exact ⟨hrw.board16 hbw hRA (turns_set16 _ _ _ _), htw.next (turns_set16 _ _ _ _) (fun j hj e => by have := HWB.out.2; have := e; omega), hp⟩
    have HCL : Hid (∀ (D : Nat → Bool) W, GRd16 w B A R L k D W → W.cell? ⟨B, 0, none⟩ = some (.slice (some ⟨A, 0, none⟩) n n)) := fun D W hG => by
      have := hG.cell hkL
      rwa [← HN.out] at this
    have HAT : Hid (∀ W, Bd16 W B A L.length (rowK16 L k) → ∃ y : Nat, W.cell? ⟨A, k, none⟩ = some (.int .u8 (y : Nat)) ∧ ∀ i, W.frozen? ⟨A, i, none⟩ = false) := fun W hW => ⟨_, hW.at_ k (by rw [rowK16_len L (by omega)]; exact hkL), hW.free⟩
    clear hr ht hbd HK
    obtain ⟨x, hx⟩ : ∃ x, x = of16 L k := ⟨_, rfl⟩
    rw [← hx] at HRR HSET
    clear hx hx3
    go_wp2
    refine wp_region_st2 (by kernel_rfl) (YRd16 B A R n k x) (GRd16 w B A R L k) ?F ?hF (by kernel_rfl) (by kernel_rfl) HG0.out ?step ?fin
    case hF =>
      intro x
      simp only [List.map_cons, List.map_nil, putL, Act.put, List.setIfInBounds_toArray, List.set_cons_zero, List.set_cons_succ, Nat.zero_add, Nat.reduceAdd]
      exact rfl
    case step =>
      refine ⟨?_, ?_, ?_, ?_, ?_, ?_, ?_, ?_, ?_, trivial⟩
      all_goals intro D z W hLi hL hG hdep K hK
      · clear hdep hL hLi
        go_simp
        exact hK _ _ rfl (hG.same 0 (by decide) (by decide)) (fun _ _ h => h)
      · have h0 : z 0 = _ := hdep 0 rfl
        clear hdep hL hLi
        simp only [h0] at hK
        go_simp
        exact hK _ _ rfl (hG.same 1 (by decide) (by decide)) (fun _ _ h => h)
      · have h1 : z 1 = _ := hdep 1 rfl
        clear hdep hL hLi
        simp only [h1] at hK
        go_simp
        exact hK _ _ rfl (hG.same 2 (by decide) (by decide)) (fun _ _ h => h)
      · have h2 : z 2 = _ := hdep 2 rfl
        have hcl := HCL.out _ W hG
        clear hdep hL hLi
        simp only [h2] at hK
        go_simp
        exact hK _ _ rfl (hG.same 3 (by decide) (by decide)) (fun _ _ h => h)
      · clear hdep hL hLi
        go_simp
        exact hK _ _ rfl (hG.same 4 (by decide) (by decide)) (fun _ _ h => h)
      · clear hdep hL hLi
        go_simp
        exact hK _ _ rfl (hG.same 5 (by decide) (by decide)) (fun _ _ h => h)
      · have h5 : z 5 = _ := hdep 5 rfl
        have hG3 : D 8 = false ∧ Rds16 w B A R L k W := by
          rcases hG with h | h | h
          · exact h.2
          · rw [hLi] at h; exact absurd h.1 (by decide)
          · rw [hLi] at h; exact absurd h.1 (by decide)
        have HG3 := Lib.hid hG3
        clear hdep hL hG hG3 hLi
        simp only [h5] at hK
        go_simp
        refine (HRR.out W HG3.out.2.1).mono ?_
        rintro e W' ⟨rfl, hd⟩
        refine hK _ _ rfl (.inr (.inl ⟨if_pos rfl, ?_, hd.1, HG3.out.2.2.1.next hd.2 (fun _ _ hk => hk), HG3.out.2.2.2.turns hd.2 (fun e => hRB e.symm) (fun e => hRA e.symm)⟩)) (fun j hj h => YRd16_any j _ h)
        show updL D 6 8 = false
        rw [show updL D 6 8 = D 8 from if_neg (by decide)]
        exact HG3.out.1
      · have h3 : z 3 = _ := hdep 3 rfl
        have h4 : z 4 = _ := hdep 4 rfl
        clear hdep hL hLi
        simp only [h3, h4] at hK
        go_simp
        exact hK _ _ rfl (hG.same 7 (by decide) (by decide)) (fun _ _ h => h)
      · have h7 : z 7 = _ := hdep 7 rfl
        have h6 : z 6 = _ := hdep 6 rfl
        have hL6 : D 6 = true := hL 6 rfl
        have hG7 : Rdr W R ⟨L.drop (k + 1), 0⟩ ∧ Turns (fun j => j = R) w W ∧ Bd16 W B A L.length (rowK16 L k) := by
          rcases hG with h | h | h
          · rw [hL6] at h; exact absurd h.1 (by decide)
          · exact h.2.2
          · rw [hLi] at h; exact absurd h.2.1 (by decide)
        obtain ⟨y, a0, af⟩ := HAT.out W hG7.2.2
        have HSS := Lib.hid (HSET.out W _ hG7.2.1 hG7.2.2 hG7.1 rfl)
        have HL6 := Lib.hid hL6
        clear hdep hL hLi hG hG7 hL6
        simp only [h7, h6] at hK
        go_simp
        refine hK (.bool true) _ trivial (.inr (.inr ⟨?_, if_pos rfl, HSS.out⟩)) (fun j hj h => YRd16_any j _ h)
        show updL D 8 6 = true
        rw [show updL D 8 6 = D 6 from if_neg (by decide)]
        exact HL6.out
    case fin =>
      intro D z w6 hL hG _
      have hD : Rds16 w B A R L (k + 1) w6 := by
        rcases hG with h | h | h
        · have := hL 6 (by decide); rw [this] at h; exact absurd h.1 (by decide)
        · have := hL 8 (by decide); rw [this] at h; exact absurd h.2.1 (by decide)
        · exact h.2.2
      have HD := Lib.hid hD
      clear hD hG hL
      go_wp2
      go_roundg (n - (k + 1))
      case measure => omega
      case rel => exact ⟨k + 1, by omega, by omega, by go_num, HD.out⟩
end Go.Proofs.Ytkcddihigagknaa
