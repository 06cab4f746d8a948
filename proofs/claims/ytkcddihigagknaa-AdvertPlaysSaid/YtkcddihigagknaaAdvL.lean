/-
  Who lacks what: the board's Lacking and All; the document's board in memory, its Has and Lacking.
  Conditions: each theorem's own.
-/
import Derived.Test.YtkcddihigagknaaAdvT
import Derived.Test.YtkcddihigagknaaWriteB
namespace Go.Proofs.Ytkcddihigagknaa
open Go.RowKit

theorem src_byte16 (w : World) (x : Int) : Src Try.prog 1 40 (.slice (some ⟨w.heap.size, 0, none⟩) 1 1) 1 [.int .u8 x] (w.alloc (.cells #[.int .u8 x] 5)) :=
  Src.ofSlice _ Try.underlying40 _ 1 1 _ rfl (cell_one_new _ _ _) (fun u hu => by rw [List.mem_singleton.1 hu]; rfl)
/-- So far those who lack it are told, in new memory. -/
def Lk16 (w : World) (L : List UInt8) (r k m : Nat) (A : Option Addr) (c : Nat) (wr : World) : Prop :=
  m = (lacks16 L r k).length ∧ wr.ownsRow 0 5 1 (.slice A m c) m (cellsOf (lacks16 L r k)) ∧ (∀ b, Value.ownBlock (.slice A m c) = some b → w.heap.size ≤ b) ∧ Below w.heap.size w wr
section
variable {w wr W w2 : World} {L : List UInt8} {r k m c : Nat} {A : Option Addr}
theorem Lk16.zero {w w1 : World} (L : List UInt8) (r : Nat) (hb : Below w.heap.size w w1) : Lk16 w L r 0 0 none 0 w1 := ⟨rfl, World.ownsRow_nil _ _ _ _, fun b h => by simp [Value.ownBlock] at h, hb⟩
theorem Lk16.yes (h : Lk16 w L r k m A c wr) (hh : has16 (of16 L k) r = true) : Lk16 w L r (k + 1) m A c wr := by
  unfold Lk16
  rw [lacks16_yes hh]
  exact h
theorem Lk16.no {A2 : Option Addr} {c2 : Nat} (h : Lk16 w L r k m A c wr) (hh : has16 (of16 L k) r = false) (hk : k < 256) (hW : Below wr.heap.size wr W) (ho : w2.ownsRow 0 5 1 (.slice A2 (m + 1) c2) (m + 1) (cellsOf (lacks16 L r k) ++ [.int .u8 (k : Int)]))
    (hg : W.grownBy w2 (Value.ownBlock (.slice A m c))) (ha : Value.ownBlock (.slice A2 (m + 1) c2) = Value.ownBlock (.slice A m c) ∨ Value.ownBlock (.slice A2 (m + 1) c2) = some W.heap.size) : Lk16 w L r (k + 1) (m + 1) A2 c2 w2 := by
  obtain ⟨h1, _, h3, h4⟩ := h
  have e : cellsOf (lacks16 L r (k + 1)) = cellsOf (lacks16 L r k) ++ [.int .u8 (k : Int)] := by
    rw [lacks16_no hh, cellsOf_append]
    have := ofNat_toNat16 hk
    simp only [cellsOf, List.map_cons, List.map_nil, this]
  have hb := next14 h4 hW
  refine ⟨by rw [lacks16_no hh, List.length_append, ← h1]; rfl, by rw [e]; exact ho, fun b hb' => ?_, ?_⟩
  · rcases ha with ha | ha
    · exact h3 b (ha ▸ hb')
    · rw [ha] at hb'
      injection hb' with hb'
      have := hb.size
      omega
  · exact ((Turns.of_below hb (fun k => w.heap.size ≤ k)).grown hg (fun k hk _ => h3 k hk)).below (fun i h => h)
end

set_option maxRecDepth 100000 in
set_option maxHeartbeats 2000000 in
theorem Lacking16_calls {w : World} {B A c : Nat} {L : List UInt8} (h : Bd16 w B A c L) (r : Nat) (hr : r < 256) : Calls Try.prog 15 #[.pointer (some ⟨B, 0, none⟩), .int .u8 (r : Int)] w (Fresh w (lacks16 L r L.length)) := by
  obtain ⟨i0, hi, hz0, hz1, hz2⟩ := info_parts infoByte
  have hc := h.cell
  have hlen := h.good.len
  have hlow : ∀ i, of16 L i ≤ 3 := h.good.of
  have HH := Lib.hid h
  have HLOW := Lib.hid hlow
  clear h hlow
  unfold Fresh
  obtain ⟨n, hn⟩ : ∃ n, n = L.length := ⟨_, rfl⟩
  rw [← hn] at hc hlen ⊢
  have HN := Lib.hid hn
  clear hn
  go_enter Try.func15, Try.ntmps15
  go_wp2
  go_loopg [5, 13] n (fun gg s5 s13 wr => ∃ k m A' c' : Nat, ∃ AA : Option Addr, k ≤ n ∧ n - k ≤ gg ∧ s13 = .int .i64 k ∧ s5 = .slice AA m c' ∧ Hid (Lk16 w L r k m AA c' wr))
  case atStart => exact ⟨0, 0, 0, 0, none, Nat.zero_le _, by omega, rfl, rfl, Lk16.zero L r (Below.refl _ _)⟩
  case round =>
    clear hc
    obtain ⟨k, m, _, c', AA, hk, hg, rfl, rfl, HK⟩ := hrel
    generalize wr = wo at *
    by_cases hlt : k < n
    case neg =>
      obtain rfl : k = n := by omega
      go_wp2
      go_ret
      obtain ⟨h1, h2, h3, h4⟩ := HK.out
      exact ⟨_, rfl, h1 ▸ h2, h3, turns14 h4⟩
    have hb := HH.out.later HK.out.2.2.2
    have hcl := hb.at_ k (by rw [← HN.out]; exact hlt)
    have hlo : of16 L k ≤ 3 := HLOW.out k
    have HHAS := Lib.hid (fun W => Has16_calls (of16 L k) r W (by omega) hr)
    have d1 : (0 : Int) ≤ k ∧ (k : Int) < n := by omega
    have HOWN := Lib.hid HK.out.2.1
    have hcv : IntKind.u8.wrap (k : Int) = k := by rw [IntKind.wrap_u8']; omega
    have hml : m ≤ 7 := by have h1 := HK.out.1; have h2 := lacks16_len L r k; omega
    cases hh : has16 (of16 L k) r with
    | true =>
      rw [hh] at HHAS
      have HK2 := Lib.hid (HK.out.yes hh)
      generalize of16 L k = x at *
      clear hb hh HK HOWN hlo
      go_wp2_with fail
      with_reducible refine (HHAS.out _).mono ?_
      rintro e w1 ⟨rfl, rfl⟩
      clear HHAS
      go_wp2
      go_roundg (n - (k + 1))
      case measure => omega
      case rel => exact ⟨k + 1, m, 0, c', AA, by omega, by omega, by go_num, rfl, HK2.out⟩
    | false =>
      rw [hh] at HHAS
      have HK2 : Hid (∀ W w2 A2 c2, _ → _ → _ → _ → Lk16 w L r (k + 1) (m + 1) A2 c2 w2) := fun W w2 A2 c2 a1 a2 a3 a4 => Lk16.no (W := W) HK.out hh (by omega) a1 a2 a3 a4
      generalize of16 L k = x at *
      clear hb hh HK hlo
      go_wp2_with fail
      with_reducible refine (HHAS.out _).mono ?_
      rintro e w1 ⟨rfl, rfl⟩
      clear HHAS
      go_wp2_with (at_builtin; refine wpList_append_src _ rfl (.tmp 22) (.tmp 25) 40 40 (by rfl) 5 i0 _ 1 1 Try.underlying40 hi hz0 hz1 hz2 rfl (.slice AA m c') m _ (by rfl) (HOWN.out.alloc _) (.slice (some ⟨wo.heap.size, 0, none⟩) 1 1) 1 [.int .u8 (k : Int)] (by rfl) (src_byte16 wo k) (by simp only [maxLen]; omega) (by omega) ?_; intro A2 c2 w2 ho2 hg2 ha2; have HK3 := Lib.hid (HK2.out _ w2 A2 c2 ((Below.refl _ _).alloc (Nat.le_refl _) _) ho2 hg2 ha2); clear ho2 hg2 ha2 HK2)
      go_roundg (n - (k + 1))
      case measure => omega
      case rel => exact ⟨k + 1, m + 1, 0, c2, A2, by omega, by omega, by go_num, rfl, HK3.out⟩

set_option maxRecDepth 100000 in
theorem All16_calls {w : World} {B A c : Nat} {L : List UInt8} (h : Bd16 w B A c L) (r : Nat) (hr : r < 256) : Calls Try.prog 18 #[.pointer (some ⟨B, 0, none⟩), .int .u8 (r : Int)] w fun e w' => e = .returned (.bool (allK16 L r L.length)) ∧ Below w.heap.size w w' := by
  have HL := Lib.hid (Lacking16_calls h r hr)
  have h1 := lacks16_noneI L r L.length
  have h2 := lacks16_none L r L.length
  unfold Fresh at HL
  generalize lacks16 L r L.length = l at *
  generalize allK16 L r L.length = q at *
  clear h hr
  go_enter Try.func18, Try.ntmps18
  go_wp2_with fail
  with_reducible refine HL.out.mono ?_
  rintro e w1 ⟨v, rfl, ho, _, ht⟩
  obtain ⟨A', c', rfl⟩ := owns_shape ho
  have HB := Lib.hid (still14 ht)
  clear ho ht HL
  generalize l.length = m at *
  go_wp2
  go_ret
  exact ⟨by rw [← h1]; rfl, HB.out⟩
end Go.Proofs.Ytkcddihigagknaa
