/-
  What a table tells of bytes: their sum, from whatever sum on; sealed bytes; what was sealed.
  Conditions: the table is nobody else's, and not the bytes' own memory; at most 2^39 bytes.
-/
import Derived.Test.YtnfiaibfhfpmjaaTab
import Derived.Test.YtnfiaibfhfpmjaaReadB
namespace Go.Proofs.Ytnfiaibfhfpmjaa
open Go.RowKit

/-- Bytes that are handed in lie apart from the table. -/
def Apart (B : Nat) (u : Value) (l : List UInt8) : Prop := l ≠ [] → ∀ k, u.ownBlock = some k → k ≠ B
theorem Rd.apart {S : Nat → Prop} {w w' : World} {B : Nat} {v : Value} {l : List UInt8} (h : Rd w v l) (ht : Turns S w w') (hn : Apart B v l) (hs : ∀ i, S i → i = B) : Rd w' v l :=
  h.turns2 ht (fun hl k hk hS => hn hl k hk (hs k hS))
theorem Rd.old {w : World} {B : Nat} {v : Value} {l : List UInt8} (h : Rd w v l) (hB : w.heap.size ≤ B) : Apart B v l := fun hl k hk e => by
  have := h.lt hl k hk
  omega

/-- A sum is told; the table is made. -/
def Tells (x : BitVec 32) (B : Nat) (w : World) (e : Ending) (w' : World) : Prop := e = .returned (regV x) ∧ Makes B w w'

theorem reg_next (r x : BitVec 32) : Value.int .u32 (bits .xor .u32 ((r.toNat : Int) / 256) (x.toNat : Int)) = regV ((r >>> 8) ^^^ x) := by
  have h : (r.toNat : Int) / (256 : Int) = ((r >>> 8).toNat : Int) := by rw [BitVec.toNat_ushiftRight, Nat.shiftRight_eq_div_pow]; omega
  rw [h, reg_xor]
  rfl
theorem reg_not (r : BitVec 32) : bits .xor .u32 IntKind.u32.max (r.toNat : Int) = ((~~~ r).toNat : Int) := by
  have h : IntKind.u32.max = ((BitVec.allOnes 32).toNat : Int) := by decide
  rw [h, reg_xor, BitVec.allOnes_xor]
theorem idx_xor (r : BitVec 32) (c : UInt8) : bits .xor .u8 ((r.toNat : Int) % 256) (c.toNat : Int) = (((r.toNat % 256) ^^^ c.toNat : Nat) : Int) := by
  have := u8_xor_nat (r.toNat % 256) c.toNat (by omega) c.toNat_lt
  rw [← this]
  rfl
theorem idx_lt (r : BitVec 32) (c : UInt8) : (r.toNat % 256) ^^^ c.toNat < 256 := Nat.xor_lt_two_pow (n := 8) (by omega) c.toNat_lt

set_option maxRecDepth 100000 in
set_option maxHeartbeats 1000000 in
theorem more_calls (B : Nat) (m : Bool) (s : BitVec 32) (u : Value) (l : List UInt8) (w : World) (h : Tbl w B m) (hu : Rd w u l) (hne : Apart B u l) (hl : l.length ≤ 1099511627776) :
    Calls Try.prog 37 #[.pointer (some ⟨B, 0, none⟩), regV s, u] w (Tells (more s l) B w) := by
  have hmf : ∀ (fn : Fn) (first cap : Array Value) (w : World), (Instr.makeFunc fn first cap).run Try.prog w = .ok (.func fn first cap) w := fun _ _ _ _ => rfl
  have HU := Lib.hid hu
  have HE := Lib.hid hne
  have HT := Lib.hid h
  obtain ⟨A, c, rfl⟩ := hu.shape
  clear hu hne h
  unfold regV
  go_enter Try.func37, Try.ntmps37
  go_wp2_with fail
  refine (do_calls B m w HT.out).mono ?_
  rintro e w1 ⟨rfl, hm⟩
  have HM := Lib.hid hm
  have HU1 := Lib.hid (HU.out.apart hm.2 HE.out (fun _ h => h))
  clear hm HU HE
  have hn := reg_not s
  obtain ⟨y, hy⟩ : ∃ y, y = ~~~ s := ⟨_, rfl⟩
  rw [← hy] at hn
  have HY := Lib.hid hy
  clear hy
  go_wp2
  go_loop [7, 20] (fun x i => ∃ k : Nat, k ≤ l.length ∧ i = .int .i64 k ∧ x = regV (R y (l.take k))) (fun _ i => l.length - (intOf i).toNat)
  case atStart => exact ⟨0, Nat.zero_le _, rfl, rfl⟩
  case round =>
    obtain ⟨k, hk, rfl, rfl⟩ := hrel
    clear hn
    by_cases hlt : k < l.length
    · obtain ⟨g, off, c', hv, hc⟩ := HU1.out.at_ k hlt
      injection hv with hA _ hcc
      subst hA
      subst hcc
      have hsn : R y (l.take (k + 1)) = (R y (l.take k) >>> 8) ^^^ tabAt (((R y (l.take k)).toNat % 256) ^^^ l[k].toNat) := by
        rw [List.take_succ_eq_append_getElem hlt, R_snoc, by_table]
        rfl
      have HS := Lib.hid hsn
      clear hsn
      generalize R y (l.take k) = r at *
      have hib := idx_lt r l[k]
      have hix := idx_xor r l[k]
      have hcb : (l[k].toNat : Int) < 256 := by have := l[k].toNat_lt; omega
      generalize l[k] = b at *
      generalize (r.toNat % 256) ^^^ b.toNat = ix at *
      obtain ⟨cur, htb, _, _, _, htab⟩ := HM.out.1
      have htc : w1.cell? ⟨B, 4 + ix, none⟩ = some (regV (tabAt ix)) := (htb.cell _).trans (htab rfl ix hib)
      unfold regV at htc ⊢
      have HX := Lib.hid (reg_next r (tabAt ix))
      have hrl : r.toNat < 4294967296 := r.isLt
      clear htb htab
      go_wp2
      go_round
      case rel => exact ⟨k + 1, by omega, by go_num, by rw [HS.out, HX.out]; rfl⟩
      case measure => simp [intOf]; omega
    · obtain rfl : k = l.length := by omega
      have hn := reg_not (R y (l.take l.length))
      obtain ⟨z, hz⟩ : ∃ z, z = ~~~ (R y (l.take l.length)) := ⟨_, rfl⟩
      have HL : Hid (more s l = z) := by rw [hz, List.take_length, HY.out]; rfl
      rw [← hz] at hn
      clear hz
      generalize R y (l.take l.length) = r at *
      unfold regV
      go_wp2
      go_ret
      exact ⟨by rw [HL.out]; rfl, HM.out⟩

theorem more_at (B : Nat) (m : Bool) (s : BitVec 32) (xi : Int) (u : Value) (l : List UInt8) (w : World) (h : Tbl w B m) (hu : Rd w u l) (hne : Apart B u l) (hl : l.length ≤ 1099511627776) (hx : xi = (s.toNat : Int)) :
    Calls Try.prog 37 #[.pointer (some ⟨B, 0, none⟩), .int .u32 xi, u] w (Tells (more s l) B w) := by
  subst hx
  exact more_calls B m s u l w h hu hne hl
theorem sum_calls (B : Nat) (m : Bool) (u : Value) (l : List UInt8) (w : World) (h : Tbl w B m) (hu : Rd w u l) (hne : Apart B u l) (hl : l.length ≤ 1099511627776) :
    Calls Try.prog 33 #[.pointer (some ⟨B, 0, none⟩), u] w (Tells (crc l) B w) := by
  have HM := Lib.hid (fun xi hx => more_at B m 0#32 xi u l w h hu hne hl hx)
  have HC : Hid (crc l = more 0#32 l) := rfl
  obtain ⟨A, c, rfl⟩ := hu.shape
  clear h hu hne
  rw [HC.out]
  generalize more 0#32 l = x at *
  go_enter Try.func33, Try.ntmps33
  go_wp2_with fail
  with_reducible refine (HM.out _ (by simp)).mono ?_
  rintro e w1 ⟨rfl, hm⟩
  have HK := Lib.hid hm
  clear hm
  unfold regV
  go_wp2
  go_ret
  exact ⟨rfl, HK.out⟩
end Go.Proofs.Ytnfiaibfhfpmjaa
