/-
  The names of the directory, rising: the map's keys, collected and sorted.
  Conditions: each theorem's own.
-/
import Derived.Test.YtclnkboejbnfnaaGreatDoorElderDir
import Derived.Test.YtclnkboejbnfnaaGreatDoorMail
import Derived.Test.YtclnkboejbnfnaaGreatDoorShelfS
import Derived.Sort.OwnSorted
namespace Go.Proofs.YtclnkboejbnfnaaGreatDoor
open Go.RowKit Go.Maps Go.Sort Go.Shelf

theorem lt7 (x y : List UInt8) : ltOf Lib.compareBytes x y = bytesBefore x y := before_cmp x y
theorem swo7 : SWO (ltOf Lib.compareBytes) where
  irrefl x := by rw [lt7]; exact before_irrefl x
  trans x y z h1 h2 := by rw [lt7] at *; exact WideShapes.bytes_trans _ _ _ h1 h2
  ntrans x y z h1 h2 := by
    rw [lt7] at *
    cases h : bytesBefore x z
    · rfl
    · by_cases e : x = y
      · subst e; rw [h] at h2; cases h2
      · rcases WideAt.bytes_total x y e with h' | h'
        · rw [h'] at h1; cases h1
        · rw [WideShapes.bytes_trans _ _ _ h' h] at h2; cases h2
theorem tot7 (x y : List UInt8) (h1 : ltOf Lib.compareBytes x y = false) (h2 : ltOf Lib.compareBytes y x = false) : x = y := by
  rw [lt7] at *
  by_cases e : x = y
  · exact e
  · rcases WideAt.bytes_total x y e with h' | h'
    · rw [h'] at h1; cases h1
    · rw [h'] at h2; cases h2
theorem cmp7 (blk off size : Nat) (w : World) : CmpLays1 Tryz.prog 118 #[] encStr Lib.compareBytes blk off size w :=
  CmpReads.lays fun _ _ _ _ x y => (compare_calls ⟨x.toArray⟩ ⟨y.toArray⟩ _).mono fun e w' ⟨he, hw⟩ => ⟨by rw [he], 0, hw⟩

set_option maxRecDepth 100000 in
set_option maxHeartbeats 1000000 in
/-- slices.SortedFunc of what an iterator gives, by name.Compare. -/
theorem sortedf7_calls (g : Nat) (lb : Array Value) (S : List (List UInt8) → Prop) (N : Nat) (w : World) (eg : ∀ args w, (callFunc g args).run Tryz.prog w = .ok (.enter g args) w) (hN : N ≤ 1000) (hSN : ∀ ss, S ss → ss.length ≤ 1000) (hseq : SeqGives Fence.wide 2 Tryz.prog g lb encStr S N w) :
    Calls Tryz.prog 125 #[.func (.func g) #[] lb, .func (.func 118) #[] #[]] w fun e w' => ∃ (v : Value) (ss : List (List UInt8)), e = .returned v ∧ S ss ∧
      w'.ownsRow w.heap.size 9 1 v ss.length ((ss.mergeSort (fun x y => !(ltOf Lib.compareBytes) y x)).map encStr) ∧ (v = .slice none 0 0 ↔ ss = []) ∧ Below w.heap.size w w' := by
  have cC : Calls Tryz.prog 213 #[.func (.func g) #[] lb] w fun e w' => ∃ (v : Value) (ss : List (List UInt8)), e = .returned v ∧ S ss ∧ w'.ownsRow w.heap.size 9 1 v ss.length (ss.map encStr) ∧ (v = .slice none 0 0 ↔ ss = []) ∧ Below w.heap.size w w' :=
    (callsIn_wide (n := 4)).1 (AnyZ.collect_in Tryz.collect7 Fence.wide 4 trivial trivial rfl (by omega) g lb trivial eg S N (Nat.le_trans hN (by decide)) (by omega) w hseq)
  have HC := Lib.hid cC
  have HS : Hid (∀ (blk cap : Nat) (ss : List (List UInt8)) (W : World), Holds encStr W blk 0 ss.toArray → blk < W.heap.size → ss.length < 4611686018427387904 →
      Calls Tryz.prog 214 #[.slice (some ⟨blk, 0, none⟩) ss.length cap, .func (.func 118) #[] #[]] W fun e w' => e = .returned (.tuple #[]) ∧ ∃ n os, w' = grow (putRow encStr (Sort.ahead W n) blk 0 (ss.mergeSort fun x y => !(ltOf Lib.compareBytes) y x).toArray) os) := fun blk cap ss W hH hb hl => by
    have := Tryz.slices_SortFunc_total encStr (fun _ => rfl) Lib.compareBytes swo7 118 #[] blk 0 cap ss.toArray W (enters_of Tryz.func118 (by kernel_rfl) rfl) (cmp7 blk 0 _ W) hH hb (by simpa using hl) tot7
    simpa [sortWorld] using this
  have HS0 : Hid (∀ (cap : Nat) (W : World), Calls Tryz.prog 214 #[.slice none 0 cap, .func (.func 118) #[] #[]] W fun e w' => e = .returned (.tuple #[]) ∧ w' = W) := fun cap W => Tryz.slices_SortFunc_none (α := List UInt8) none cap _ W
  clear cC hseq
  go_enter Tryz.func125, Tryz.ntmps125
  go_wp2_with fail
  with_reducible refine HC.out.mono ?_
  rintro e W ⟨v, ss, rfl, hS, hrow, hnil, hb⟩
  have hln := hSN _ hS
  have HSS := Lib.hid hS
  have HNL := Lib.hid hnil
  have HB := Lib.hid hb
  have HR := Lib.hid hrow
  clear hS hnil hb HC
  rcases hrow.2 with ⟨rfl, hz⟩ | ⟨gb, cap, cur, rfl, hbase, hgb, r1, r2, r3, r4⟩
  · have hss : ss = [] := List.eq_nil_of_length_eq_zero hz
    subst hss
    clear hrow hz hln hSN
    go_wp2_with (go_at_call 214; (with_reducible refine (HS0.out _ _).mono ?_); rintro e w' ⟨rfl, rfl⟩)
    go_ret
    exact ⟨.slice none 0 0, [], rfl, HSS.out, by simpa using HR.out, by simp, HB.out⟩
  · have hH : Holds encStr W gb 0 ss.toArray := holds_of_block hgb (by simpa using r4)
    have hgl : gb < W.heap.size := (Array.getElem?_eq_some_iff.1 hgb).1
    have cS := Lib.hid (HS.out gb cap ss W hH hgl (by omega))
    have HF : Hid (∀ n os, (grow (putRow encStr (Sort.ahead W n) gb 0 (ss.mergeSort fun x y => !(ltOf Lib.compareBytes) y x).toArray) os).ownsRow w.heap.size 9 1 (.slice (some ⟨gb, 0, none⟩) ss.length cap) ss.length ((ss.mergeSort (fun x y => !(ltOf Lib.compareBytes) y x)).map encStr) ∧
        Below w.heap.size w (grow (putRow encStr (Sort.ahead W n) gb 0 (ss.mergeSort fun x y => !(ltOf Lib.compareBytes) y x).toArray) os)) := fun n os =>
      ⟨ownsRow_sorted (by simp) hbase hgb r1 r2 r3, HB.out.grown (grownBy_sorted _) HB.out.size (fun j hj => by cases hj; exact hbase)⟩
    clear hrow hbase hgb r1 r2 r3 r4 hH hgl HR HB HS HS0
    generalize hts : (ss.mergeSort fun x y => !(ltOf Lib.compareBytes) y x) = ts at cS HF
    have HT := Lib.hid hts
    clear hts hln hSN
    generalize hn : ss.length = n at *
    go_wp2_with (go_at_call 214; (with_reducible refine cS.out.mono ?_); rintro e w' ⟨rfl, nn, os, rfl⟩)
    go_ret
    subst hn
    refine ⟨_, ss, rfl, HSS.out, ?_, HNL.out, (HF.out nn os).2⟩
    rw [HT.out]
    exact (HF.out nn os).1

/-- What names tells: a new row, nil if there is none. -/
def Names7 (L : Row7) (w : World) (e : Ending) (w' : World) : Prop :=
  ∃ v, e = .returned v ∧ w'.ownsRow w.heap.size 9 1 v L.length ((L.map (·.1)).map encStr) ∧ (v = .slice none 0 0 ↔ L = []) ∧ Below w.heap.size w w'

set_option maxRecDepth 100000 in
set_option maxHeartbeats 1000000 in
theorem names7_calls (B : Nat) (p : Option Nat) (L : Row7) (w : World) (hd : Dir7 w B p L) : Calls Tryz.prog 50 #[.pointer (some ⟨B, 0, none⟩)] w (Names7 L w) := by
  have eg : ∀ args w, (callFunc 215 args).run Tryz.prog w = .ok (.enter 215 args) w := enters_of Tryz.func215 (by kernel_rfl) rfl
  have bl : Below w.heap.size w (w.alloc (.cells #[.map p] 88)) := below_alloc (Below.refl _ _) _
  have cS : ∃ S : List (List UInt8) → Prop, (∀ ss, S ss → ss.Perm (L.map (·.1))) ∧ SeqGives Fence.wide 2 Tryz.prog 215 #[.pointer (some ⟨w.heap.size, 0, none⟩)] encStr S L.length (w.alloc (.cells #[.map p] 88)) := by
    cases p with
    | none =>
      have hL := hd.nil rfl
      subst hL
      exact ⟨fun ss => ss = [], fun ss h => by subst h; exact List.Perm.refl _, AnyZ.keys_gives_nil (ρ := Tryz.keys7_ren) { Tryz.keys7 with } Fence.wide 2 trivial rfl w.heap.size _ (by simp) (by simp)⟩
    | some b =>
      have hown := (hd.map b rfl).alloc (.cells #[.map (some b)] 88)
      have h := AnyZ.keys_gives (ρ := Tryz.keys7_ren) { Tryz.keys7 with } Fence.wide 2 trivial rfl (by omega) w.heap.size b _ (datE L) _ (by simp) (by simp) hown
      rw [datE_size] at h
      exact ⟨_, fun ss h => by rw [datE_keys] at h; exact h, h⟩
  obtain ⟨S, hS, hseq⟩ := cS
  have HK : Hid (Calls Tryz.prog 126 #[.map p] w fun e w' => e = .returned (.func (.func 215) #[] #[.pointer (some ⟨w.heap.size, 0, none⟩)]) ∧ w' = w.alloc (.cells #[.map p] 88)) :=
    (callsIn_wide (n := 4)).1 (AnyZ.keys_in Tryz.keys7 Fence.wide 4 trivial rfl p w)
  have HSF := Lib.hid (sortedf7_calls _ _ S L.length _ eg (by have := hd.few; omega) (fun ss h => by rw [(hS ss h).length_eq, List.length_map]; have := hd.few; omega) hseq)
  have HSS : Hid (∀ ss, S ss → ss.length = L.length ∧ ss.mergeSort (fun x y => !(ltOf Lib.compareBytes) y x) = L.map (·.1)) := fun ss h => by
    have hp := hS ss h
    exact ⟨by rw [hp.length_eq, List.length_map], sort_names hd.rise hp _ (fun x y => by rw [lt7])⟩
  have hc := hd.cell
  have BL := Lib.hid bl
  clear hseq hS hd bl
  go_enter Tryz.func50, Tryz.ntmps50
  go_wp2_with fail
  with_reducible refine HK.out.mono ?_
  rintro e w1 ⟨rfl, rfl⟩
  go_wp2_with fail
  with_reducible refine HSF.out.mono ?_
  rintro e w2 ⟨v, ss, rfl, hss, hrow, hnil, hb⟩
  obtain ⟨hl, hm⟩ := HSS.out ss hss
  have HF : Hid (Names7 L w (.returned v) w2) := by
    rw [hl, hm] at hrow
    refine ⟨v, rfl, ownsRow_base_a hrow (by simp), ?_, below_next BL.out hb⟩
    rw [hnil]
    constructor
    · intro e; subst e; exact List.eq_nil_of_length_eq_zero hl.symm
    · intro e; subst e; exact List.eq_nil_of_length_eq_zero hl
  clear hss hrow hnil hb hl hm HSS HSF HK hc BL
  go_wp2
  go_ret
  exact HF.out
end Go.Proofs.YtclnkboejbnfnaaGreatDoor
