/-
  Lookup, List and Copy of the directory.
  Conditions: texts are no longer than they may be.
-/
import Derived.Test.YtclnkboejbnfnaaGreatDoorElderNames
import Derived.Test.YtclnkboejbnfnaaGreatDoorElderDo
namespace Go.Proofs.YtclnkboejbnfnaaGreatDoor
open Go.RowKit Go.Maps Go.Sort Go.Shelf

/-- The slice v reads as these texts. -/
def Txs7 (w : World) (v : Value) (ls : List (List UInt8)) : Prop := ∃ A c, v = .slice A ls.length c ∧ ∀ j (h : j < ls.length), ∃ g, A = some ⟨g, 0, none⟩ ∧ w.cell? ⟨g, j, none⟩ = some (.string (tx7 ls[j]))
theorem Txs7.later {w w' : World} {v : Value} {ls : List (List UInt8)} (h : Txs7 w v ls) (hb : Below w.heap.size w w') : Txs7 w' v ls := by
  obtain ⟨A, c, e, hc⟩ := h
  exact ⟨A, c, e, fun j hj => by obtain ⟨g, e, h⟩ := hc j hj; exact ⟨g, e, (hb.cell (p := ⟨g, j, none⟩) (World.block_lt_of_cell? w _ h)).trans h⟩⟩
theorem Txs7.nil (w : World) : Txs7 w (.slice none 0 0) [] := ⟨none, 0, rfl, fun _ h => absurd h (Nat.not_lt_zero _)⟩
theorem Txs7.of_own {w : World} {base : Nat} {e : TypeId} {v : Value} {ls : List (List UInt8)} (h : w.ownsRow base e 1 v ls.length (ls.map encStr)) : Txs7 w v ls := by
  obtain ⟨A, c, rfl⟩ : ∃ A c, v = .slice A ls.length c := by
    rcases h.2 with ⟨rfl, h0⟩ | ⟨g, cap, cur, rfl, _⟩
    · exact ⟨none, 0, by rw [h0]⟩
    · exact ⟨_, _, rfl⟩
  refine ⟨A, c, rfl, fun j hj => ?_⟩
  rcases h.2 with ⟨_, h0⟩ | ⟨g, cap, cur, e1, _⟩
  · omega
  · injection e1 with e1
    subst e1
    refine ⟨g, rfl, ?_⟩
    have := h.cells (g := g) rfl j (encStr ls[j]) (by simp [hj])
    rw [Addr.add_lit, Nat.zero_add] at this
    exact this

set_option maxRecDepth 100000 in
theorem list71_calls (C : Nat) (pre s : ByteArray) (w : World) (hc : w.cell? ⟨C, 0, none⟩ = some (.string pre)) :
    Calls Tryz.prog 85 #[.string s, .pointer (some ⟨C, 0, none⟩)] w fun e w' => e = .returned (.bool (!Lib.hasPrefix s.data.toList pre.data.toList)) ∧ w' = w := by
  have hnot : ∀ (x : Bool) (w : World), (Op.unary .not (.bool x)).run Tryz.prog w = .ok (.bool (!x)) w := fun _ _ => rfl
  have HC := Lib.hid (Tryz.strings_HasPrefix s pre w)
  generalize Lib.hasPrefix s.data.toList pre.data.toList = r at *
  go_enter Tryz.func85, Tryz.ntmps85
  go_wp2_with fail
  with_reducible refine HC.out.mono ?_
  rintro e w1 ⟨rfl, rfl⟩
  clear HC hc
  cases r <;> go_wp2 <;> go_ret <;> exact ⟨rfl, rfl⟩

set_option maxRecDepth 100000 in
theorem delnil7_calls (fv : Value) (c : Nat) (w : World) (hfv : ∃ g lb, fv = .func (.func g) #[] lb) : Calls Tryz.prog 87 #[.slice none 0 c, fv] w fun e w' => e = .returned (.slice none 0 c) ∧ w' = w := by
  obtain ⟨g, lb, rfl⟩ := hfv
  have HI := Lib.hid (Tryz.slices_IndexFunc_empty (α := List UInt8) none c (.func (.func g) #[] lb) w)
  go_enter Tryz.func87, Tryz.ntmps87
  go_wp2_with (go_at_call 172; (with_reducible refine HI.out.mono ?_); rintro e w' ⟨rfl, rfl⟩)
  go_ret
  exact ⟨rfl, rfl⟩

/-- The names that begin so. -/
def begin7 (ls : List (List UInt8)) (pre : List UInt8) : List (List UInt8) := ls.filter fun x => Lib.hasPrefix x pre

theorem delf7_calls (base C : Nat) (v : Value) (ls : List (List UInt8)) (pre : ByteArray) (w : World) (hc : w.cell? ⟨C, 0, none⟩ = some (.string pre)) (hC : C < base) (hbase : base ≤ w.heap.size) (hv : w.ownsRow base 9 1 v ls.length (ls.map encStr)) :
    Calls Tryz.prog 87 #[v, .func (.func 85) #[] #[.pointer (some ⟨C, 0, none⟩)]] w fun e w' => ∃ v', e = .returned v' ∧ Txs7 w' v' (begin7 ls pre.data.toList) ∧ Below base w w' := by
  rcases hv.2 with ⟨rfl, h0⟩ | ⟨gb, cap, cur, rfl, hbg, hgb, r1, r2, r3, r4⟩
  · obtain rfl : ls = [] := List.eq_nil_of_length_eq_zero h0
    exact (delnil7_calls _ 0 w ⟨_, _, rfl⟩).mono fun e w' ⟨he, hw⟩ => ⟨_, he, Txs7.nil _, by rw [hw]; exact Below.refl _ _⟩
  · have hH : Holds encStr w gb 0 ls.toArray := holds_of_block hgb (by simpa using r4)
    have hgl : gb < w.heap.size := (Array.getElem?_eq_some_iff.1 hgb).1
    have hpa : PredAt Tryz.prog 85 #[.pointer (some ⟨C, 0, none⟩)] encStr (fun x => !Lib.hasPrefix x pre.data.toList) w := fun W x hb =>
      (list71_calls C pre ⟨x.toArray⟩ W ((hb.cell (p := ⟨C, 0, none⟩) (by show C < _; omega)).trans hc)).mono fun e w' ⟨he, hw⟩ => ⟨he, 0, hw⟩
    have hpo : PredOver Tryz.prog 85 #[.pointer (some ⟨C, 0, none⟩)] encStr (fun x => !Lib.hasPrefix x pre.data.toList) gb 0 ls.toArray.size w := fun n os dk x _ =>
      (list71_calls C pre ⟨x.toArray⟩ _ (by
        unfold sortWorld
        rw [cell?_grow _ _ _ (by show C < (putRow _ _ _ _ _).heap.size; rw [size_putRow]; show C < w.heap.size; omega), cell?_putRow_other _ _ gb 0 _ _ (Or.inl (by show C ≠ gb; omega))]
        exact hc)).mono fun e w' ⟨he, hw⟩ => ⟨he, 0, hw⟩
    have hm : maxLen = 9223372036854775807 := rfl
    have hd := Tryz.slices_DeleteFunc encStr (fun _ => rfl) (fun x => !Lib.hasPrefix x pre.data.toList) _ _ (enters_of Tryz.func85 (by kernel_rfl) rfl) [] (fun w => zero7 w) gb 0 cap ls.toArray w hpa hpo hH (by simp; omega) (by simpa using r1)
    have e1 : (ls.toArray.toList.filter fun x => !(fun x => !Lib.hasPrefix x pre.data.toList) x) = begin7 ls pre.data.toList := by simp [begin7]
    rw [e1] at hd
    have hls : (begin7 ls pre.data.toList).length ≤ ls.length := List.length_filter_le _ _
    generalize begin7 ls pre.data.toList = r at *
    refine (show Calls _ _ #[.slice (some ⟨gb, 0, none⟩) ls.toArray.size cap, _] _ _ from hd.mono ?_)
    rintro e w' ⟨rfl, q, rfl⟩
    refine ⟨_, rfl, ⟨_, _, rfl, fun j hj => ⟨gb, rfl, ?_⟩⟩, ?_⟩
    · have := cell?_putRow encStr (Sort.ahead w q) gb 0 ls.toArray (r ++ List.replicate (ls.toArray.size - r.length) []).toArray (holds_ahead _ _ _ _ _ _ hH) (by simp; omega) j (by simp; omega)
      rw [Nat.zero_add] at this
      rw [this, getElem!_pos _ j (by simp; omega)]
      simp [List.getElem_append_left hj, tx7, encStr]
    · have hg := grownBy_sorted (w := w) (g := gb) (n := q) (os := #[]) (r ++ List.replicate (ls.toArray.size - r.length) []).toArray
      rw [grow_empty] at hg
      exact (Below.refl base w).grown hg hbase (fun k hk => by cases hk; exact hbg)

/-- What List tells. -/
def liE (pre : List UInt8) : Int := first7 [err5 (pref5 pre) 10]
def liL (L : Row7) (pre : List UInt8) : List (List UInt8) := if liE pre = 0 then begin7 (L.map (·.1)) pre else []

theorem one_row7 (W : World) (g : Nat) (lb : Array Value) (n : Int) (h : Ask7 (.func (.func g) #[] lb) n W) : AskRow7 (W.alloc (.cells #[.func (.func g) #[] lb] 82)) W.heap.size [(.func (.func g) #[] lb, n)] := by
  obtain ⟨G, l, e, h1, h2⟩ := asks7_new W [(.func (.func g) #[] lb, n)] 82 (by intro x hx; obtain rfl := List.mem_singleton.1 hx; exact h)
  exact ⟨by simp, fun j hj => by
    have hj0 : j = 0 := by simpa using hj
    subst hj0
    exact ⟨by simp, h.later (below_alloc (Below.refl _ _) _)⟩⟩

set_option maxRecDepth 100000 in
set_option maxHeartbeats 1000000 in
theorem list7_calls (B : Nat) (p : Option Nat) (L : Row7) (pre : ByteArray) (w : World) (hd : Dir7 w B p L) (hp : pre.size ≤ 9223372036854775807) :
    Calls Tryz.prog 36 #[.pointer (some ⟨B, 0, none⟩), .string pre] w fun e w' => ∃ v, e = .returned (.tuple #[v, .int .i64 (liE pre.data.toList)]) ∧ Txs7 w' v (liL L pre.data.toList) ∧ Below w.heap.size w w' := by
  have hmf := mkf
  have bl := below_alloc (Below.refl w.heap.size w) (.cells #[.string pre] 9)
  have HP := Lib.hid (isPrefix7_calls pre (w.alloc (.cells #[.string pre] 9)) hp)
  have HX : Hid ((w.alloc (.cells #[.string pre] 9)).cell? ⟨w.heap.size, 0, none⟩ = some (.string pre)) := by show _ = _; simp
  have HBL := Lib.hid bl
  have HD := Lib.hid (hd.later bl)
  have hlt : w.heap.size < (w.alloc (.cells #[.string pre] 9)).heap.size := by simp
  clear hd bl
  obtain ⟨r, hr⟩ : ∃ r, r = liE pre.data.toList := ⟨_, rfl⟩
  rw [← hr]
  have HR : Hid (first7 [err5 (pref5 pre.data.toList) 10] = r) := hr.symm
  have HL : Hid (liL L pre.data.toList = if r = 0 then begin7 (L.map (·.1)) pre.data.toList else []) := by rw [hr]; rfl
  clear hr
  generalize err5 (pref5 pre.data.toList) 10 = e0 at *
  go_enter Tryz.func36, Tryz.ntmps36
  go_wp2_with fail
  generalize w.alloc (.cells #[.string pre] 9) = w1 at *
  generalize hC : w.heap.size = C at *
  with_reducible refine HP.out.mono ?_
  rintro e w2 ⟨g, lb, rfl, ha, hb⟩
  have HB2 := Lib.hid hb
  have hf := first7_calls w2.heap.size 1 1 _ _ rfl (by decide) (one_row7 w2 g lb e0 ha)
  have HF : Hid (Calls Tryz.prog 44 #[.slice (some ⟨w2.heap.size, 0, none⟩) 1 1] (w2.alloc (.cells #[.func (.func g) #[] lb] 82)) (Errs5 r (w2.alloc (.cells #[.func (.func g) #[] lb] 82)))) := by
    rw [← HR.out]; exact hf
  clear hf ha hb HP HR
  go_wp2_with fail
  with_reducible refine HF.out.mono ?_
  rintro e w3 ⟨rfl, hb⟩
  have HB3 := Lib.hid (below_next HB2.out (below_next (below_alloc (Below.refl w2.heap.size w2) _) hb))
  clear hb HF HB2
  by_cases h0 : r = 0
  · subst h0
    have HN := Lib.hid (names7_calls B p L w3 (HD.out.later HB3.out))
    go_wp2_with fail
    with_reducible refine HN.out.mono ?_
    rintro e w4 ⟨v, rfl, hrow, _, hb⟩
    have hlen : (L.map (·.1)).length = L.length := List.length_map ..
    rw [← hlen] at hrow
    obtain ⟨A, c, rfl, _⟩ := Txs7.of_own hrow
    have hd2 := delf7_calls w3.heap.size C _ (L.map (·.1)) pre w4 (((below_next HB3.out hb).cell (p := ⟨C, 0, none⟩) hlt).trans HX.out) (Nat.lt_of_lt_of_le hlt HB3.out.size) hb.size hrow
    rw [hlen] at hd2
    have HD2 := Lib.hid hd2
    have HB4 := Lib.hid (below_next HB3.out hb)
    have HB34 := Lib.hid hb
    clear hb hrow HN hlen hd2
    go_wp2_with fail
    with_reducible refine HD2.out.mono ?_
    rintro e w5 ⟨v', rfl, hv', hb⟩
    have HV := Lib.hid hv'
    have HB5 := Lib.hid (show Below w.heap.size w w5 by subst hC; exact below_next HBL.out (HB3.out.trans ((HB34.out.trans hb).mono (HB3.out.size))))
    obtain ⟨A', c', rfl, _⟩ := hv'
    clear hb HD2
    go_wp2
    refine bodyPost_ret (v := .tuple #[.slice A' (begin7 (L.map (·.1)) pre.data.toList).length c', .int .i64 0]) (by simp [results, Tryz.results36, go_sem]) rfl ⟨_, rfl, ?_, HB5.out⟩
    rw [HL.out]
    first | rw [if_pos rfl] | rw [if_pos trivial]
    exact HV.out
  · have h1 : (r != 0) = true := by simpa using h0
    go_wp2
    refine bodyPost_ret (v := .tuple #[.slice none 0 0, .int .i64 r]) (by simp [results, Tryz.results36, go_sem]) rfl ⟨_, rfl, ?_, by subst hC; exact below_next HBL.out HB3.out⟩
    rw [HL.out, if_neg h0]
    exact Txs7.nil _
end Go.Proofs.YtclnkboejbnfnaaGreatDoor
