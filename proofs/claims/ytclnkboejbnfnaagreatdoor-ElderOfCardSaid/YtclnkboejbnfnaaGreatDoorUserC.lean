/-
  Users: which are the same, one taken up, whether one is in a group, whether one is bare.
  Conditions: texts and rows are no longer than they may be.
-/
import Derived.Test.YtclnkboejbnfnaaGreatDoorUserB
import Derived.Test.YtclnkboejbnfnaaGreatDoorInv
namespace Go.Proofs.YtclnkboejbnfnaaGreatDoor
open Go.RowKit

/-- A user, as it lies in memory: five cells, and the texts of its row. -/
structure Us where
  nm : ByteArray
  hs : ByteArray
  ml : ByteArray
  dis : Bool
  ga : Option Addr
  gs : List ByteArray
  gc : Nat
/-- Its cells. -/
def Us.cells (u : Us) : Array Value := #[.string u.nm, .string u.hs, .string u.ml, .bool u.dis, .slice u.ga u.gs.length u.gc]
/-- As a value. -/
def Us.v (u : Us) : Value := .agg u.cells
/-- What is known of one that came in. -/
structure Us.Ok (w : World) (u : Us) : Prop where
  rd : RdS w u.ga u.gs
  nm : u.nm.size ≤ 140737488355328
  hs : u.hs.size ≤ 140737488355328
  ml : u.ml.size ≤ 140737488355328
  nil : u.ga = none → u.gc = 0
  len : u.gs.length ≤ u.gc
  cap : u.gc ≤ 9223372036854775807
  all : ∀ s ∈ u.gs, s.size ≤ 9223372036854775807
theorem Us.Ok.below {w W : World} {u : Us} (h : u.Ok w) (hb : Below w.heap.size w W) : u.Ok W := ⟨h.rd.below hb, h.nm, h.hs, h.ml, h.nil, h.len, h.cap, h.all⟩

/-- A user's block. -/
structure UsAt (w : World) (B : Nat) (u : Us) : Prop where
  lt : B < w.heap.size
  c0 : w.cell? ⟨B, 0, none⟩ = some (.string u.nm)
  c1 : w.cell? ⟨B, 1, none⟩ = some (.string u.hs)
  c2 : w.cell? ⟨B, 2, none⟩ = some (.string u.ml)
  c3 : w.cell? ⟨B, 3, none⟩ = some (.bool u.dis)
  c4 : w.cell? ⟨B, 4, none⟩ = some (.slice u.ga u.gs.length u.gc)
theorem UsAt.new (w : World) (u : Us) (t : TypeId) : UsAt (w.alloc (.cells #[.string u.nm, .string u.hs, .string u.ml, .bool u.dis, .slice u.ga u.gs.length u.gc] t)) w.heap.size u := by
  refine ⟨by simp, ?_, ?_, ?_, ?_, ?_⟩
  all_goals
    rw [World.cell?_alloc_at _ _ _ _ rfl]
    rfl
theorem UsAt.below_at {w W : World} {B : Nat} {u : Us} (h : UsAt w B u) {n : Nat} (hn : B < n) (hb : Below n w W) : UsAt W B u :=
  ⟨Nat.lt_of_lt_of_le h.lt hb.size, (hb.cell (p := ⟨B, 0, none⟩) hn).trans h.c0, (hb.cell (p := ⟨B, 1, none⟩) hn).trans h.c1, (hb.cell (p := ⟨B, 2, none⟩) hn).trans h.c2, (hb.cell (p := ⟨B, 3, none⟩) hn).trans h.c3, (hb.cell (p := ⟨B, 4, none⟩) hn).trans h.c4⟩
theorem UsAt.below {w W : World} {B : Nat} {u : Us} (h : UsAt w B u) (hb : Below w.heap.size w W) : UsAt W B u := h.below_at h.lt hb

theorem rds_cells {w : World} {b off : Nat} {ss : List ByteArray} (h : ∀ j (hj : j < ss.length), w.cell? ⟨b, off + j, none⟩ = some (.string ss[j])) : ∀ j, j < ss.length → w.cell? ⟨b, off + j, none⟩ = some (.string (ss.getD j ByteArray.empty)) := fun j hj => by
  rw [h j hj, List.getD_eq_getElem?_getD, List.getElem?_eq_getElem hj]
  rfl

theorem equal6_calls (A A' : Option Addr) (n c m c' : Nat) (ss ts : List ByteArray) (w : World) (hn : n = ss.length) (hm : m = ts.length) (h1 : RdS w A ss) (h2 : RdS w A' ts) (hb1 : n ≤ 9223372036854775807) (hb2 : m ≤ 9223372036854775807) :
    Calls Tryz.prog 268 #[.slice A n c, .slice A' m c'] w fun e w' => e = .returned (.bool (decide (ss = ts))) ∧ ∃ q, w' = w.drewN q := by
  subst hn; subst hm
  by_cases hl : ss.length = ts.length
  · by_cases h0 : ss = []
    · subst h0
      have ht : ts = [] := List.eq_nil_of_length_eq_zero hl.symm
      subst ht
      exact (Tryz.slices_Equal_string_empty A A' c 0 c' w (by omega)).mono fun e w' ⟨he, hw⟩ => ⟨by rw [he]; rfl, 0, by rw [hw]; rfl⟩
    · have h0' : ts ≠ [] := fun e => h0 (List.eq_nil_of_length_eq_zero (by rw [hl, e]; rfl))
      obtain ⟨b, off, rfl, _, hc⟩ := h1 h0
      obtain ⟨b', off', rfl, _, hc'⟩ := h2 h0'
      have := Tryz.slices_Equal_string b off ss.length c b' off' ts.length c' ss ts w (Nat.le_refl _) (Nat.le_refl _) hb1 hb2 (rds_cells hc) (rds_cells hc')
      rw [List.take_length, List.take_length] at this
      exact this
  · have hd : decide (ss = ts) = false := decide_eq_false (fun e => hl (by rw [e]))
    rw [hd]
    exact (Tryz.slices_Equal_string_lens A A' ss.length c ts.length c' w hl).mono fun e w' ⟨he, hw⟩ => ⟨he, 0, by rw [hw]; rfl⟩

/-- All fields are the same. -/
def sameU (a b : Us) : Bool := decide (a.nm = b.nm) && decide (a.hs = b.hs) && decide (a.ml = b.ml) && decide (a.dis = b.dis) && decide (a.gs = b.gs)

set_option maxRecDepth 100000 in
theorem same6_calls (a b : Us) (w : World) (ha : a.Ok w) (hb : b.Ok w) : Calls Tryz.prog 251 #[a.v, b.v] w (Tells5 (sameU a b) w) := by
  have HE : Hid (∀ W, Below w.heap.size w W → Calls Tryz.prog 268 #[.slice a.ga a.gs.length a.gc, .slice b.ga b.gs.length b.gc] W fun e w' => e = .returned (.bool (decide (a.gs = b.gs))) ∧ ∃ q, w' = W.drewN q) :=
    fun W h => equal6_calls _ _ _ _ _ _ a.gs b.gs W rfl rfl (ha.rd.below h) (hb.rd.below h) (Nat.le_trans ha.len ha.cap) (Nat.le_trans hb.len hb.cap)
  clear ha hb
  unfold sameU Us.v Us.cells
  obtain ⟨nm, hs, ml, dis, ga, gs, gc⟩ := a
  obtain ⟨nm', hs', ml', dis', ga', gs', gc'⟩ := b
  dsimp only at *
  generalize decide (gs = gs') = q5 at *
  generalize gs.length = n at *
  generalize gs'.length = m at *
  obtain ⟨r, hr⟩ : ∃ r, r = (decide (nm = nm') && decide (hs = hs') && decide (ml = ml') && decide (dis = dis') && q5) := ⟨_, rfl⟩
  rw [← hr]
  have HR := Lib.hid hr
  clear hr
  by_cases h1 : nm = nm'
  · by_cases h2 : hs = hs'
    · by_cases h3 : ml = ml'
      · by_cases h4 : dis = dis'
        · have HR2 : Hid (r = q5) := by rw [HR.out]; simp [h1, h2, h3, h4, Hid]
          subst h1; subst h2; subst h3; subst h4
          clear HR
          have h4d : (dis == dis) = true := by simp
          go_enter Tryz.func251, Tryz.ntmps251
          go_wp2_with fail
          with_reducible refine (HE.out _ (below_alloc (below_alloc (Below.refl _ _) _) _)).mono ?_
          rintro e w1 ⟨rfl, q, rfl⟩
          go_wp2
          go_ret
          exact ⟨by rw [HR2.out]; rfl, below_drewN (below_alloc (below_alloc (Below.refl _ _) _) _) q⟩
        · have hr : r = false := by rw [HR.out]; simp [h4]
          subst hr
          subst h1; subst h2; subst h3
          clear HR HE
          have h4d : (dis == dis') = false := by simpa using h4
          go_enter Tryz.func251, Tryz.ntmps251
          go_wp2
          go_ret
          exact ⟨rfl, below_alloc (below_alloc (Below.refl _ _) _) _⟩
      · have hr : r = false := by rw [HR.out]; simp [h3]
        subst hr
        subst h1; subst h2
        have hn := toList_ne6 h3
        have hn2 : (ml.toList == ml'.toList) = false := by simpa using hn
        clear HR HE h3
        go_enter Tryz.func251, Tryz.ntmps251
        go_wp2
        go_ret
        exact ⟨rfl, below_alloc (below_alloc (Below.refl _ _) _) _⟩
    · have hr : r = false := by rw [HR.out]; simp [h2]
      subst hr
      subst h1
      have hn := toList_ne6 h2
      have hn2 : (hs.toList == hs'.toList) = false := by simpa using hn
      clear HR HE h2
      go_enter Tryz.func251, Tryz.ntmps251
      go_wp2
      go_ret
      exact ⟨rfl, below_alloc (below_alloc (Below.refl _ _) _) _⟩
  · have hr : r = false := by rw [HR.out]; simp [h1]
    subst hr
    have hn := toList_ne6 h1
    have hn2 : (nm.toList == nm'.toList) = false := by simpa using hn
    clear HR HE h1
    go_enter Tryz.func251, Tryz.ntmps251
    go_wp2
    go_ret
    exact ⟨rfl, below_alloc (below_alloc (Below.refl _ _) _) _⟩

/-- Taken up: the name and the sum alone. -/
def upU (u : Us) : Us := ⟨u.nm, u.hs, ⟨#[]⟩, false, none, [], 0⟩
theorem upU_ok {w : World} {u : Us} (h : u.Ok w) (W : World) : (upU u).Ok W := ⟨fun e => absurd rfl e, h.nm, h.hs, Nat.zero_le _, fun _ => rfl, Nat.zero_le _, Nat.zero_le _, fun s hs => by cases hs⟩

set_option maxRecDepth 100000 in
theorem up6_calls (u : Us) (w : World) : Calls Tryz.prog 70 #[u.v] w fun e w' => e = .returned (upU u).v ∧ Below w.heap.size w w' := by
  unfold Us.v Us.cells upU
  obtain ⟨nm, hs, ml, dis, ga, gs, gc⟩ := u
  dsimp only
  generalize gs.length = n
  go_enter Tryz.func70, Tryz.ntmps70
  go_wp2
  refine bodyPost_ret (v := .agg #[.string nm, .string hs, .string ⟨#[]⟩, .bool false, .slice none 0 0]) (by simp [results, Tryz.results70, go_sem]) rfl ⟨rfl, ?_⟩
  exact below_alloc (below_alloc (Below.refl _ _) _) _

/-- Is it in a group? -/
def inU (u : Us) (g : ByteArray) : Bool := Lib.containsS u.gs g

end Go.Proofs.YtclnkboejbnfnaaGreatDoor
