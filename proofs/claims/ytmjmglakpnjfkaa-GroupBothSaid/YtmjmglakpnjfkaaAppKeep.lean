/-
  append onto a row of one's own: the new row, and the old one as it was.
  Conditions: no program's: plain facts of memory.
-/
import Derived.ArgAppend
import Derived.Laws.AppendOwn
namespace Go.Proofs.Ytmjmglakpnjfkaa

theorem run_append_keep10 {P : Program} (w : World) (t ty : TypeId) (base : Nat) (e : TypeId) (i : TypeInfo) (z : Value) (size bytes : Nat) (ht : P.underlying t = some (.slice e)) (hi : P.info? e = some i) (hz : i.zero = some z)
    (hsize : i.size = size) (hby : i.bytes = bytes) (hzs : z.cells.size = size) (hsz : 0 < size)
    (v : Value) (n : Nat) (xs : List Value) (hown : w.ownsRow base e size v n xs)
    (ad : Addr) (m c : Nat) (news : List Value) (hl : news.length = m * size) (hnews : ∀ j u, news[j]? = some u → w.cell? (ad.add j) = some u) (h1 : ∀ u ∈ news, u.oneCell' = true)
    (h63 : n + m ≤ maxLen) (hbytes : (n + m) * bytes ≤ 140737488355328) (hbase : base ≤ w.heap.size) :
    ∃ v' w', (Builtin.append_ #[t, t] ty #[v, .slice (some ad) m c]).run P w = .ok v' w' ∧ w'.ownsRow base e size v' (n + m) (xs ++ news) ∧ w.grownBy w' v.ownBlock ∧ w'.ownsRow base e size v n xs := by
  obtain ⟨v', w', hr, h2, h3, _⟩ := run_append_own (P := P) w base t ty e i z size bytes ht hi hz hsize hby hzs hsz v n xs hown ad m c news hl hnews h1 h63 hbytes hbase
  refine ⟨v', w', hr, h2, h3, ?_⟩
  obtain ⟨hxl, ho⟩ := hown
  rcases ho with ⟨rfl, rfl⟩ | ⟨g, cap, cur, rfl, hb, hg, r1, r2, r3, r4⟩
  · exact ⟨hxl, .inl ⟨rfl, rfl⟩⟩
  · by_cases hroom : n + m ≤ cap
    · have hcell : ∀ j, j < news.length → n * i.size + j < cur.size := fun j hj => by
        rw [hsize, r3]
        have h5 : (n + m) * size ≤ cap * size := Nat.mul_le_mul_right _ hroom
        rw [Nat.add_mul] at h5
        omega
      have hrun := run_append_room_cells (P := P) w t ty e i ht hi g 0 n cap ad m c news (by rw [hsize]; exact hl) hnews h1 hroom
        (fun j hj => by have := hcell j hj; simp [World.cell?, hg]; omega) (fun j hj => by simp [World.frozen?, hg])
      rw [hrun] at hr
      injection hr with hv hw
      obtain ⟨_, h2⟩ := h2
      rcases h2 with ⟨hv0, _⟩ | ⟨g', cap', cur', hv', hb', hg', s1, s2, s3, s4⟩
      · rw [← hv] at hv0; cases hv0
      · rw [← hv] at hv'
        injection hv' with e1 e2 e3
        injection e1 with e1
        injection e1 with e1
        subst e1 e3
        refine ⟨hxl, .inr ⟨g, cap, cur', rfl, hb, hg', r1, s2, s3, ?_⟩⟩
        have h6 : n * size ≤ (n + m) * size := Nat.mul_le_mul_right _ (by omega)
        have h7 : cur'.toList.take (n * size) = (cur'.toList.take ((n + m) * size)).take (n * size) := by rw [List.take_take, Nat.min_eq_left h6]
        rw [h7, s4, List.take_append_of_le_length (by omega), List.take_of_length_le (by omega)]
    · have holds : ∀ j u, xs[j]? = some u → w.cell? ((⟨g, 0, none⟩ : Addr).add j) = some u := fun j u hu => by
        have hj : j < n * size := by have := (List.getElem?_eq_some_iff.1 hu).1; omega
        have h5 : (cur.toList.take (n * size))[j]? = some u := by rw [r4]; exact hu
        rw [List.getElem?_take, if_pos hj] at h5
        rw [Addr.add_lit, Nat.zero_add]
        simpa [World.cell?, hg] using h5
      obtain ⟨v2, w2, hrun, q1, q2⟩ := run_append_arg_grows (P := P) w t ty e i z size bytes ht hi hz hsize hby hzs hsz ⟨g, 0, none⟩ n cap xs hxl holds ad m c news hl hnews (by omega) h63 hbytes
      rw [hrun] at hr
      injection hr with hv hw
      subst hw
      exact ⟨hxl, .inr ⟨g, cap, cur, rfl, hb, (q2.block g (Array.getElem?_eq_some_iff.1 hg).1 (by simp)).trans hg, r1, r2, r3, r4⟩⟩
theorem wpList_append_keep10 {P : Program} (w : World) {ops : Array Oper} {rest : List Oper} {o : Oper} {a : Act} {Q : Exit → Act → World → Prop} (hgd : o.guard = none) (s x : Operand) (t : TypeId)
    (ho : o.op = .call { callee := .builtin .append, args := #[s, x], argTypes := #[t, t] })
    (base : Nat) (e : TypeId) (i : TypeInfo) (z : Value) (size bytes : Nat) (ht : P.underlying t = some (.slice e)) (hi : P.info? e = some i) (hz : i.zero = some z)
    (hsize : i.size = size) (hby : i.bytes = bytes) (hzs : z.cells.size = size) (hsz : 0 < size)
    (v : Value) (n : Nat) (xs : List Value) (hs : a.eval s = v) (hown : w.ownsRow base e size v n xs)
    (ad : Addr) (m c : Nat) (news : List Value) (hx : a.eval x = .slice (some ad) m c) (hl : news.length = m * size) (hnews : ∀ j u, news[j]? = some u → w.cell? (ad.add j) = some u) (h1 : ∀ u ∈ news, u.oneCell' = true)
    (h63 : n + m ≤ maxLen) (hbytes : (n + m) * bytes ≤ 140737488355328) (hbase : base ≤ w.heap.size)
    (h : ∀ v' w', w'.ownsRow base e size v' (n + m) (xs ++ news) → w.grownBy w' v.ownBlock → w'.ownsRow base e size v n xs → wpList P ops Q rest (a.put o.dst v') w') : wpList P ops Q (o :: rest) a w := by
  refine wpList_plain hgd fun K hK' => ?_
  obtain ⟨v', w', hr, h2, h3, h4⟩ := run_append_keep10 (P := P) w t o.type base e i z size bytes ht hi hz hsize hby hzs hsz v n xs hown ad m c news hl hnews h1 h63 hbytes hbase
  unfold Oper.wp
  simp [execOp, ho, resolve, invoke, builtin, hs, hx, hr, Result.andThen]
  exact hK' _ _ (h v' w' h2 h3 h4)
end Go.Proofs.Ytmjmglakpnjfkaa
