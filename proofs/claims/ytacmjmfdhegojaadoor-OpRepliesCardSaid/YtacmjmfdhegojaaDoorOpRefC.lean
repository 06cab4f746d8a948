/-
  The document's Check of an operation tells what the code's tells.
  Conditions: texts of at most 65535 bytes.
-/
import Derived.Test.YtacmjmfdhegojaaDoorOpRefT
namespace Go.Proofs.YtacmjmfdhegojaaDoor
open Go.RowKit

theorem frm_ab14 {o : O14} (hs : sig14 o.kd.toNat = [97, 98]) (hk : know14 o.kd.toNat = true) : frm_14 o = decide (o.nd = 0 ∧ o.rl = 0) := by
  obtain ⟨kd, a, b, nd, rl⟩ := o
  unfold frm_14 own14
  rw [hs, hk]
  simp [snd14, put14, zero14, same14]
theorem frm_a14 {o : O14} (hs : sig14 o.kd.toNat = [97]) (hk : know14 o.kd.toNat = true) : frm_14 o = decide (o.b = ⟨#[]⟩ ∧ o.nd = 0 ∧ o.rl = 0) := by
  obtain ⟨kd, a, b, nd, rl⟩ := o
  unfold frm_14 own14
  rw [hs, hk]
  simp [snd14, put14, zero14, same14]
theorem frm_014 {o : O14} (hs : sig14 o.kd.toNat = []) (hk : know14 o.kd.toNat = true) : frm_14 o = decide (o.a = ⟨#[]⟩ ∧ o.b = ⟨#[]⟩ ∧ o.nd = 0 ∧ o.rl = 0) := by
  obtain ⟨kd, a, b, nd, rl⟩ := o
  unfold frm_14 own14
  rw [hs, hk]
  simp [snd14, put14, zero14, same14]
theorem frm_nr14 {o : O14} (hs : sig14 o.kd.toNat = [110, 114]) (hk : know14 o.kd.toNat = true) : frm_14 o = decide (o.a = ⟨#[]⟩ ∧ o.b = ⟨#[]⟩ ∧ o.nd.toNat < 7 ∧ 1 ≤ o.rl.toNat ∧ o.rl.toNat ≤ 3) := by
  obtain ⟨kd, a, b, nd, rl⟩ := o
  unfold frm_14 own14
  rw [hs, hk]
  by_cases h1 : a = ⟨#[]⟩ <;> by_cases h2 : b = ⟨#[]⟩ <;> by_cases h3 : nd.toNat < 7 <;> simp [snd14, put14, zero14, same14, h1, h2, h3]
theorem frm_no14 {o : O14} (hk : know14 o.kd.toNat = false) : frm_14 o = false := by
  unfold frm_14
  rw [hk]
  simp
theorem len_ab14 {o : O14} (hs : sig14 o.kd.toNat = [97, 98]) : (opB14 o).length = 5 + o.a.size + o.b.size := by
  unfold opB14
  rw [hs]
  simp only [List.flatMap_cons, List.flatMap_nil, List.length_append, le_length, part14, if_true, List.length_nil]
  rw [if_neg (by decide), textB_length, textB_length]
  omega
theorem len_a14 {o : O14} (hs : sig14 o.kd.toNat = [97]) : (opB14 o).length = 3 + o.a.size := by
  unfold opB14
  rw [hs]
  simp only [List.flatMap_cons, List.flatMap_nil, List.length_append, le_length, part14, if_true, List.length_nil, textB_length]
  omega
theorem len_014 {o : O14} (hs : sig14 o.kd.toNat = []) : (opB14 o).length = 1 := by
  unfold opB14
  rw [hs]
  simp [le_length]
theorem len_nr14 {o : O14} (hs : sig14 o.kd.toNat = [110, 114]) : (opB14 o).length = 3 := by
  unfold opB14
  rw [hs]
  simp [le_length, part14]

theorem nonempty14 {s : ByteArray} (h : s ≠ ⟨#[]⟩) : s.toList.isEmpty = false ∧ ¬ s.toList = [] := by
  have : s.toList ≠ [] := fun e => h (by
    rw [ByteArray.toList_eq] at e
    exact ByteArray.ext (Array.toList_inj.1 (by rw [e])))
  exact ⟨by cases h : s.toList with | nil => exact absurd h this | cons _ _ => rfl, this⟩

theorem cellbox14 (o : O14) (w w2 : World) (hb : Below (w.alloc (.cells #[.int .u8 o.kd.toNat, .string o.a, .string o.b, .int .u8 o.nd.toNat, .int .u8 o.rl.toNat] 26)).heap.size (w.alloc (.cells #[.int .u8 o.kd.toNat, .string o.a, .string o.b, .int .u8 o.nd.toNat, .int .u8 o.rl.toNat] 26)) w2) :
    w2.cell? ⟨w.heap.size, 0, none⟩ = some (.int .u8 o.kd.toNat) ∧ w2.cell? ⟨w.heap.size, 1, none⟩ = some (.string o.a) ∧ w2.cell? ⟨w.heap.size, 2, none⟩ = some (.string o.b) ∧ w2.cell? ⟨w.heap.size, 3, none⟩ = some (.int .u8 o.nd.toNat) ∧ w2.cell? ⟨w.heap.size, 4, none⟩ = some (.int .u8 o.rl.toNat) ∧ Below w.heap.size w w2 := by
  obtain ⟨h1, h2⟩ := refbox14 o w w2 hb
  exact ⟨h1.c0, h1.c1, h1.c2, h1.c3, h1.c4, h2⟩

set_option maxRecDepth 100000 in
set_option maxHeartbeats 4000000 in
theorem rcheck14_calls (o : O14) (w : World) (hlit : Lit14 o) : Calls Tryd.prog 9 #[o.v] w (Says14 (.int .i64 (chk14 o)) w) := by
  have HBX := Lib.hid (cellbox14 o w)
  have HPT := Lib.hid (parts14_calls o.kd.toNat)
  have HTX := Lib.hid (fun W => rtxt14_calls o W hlit)
  clear hlit
  have hcl := cls14 o.kd.toNat
  obtain ⟨L, hL⟩ : ∃ L, L = (opB14 o).length := ⟨_, rfl⟩
  have hsz : (tx14 (opB14 o)).size = L := by rw [tx14_size, hL]
  unfold O14.v O14.cells at HTX ⊢
  rcases hcl with ⟨hp, hs, hk⟩ | ⟨hp, hs, hk⟩ | ⟨hp, hs, hk⟩ | ⟨hp, hs, hk⟩ | ⟨hp, hs, hk⟩
  · rw [hp] at HPT
    have hfrm := frm_ab14 hs hk
    have hlen := len_ab14 hs
    clear hp hs hk
    by_cases hn : o.nd.toNat = 0
    · by_cases hr : o.rl.toNat = 0
      · by_cases hA : 64 < o.a.size
        · have en : (o.nd.toNat : Int) = 0 := by omega
          have er : (o.rl.toNat : Int) = 0 := by omega
          have dA : decide ((o.a.size : Int) > 64) = true := by simp; omega
          have hfr : frm_14 o = true := by rw [hfrm]; exact decide_eq_true ⟨UInt8.toNat_inj.1 hn, UInt8.toNat_inj.1 hr⟩
          rw [show chk14 o = 3 from by unfold chk14; rw [hfr]; rw [if_pos rfl]; exact if_pos (by omega)]
          clear hfr hL hlen
          clear HTX hsz
          try clear hn
          try clear hr
          try clear ha
          try clear hb0
          try clear hA
          try clear hB
          try clear hN
          try clear hq
          clear hfrm
          generalize o.kd.toNat = kd at *
          generalize o.a = a at *
          generalize o.b = b at *
          generalize (o.nd.toNat : Int) = nd at *
          generalize (o.rl.toNat : Int) = rl at *
          try subst ea
          try subst eb
          try subst en
          try subst er
          go_enter Tryd.func9, Tryd.ntmps9
          go_wp2_with fail
          with_reducible refine (HPT.out _).mono ?_
          rintro e w2 ⟨rfl, hb⟩
          obtain ⟨z0, z1, z2, z3, z4, hb2⟩ := HBX.out w2 hb
          have HB2 := Lib.hid hb2
          clear hb hb2 HBX HPT
          go_wp2
          go_ret
          exact ⟨rfl, HB2.out⟩
        · have dA : decide ((o.a.size : Int) > 64) = false := by simp; omega
          by_cases hB : 64 < o.b.size
          · have en : (o.nd.toNat : Int) = 0 := by omega
            have er : (o.rl.toNat : Int) = 0 := by omega
            have dB : decide ((o.b.size : Int) > 64) = true := by simp; omega
            have hfr : frm_14 o = true := by rw [hfrm]; exact decide_eq_true ⟨UInt8.toNat_inj.1 hn, UInt8.toNat_inj.1 hr⟩
            rw [show chk14 o = 3 from by unfold chk14; rw [hfr]; rw [if_pos rfl]; exact if_pos (by omega)]
            clear hfr hL hlen
            clear HTX hsz
            try clear hn
            try clear hr
            try clear ha
            try clear hb0
            try clear hA
            try clear hB
            try clear hN
            try clear hq
            clear hfrm
            generalize o.kd.toNat = kd at *
            generalize o.a = a at *
            generalize o.b = b at *
            generalize (o.nd.toNat : Int) = nd at *
            generalize (o.rl.toNat : Int) = rl at *
            try subst ea
            try subst eb
            try subst en
            try subst er
            go_enter Tryd.func9, Tryd.ntmps9
            go_wp2_with fail
            with_reducible refine (HPT.out _).mono ?_
            rintro e w2 ⟨rfl, hb⟩
            obtain ⟨z0, z1, z2, z3, z4, hb2⟩ := HBX.out w2 hb
            have HB2 := Lib.hid hb2
            clear hb hb2 HBX HPT
            go_wp2
            go_ret
            exact ⟨rfl, HB2.out⟩
          · have dB : decide ((o.b.size : Int) > 64) = false := by simp; omega
            by_cases hN : 64 < L
            · have en : (o.nd.toNat : Int) = 0 := by omega
              have er : (o.rl.toNat : Int) = 0 := by omega
              have hfr : frm_14 o = true := by rw [hfrm]; exact decide_eq_true ⟨UInt8.toNat_inj.1 hn, UInt8.toNat_inj.1 hr⟩
              rw [show chk14 o = 3 from by unfold chk14; rw [hfr]; rw [if_pos rfl]; exact if_pos (by omega)]
              have dL : decide ((L : Int) > 64) = true := by simp; omega
              clear hfr hL hlen
              generalize tx14 (opB14 o) = t at *
              try clear hn
              try clear hr
              try clear ha
              try clear hb0
              try clear hA
              try clear hB
              try clear hN
              try clear hq
              clear hfrm
              generalize o.kd.toNat = kd at *
              generalize o.a = a at *
              generalize o.b = b at *
              generalize (o.nd.toNat : Int) = nd at *
              generalize (o.rl.toNat : Int) = rl at *
              try subst ea
              try subst eb
              try subst en
              try subst er
              go_enter Tryd.func9, Tryd.ntmps9
              go_wp2_with fail
              with_reducible refine (HPT.out _).mono ?_
              rintro e w2 ⟨rfl, hb⟩
              obtain ⟨z0, z1, z2, z3, z4, hb2⟩ := HBX.out w2 hb
              have HB2 := Lib.hid hb2
              clear hb hb2 HBX HPT
              go_wp2_with fail
              with_reducible refine (HTX.out _).mono ?_
              rintro e w3 ⟨rfl, hb⟩
              have HB3 := Lib.hid (next14 HB2.out hb)
              clear hb
              go_wp2
              go_ret
              exact ⟨rfl, HB3.out⟩
            · have en : (o.nd.toNat : Int) = 0 := by omega
              have er : (o.rl.toNat : Int) = 0 := by omega
              have hfr : frm_14 o = true := by rw [hfrm]; exact decide_eq_true ⟨UInt8.toNat_inj.1 hn, UInt8.toNat_inj.1 hr⟩
              rw [show chk14 o = 0 from by unfold chk14; rw [hfr]; rw [if_pos rfl]; exact if_neg (by omega)]
              have dL : decide ((L : Int) > 64) = false := by simp; omega
              clear hfr hL hlen
              generalize tx14 (opB14 o) = t at *
              try clear hn
              try clear hr
              try clear ha
              try clear hb0
              try clear hA
              try clear hB
              try clear hN
              try clear hq
              clear hfrm
              generalize o.kd.toNat = kd at *
              generalize o.a = a at *
              generalize o.b = b at *
              generalize (o.nd.toNat : Int) = nd at *
              generalize (o.rl.toNat : Int) = rl at *
              try subst ea
              try subst eb
              try subst en
              try subst er
              go_enter Tryd.func9, Tryd.ntmps9
              go_wp2_with fail
              with_reducible refine (HPT.out _).mono ?_
              rintro e w2 ⟨rfl, hb⟩
              obtain ⟨z0, z1, z2, z3, z4, hb2⟩ := HBX.out w2 hb
              have HB2 := Lib.hid hb2
              clear hb hb2 HBX HPT
              go_wp2_with fail
              with_reducible refine (HTX.out _).mono ?_
              rintro e w3 ⟨rfl, hb⟩
              have HB3 := Lib.hid (next14 HB2.out hb)
              clear hb
              go_wp2
              go_ret
              exact ⟨rfl, HB3.out⟩
      · have en : (o.nd.toNat : Int) = 0 := by omega
        have nr : ((o.rl.toNat : Int) != 0) = true := by simp; omega
        have hfr : frm_14 o = false := by rw [hfrm]; exact decide_eq_false (by intro h; exact hr (by rw [h.2]; rfl))
        rw [show chk14 o = 4 from by unfold chk14; rw [hfr]; exact if_neg (by decide)]
        clear hfr hL hlen
        clear HTX hsz
        try clear hn
        try clear hr
        try clear ha
        try clear hb0
        try clear hA
        try clear hB
        try clear hN
        try clear hq
        clear hfrm
        generalize o.kd.toNat = kd at *
        generalize o.a = a at *
        generalize o.b = b at *
        generalize (o.nd.toNat : Int) = nd at *
        generalize (o.rl.toNat : Int) = rl at *
        try subst ea
        try subst eb
        try subst en
        try subst er
        go_enter Tryd.func9, Tryd.ntmps9
        go_wp2_with fail
        with_reducible refine (HPT.out _).mono ?_
        rintro e w2 ⟨rfl, hb⟩
        obtain ⟨z0, z1, z2, z3, z4, hb2⟩ := HBX.out w2 hb
        have HB2 := Lib.hid hb2
        clear hb hb2 HBX HPT
        go_wp2
        go_ret
        exact ⟨rfl, HB2.out⟩
    · have nn : ((o.nd.toNat : Int) != 0) = true := by simp; omega
      have hfr : frm_14 o = false := by rw [hfrm]; exact decide_eq_false (by intro h; exact hn (by rw [h.1]; rfl))
      rw [show chk14 o = 4 from by unfold chk14; rw [hfr]; exact if_neg (by decide)]
      clear hfr hL hlen
      clear HTX hsz
      try clear hn
      try clear hr
      try clear ha
      try clear hb0
      try clear hA
      try clear hB
      try clear hN
      try clear hq
      clear hfrm
      generalize o.kd.toNat = kd at *
      generalize o.a = a at *
      generalize o.b = b at *
      generalize (o.nd.toNat : Int) = nd at *
      generalize (o.rl.toNat : Int) = rl at *
      try subst ea
      try subst eb
      try subst en
      try subst er
      go_enter Tryd.func9, Tryd.ntmps9
      go_wp2_with fail
      with_reducible refine (HPT.out _).mono ?_
      rintro e w2 ⟨rfl, hb⟩
      obtain ⟨z0, z1, z2, z3, z4, hb2⟩ := HBX.out w2 hb
      have HB2 := Lib.hid hb2
      clear hb hb2 HBX HPT
      go_wp2
      go_ret
      exact ⟨rfl, HB2.out⟩
  · rw [hp] at HPT
    have hfrm := frm_a14 hs hk
    have hlen := len_a14 hs
    clear hp hs hk
    by_cases hb0 : o.b = ⟨#[]⟩
    · by_cases hn : o.nd.toNat = 0
      · by_cases hr : o.rl.toNat = 0
        · by_cases hA : 64 < o.a.size
          · have eb := hb0
            have en : (o.nd.toNat : Int) = 0 := by omega
            have er : (o.rl.toNat : Int) = 0 := by omega
            have dA : decide ((o.a.size : Int) > 64) = true := by simp; omega
            have hfr : frm_14 o = true := by rw [hfrm]; exact decide_eq_true ⟨hb0, UInt8.toNat_inj.1 hn, UInt8.toNat_inj.1 hr⟩
            rw [show chk14 o = 3 from by unfold chk14; rw [hfr]; rw [if_pos rfl]; exact if_pos (by omega)]
            clear hfr hL hlen
            clear HTX hsz
            try clear hn
            try clear hr
            try clear ha
            try clear hb0
            try clear hA
            try clear hB
            try clear hN
            try clear hq
            clear hfrm
            generalize o.kd.toNat = kd at *
            generalize o.a = a at *
            generalize o.b = b at *
            generalize (o.nd.toNat : Int) = nd at *
            generalize (o.rl.toNat : Int) = rl at *
            try subst ea
            try subst eb
            try subst en
            try subst er
            go_enter Tryd.func9, Tryd.ntmps9
            go_wp2_with fail
            with_reducible refine (HPT.out _).mono ?_
            rintro e w2 ⟨rfl, hb⟩
            obtain ⟨z0, z1, z2, z3, z4, hb2⟩ := HBX.out w2 hb
            have HB2 := Lib.hid hb2
            clear hb hb2 HBX HPT
            go_wp2
            go_ret
            exact ⟨rfl, HB2.out⟩
          · have dA : decide ((o.a.size : Int) > 64) = false := by simp; omega
            by_cases hN : 64 < L
            · have eb := hb0
              have en : (o.nd.toNat : Int) = 0 := by omega
              have er : (o.rl.toNat : Int) = 0 := by omega
              have hfr : frm_14 o = true := by rw [hfrm]; exact decide_eq_true ⟨hb0, UInt8.toNat_inj.1 hn, UInt8.toNat_inj.1 hr⟩
              rw [show chk14 o = 3 from by unfold chk14; rw [hfr]; rw [if_pos rfl]; exact if_pos (by omega)]
              have dL : decide ((L : Int) > 64) = true := by simp; omega
              clear hfr hL hlen
              generalize tx14 (opB14 o) = t at *
              try clear hn
              try clear hr
              try clear ha
              try clear hb0
              try clear hA
              try clear hB
              try clear hN
              try clear hq
              clear hfrm
              generalize o.kd.toNat = kd at *
              generalize o.a = a at *
              generalize o.b = b at *
              generalize (o.nd.toNat : Int) = nd at *
              generalize (o.rl.toNat : Int) = rl at *
              try subst ea
              try subst eb
              try subst en
              try subst er
              go_enter Tryd.func9, Tryd.ntmps9
              go_wp2_with fail
              with_reducible refine (HPT.out _).mono ?_
              rintro e w2 ⟨rfl, hb⟩
              obtain ⟨z0, z1, z2, z3, z4, hb2⟩ := HBX.out w2 hb
              have HB2 := Lib.hid hb2
              clear hb hb2 HBX HPT
              go_wp2_with fail
              with_reducible refine (HTX.out _).mono ?_
              rintro e w3 ⟨rfl, hb⟩
              have HB3 := Lib.hid (next14 HB2.out hb)
              clear hb
              go_wp2
              go_ret
              exact ⟨rfl, HB3.out⟩
            · have eb := hb0
              have en : (o.nd.toNat : Int) = 0 := by omega
              have er : (o.rl.toNat : Int) = 0 := by omega
              have hfr : frm_14 o = true := by rw [hfrm]; exact decide_eq_true ⟨hb0, UInt8.toNat_inj.1 hn, UInt8.toNat_inj.1 hr⟩
              rw [show chk14 o = 0 from by unfold chk14; rw [hfr]; rw [if_pos rfl]; exact if_neg (by omega)]
              have dL : decide ((L : Int) > 64) = false := by simp; omega
              clear hfr hL hlen
              generalize tx14 (opB14 o) = t at *
              try clear hn
              try clear hr
              try clear ha
              try clear hb0
              try clear hA
              try clear hB
              try clear hN
              try clear hq
              clear hfrm
              generalize o.kd.toNat = kd at *
              generalize o.a = a at *
              generalize o.b = b at *
              generalize (o.nd.toNat : Int) = nd at *
              generalize (o.rl.toNat : Int) = rl at *
              try subst ea
              try subst eb
              try subst en
              try subst er
              go_enter Tryd.func9, Tryd.ntmps9
              go_wp2_with fail
              with_reducible refine (HPT.out _).mono ?_
              rintro e w2 ⟨rfl, hb⟩
              obtain ⟨z0, z1, z2, z3, z4, hb2⟩ := HBX.out w2 hb
              have HB2 := Lib.hid hb2
              clear hb hb2 HBX HPT
              go_wp2_with fail
              with_reducible refine (HTX.out _).mono ?_
              rintro e w3 ⟨rfl, hb⟩
              have HB3 := Lib.hid (next14 HB2.out hb)
              clear hb
              go_wp2
              go_ret
              exact ⟨rfl, HB3.out⟩
        · have eb := hb0
          have en : (o.nd.toNat : Int) = 0 := by omega
          have nr : ((o.rl.toNat : Int) != 0) = true := by simp; omega
          have hfr : frm_14 o = false := by rw [hfrm]; exact decide_eq_false (by intro h; exact hr (by rw [h.2.2]; rfl))
          rw [show chk14 o = 4 from by unfold chk14; rw [hfr]; exact if_neg (by decide)]
          clear hfr hL hlen
          clear HTX hsz
          try clear hn
          try clear hr
          try clear ha
          try clear hb0
          try clear hA
          try clear hB
          try clear hN
          try clear hq
          clear hfrm
          generalize o.kd.toNat = kd at *
          generalize o.a = a at *
          generalize o.b = b at *
          generalize (o.nd.toNat : Int) = nd at *
          generalize (o.rl.toNat : Int) = rl at *
          try subst ea
          try subst eb
          try subst en
          try subst er
          go_enter Tryd.func9, Tryd.ntmps9
          go_wp2_with fail
          with_reducible refine (HPT.out _).mono ?_
          rintro e w2 ⟨rfl, hb⟩
          obtain ⟨z0, z1, z2, z3, z4, hb2⟩ := HBX.out w2 hb
          have HB2 := Lib.hid hb2
          clear hb hb2 HBX HPT
          go_wp2
          go_ret
          exact ⟨rfl, HB2.out⟩
      · have eb := hb0
        have nn : ((o.nd.toNat : Int) != 0) = true := by simp; omega
        have hfr : frm_14 o = false := by rw [hfrm]; exact decide_eq_false (by intro h; exact hn (by rw [h.2.1]; rfl))
        rw [show chk14 o = 4 from by unfold chk14; rw [hfr]; exact if_neg (by decide)]
        clear hfr hL hlen
        clear HTX hsz
        try clear hn
        try clear hr
        try clear ha
        try clear hb0
        try clear hA
        try clear hB
        try clear hN
        try clear hq
        clear hfrm
        generalize o.kd.toNat = kd at *
        generalize o.a = a at *
        generalize o.b = b at *
        generalize (o.nd.toNat : Int) = nd at *
        generalize (o.rl.toNat : Int) = rl at *
        try subst ea
        try subst eb
        try subst en
        try subst er
        go_enter Tryd.func9, Tryd.ntmps9
        go_wp2_with fail
        with_reducible refine (HPT.out _).mono ?_
        rintro e w2 ⟨rfl, hb⟩
        obtain ⟨z0, z1, z2, z3, z4, hb2⟩ := HBX.out w2 hb
        have HB2 := Lib.hid hb2
        clear hb hb2 HBX HPT
        go_wp2
        go_ret
        exact ⟨rfl, HB2.out⟩
    · obtain ⟨nb1, nb2⟩ := nonempty14 hb0
      have hfr : frm_14 o = false := by rw [hfrm]; exact decide_eq_false (by intro h; exact hb0 h.1)
      rw [show chk14 o = 4 from by unfold chk14; rw [hfr]; exact if_neg (by decide)]
      clear hfr hL hlen
      clear HTX hsz
      try clear hn
      try clear hr
      try clear ha
      try clear hb0
      try clear hA
      try clear hB
      try clear hN
      try clear hq
      clear hfrm
      generalize o.kd.toNat = kd at *
      generalize o.a = a at *
      generalize o.b = b at *
      generalize (o.nd.toNat : Int) = nd at *
      generalize (o.rl.toNat : Int) = rl at *
      try subst ea
      try subst eb
      try subst en
      try subst er
      go_enter Tryd.func9, Tryd.ntmps9
      go_wp2_with fail
      with_reducible refine (HPT.out _).mono ?_
      rintro e w2 ⟨rfl, hb⟩
      obtain ⟨z0, z1, z2, z3, z4, hb2⟩ := HBX.out w2 hb
      have HB2 := Lib.hid hb2
      clear hb hb2 HBX HPT
      go_wp2
      go_ret
      exact ⟨rfl, HB2.out⟩
  · rw [hp] at HPT
    have hfrm := frm_014 hs hk
    have hlen := len_014 hs
    clear hp hs hk
    by_cases ha : o.a = ⟨#[]⟩
    · by_cases hb0 : o.b = ⟨#[]⟩
      · by_cases hn : o.nd.toNat = 0
        · by_cases hr : o.rl.toNat = 0
          · skip
            · have ea := ha
              have eb := hb0
              have en : (o.nd.toNat : Int) = 0 := by omega
              have er : (o.rl.toNat : Int) = 0 := by omega
              have hfr : frm_14 o = true := by rw [hfrm]; exact decide_eq_true ⟨ha, hb0, UInt8.toNat_inj.1 hn, UInt8.toNat_inj.1 hr⟩
              rw [show chk14 o = 0 from by unfold chk14; rw [hfr]; rw [if_pos rfl]; exact if_neg (by omega)]
              have dL : decide ((L : Int) > 64) = false := by simp; omega
              clear hfr hL hlen
              generalize tx14 (opB14 o) = t at *
              try clear hn
              try clear hr
              try clear ha
              try clear hb0
              try clear hA
              try clear hB
              try clear hN
              try clear hq
              clear hfrm
              generalize o.kd.toNat = kd at *
              generalize o.a = a at *
              generalize o.b = b at *
              generalize (o.nd.toNat : Int) = nd at *
              generalize (o.rl.toNat : Int) = rl at *
              try subst ea
              try subst eb
              try subst en
              try subst er
              go_enter Tryd.func9, Tryd.ntmps9
              go_wp2_with fail
              with_reducible refine (HPT.out _).mono ?_
              rintro e w2 ⟨rfl, hb⟩
              obtain ⟨z0, z1, z2, z3, z4, hb2⟩ := HBX.out w2 hb
              have HB2 := Lib.hid hb2
              clear hb hb2 HBX HPT
              go_wp2_with fail
              with_reducible refine (HTX.out _).mono ?_
              rintro e w3 ⟨rfl, hb⟩
              have HB3 := Lib.hid (next14 HB2.out hb)
              clear hb
              go_wp2
              go_ret
              exact ⟨rfl, HB3.out⟩
          · have ea := ha
            have eb := hb0
            have en : (o.nd.toNat : Int) = 0 := by omega
            have nr : ((o.rl.toNat : Int) != 0) = true := by simp; omega
            have hfr : frm_14 o = false := by rw [hfrm]; exact decide_eq_false (by intro h; exact hr (by rw [h.2.2.2]; rfl))
            rw [show chk14 o = 4 from by unfold chk14; rw [hfr]; exact if_neg (by decide)]
            clear hfr hL hlen
            clear HTX hsz
            try clear hn
            try clear hr
            try clear ha
            try clear hb0
            try clear hA
            try clear hB
            try clear hN
            try clear hq
            clear hfrm
            generalize o.kd.toNat = kd at *
            generalize o.a = a at *
            generalize o.b = b at *
            generalize (o.nd.toNat : Int) = nd at *
            generalize (o.rl.toNat : Int) = rl at *
            try subst ea
            try subst eb
            try subst en
            try subst er
            go_enter Tryd.func9, Tryd.ntmps9
            go_wp2_with fail
            with_reducible refine (HPT.out _).mono ?_
            rintro e w2 ⟨rfl, hb⟩
            obtain ⟨z0, z1, z2, z3, z4, hb2⟩ := HBX.out w2 hb
            have HB2 := Lib.hid hb2
            clear hb hb2 HBX HPT
            go_wp2
            go_ret
            exact ⟨rfl, HB2.out⟩
        · have ea := ha
          have eb := hb0
          have nn : ((o.nd.toNat : Int) != 0) = true := by simp; omega
          have hfr : frm_14 o = false := by rw [hfrm]; exact decide_eq_false (by intro h; exact hn (by rw [h.2.2.1]; rfl))
          rw [show chk14 o = 4 from by unfold chk14; rw [hfr]; exact if_neg (by decide)]
          clear hfr hL hlen
          clear HTX hsz
          try clear hn
          try clear hr
          try clear ha
          try clear hb0
          try clear hA
          try clear hB
          try clear hN
          try clear hq
          clear hfrm
          generalize o.kd.toNat = kd at *
          generalize o.a = a at *
          generalize o.b = b at *
          generalize (o.nd.toNat : Int) = nd at *
          generalize (o.rl.toNat : Int) = rl at *
          try subst ea
          try subst eb
          try subst en
          try subst er
          go_enter Tryd.func9, Tryd.ntmps9
          go_wp2_with fail
          with_reducible refine (HPT.out _).mono ?_
          rintro e w2 ⟨rfl, hb⟩
          obtain ⟨z0, z1, z2, z3, z4, hb2⟩ := HBX.out w2 hb
          have HB2 := Lib.hid hb2
          clear hb hb2 HBX HPT
          go_wp2
          go_ret
          exact ⟨rfl, HB2.out⟩
      · have ea := ha
        obtain ⟨nb1, nb2⟩ := nonempty14 hb0
        have hfr : frm_14 o = false := by rw [hfrm]; exact decide_eq_false (by intro h; exact hb0 h.2.1)
        rw [show chk14 o = 4 from by unfold chk14; rw [hfr]; exact if_neg (by decide)]
        clear hfr hL hlen
        clear HTX hsz
        try clear hn
        try clear hr
        try clear ha
        try clear hb0
        try clear hA
        try clear hB
        try clear hN
        try clear hq
        clear hfrm
        generalize o.kd.toNat = kd at *
        generalize o.a = a at *
        generalize o.b = b at *
        generalize (o.nd.toNat : Int) = nd at *
        generalize (o.rl.toNat : Int) = rl at *
        try subst ea
        try subst eb
        try subst en
        try subst er
        go_enter Tryd.func9, Tryd.ntmps9
        go_wp2_with fail
        with_reducible refine (HPT.out _).mono ?_
        rintro e w2 ⟨rfl, hb⟩
        obtain ⟨z0, z1, z2, z3, z4, hb2⟩ := HBX.out w2 hb
        have HB2 := Lib.hid hb2
        clear hb hb2 HBX HPT
        go_wp2
        go_ret
        exact ⟨rfl, HB2.out⟩
    · obtain ⟨na1, na2⟩ := nonempty14 ha
      have hfr : frm_14 o = false := by rw [hfrm]; exact decide_eq_false (by intro h; exact ha h.1)
      rw [show chk14 o = 4 from by unfold chk14; rw [hfr]; exact if_neg (by decide)]
      clear hfr hL hlen
      clear HTX hsz
      try clear hn
      try clear hr
      try clear ha
      try clear hb0
      try clear hA
      try clear hB
      try clear hN
      try clear hq
      clear hfrm
      generalize o.kd.toNat = kd at *
      generalize o.a = a at *
      generalize o.b = b at *
      generalize (o.nd.toNat : Int) = nd at *
      generalize (o.rl.toNat : Int) = rl at *
      try subst ea
      try subst eb
      try subst en
      try subst er
      go_enter Tryd.func9, Tryd.ntmps9
      go_wp2_with fail
      with_reducible refine (HPT.out _).mono ?_
      rintro e w2 ⟨rfl, hb⟩
      obtain ⟨z0, z1, z2, z3, z4, hb2⟩ := HBX.out w2 hb
      have HB2 := Lib.hid hb2
      clear hb hb2 HBX HPT
      go_wp2
      go_ret
      exact ⟨rfl, HB2.out⟩
  · rw [hp] at HPT
    have hfrm := frm_nr14 hs hk
    have hlen := len_nr14 hs
    clear hp hs hk
    by_cases ha : o.a = ⟨#[]⟩
    · by_cases hb0 : o.b = ⟨#[]⟩
      · by_cases hn : o.nd.toNat < 7
        · by_cases hr : 1 ≤ o.rl.toNat
          · by_cases hq : o.rl.toNat ≤ 3
            · skip
              · have ea := ha
                have eb := hb0
                have nn : decide ((o.nd.toNat : Int) > 6) = false := by simp; omega
                have nr : decide ((o.rl.toNat : Int) < 1) = false := by simp; omega
                have nq : decide ((o.rl.toNat : Int) > 3) = false := by simp; omega
                have hfr : frm_14 o = true := by rw [hfrm]; exact decide_eq_true ⟨ha, hb0, hn, hr, hq⟩
                rw [show chk14 o = 0 from by unfold chk14; rw [hfr]; rw [if_pos rfl]; exact if_neg (by omega)]
                have dL : decide ((L : Int) > 64) = false := by simp; omega
                clear hfr hL hlen
                generalize tx14 (opB14 o) = t at *
                try clear hn
                try clear hr
                try clear ha
                try clear hb0
                try clear hA
                try clear hB
                try clear hN
                try clear hq
                clear hfrm
                generalize o.kd.toNat = kd at *
                generalize o.a = a at *
                generalize o.b = b at *
                generalize (o.nd.toNat : Int) = nd at *
                generalize (o.rl.toNat : Int) = rl at *
                try subst ea
                try subst eb
                try subst en
                try subst er
                go_enter Tryd.func9, Tryd.ntmps9
                go_wp2_with fail
                with_reducible refine (HPT.out _).mono ?_
                rintro e w2 ⟨rfl, hb⟩
                obtain ⟨z0, z1, z2, z3, z4, hb2⟩ := HBX.out w2 hb
                have HB2 := Lib.hid hb2
                clear hb hb2 HBX HPT
                go_wp2_with fail
                with_reducible refine (HTX.out _).mono ?_
                rintro e w3 ⟨rfl, hb⟩
                have HB3 := Lib.hid (next14 HB2.out hb)
                clear hb
                go_wp2
                go_ret
                exact ⟨rfl, HB3.out⟩
            · have ea := ha
              have eb := hb0
              have nn : decide ((o.nd.toNat : Int) > 6) = false := by simp; omega
              have nr : decide ((o.rl.toNat : Int) < 1) = false := by simp; omega
              have nq : decide ((o.rl.toNat : Int) > 3) = true := by simp; omega
              have hfr : frm_14 o = false := by rw [hfrm]; exact decide_eq_false (by intro h; exact hq h.2.2.2.2)
              rw [show chk14 o = 4 from by unfold chk14; rw [hfr]; exact if_neg (by decide)]
              clear hfr hL hlen
              clear HTX hsz
              try clear hn
              try clear hr
              try clear ha
              try clear hb0
              try clear hA
              try clear hB
              try clear hN
              try clear hq
              clear hfrm
              generalize o.kd.toNat = kd at *
              generalize o.a = a at *
              generalize o.b = b at *
              generalize (o.nd.toNat : Int) = nd at *
              generalize (o.rl.toNat : Int) = rl at *
              try subst ea
              try subst eb
              try subst en
              try subst er
              go_enter Tryd.func9, Tryd.ntmps9
              go_wp2_with fail
              with_reducible refine (HPT.out _).mono ?_
              rintro e w2 ⟨rfl, hb⟩
              obtain ⟨z0, z1, z2, z3, z4, hb2⟩ := HBX.out w2 hb
              have HB2 := Lib.hid hb2
              clear hb hb2 HBX HPT
              go_wp2
              go_ret
              exact ⟨rfl, HB2.out⟩
          · have ea := ha
            have eb := hb0
            have nn : decide ((o.nd.toNat : Int) > 6) = false := by simp; omega
            have nr : decide ((o.rl.toNat : Int) < 1) = true := by simp; omega
            have hfr : frm_14 o = false := by rw [hfrm]; exact decide_eq_false (by intro h; exact hr h.2.2.2.1)
            rw [show chk14 o = 4 from by unfold chk14; rw [hfr]; exact if_neg (by decide)]
            clear hfr hL hlen
            clear HTX hsz
            try clear hn
            try clear hr
            try clear ha
            try clear hb0
            try clear hA
            try clear hB
            try clear hN
            try clear hq
            clear hfrm
            generalize o.kd.toNat = kd at *
            generalize o.a = a at *
            generalize o.b = b at *
            generalize (o.nd.toNat : Int) = nd at *
            generalize (o.rl.toNat : Int) = rl at *
            try subst ea
            try subst eb
            try subst en
            try subst er
            go_enter Tryd.func9, Tryd.ntmps9
            go_wp2_with fail
            with_reducible refine (HPT.out _).mono ?_
            rintro e w2 ⟨rfl, hb⟩
            obtain ⟨z0, z1, z2, z3, z4, hb2⟩ := HBX.out w2 hb
            have HB2 := Lib.hid hb2
            clear hb hb2 HBX HPT
            go_wp2
            go_ret
            exact ⟨rfl, HB2.out⟩
        · have ea := ha
          have eb := hb0
          have nn : decide ((o.nd.toNat : Int) > 6) = true := by simp; omega
          have hfr : frm_14 o = false := by rw [hfrm]; exact decide_eq_false (by intro h; exact hn h.2.2.1)
          rw [show chk14 o = 4 from by unfold chk14; rw [hfr]; exact if_neg (by decide)]
          clear hfr hL hlen
          clear HTX hsz
          try clear hn
          try clear hr
          try clear ha
          try clear hb0
          try clear hA
          try clear hB
          try clear hN
          try clear hq
          clear hfrm
          generalize o.kd.toNat = kd at *
          generalize o.a = a at *
          generalize o.b = b at *
          generalize (o.nd.toNat : Int) = nd at *
          generalize (o.rl.toNat : Int) = rl at *
          try subst ea
          try subst eb
          try subst en
          try subst er
          go_enter Tryd.func9, Tryd.ntmps9
          go_wp2_with fail
          with_reducible refine (HPT.out _).mono ?_
          rintro e w2 ⟨rfl, hb⟩
          obtain ⟨z0, z1, z2, z3, z4, hb2⟩ := HBX.out w2 hb
          have HB2 := Lib.hid hb2
          clear hb hb2 HBX HPT
          go_wp2
          go_ret
          exact ⟨rfl, HB2.out⟩
      · have ea := ha
        obtain ⟨nb1, nb2⟩ := nonempty14 hb0
        have hfr : frm_14 o = false := by rw [hfrm]; exact decide_eq_false (by intro h; exact hb0 h.2.1)
        rw [show chk14 o = 4 from by unfold chk14; rw [hfr]; exact if_neg (by decide)]
        clear hfr hL hlen
        clear HTX hsz
        try clear hn
        try clear hr
        try clear ha
        try clear hb0
        try clear hA
        try clear hB
        try clear hN
        try clear hq
        clear hfrm
        generalize o.kd.toNat = kd at *
        generalize o.a = a at *
        generalize o.b = b at *
        generalize (o.nd.toNat : Int) = nd at *
        generalize (o.rl.toNat : Int) = rl at *
        try subst ea
        try subst eb
        try subst en
        try subst er
        go_enter Tryd.func9, Tryd.ntmps9
        go_wp2_with fail
        with_reducible refine (HPT.out _).mono ?_
        rintro e w2 ⟨rfl, hb⟩
        obtain ⟨z0, z1, z2, z3, z4, hb2⟩ := HBX.out w2 hb
        have HB2 := Lib.hid hb2
        clear hb hb2 HBX HPT
        go_wp2
        go_ret
        exact ⟨rfl, HB2.out⟩
    · obtain ⟨na1, na2⟩ := nonempty14 ha
      have hfr : frm_14 o = false := by rw [hfrm]; exact decide_eq_false (by intro h; exact ha h.1)
      rw [show chk14 o = 4 from by unfold chk14; rw [hfr]; exact if_neg (by decide)]
      clear hfr hL hlen
      clear HTX hsz
      try clear hn
      try clear hr
      try clear ha
      try clear hb0
      try clear hA
      try clear hB
      try clear hN
      try clear hq
      clear hfrm
      generalize o.kd.toNat = kd at *
      generalize o.a = a at *
      generalize o.b = b at *
      generalize (o.nd.toNat : Int) = nd at *
      generalize (o.rl.toNat : Int) = rl at *
      try subst ea
      try subst eb
      try subst en
      try subst er
      go_enter Tryd.func9, Tryd.ntmps9
      go_wp2_with fail
      with_reducible refine (HPT.out _).mono ?_
      rintro e w2 ⟨rfl, hb⟩
      obtain ⟨z0, z1, z2, z3, z4, hb2⟩ := HBX.out w2 hb
      have HB2 := Lib.hid hb2
      clear hb hb2 HBX HPT
      go_wp2
      go_ret
      exact ⟨rfl, HB2.out⟩
  · rw [hp] at HPT
    have hfr := frm_no14 hk
    have hlen := len_014 hs
    clear hp hs hk
    · have hfrm : True := trivial
      rw [show chk14 o = 4 from by unfold chk14; rw [hfr]; exact if_neg (by decide)]
      clear hfr hL hlen
      clear HTX hsz
      try clear hn
      try clear hr
      try clear ha
      try clear hb0
      try clear hA
      try clear hB
      try clear hN
      try clear hq
      clear hfrm
      generalize o.kd.toNat = kd at *
      generalize o.a = a at *
      generalize o.b = b at *
      generalize (o.nd.toNat : Int) = nd at *
      generalize (o.rl.toNat : Int) = rl at *
      try subst ea
      try subst eb
      try subst en
      try subst er
      go_enter Tryd.func9, Tryd.ntmps9
      go_wp2_with fail
      with_reducible refine (HPT.out _).mono ?_
      rintro e w2 ⟨rfl, hb⟩
      obtain ⟨z0, z1, z2, z3, z4, hb2⟩ := HBX.out w2 hb
      have HB2 := Lib.hid hb2
      clear hb hb2 HBX HPT
      go_wp2
      go_ret
      exact ⟨rfl, HB2.out⟩
end Go.Proofs.YtacmjmfdhegojaaDoor
