/- The reader: one step of a basic expression. -/
import Derived.Test.YtlekfdkahlobiaaGreatHSt7
namespace Go.Proofs.YtlekfdkahlobiaaGreat.Re
open Go.Proofs.YtlekfdkahlobiaaGreat.Tr
open Go.RowKit

section
variable {w : World} {rb : Nat} {l : List UInt8} {ext fold cl : Bool} {pv ov : Value}
set_option maxHeartbeats 1000000 in
set_option maxRecDepth 100000 in
theorem be_open_some {r : List UInt8} {f : Fr} {fs : List Fr} {last : Nat} (hl : (f :: fs).length + 1 + r.length ≤ 2097152) (h : RS rb ext fold w r last (f :: fs)) {q : List UInt8 × Nat × List Fr} (ho : (some (r, 0, ([], []) :: f :: fs) : Ms) = some q) : Calls Tryz.prog 49 #[ptr rb, .int .u8 40] w (RO rb ext fold w (some q)) := by
  have hnx : Calls Tryz.prog 36 #[ptr rb] w (RO rb ext fold w (some (r, 0, ([], []) :: f :: fs) : Ms)) := rbegin_c h hl
  rw [ho] at hnx
  clear h ho
  go_enter Tryz.func49, Tryz.ntmps49
  go_wp2_with (first
    | (go_at_call 36; refine hnx.mono ?_; rintro e w2 ⟨hB2, rfl, hS2⟩))
  go_end0
  exact ⟨hB2, rfl, hS2⟩
set_option maxHeartbeats 1000000 in
set_option maxRecDepth 100000 in
theorem be_shut_none {r : List UInt8} {f : Fr} {fs : List Fr} {last : Nat} (h : RS rb ext fold w r last (f :: fs)) (ho : (shutM ext last (f :: fs) r) = none) : Calls Tryz.prog 49 #[ptr rb, .int .u8 41] w (RO rb ext fold w none) := by
  have hnx : Calls Tryz.prog 54 #[ptr rb] w (RO rb ext fold w (shutM ext last (f :: fs) r)) := endInner_c h
  rw [ho] at hnx
  clear h ho
  go_enter Tryz.func49, Tryz.ntmps49
  go_wp2_with (first
    | (go_at_call 54; refine hnx.mono ?_; rintro e w2 ⟨hB2, rfl⟩))
  exact ⟨rfl, hB2, rfl⟩
set_option maxHeartbeats 1000000 in
set_option maxRecDepth 100000 in
theorem be_shut_some {r : List UInt8} {f : Fr} {fs : List Fr} {last : Nat} (h : RS rb ext fold w r last (f :: fs)) {q : List UInt8 × Nat × List Fr} (ho : (shutM ext last (f :: fs) r) = some q) : Calls Tryz.prog 49 #[ptr rb, .int .u8 41] w (RO rb ext fold w (some q)) := by
  have hnx : Calls Tryz.prog 54 #[ptr rb] w (RO rb ext fold w (shutM ext last (f :: fs) r)) := endInner_c h
  rw [ho] at hnx
  clear h ho
  go_enter Tryz.func49, Tryz.ntmps49
  go_wp2_with (first
    | (go_at_call 54; refine hnx.mono ?_; rintro e w2 ⟨hB2, rfl, hS2⟩))
  go_end0
  exact ⟨hB2, rfl, hS2⟩
set_option maxHeartbeats 1000000 in
set_option maxRecDepth 100000 in
theorem be_esc_none {r : List UInt8} {f : Fr} {fs : List Fr} {last : Nat} {c : UInt8} (hne : c ≠ 40 ∧ c ≠ 41 ∧ c ≠ 123 ∧ c ≠ 125) (h : RS rb ext fold w r last (f :: fs)) (ho : (atomM (f :: fs) (quoteE fold (c :: r))) = none) : Calls Tryz.prog 49 #[ptr rb, .int .u8 (c.toNat : Int)] w (RO rb ext fold w none) := by
  have hnx : Calls Tryz.prog 57 #[ptr rb, .int .u8 (c.toNat : Int)] w (RO rb ext fold w (atomM (f :: fs) (quoteE fold (c :: r)))) := escaped_c c h
  rw [ho] at hnx
  obtain ⟨n40, n41, n123, n125⟩ := hne
  have q40 : ((c.toNat : Int) == 40) = false := ne_u8 n40
  have q41 : ((c.toNat : Int) == 41) = false := ne_u8 n41
  have q123 : ((c.toNat : Int) == 123) = false := ne_u8 n123
  have q125 : ((c.toNat : Int) == 125) = false := ne_u8 n125
  clear n40 n41 n123 n125
  clear h ho
  go_enter Tryz.func49, Tryz.ntmps49
  go_wp2_with (first
    | (go_at_call 57; refine hnx.mono ?_; rintro e w2 ⟨hB2, rfl⟩))
  exact ⟨rfl, hB2, rfl⟩
set_option maxHeartbeats 1000000 in
set_option maxRecDepth 100000 in
theorem be_esc_some {r : List UInt8} {f : Fr} {fs : List Fr} {last : Nat} {c : UInt8} (hne : c ≠ 40 ∧ c ≠ 41 ∧ c ≠ 123 ∧ c ≠ 125) (h : RS rb ext fold w r last (f :: fs)) {q : List UInt8 × Nat × List Fr} (ho : (atomM (f :: fs) (quoteE fold (c :: r))) = some q) : Calls Tryz.prog 49 #[ptr rb, .int .u8 (c.toNat : Int)] w (RO rb ext fold w (some q)) := by
  have hnx : Calls Tryz.prog 57 #[ptr rb, .int .u8 (c.toNat : Int)] w (RO rb ext fold w (atomM (f :: fs) (quoteE fold (c :: r)))) := escaped_c c h
  rw [ho] at hnx
  obtain ⟨n40, n41, n123, n125⟩ := hne
  have q40 : ((c.toNat : Int) == 40) = false := ne_u8 n40
  have q41 : ((c.toNat : Int) == 41) = false := ne_u8 n41
  have q123 : ((c.toNat : Int) == 123) = false := ne_u8 n123
  have q125 : ((c.toNat : Int) == 125) = false := ne_u8 n125
  clear n40 n41 n123 n125
  clear h ho
  go_enter Tryz.func49, Tryz.ntmps49
  go_wp2_with (first
    | (go_at_call 57; refine hnx.mono ?_; rintro e w2 ⟨hB2, rfl, hS2⟩))
  go_end0
  exact ⟨hB2, rfl, hS2⟩
set_option maxHeartbeats 1000000 in
set_option maxRecDepth 100000 in
theorem be_no {r : List UInt8} {f : Fr} {fs : List Fr} {last : Nat} (_h : RS rb ext fold w r last (f :: fs)) : Calls Tryz.prog 49 #[ptr rb, .int .u8 125] w (RO rb ext fold w none) := by
  have hg := giveUp_c w
  clear _h
  go_enter Tryz.func49, Tryz.ntmps49
  go_wp2_with (first
    | (go_at_call 38; refine hg.mono ?_; rintro e w1 ⟨rfl, hw⟩; rw [hw]; clear hw w1))
  exact ⟨rfl, Below.refl _ _, rfl⟩
theorem be_c {c : UInt8} {r : List UInt8} {f : Fr} {fs : List Fr} {last : Nat} (hl : (f :: fs).length + 1 + r.length ≤ 2097152) (h : RS rb false fold w r last (f :: fs)) : Calls Tryz.prog 49 #[ptr rb, .int .u8 (c.toNat : Int)] w (RO rb false fold w (escB fold last (f :: fs) (c :: r))) := by
  by_cases h40 : c = 40
  · subst h40
    have e : escB fold last (f :: fs) (40 :: r) = some (r, 0, ([], []) :: f :: fs) := rfl
    rw [e]; exact be_open_some hl h rfl
  by_cases h41 : c = 41
  · subst h41
    have e : escB fold last (f :: fs) (41 :: r) = shutM false last (f :: fs) r := rfl
    rw [e]
    cases ho : shutM false last (f :: fs) r with
    | none => exact be_shut_none h ho
    | some q => exact be_shut_some h ho
  by_cases h123 : c = 123
  · subst h123
    have e : escB fold last (f :: fs) (123 :: r) = boundsM last (f :: fs) (braceS [92, 125] r) := rfl
    rw [e]
    cases ho : braceS [92, 125] r with
    | none => exact be_brace_a h ho
    | some q =>
      by_cases h4 : last = 4
      · have : boundsM last (f :: fs) (some q) = some (q.2.2, 5, repF q.1 q.2.1 (f :: fs)) := if_pos h4
        rw [this]; exact be_brace_c h ho h4
      · have : boundsM last (f :: fs) (some q) = none := if_neg h4
        rw [this]; exact be_brace_b h ho h4
  by_cases h125 : c = 125
  · subst h125; exact be_no h
  have e : escB fold last (f :: fs) (c :: r) = atomM (f :: fs) (quoteE fold (c :: r)) := by rw [escB, if_neg h40, if_neg h41, if_neg h123, if_neg h125]
  rw [e]
  cases ho : atomM (f :: fs) (quoteE fold (c :: r)) with
  | none => exact be_esc_none ⟨h40, h41, h123, h125⟩ h ho
  | some q => exact be_esc_some ⟨h40, h41, h123, h125⟩ h ho
set_option maxHeartbeats 1000000 in
set_option maxRecDepth 100000 in
theorem bas_begin_some {r : List UInt8} {f : Fr} {fs : List Fr} {last : Nat} (hA : AmM w rb) (h : RS rb false fold w (94 :: r) last (f :: fs)) (h0 : last = 0) {q : List UInt8 × Nat × List Fr} (ho : (some (r, 2, pieceF beginN (f :: fs)) : Ms) = some q) : Calls Tryz.prog 34 #[ptr rb] w (RO rb false fold w (some q)) := by
  have htk := rs_take h
  have q0 : ((last : Int) == 0) = true := by rw [h0]; rfl
  have HNX : Hid (∀ u, AmM u rb → RS rb false fold u r last (f :: fs) → Calls Tryz.prog 50 #[ptr rb, .int .i64 2, .int .i64 2] u (RO rb false fold u (some q))) := fun u hAu hu => by
    have this : Calls Tryz.prog 50 #[ptr rb, .int .i64 2, .int .i64 2] u (RO rb false fold u (some (r, 2, pieceF beginN (f :: fs)) : Ms)) := anchor_c 2 (by omega) 2 last hu
    rw [ho] at this
    exact this
  have HA := Lib.hid hA
  clear h hA ho
  go_enter Tryz.func34, Tryz.ntmps34
  go_wp2_with (first
    | (go_at_call 48; refine htk.mono ?_; rintro e w1 ⟨rfl, hB1, hS1, hl1⟩; have hnx := HNX.out w1 (HA.out.keep hB1) hS1; obtain ⟨cl1, pv1, ov1, md1, hR1, _⟩ := hS1; have k3 := h_cell hR1 3 rfl; have k0 := h_cell hR1 0 rfl; have HB1 := Lib.hid hB1; clear htk hB1 hl1 hR1)
    | (go_at_call 50; refine hnx.mono ?_; rintro e w2 ⟨hB2, rfl, hS2⟩))
  go_end0
  exact ⟨HB1.out.trans hB2, rfl, hS2⟩
set_option maxHeartbeats 1000000 in
set_option maxRecDepth 100000 in
theorem bas_end1_some {r : List UInt8} {f : Fr} {fs : List Fr} {last : Nat} (hA : AmM w rb) (h : RS rb false fold w (36 :: r) last (f :: fs)) (h0 : r = []) {q : List UInt8 × Nat × List Fr} (ho : (some (r, 3, pieceF endN (f :: fs)) : Ms) = some q) : Calls Tryz.prog 34 #[ptr rb] w (RO rb false fold w (some q)) := by
  have htk := rs_take h
  have e0 : (bs r).toList.isEmpty = true := by rw [h0]; exact emp_yes
  clear h0
  have HNX : Hid (∀ u, AmM u rb → RS rb false fold u r last (f :: fs) → Calls Tryz.prog 50 #[ptr rb, .int .i64 3, .int .i64 3] u (RO rb false fold u (some q))) := fun u hAu hu => by
    have this : Calls Tryz.prog 50 #[ptr rb, .int .i64 3, .int .i64 3] u (RO rb false fold u (some (r, 3, pieceF endN (f :: fs)) : Ms)) := anchor_c 3 (by omega) 3 last hu
    rw [ho] at this
    exact this
  have HA := Lib.hid hA
  clear h hA ho
  go_enter Tryz.func34, Tryz.ntmps34
  go_wp2_with (first
    | (go_at_call 48; refine htk.mono ?_; rintro e w1 ⟨rfl, hB1, hS1, hl1⟩; have hnx := HNX.out w1 (HA.out.keep hB1) hS1; obtain ⟨cl1, pv1, ov1, md1, hR1, _⟩ := hS1; have k3 := h_cell hR1 3 rfl; have k0 := h_cell hR1 0 rfl; have HB1 := Lib.hid hB1; clear htk hB1 hl1 hR1)
    | (go_at_call 50; refine hnx.mono ?_; rintro e w2 ⟨hB2, rfl, hS2⟩))
  go_end0
  exact ⟨HB1.out.trans hB2, rfl, hS2⟩
set_option maxHeartbeats 1000000 in
set_option maxRecDepth 100000 in
theorem bas_end2_some {r : List UInt8} {f : Fr} {fs : List Fr} {last : Nat} (hA : AmM w rb) (h : RS rb false fold w (36 :: r) last (f :: fs)) (hr : r ≠ []) (h0 : begins [92, 41] r = true) {q : List UInt8 × Nat × List Fr} (ho : (some (r, 3, pieceF endN (f :: fs)) : Ms) = some q) : Calls Tryz.prog 34 #[ptr rb] w (RO rb false fold w (some q)) := by
  have htk := rs_take h
  have e0 : (bs r).toList.isEmpty = false := by
    cases r with
    | nil => exact absurd rfl hr
    | cons d0 r0 => exact emp_no d0 r0
  have hps : ∀ u, Calls Tryz.prog 51 #[.string (bs r), .string (bs [92, 41])] u fun e w' => e = .returned (.bool true) ∧ w' = u := fun u => h0 ▸ hasP_c r [92, 41] u
  clear hr h0
  have HNX : Hid (∀ u, AmM u rb → RS rb false fold u r last (f :: fs) → Calls Tryz.prog 50 #[ptr rb, .int .i64 3, .int .i64 3] u (RO rb false fold u (some q))) := fun u hAu hu => by
    have this : Calls Tryz.prog 50 #[ptr rb, .int .i64 3, .int .i64 3] u (RO rb false fold u (some (r, 3, pieceF endN (f :: fs)) : Ms)) := anchor_c 3 (by omega) 3 last hu
    rw [ho] at this
    exact this
  have HA := Lib.hid hA
  clear h hA ho
  go_enter Tryz.func34, Tryz.ntmps34
  go_wp2_with (first
    | (go_at_call 48; refine htk.mono ?_; rintro e w1 ⟨rfl, hB1, hS1, hl1⟩; have hnx := HNX.out w1 (HA.out.keep hB1) hS1; obtain ⟨cl1, pv1, ov1, md1, hR1, _⟩ := hS1; have k3 := h_cell hR1 3 rfl; have k0 := h_cell hR1 0 rfl; have HB1 := Lib.hid hB1; clear htk hB1 hl1 hR1)
    | (go_at_call 51; refine (hps _).mono ?_; rintro e w5 ⟨rfl, hw⟩; rw [hw]; clear hw w5)
    | (go_at_call 50; refine hnx.mono ?_; rintro e w2 ⟨hB2, rfl, hS2⟩))
  go_end0
  exact ⟨HB1.out.trans hB2, rfl, hS2⟩
set_option maxHeartbeats 1000000 in
set_option maxRecDepth 100000 in
theorem bas_star_none {r : List UInt8} {f : Fr} {fs : List Fr} {last : Nat} (hA : AmM w rb) (h : RS rb false fold w (42 :: r) last (f :: fs)) (h0 : last ≠ 0) (h2 : last ≠ 2) (ho : (repM last (f :: fs) 0 (-1) r) = none) : Calls Tryz.prog 34 #[ptr rb] w (RO rb false fold w none) := by
  have htk := rs_take h
  have q0 : ((last : Int) == 0) = false := by rw [beq_eq_false_iff_ne]; omega
  have q2 : ((last : Int) == 2) = false := by rw [beq_eq_false_iff_ne]; omega
  have q0b : ((last : Int) != 0) = true := by rw [bne_iff_ne]; omega
  have q2b : ((last : Int) != 2) = true := by rw [bne_iff_ne]; omega
  have HNX : Hid (∀ u, AmM u rb → RS rb false fold u r last (f :: fs) → Calls Tryz.prog 52 #[ptr rb, .int .i64 0, .int .i64 (-1)] u (RO rb false fold u none)) := fun u hAu hu => by
    have this : Calls Tryz.prog 52 #[ptr rb, .int .i64 0, .int .i64 (-1)] u (RO rb false fold u (repM last (f :: fs) 0 (-1) r)) := rrep_c 0 (-1) (by omega) (by omega) hu
    rw [ho] at this
    exact this
  have HA := Lib.hid hA
  clear h hA ho
  go_enter Tryz.func34, Tryz.ntmps34
  go_wp2_with (first
    | (go_at_call 48; refine htk.mono ?_; rintro e w1 ⟨rfl, hB1, hS1, hl1⟩; have hnx := HNX.out w1 (HA.out.keep hB1) hS1; obtain ⟨cl1, pv1, ov1, md1, hR1, _⟩ := hS1; have k3 := h_cell hR1 3 rfl; have k0 := h_cell hR1 0 rfl; have HB1 := Lib.hid hB1; clear htk hB1 hl1 hR1)
    | (go_at_call 52; refine hnx.mono ?_; rintro e w2 ⟨hB2, rfl⟩))
  exact ⟨rfl, HB1.out.trans hB2, rfl⟩
set_option maxHeartbeats 1000000 in
set_option maxRecDepth 100000 in
theorem bas_star_some {r : List UInt8} {f : Fr} {fs : List Fr} {last : Nat} (hA : AmM w rb) (h : RS rb false fold w (42 :: r) last (f :: fs)) (h0 : last ≠ 0) (h2 : last ≠ 2) {q : List UInt8 × Nat × List Fr} (ho : (repM last (f :: fs) 0 (-1) r) = some q) : Calls Tryz.prog 34 #[ptr rb] w (RO rb false fold w (some q)) := by
  have htk := rs_take h
  have q0 : ((last : Int) == 0) = false := by rw [beq_eq_false_iff_ne]; omega
  have q2 : ((last : Int) == 2) = false := by rw [beq_eq_false_iff_ne]; omega
  have q0b : ((last : Int) != 0) = true := by rw [bne_iff_ne]; omega
  have q2b : ((last : Int) != 2) = true := by rw [bne_iff_ne]; omega
  have HNX : Hid (∀ u, AmM u rb → RS rb false fold u r last (f :: fs) → Calls Tryz.prog 52 #[ptr rb, .int .i64 0, .int .i64 (-1)] u (RO rb false fold u (some q))) := fun u hAu hu => by
    have this : Calls Tryz.prog 52 #[ptr rb, .int .i64 0, .int .i64 (-1)] u (RO rb false fold u (repM last (f :: fs) 0 (-1) r)) := rrep_c 0 (-1) (by omega) (by omega) hu
    rw [ho] at this
    exact this
  have HA := Lib.hid hA
  clear h hA ho
  go_enter Tryz.func34, Tryz.ntmps34
  go_wp2_with (first
    | (go_at_call 48; refine htk.mono ?_; rintro e w1 ⟨rfl, hB1, hS1, hl1⟩; have hnx := HNX.out w1 (HA.out.keep hB1) hS1; obtain ⟨cl1, pv1, ov1, md1, hR1, _⟩ := hS1; have k3 := h_cell hR1 3 rfl; have k0 := h_cell hR1 0 rfl; have HB1 := Lib.hid hB1; clear htk hB1 hl1 hR1)
    | (go_at_call 52; refine hnx.mono ?_; rintro e w2 ⟨hB2, rfl, hS2⟩))
  go_end0
  exact ⟨HB1.out.trans hB2, rfl, hS2⟩
set_option maxHeartbeats 1000000 in
set_option maxRecDepth 100000 in
theorem bas_p94_none {r : List UInt8} {f : Fr} {fs : List Fr} {last : Nat} (hA : AmM w rb) (h : RS rb false fold w (94 :: r) last (f :: fs)) (h0 : last ≠ 0) (ho : (plainM fold (f :: fs) 94 r) = none) : Calls Tryz.prog 34 #[ptr rb] w (RO rb false fold w none) := by
  have htk := rs_take h
  have q0 : ((last : Int) == 0) = false := by rw [beq_eq_false_iff_ne]; omega
  have HNX : Hid (∀ u, AmM u rb → RS rb false fold u r last (f :: fs) → Calls Tryz.prog 53 #[ptr rb, .int .u8 94] u (RO rb false fold u none)) := fun u hAu hu => by
    have this : Calls Tryz.prog 53 #[ptr rb, .int .u8 94] u (RO rb false fold u (plainM fold (f :: fs) 94 r)) := plain_c 94 hAu hu
    rw [ho] at this
    exact this
  have HA := Lib.hid hA
  clear h hA ho
  go_enter Tryz.func34, Tryz.ntmps34
  go_wp2_with (first
    | (go_at_call 48; refine htk.mono ?_; rintro e w1 ⟨rfl, hB1, hS1, hl1⟩; have hnx := HNX.out w1 (HA.out.keep hB1) hS1; obtain ⟨cl1, pv1, ov1, md1, hR1, _⟩ := hS1; have k3 := h_cell hR1 3 rfl; have k0 := h_cell hR1 0 rfl; have HB1 := Lib.hid hB1; clear htk hB1 hl1 hR1)
    | (go_at_call 53; refine hnx.mono ?_; rintro e w2 ⟨hB2, rfl⟩))
  exact ⟨rfl, HB1.out.trans hB2, rfl⟩
set_option maxHeartbeats 1000000 in
set_option maxRecDepth 100000 in
theorem bas_p94_some {r : List UInt8} {f : Fr} {fs : List Fr} {last : Nat} (hA : AmM w rb) (h : RS rb false fold w (94 :: r) last (f :: fs)) (h0 : last ≠ 0) {q : List UInt8 × Nat × List Fr} (ho : (plainM fold (f :: fs) 94 r) = some q) : Calls Tryz.prog 34 #[ptr rb] w (RO rb false fold w (some q)) := by
  have htk := rs_take h
  have q0 : ((last : Int) == 0) = false := by rw [beq_eq_false_iff_ne]; omega
  have HNX : Hid (∀ u, AmM u rb → RS rb false fold u r last (f :: fs) → Calls Tryz.prog 53 #[ptr rb, .int .u8 94] u (RO rb false fold u (some q))) := fun u hAu hu => by
    have this : Calls Tryz.prog 53 #[ptr rb, .int .u8 94] u (RO rb false fold u (plainM fold (f :: fs) 94 r)) := plain_c 94 hAu hu
    rw [ho] at this
    exact this
  have HA := Lib.hid hA
  clear h hA ho
  go_enter Tryz.func34, Tryz.ntmps34
  go_wp2_with (first
    | (go_at_call 48; refine htk.mono ?_; rintro e w1 ⟨rfl, hB1, hS1, hl1⟩; have hnx := HNX.out w1 (HA.out.keep hB1) hS1; obtain ⟨cl1, pv1, ov1, md1, hR1, _⟩ := hS1; have k3 := h_cell hR1 3 rfl; have k0 := h_cell hR1 0 rfl; have HB1 := Lib.hid hB1; clear htk hB1 hl1 hR1)
    | (go_at_call 53; refine hnx.mono ?_; rintro e w2 ⟨hB2, rfl, hS2⟩))
  go_end0
  exact ⟨HB1.out.trans hB2, rfl, hS2⟩
set_option maxHeartbeats 1000000 in
set_option maxRecDepth 100000 in
theorem bas_p36_none {r : List UInt8} {f : Fr} {fs : List Fr} {last : Nat} (hA : AmM w rb) (h : RS rb false fold w (36 :: r) last (f :: fs)) (hr : r ≠ []) (h0 : begins [92, 41] r = false) (ho : (plainM fold (f :: fs) 36 r) = none) : Calls Tryz.prog 34 #[ptr rb] w (RO rb false fold w none) := by
  have htk := rs_take h
  have e0 : (bs r).toList.isEmpty = false := by
    cases r with
    | nil => exact absurd rfl hr
    | cons d0 r0 => exact emp_no d0 r0
  have hps : ∀ u, Calls Tryz.prog 51 #[.string (bs r), .string (bs [92, 41])] u fun e w' => e = .returned (.bool false) ∧ w' = u := fun u => h0 ▸ hasP_c r [92, 41] u
  clear hr h0
  have HNX : Hid (∀ u, AmM u rb → RS rb false fold u r last (f :: fs) → Calls Tryz.prog 53 #[ptr rb, .int .u8 36] u (RO rb false fold u none)) := fun u hAu hu => by
    have this : Calls Tryz.prog 53 #[ptr rb, .int .u8 36] u (RO rb false fold u (plainM fold (f :: fs) 36 r)) := plain_c 36 hAu hu
    rw [ho] at this
    exact this
  have HA := Lib.hid hA
  clear h hA ho
  go_enter Tryz.func34, Tryz.ntmps34
  go_wp2_with (first
    | (go_at_call 48; refine htk.mono ?_; rintro e w1 ⟨rfl, hB1, hS1, hl1⟩; have hnx := HNX.out w1 (HA.out.keep hB1) hS1; obtain ⟨cl1, pv1, ov1, md1, hR1, _⟩ := hS1; have k3 := h_cell hR1 3 rfl; have k0 := h_cell hR1 0 rfl; have HB1 := Lib.hid hB1; clear htk hB1 hl1 hR1)
    | (go_at_call 51; refine (hps _).mono ?_; rintro e w5 ⟨rfl, hw⟩; rw [hw]; clear hw w5)
    | (go_at_call 53; refine hnx.mono ?_; rintro e w2 ⟨hB2, rfl⟩))
  exact ⟨rfl, HB1.out.trans hB2, rfl⟩
set_option maxHeartbeats 1000000 in
set_option maxRecDepth 100000 in
theorem bas_p36_some {r : List UInt8} {f : Fr} {fs : List Fr} {last : Nat} (hA : AmM w rb) (h : RS rb false fold w (36 :: r) last (f :: fs)) (hr : r ≠ []) (h0 : begins [92, 41] r = false) {q : List UInt8 × Nat × List Fr} (ho : (plainM fold (f :: fs) 36 r) = some q) : Calls Tryz.prog 34 #[ptr rb] w (RO rb false fold w (some q)) := by
  have htk := rs_take h
  have e0 : (bs r).toList.isEmpty = false := by
    cases r with
    | nil => exact absurd rfl hr
    | cons d0 r0 => exact emp_no d0 r0
  have hps : ∀ u, Calls Tryz.prog 51 #[.string (bs r), .string (bs [92, 41])] u fun e w' => e = .returned (.bool false) ∧ w' = u := fun u => h0 ▸ hasP_c r [92, 41] u
  clear hr h0
  have HNX : Hid (∀ u, AmM u rb → RS rb false fold u r last (f :: fs) → Calls Tryz.prog 53 #[ptr rb, .int .u8 36] u (RO rb false fold u (some q))) := fun u hAu hu => by
    have this : Calls Tryz.prog 53 #[ptr rb, .int .u8 36] u (RO rb false fold u (plainM fold (f :: fs) 36 r)) := plain_c 36 hAu hu
    rw [ho] at this
    exact this
  have HA := Lib.hid hA
  clear h hA ho
  go_enter Tryz.func34, Tryz.ntmps34
  go_wp2_with (first
    | (go_at_call 48; refine htk.mono ?_; rintro e w1 ⟨rfl, hB1, hS1, hl1⟩; have hnx := HNX.out w1 (HA.out.keep hB1) hS1; obtain ⟨cl1, pv1, ov1, md1, hR1, _⟩ := hS1; have k3 := h_cell hR1 3 rfl; have k0 := h_cell hR1 0 rfl; have HB1 := Lib.hid hB1; clear htk hB1 hl1 hR1)
    | (go_at_call 51; refine (hps _).mono ?_; rintro e w5 ⟨rfl, hw⟩; rw [hw]; clear hw w5)
    | (go_at_call 53; refine hnx.mono ?_; rintro e w2 ⟨hB2, rfl, hS2⟩))
  go_end0
  exact ⟨HB1.out.trans hB2, rfl, hS2⟩
set_option maxHeartbeats 1000000 in
set_option maxRecDepth 100000 in
theorem bas_p42a_none {r : List UInt8} {f : Fr} {fs : List Fr} {last : Nat} (hA : AmM w rb) (h : RS rb false fold w (42 :: r) last (f :: fs)) (h0 : last = 0) (ho : (plainM fold (f :: fs) 42 r) = none) : Calls Tryz.prog 34 #[ptr rb] w (RO rb false fold w none) := by
  have htk := rs_take h
  have q0 : ((last : Int) == 0) = true := by rw [h0]; rfl
  have q0b : ((last : Int) != 0) = false := by rw [h0]; rfl
  have HNX : Hid (∀ u, AmM u rb → RS rb false fold u r last (f :: fs) → Calls Tryz.prog 53 #[ptr rb, .int .u8 42] u (RO rb false fold u none)) := fun u hAu hu => by
    have this : Calls Tryz.prog 53 #[ptr rb, .int .u8 42] u (RO rb false fold u (plainM fold (f :: fs) 42 r)) := plain_c 42 hAu hu
    rw [ho] at this
    exact this
  have HA := Lib.hid hA
  clear h hA ho
  go_enter Tryz.func34, Tryz.ntmps34
  go_wp2_with (first
    | (go_at_call 48; refine htk.mono ?_; rintro e w1 ⟨rfl, hB1, hS1, hl1⟩; have hnx := HNX.out w1 (HA.out.keep hB1) hS1; obtain ⟨cl1, pv1, ov1, md1, hR1, _⟩ := hS1; have k3 := h_cell hR1 3 rfl; have k0 := h_cell hR1 0 rfl; have HB1 := Lib.hid hB1; clear htk hB1 hl1 hR1)
    | (go_at_call 53; refine hnx.mono ?_; rintro e w2 ⟨hB2, rfl⟩))
  exact ⟨rfl, HB1.out.trans hB2, rfl⟩
set_option maxHeartbeats 1000000 in
set_option maxRecDepth 100000 in
theorem bas_p42a_some {r : List UInt8} {f : Fr} {fs : List Fr} {last : Nat} (hA : AmM w rb) (h : RS rb false fold w (42 :: r) last (f :: fs)) (h0 : last = 0) {q : List UInt8 × Nat × List Fr} (ho : (plainM fold (f :: fs) 42 r) = some q) : Calls Tryz.prog 34 #[ptr rb] w (RO rb false fold w (some q)) := by
  have htk := rs_take h
  have q0 : ((last : Int) == 0) = true := by rw [h0]; rfl
  have q0b : ((last : Int) != 0) = false := by rw [h0]; rfl
  have HNX : Hid (∀ u, AmM u rb → RS rb false fold u r last (f :: fs) → Calls Tryz.prog 53 #[ptr rb, .int .u8 42] u (RO rb false fold u (some q))) := fun u hAu hu => by
    have this : Calls Tryz.prog 53 #[ptr rb, .int .u8 42] u (RO rb false fold u (plainM fold (f :: fs) 42 r)) := plain_c 42 hAu hu
    rw [ho] at this
    exact this
  have HA := Lib.hid hA
  clear h hA ho
  go_enter Tryz.func34, Tryz.ntmps34
  go_wp2_with (first
    | (go_at_call 48; refine htk.mono ?_; rintro e w1 ⟨rfl, hB1, hS1, hl1⟩; have hnx := HNX.out w1 (HA.out.keep hB1) hS1; obtain ⟨cl1, pv1, ov1, md1, hR1, _⟩ := hS1; have k3 := h_cell hR1 3 rfl; have k0 := h_cell hR1 0 rfl; have HB1 := Lib.hid hB1; clear htk hB1 hl1 hR1)
    | (go_at_call 53; refine hnx.mono ?_; rintro e w2 ⟨hB2, rfl, hS2⟩))
  go_end0
  exact ⟨HB1.out.trans hB2, rfl, hS2⟩
set_option maxHeartbeats 1000000 in
set_option maxRecDepth 100000 in
theorem bas_p42b_none {r : List UInt8} {f : Fr} {fs : List Fr} {last : Nat} (hA : AmM w rb) (h : RS rb false fold w (42 :: r) last (f :: fs)) (h0 : last = 2) (ho : (plainM fold (f :: fs) 42 r) = none) : Calls Tryz.prog 34 #[ptr rb] w (RO rb false fold w none) := by
  have htk := rs_take h
  have q0 : ((last : Int) == 0) = false := by rw [h0]; rfl
  have q0b : ((last : Int) != 0) = true := by rw [h0]; rfl
  have q2 : ((last : Int) == 2) = true := by rw [h0]; rfl
  have q2b : ((last : Int) != 2) = false := by rw [h0]; rfl
  have HNX : Hid (∀ u, AmM u rb → RS rb false fold u r last (f :: fs) → Calls Tryz.prog 53 #[ptr rb, .int .u8 42] u (RO rb false fold u none)) := fun u hAu hu => by
    have this : Calls Tryz.prog 53 #[ptr rb, .int .u8 42] u (RO rb false fold u (plainM fold (f :: fs) 42 r)) := plain_c 42 hAu hu
    rw [ho] at this
    exact this
  have HA := Lib.hid hA
  clear h hA ho
  go_enter Tryz.func34, Tryz.ntmps34
  go_wp2_with (first
    | (go_at_call 48; refine htk.mono ?_; rintro e w1 ⟨rfl, hB1, hS1, hl1⟩; have hnx := HNX.out w1 (HA.out.keep hB1) hS1; obtain ⟨cl1, pv1, ov1, md1, hR1, _⟩ := hS1; have k3 := h_cell hR1 3 rfl; have k0 := h_cell hR1 0 rfl; have HB1 := Lib.hid hB1; clear htk hB1 hl1 hR1)
    | (go_at_call 53; refine hnx.mono ?_; rintro e w2 ⟨hB2, rfl⟩))
  exact ⟨rfl, HB1.out.trans hB2, rfl⟩
set_option maxHeartbeats 1000000 in
set_option maxRecDepth 100000 in
theorem bas_p42b_some {r : List UInt8} {f : Fr} {fs : List Fr} {last : Nat} (hA : AmM w rb) (h : RS rb false fold w (42 :: r) last (f :: fs)) (h0 : last = 2) {q : List UInt8 × Nat × List Fr} (ho : (plainM fold (f :: fs) 42 r) = some q) : Calls Tryz.prog 34 #[ptr rb] w (RO rb false fold w (some q)) := by
  have htk := rs_take h
  have q0 : ((last : Int) == 0) = false := by rw [h0]; rfl
  have q0b : ((last : Int) != 0) = true := by rw [h0]; rfl
  have q2 : ((last : Int) == 2) = true := by rw [h0]; rfl
  have q2b : ((last : Int) != 2) = false := by rw [h0]; rfl
  have HNX : Hid (∀ u, AmM u rb → RS rb false fold u r last (f :: fs) → Calls Tryz.prog 53 #[ptr rb, .int .u8 42] u (RO rb false fold u (some q))) := fun u hAu hu => by
    have this : Calls Tryz.prog 53 #[ptr rb, .int .u8 42] u (RO rb false fold u (plainM fold (f :: fs) 42 r)) := plain_c 42 hAu hu
    rw [ho] at this
    exact this
  have HA := Lib.hid hA
  clear h hA ho
  go_enter Tryz.func34, Tryz.ntmps34
  go_wp2_with (first
    | (go_at_call 48; refine htk.mono ?_; rintro e w1 ⟨rfl, hB1, hS1, hl1⟩; have hnx := HNX.out w1 (HA.out.keep hB1) hS1; obtain ⟨cl1, pv1, ov1, md1, hR1, _⟩ := hS1; have k3 := h_cell hR1 3 rfl; have k0 := h_cell hR1 0 rfl; have HB1 := Lib.hid hB1; clear htk hB1 hl1 hR1)
    | (go_at_call 53; refine hnx.mono ?_; rintro e w2 ⟨hB2, rfl, hS2⟩))
  go_end0
  exact ⟨HB1.out.trans hB2, rfl, hS2⟩
set_option maxHeartbeats 1000000 in
set_option maxRecDepth 100000 in
theorem bas_pl_none {c : UInt8} {r : List UInt8} {f : Fr} {fs : List Fr} {last : Nat} (hA : AmM w rb) (h : RS rb false fold w (c :: r) last (f :: fs)) (hne : c ≠ 92 ∧ c ≠ 94 ∧ c ≠ 36 ∧ c ≠ 42) (ho : (plainM fold (f :: fs) c r) = none) : Calls Tryz.prog 34 #[ptr rb] w (RO rb false fold w none) := by
  have htk := rs_take h
  obtain ⟨n92, n94, n36, n42⟩ := hne
  have q92 : ((c.toNat : Int) == 92) = false := ne_u8 n92
  have q94 : ((c.toNat : Int) == 94) = false := ne_u8 n94
  have q36 : ((c.toNat : Int) == 36) = false := ne_u8 n36
  have q42 : ((c.toNat : Int) == 42) = false := ne_u8 n42
  clear n92 n94 n36 n42
  have HNX : Hid (∀ u, AmM u rb → RS rb false fold u r last (f :: fs) → Calls Tryz.prog 53 #[ptr rb, .int .u8 (c.toNat : Int)] u (RO rb false fold u none)) := fun u hAu hu => by
    have this : Calls Tryz.prog 53 #[ptr rb, .int .u8 (c.toNat : Int)] u (RO rb false fold u (plainM fold (f :: fs) c r)) := plain_c c hAu hu
    rw [ho] at this
    exact this
  have HA := Lib.hid hA
  clear h hA ho
  go_enter Tryz.func34, Tryz.ntmps34
  go_wp2_with (first
    | (go_at_call 48; refine htk.mono ?_; rintro e w1 ⟨rfl, hB1, hS1, hl1⟩; have hnx := HNX.out w1 (HA.out.keep hB1) hS1; obtain ⟨cl1, pv1, ov1, md1, hR1, _⟩ := hS1; have k3 := h_cell hR1 3 rfl; have k0 := h_cell hR1 0 rfl; have HB1 := Lib.hid hB1; clear htk hB1 hl1 hR1)
    | (go_at_call 53; refine hnx.mono ?_; rintro e w2 ⟨hB2, rfl⟩))
  exact ⟨rfl, HB1.out.trans hB2, rfl⟩
set_option maxHeartbeats 1000000 in
set_option maxRecDepth 100000 in
theorem bas_pl_some {c : UInt8} {r : List UInt8} {f : Fr} {fs : List Fr} {last : Nat} (hA : AmM w rb) (h : RS rb false fold w (c :: r) last (f :: fs)) (hne : c ≠ 92 ∧ c ≠ 94 ∧ c ≠ 36 ∧ c ≠ 42) {q : List UInt8 × Nat × List Fr} (ho : (plainM fold (f :: fs) c r) = some q) : Calls Tryz.prog 34 #[ptr rb] w (RO rb false fold w (some q)) := by
  have htk := rs_take h
  obtain ⟨n92, n94, n36, n42⟩ := hne
  have q92 : ((c.toNat : Int) == 92) = false := ne_u8 n92
  have q94 : ((c.toNat : Int) == 94) = false := ne_u8 n94
  have q36 : ((c.toNat : Int) == 36) = false := ne_u8 n36
  have q42 : ((c.toNat : Int) == 42) = false := ne_u8 n42
  clear n92 n94 n36 n42
  have HNX : Hid (∀ u, AmM u rb → RS rb false fold u r last (f :: fs) → Calls Tryz.prog 53 #[ptr rb, .int .u8 (c.toNat : Int)] u (RO rb false fold u (some q))) := fun u hAu hu => by
    have this : Calls Tryz.prog 53 #[ptr rb, .int .u8 (c.toNat : Int)] u (RO rb false fold u (plainM fold (f :: fs) c r)) := plain_c c hAu hu
    rw [ho] at this
    exact this
  have HA := Lib.hid hA
  clear h hA ho
  go_enter Tryz.func34, Tryz.ntmps34
  go_wp2_with (first
    | (go_at_call 48; refine htk.mono ?_; rintro e w1 ⟨rfl, hB1, hS1, hl1⟩; have hnx := HNX.out w1 (HA.out.keep hB1) hS1; obtain ⟨cl1, pv1, ov1, md1, hR1, _⟩ := hS1; have k3 := h_cell hR1 3 rfl; have k0 := h_cell hR1 0 rfl; have HB1 := Lib.hid hB1; clear htk hB1 hl1 hR1)
    | (go_at_call 53; refine hnx.mono ?_; rintro e w2 ⟨hB2, rfl, hS2⟩))
  go_end0
  exact ⟨HB1.out.trans hB2, rfl, hS2⟩
set_option maxHeartbeats 1000000 in
set_option maxRecDepth 100000 in
theorem bas_esc_none {r : List UInt8} {f : Fr} {fs : List Fr} {last : Nat} {d : UInt8} (h : RS rb false fold w (92 :: d :: r) last (f :: fs)) (ho : (escB fold last (f :: fs) (d :: r)) = none) : Calls Tryz.prog 34 #[ptr rb] w (RO rb false fold w none) := by
  have htk := rs_take h
  have HT2 : Hid (∀ u, RS rb false fold u (d :: r) last (f :: fs) → _) := fun u hu => rs_take hu
  have HNX : Hid (∀ u, RS rb false fold u r last (f :: fs) → (f :: fs).length + 1 + r.length ≤ 2097152 → Calls Tryz.prog 49 #[ptr rb, .int .u8 (d.toNat : Int)] u (RO rb false fold u none)) := fun u hu hlu => by
    have this := be_c (c := d) hlu hu
    rw [ho] at this
    exact this
  clear h ho
  go_enter Tryz.func34, Tryz.ntmps34
  go_wp2_with (first
    | (go_at_call 48; refine htk.mono ?_; rintro e w1 ⟨rfl, hB1, hS1, hl1⟩; have htk2 := HT2.out w1 hS1; have HB1 := Lib.hid hB1; clear htk hB1 hS1 hl1)
    | (go_at_call 48; refine htk2.mono ?_; rintro e w2 ⟨rfl, hB2, hS2, hl2⟩; have hnx := HNX.out w2 hS2 hl2; have HB2 := Lib.hid hB2; clear htk2 hB2 hS2 hl2)
    | (go_at_call 49; refine hnx.mono ?_; rintro e w3 ⟨hB3, rfl⟩))
  exact ⟨rfl, (HB1.out.trans HB2.out).trans hB3, rfl⟩
set_option maxHeartbeats 1000000 in
set_option maxRecDepth 100000 in
theorem bas_esc_some {r : List UInt8} {f : Fr} {fs : List Fr} {last : Nat} {d : UInt8} (h : RS rb false fold w (92 :: d :: r) last (f :: fs)) {q : List UInt8 × Nat × List Fr} (ho : (escB fold last (f :: fs) (d :: r)) = some q) : Calls Tryz.prog 34 #[ptr rb] w (RO rb false fold w (some q)) := by
  have htk := rs_take h
  have HT2 : Hid (∀ u, RS rb false fold u (d :: r) last (f :: fs) → _) := fun u hu => rs_take hu
  have HNX : Hid (∀ u, RS rb false fold u r last (f :: fs) → (f :: fs).length + 1 + r.length ≤ 2097152 → Calls Tryz.prog 49 #[ptr rb, .int .u8 (d.toNat : Int)] u (RO rb false fold u (some q))) := fun u hu hlu => by
    have this := be_c (c := d) hlu hu
    rw [ho] at this
    exact this
  clear h ho
  go_enter Tryz.func34, Tryz.ntmps34
  go_wp2_with (first
    | (go_at_call 48; refine htk.mono ?_; rintro e w1 ⟨rfl, hB1, hS1, hl1⟩; have htk2 := HT2.out w1 hS1; have HB1 := Lib.hid hB1; clear htk hB1 hS1 hl1)
    | (go_at_call 48; refine htk2.mono ?_; rintro e w2 ⟨rfl, hB2, hS2, hl2⟩; have hnx := HNX.out w2 hS2 hl2; have HB2 := Lib.hid hB2; clear htk2 hB2 hS2 hl2)
    | (go_at_call 49; refine hnx.mono ?_; rintro e w3 ⟨hB3, rfl, hS3⟩))
  go_end0
  exact ⟨(HB1.out.trans HB2.out).trans hB3, rfl, hS3⟩
set_option maxHeartbeats 1000000 in
set_option maxRecDepth 100000 in
theorem bas_esc_nil {r : List UInt8} {f : Fr} {fs : List Fr} {last : Nat} (h : RS rb false fold w [92] last (f :: fs)) : Calls Tryz.prog 34 #[ptr rb] w (RO rb false fold w none) := by
  have _hr := r
  have htk := rs_take h
  have HT2 : Hid (∀ u, RS rb false fold u [] last (f :: fs) → _) := fun u hu => rs_takeno hu
  clear h
  go_enter Tryz.func34, Tryz.ntmps34
  go_wp2_with (first
    | (go_at_call 48; refine htk.mono ?_; rintro e w1 ⟨rfl, hB1, hS1, hl1⟩; have htk2 := HT2.out w1 hS1; have HB1 := Lib.hid hB1; clear htk hB1 hS1 hl1)
    | (go_at_call 48; refine htk2.mono ?_; rintro e w2 ⟨rfl, hw⟩; rw [hw]; clear hw w2))
  exact ⟨rfl, HB1.out, rfl⟩
theorem basic_c {c : UInt8} {r : List UInt8} {f : Fr} {fs : List Fr} {last : Nat} (hA : AmM w rb) (h : RS rb false fold w (c :: r) last (f :: fs)) : Calls Tryz.prog 34 #[ptr rb] w (RO rb false fold w (stepP fold last (f :: fs) c r)) := by
  by_cases h92 : c = 92
  · subst h92
    cases r with
    | nil => exact bas_esc_nil (r := []) h
    | cons d r =>
      have e : stepP fold last (f :: fs) 92 (d :: r) = escB fold last (f :: fs) (d :: r) := rfl
      rw [e]
      cases ho : escB fold last (f :: fs) (d :: r) with
      | none => exact bas_esc_none h ho
      | some q => exact bas_esc_some h ho
  have st : stepP fold last (f :: fs) c r = if c = 94 ∧ last = 0 then some (r, 2, pieceF beginN (f :: fs)) else if c = 36 ∧ (r = [] ∨ begins [92, 41] r = true) then some (r, 3, pieceF endN (f :: fs)) else if c = 42 ∧ last ≠ 0 ∧ last ≠ 2 then repM last (f :: fs) 0 (-1) r else plainM fold (f :: fs) c r := by
    unfold stepP
    rw [if_neg h92]
  rw [st]
  by_cases h94 : c = 94
  · subst h94
    by_cases h0 : last = 0
    · rw [if_pos ⟨rfl, h0⟩]; exact bas_begin_some hA h h0 rfl
    · rw [if_neg (fun e => h0 e.2), if_neg (fun e => absurd e.1 (by decide)), if_neg (fun e => absurd e.1 (by decide))]
      cases ho : plainM fold (f :: fs) 94 r with
      | none => exact bas_p94_none hA h h0 ho
      | some q => exact bas_p94_some hA h h0 ho
  rw [if_neg (fun e => h94 e.1)]
  by_cases h36 : c = 36
  · subst h36
    by_cases hr : r = []
    · rw [if_pos ⟨rfl, .inl hr⟩]; exact bas_end1_some hA h hr rfl
    cases hb : begins [92, 41] r with
    | true => rw [if_pos ⟨rfl, .inr rfl⟩]; exact bas_end2_some hA h hr hb rfl
    | false =>
      rw [if_neg (by rintro ⟨_, e | e⟩; exact hr e; cases e), if_neg (fun e => absurd e.1 (by decide))]
      cases ho : plainM fold (f :: fs) 36 r with
      | none => exact bas_p36_none hA h hr hb ho
      | some q => exact bas_p36_some hA h hr hb ho
  rw [if_neg (fun e => h36 e.1)]
  by_cases h42 : c = 42
  · subst h42
    by_cases h0 : last = 0
    · rw [if_neg (fun e => e.2.1 h0)]
      cases ho : plainM fold (f :: fs) 42 r with
      | none => exact bas_p42a_none hA h h0 ho
      | some q => exact bas_p42a_some hA h h0 ho
    by_cases h2 : last = 2
    · rw [if_neg (fun e => e.2.2 h2)]
      cases ho : plainM fold (f :: fs) 42 r with
      | none => exact bas_p42b_none hA h h2 ho
      | some q => exact bas_p42b_some hA h h2 ho
    rw [if_pos ⟨rfl, h0, h2⟩]
    cases ho : repM last (f :: fs) 0 (-1) r with
    | none => exact bas_star_none hA h h0 h2 ho
    | some q => exact bas_star_some hA h h0 h2 ho
  rw [if_neg (fun e => h42 e.1)]
  cases ho : plainM fold (f :: fs) c r with
  | none => exact bas_pl_none hA h ⟨h92, h94, h36, h42⟩ ho
  | some q => exact bas_pl_some hA h ⟨h92, h94, h36, h42⟩ ho
end
end Go.Proofs.YtlekfdkahlobiaaGreat.Re
