/- printf: what a conversion tells of a text, of numbers. -/
import Derived.Test.YteimilnecahifaaGreatDoorFUint
namespace Go.Proofs.YteimilnecahifaaGreatDoor.Nm
open Go.Proofs.YteimilnecahifaaGreatDoor Go.Proofs.YteimilnecahifaaGreatDoor.Op
open Go.RowKit

theorem wide_zero (x : Pc) (s : List UInt8) : fillS { x with zero := false } ([] ++ s) = wideS x s := by
  rw [List.nil_append, fill_wide rfl]; rfl
set_option maxRecDepth 100000 in
set_option maxHeartbeats 2000000 in
theorem ofText_c {w : World} {x : Pc} (hw : x.width ≤ 1000) (s : List UInt8) (hls : s.length ≤ 2097152) : Calls Tryz.prog 210 #[cvV x (-1), .string (bz s)] w fun e w' => e = .returned (.string (bz (wideS x s))) ∧ Below w.heap.size w w' := by
  rw [← wide_zero]
  have ht := fun u => toWidth_c (w := u) (x := { x with zero := false }) hw [] s (by simp) hls (.inl rfl)
  generalize fillS { x with zero := false } ([] ++ s) = R at ht ⊢
  clear hls
  obtain ⟨xb, xl, xm, xp, xk, xz, xs, xw, xq⟩ := x
  unfold cvV cvA at ht
  unfold cvV cvA
  simp only at *
  have eb : bz [] = ⟨#[]⟩ := rfl
  rw [eb] at ht
  have hB0 : Below w.heap.size w (w.alloc (.cells #[.bool xm, .bool xp, .bool xk, .bool xz, .bool xs, .int .i64 (xw : Int), .int .i64 (-1)] 283)) := (Below.refl _ w).alloc (Nat.le_refl _) _
  have hU : (w.alloc (.cells #[.bool xm, .bool xp, .bool xk, .bool xz, .bool xs, .int .i64 (xw : Int), .int .i64 (-1)] 283)).heap[w.heap.size]? = some (.cells #[.bool xm, .bool xp, .bool xk, .bool xz, .bool xs, .int .i64 (xw : Int), .int .i64 (-1)] 283) := al_new _ _
  go_enter Tryz.func210, Tryz.ntmps210
  go_upto_region 1 with fail
  generalize w.alloc (.cells #[.bool xm, .bool xp, .bool xk, .bool xz, .bool xs, .int .i64 (xw : Int), .int .i64 (-1)] 283) = U at hB0 hU ⊢
  have d6 : U.cell? ⟨w.heap.size, 6, none⟩ = some (.int .i64 (-1)) := h_cell hU 6 rfl
  have d3 : U.cell? ⟨w.heap.size, 3, none⟩ = some (.bool xz) := h_cell hU 3 rfl
  have z3 := h_fz hU 3
  have hlt : w.heap.size < U.heap.size := h_lt hU
  have HU := Lib.hid hU
  clear hU
  go_upto_region 4 with fail
  have hV := h_set HU.out 3 (.bool false)
  have hBV : Below w.heap.size w (U.setCell ⟨w.heap.size, 3, none⟩ (.bool false)) := hB0.setCell (p := ⟨w.heap.size, 3, none⟩) (Nat.le_refl _) _
  generalize U.setCell ⟨w.heap.size, 3, none⟩ (.bool false) = V at hV hBV ⊢
  have e0 : V.cell? ⟨w.heap.size, 0, none⟩ = some (.bool xm) := h_cell hV 0 rfl
  have e1 : V.cell? ⟨w.heap.size, 1, none⟩ = some (.bool xp) := h_cell hV 1 rfl
  have e2 : V.cell? ⟨w.heap.size, 2, none⟩ = some (.bool xk) := h_cell hV 2 rfl
  have e3 : V.cell? ⟨w.heap.size, 3, none⟩ = some (.bool false) := h_cell hV 3 rfl
  have e4 : V.cell? ⟨w.heap.size, 4, none⟩ = some (.bool xs) := h_cell hV 4 rfl
  have e5 : V.cell? ⟨w.heap.size, 5, none⟩ = some (.int .i64 (xw : Int)) := h_cell hV 5 rfl
  have e6 : V.cell? ⟨w.heap.size, 6, none⟩ = some (.int .i64 (-1)) := h_cell hV 6 rfl
  clear hV d3 d6 z3 HU hB0 hlt
  have htv := ht V
  clear ht
  go_wp2_with (go_at_call 231; refine htv.mono ?_; rintro e w2 ⟨rfl, hB2⟩; have HB := Lib.hid (hBV.trans (hB2.mono hBV.size)); clear htv hB2 hBV)
  go_ret
  exact ⟨rfl, HB.out⟩
theorem dg_len {n b : Nat} (hn : n ≤ 9223372036854775807) (hb : b = 8 ∨ b = 10 ∨ b = 16) : (dgB b n).length ≤ 64 := dgB_length b (by omega) 63 n (by omega)
/-- The cells of a conversion that lies in a box. -/
theorem box_cells {U : World} {b : Nat} {x : Pc} {p : Int} (h : U.heap[b]? = some (.cells (cvA x p) 283)) : U.cell? ⟨b, 0, none⟩ = some (.bool x.minus) ∧ U.cell? ⟨b, 1, none⟩ = some (.bool x.plus) ∧ U.cell? ⟨b, 2, none⟩ = some (.bool x.blank) ∧ U.cell? ⟨b, 3, none⟩ = some (.bool x.zero) ∧ U.cell? ⟨b, 4, none⟩ = some (.bool x.sharp) ∧ U.cell? ⟨b, 5, none⟩ = some (.int .i64 (x.width : Int)) ∧ U.cell? ⟨b, 6, none⟩ = some (.int .i64 p) :=
  ⟨h_cell h 0 rfl, h_cell h 1 rfl, h_cell h 2 rfl, h_cell h 3 rfl, h_cell h 4 rfl, h_cell h 5 rfl, h_cell h 6 rfl⟩
set_option maxRecDepth 100000 in
set_option maxHeartbeats 2000000 in
theorem ofSigned_c {w : World} {x : Pc} (h : OkPc x) (hl : x.letter = 100 ∨ x.letter = 105) (n : Nat) (hn : n ≤ 9223372036854775807) (hT : TabD w) : Calls Tryz.prog 213 #[cvV x (-1), .int .i64 (n : Int)] w fun e w' => e = .returned (.string (bz (fillS x (markS x n ++ dgB (baseL x.letter) n)))) ∧ Below w.heap.size w w' := by
  have hm : markS x n = [] := by
    unfold markS
    rw [if_neg]
    rintro ⟨h1, _⟩
    have h2 := (h.sharp h1).1
    rcases hl with e | e <;> rw [e] at h2 <;> exact absurd h2 (by decide)
  have hb : baseL x.letter = 10 := by rcases hl with e | e <;> rw [e] <;> rfl
  rw [hm, hb]
  have hlen := dg_len (b := 10) hn (.inr (.inl rfl))
  have ht := fun u => toWidth_c (w := u) h.width [] (dgB 10 n) (by simp) (by omega) (.inl rfl)
  have hd := fun u hu => digits_c (x := x) n 10 hn (.inr (.inl rfl)) u (hT.keep hu) hlen
  have hp := h.plus
  have hk := h.blank
  clear h hl hm hb hT
  generalize fillS x ([] ++ dgB 10 n) = R at ht ⊢
  generalize dgB 10 n = L at ht hd hlen
  obtain ⟨xb, xl, xm, xp, xk, xz, xs, xw, xq⟩ := x
  simp only at hp hk
  subst hp hk
  unfold cvV cvA at ht hd
  unfold cvV cvA
  simp only at ht hd ⊢
  have eb : bz [] = ⟨#[]⟩ := rfl
  rw [eb] at ht
  have hB0 : Below w.heap.size w (w.alloc (.cells #[.bool xm, .bool false, .bool false, .bool xz, .bool xs, .int .i64 (xw : Int), .int .i64 (-1)] 283)) := (Below.refl _ w).alloc (Nat.le_refl _) _
  have hU : (w.alloc (.cells #[.bool xm, .bool false, .bool false, .bool xz, .bool xs, .int .i64 (xw : Int), .int .i64 (-1)] 283)).heap[w.heap.size]? = some (.cells #[.bool xm, .bool false, .bool false, .bool xz, .bool xs, .int .i64 (xw : Int), .int .i64 (-1)] 283) := al_new _ _
  go_enter Tryz.func213, Tryz.ntmps213
  go_upto_region 1 with fail
  generalize w.alloc (.cells #[.bool xm, .bool false, .bool false, .bool xz, .bool xs, .int .i64 (xw : Int), .int .i64 (-1)] 283) = U at hB0 hU ⊢
  have e0 : U.cell? ⟨w.heap.size, 0, none⟩ = some (.bool xm) := h_cell hU 0 rfl
  have e1 : U.cell? ⟨w.heap.size, 1, none⟩ = some (.bool false) := h_cell hU 1 rfl
  have e2 : U.cell? ⟨w.heap.size, 2, none⟩ = some (.bool false) := h_cell hU 2 rfl
  have e3 : U.cell? ⟨w.heap.size, 3, none⟩ = some (.bool xz) := h_cell hU 3 rfl
  have e4 : U.cell? ⟨w.heap.size, 4, none⟩ = some (.bool xs) := h_cell hU 4 rfl
  have e5 : U.cell? ⟨w.heap.size, 5, none⟩ = some (.int .i64 (xw : Int)) := h_cell hU 5 rfl
  have e6 : U.cell? ⟨w.heap.size, 6, none⟩ = some (.int .i64 (-1)) := h_cell hU 6 rfl
  have hlt : w.heap.size < U.heap.size := h_lt hU
  have hn0 : decide ((n : Int) < 0) = false := by simp
  clear hU
  go_upto_region 8 with fail
  have hBd : Below w.heap.size w U.drew := below_drew hB0
  have hdU := hd U.drew hBd
  clear hd
  have f0 : U.drew.cell? ⟨w.heap.size, 0, none⟩ = some (.bool xm) := e0
  have f1 : U.drew.cell? ⟨w.heap.size, 1, none⟩ = some (.bool false) := e1
  have f2 : U.drew.cell? ⟨w.heap.size, 2, none⟩ = some (.bool false) := e2
  have f3 : U.drew.cell? ⟨w.heap.size, 3, none⟩ = some (.bool xz) := e3
  have f4 : U.drew.cell? ⟨w.heap.size, 4, none⟩ = some (.bool xs) := e4
  have f5 : U.drew.cell? ⟨w.heap.size, 5, none⟩ = some (.int .i64 (xw : Int)) := e5
  have f6 : U.drew.cell? ⟨w.heap.size, 6, none⟩ = some (.int .i64 (-1)) := e6
  go_region_with (first
    | (go_at_call 232; refine hdU.mono ?_; rintro e w2 ⟨rfl, hB2⟩; have g0 := (hB2.cell (p := ⟨w.heap.size, 0, none⟩) hlt).trans f0; have g1 := (hB2.cell (p := ⟨w.heap.size, 1, none⟩) hlt).trans f1; have g2 := (hB2.cell (p := ⟨w.heap.size, 2, none⟩) hlt).trans f2; have g3 := (hB2.cell (p := ⟨w.heap.size, 3, none⟩) hlt).trans f3; have g4 := (hB2.cell (p := ⟨w.heap.size, 4, none⟩) hlt).trans f4; have g5 := (hB2.cell (p := ⟨w.heap.size, 5, none⟩) hlt).trans f5; have g6 := (hB2.cell (p := ⟨w.heap.size, 6, none⟩) hlt).trans f6; have HB := Lib.hid (hBd.trans (hB2.mono hBd.size)); have htv := ht w2; clear hdU hB2)
    | (go_at_call 231; refine htv.mono ?_; rintro e w3 ⟨rfl, hB3⟩; have HC := Lib.hid (HB.out.trans (hB3.mono HB.out.size)); clear htv hB3))
  all_goals
    go_wp2_with fail
    go_ret
    exact ⟨rfl, HC.out⟩
theorem has_no {n : Nat} (h0 : n ≠ 0) : Lib.hasPrefix (bz (dgB 8 n)).data.toList (⟨#[48]⟩ : ByteArray).data.toList = false := by
  obtain ⟨d, r, e, hd, hd2⟩ := dgB_head 8 (by omega) (by omega) n (by omega)
  have := sgn8_ne ⟨d, hd2⟩ hd
  simp only at this
  rw [bz_list, e]
  show List.isPrefixOf [48] (sgn d :: r) = false
  simp only [List.isPrefixOf, Bool.and_eq_false_iff, beq_eq_false_iff_ne]
  exact .inl (Ne.symm this)
set_option maxRecDepth 100000 in
set_option maxHeartbeats 2000000 in
theorem ofU16 {w : World} {x : Pc} (h : OkPc x) (hs : x.sharp = false) (n : Nat) (hn : n ≤ 9223372036854775807) (hT : TabD w) : Calls Tryz.prog 217 #[cvV x (-1), .int .u64 (n : Int), .int .i64 16] w fun e w' => e = .returned (.string (bz (fillS x (markS x n ++ dgB 16 n)))) ∧ Below w.heap.size w w' := by
  have hlen := dg_len (b := 16) hn (by decide)
  have hmark : markS x n = [] := by
    unfold markS
    rw [if_neg]
    rintro ⟨h1, _⟩
    rw [hs] at h1
    cases h1
  rw [hmark]
  have ht := fun u => toWidth_c (w := u) h.width [] (dgB 16 n) (by simp) (by omega) (.inl rfl)
  have hd := fun u hu => digits_c (x := x) n 16 hn (by decide) u (hT.keep hu) hlen

  clear h hmark hT
  generalize fillS x ([] ++ dgB 16 n) = R at ht ⊢
  generalize dgB 16 n = L at *
  obtain ⟨xb, xl, xm, xp, xk, xz, xs, xw, xq⟩ := x
  simp only at hs
  subst hs
  unfold cvV cvA at ht hd
  unfold cvV cvA
  simp only at ht hd ⊢
  have eb : bz [] = ⟨#[]⟩ := rfl
  rw [eb] at ht
  have hB0 : Below w.heap.size w (w.alloc (.cells #[.bool xm, .bool xp, .bool xk, .bool xz, .bool false, .int .i64 (xw : Int), .int .i64 (-1)] 283)) := (Below.refl _ w).alloc (Nat.le_refl _) _
  have hU : (w.alloc (.cells #[.bool xm, .bool xp, .bool xk, .bool xz, .bool false, .int .i64 (xw : Int), .int .i64 (-1)] 283)).heap[w.heap.size]? = some (.cells #[.bool xm, .bool xp, .bool xk, .bool xz, .bool false, .int .i64 (xw : Int), .int .i64 (-1)] 283) := al_new _ _
  go_enter Tryz.func217, Tryz.ntmps217
  go_upto_region 1 with fail
  have hdU := hd _ hB0
  clear hd
  generalize w.alloc (.cells #[.bool xm, .bool xp, .bool xk, .bool xz, .bool false, .int .i64 (xw : Int), .int .i64 (-1)] 283) = U at hB0 hU hdU ⊢
  have f0 : U.cell? ⟨w.heap.size, 0, none⟩ = some (.bool xm) := h_cell hU 0 rfl
  have f1 : U.cell? ⟨w.heap.size, 1, none⟩ = some (.bool xp) := h_cell hU 1 rfl
  have f2 : U.cell? ⟨w.heap.size, 2, none⟩ = some (.bool xk) := h_cell hU 2 rfl
  have f3 : U.cell? ⟨w.heap.size, 3, none⟩ = some (.bool xz) := h_cell hU 3 rfl
  have f4 : U.cell? ⟨w.heap.size, 4, none⟩ = some (.bool false) := h_cell hU 4 rfl
  have f5 : U.cell? ⟨w.heap.size, 5, none⟩ = some (.int .i64 (xw : Int)) := h_cell hU 5 rfl
  have f6 : U.cell? ⟨w.heap.size, 6, none⟩ = some (.int .i64 (-1)) := h_cell hU 6 rfl
  have hlt : w.heap.size < U.heap.size := h_lt hU
  clear hU
  go_wp2_with (first
    | (go_at_call 232; refine hdU.mono ?_; rintro e w2 ⟨rfl, hB2⟩; have g0 := (hB2.cell (p := ⟨w.heap.size, 0, none⟩) hlt).trans f0; have g1 := (hB2.cell (p := ⟨w.heap.size, 1, none⟩) hlt).trans f1; have g2 := (hB2.cell (p := ⟨w.heap.size, 2, none⟩) hlt).trans f2; have g3 := (hB2.cell (p := ⟨w.heap.size, 3, none⟩) hlt).trans f3; have g4 := (hB2.cell (p := ⟨w.heap.size, 4, none⟩) hlt).trans f4; have g5 := (hB2.cell (p := ⟨w.heap.size, 5, none⟩) hlt).trans f5; have g6 := (hB2.cell (p := ⟨w.heap.size, 6, none⟩) hlt).trans f6; have HB := Lib.hid (hB0.trans (hB2.mono hB0.size)); have htv := ht w2; clear hdU hB2 hB0)
    | (go_at_call 231; refine htv.mono ?_; rintro e w3 ⟨rfl, hB3⟩; have HC := Lib.hid (HB.out.trans (hB3.mono HB.out.size)); clear htv hB3))
  go_ret
  exact ⟨rfl, HC.out⟩
set_option maxRecDepth 100000 in
set_option maxHeartbeats 2000000 in
theorem ofU8 {w : World} {x : Pc} (h : OkPc x) (hs : x.sharp = false) (n : Nat) (hn : n ≤ 9223372036854775807) (hT : TabD w) : Calls Tryz.prog 217 #[cvV x (-1), .int .u64 (n : Int), .int .i64 8] w fun e w' => e = .returned (.string (bz (fillS x (markS x n ++ dgB 8 n)))) ∧ Below w.heap.size w w' := by
  have hlen := dg_len (b := 8) hn (by decide)
  have hmark : markS x n = [] := by
    unfold markS
    rw [if_neg]
    rintro ⟨h1, _⟩
    rw [hs] at h1
    cases h1
  rw [hmark]
  have ht := fun u => toWidth_c (w := u) h.width [] (dgB 8 n) (by simp) (by omega) (.inl rfl)
  have hd := fun u hu => digits_c (x := x) n 8 hn (by decide) u (hT.keep hu) hlen

  clear h hmark hT
  generalize fillS x ([] ++ dgB 8 n) = R at ht ⊢
  generalize dgB 8 n = L at *
  obtain ⟨xb, xl, xm, xp, xk, xz, xs, xw, xq⟩ := x
  simp only at hs
  subst hs
  unfold cvV cvA at ht hd
  unfold cvV cvA
  simp only at ht hd ⊢
  have eb : bz [] = ⟨#[]⟩ := rfl
  rw [eb] at ht
  have hB0 : Below w.heap.size w (w.alloc (.cells #[.bool xm, .bool xp, .bool xk, .bool xz, .bool false, .int .i64 (xw : Int), .int .i64 (-1)] 283)) := (Below.refl _ w).alloc (Nat.le_refl _) _
  have hU : (w.alloc (.cells #[.bool xm, .bool xp, .bool xk, .bool xz, .bool false, .int .i64 (xw : Int), .int .i64 (-1)] 283)).heap[w.heap.size]? = some (.cells #[.bool xm, .bool xp, .bool xk, .bool xz, .bool false, .int .i64 (xw : Int), .int .i64 (-1)] 283) := al_new _ _
  go_enter Tryz.func217, Tryz.ntmps217
  go_upto_region 1 with fail
  have hdU := hd _ hB0
  clear hd
  generalize w.alloc (.cells #[.bool xm, .bool xp, .bool xk, .bool xz, .bool false, .int .i64 (xw : Int), .int .i64 (-1)] 283) = U at hB0 hU hdU ⊢
  have f0 : U.cell? ⟨w.heap.size, 0, none⟩ = some (.bool xm) := h_cell hU 0 rfl
  have f1 : U.cell? ⟨w.heap.size, 1, none⟩ = some (.bool xp) := h_cell hU 1 rfl
  have f2 : U.cell? ⟨w.heap.size, 2, none⟩ = some (.bool xk) := h_cell hU 2 rfl
  have f3 : U.cell? ⟨w.heap.size, 3, none⟩ = some (.bool xz) := h_cell hU 3 rfl
  have f4 : U.cell? ⟨w.heap.size, 4, none⟩ = some (.bool false) := h_cell hU 4 rfl
  have f5 : U.cell? ⟨w.heap.size, 5, none⟩ = some (.int .i64 (xw : Int)) := h_cell hU 5 rfl
  have f6 : U.cell? ⟨w.heap.size, 6, none⟩ = some (.int .i64 (-1)) := h_cell hU 6 rfl
  have hlt : w.heap.size < U.heap.size := h_lt hU
  clear hU
  go_wp2_with (first
    | (go_at_call 232; refine hdU.mono ?_; rintro e w2 ⟨rfl, hB2⟩; have g0 := (hB2.cell (p := ⟨w.heap.size, 0, none⟩) hlt).trans f0; have g1 := (hB2.cell (p := ⟨w.heap.size, 1, none⟩) hlt).trans f1; have g2 := (hB2.cell (p := ⟨w.heap.size, 2, none⟩) hlt).trans f2; have g3 := (hB2.cell (p := ⟨w.heap.size, 3, none⟩) hlt).trans f3; have g4 := (hB2.cell (p := ⟨w.heap.size, 4, none⟩) hlt).trans f4; have g5 := (hB2.cell (p := ⟨w.heap.size, 5, none⟩) hlt).trans f5; have g6 := (hB2.cell (p := ⟨w.heap.size, 6, none⟩) hlt).trans f6; have HB := Lib.hid (hB0.trans (hB2.mono hB0.size)); have htv := ht w2; clear hdU hB2 hB0)
    | (go_at_call 231; refine htv.mono ?_; rintro e w3 ⟨rfl, hB3⟩; have HC := Lib.hid (HB.out.trans (hB3.mono HB.out.size)); clear htv hB3))
  go_ret
  exact ⟨rfl, HC.out⟩
set_option maxRecDepth 100000 in
set_option maxHeartbeats 2000000 in
theorem ofU8z {w : World} {x : Pc} (h : OkPc x) (hs : x.sharp = true) (n : Nat) (h0 : n = 0) (hn : n ≤ 9223372036854775807) (hT : TabD w) : Calls Tryz.prog 217 #[cvV x (-1), .int .u64 (n : Int), .int .i64 8] w fun e w' => e = .returned (.string (bz (fillS x (markS x n ++ dgB 8 n)))) ∧ Below w.heap.size w w' := by
  have hlen := dg_len (b := 8) hn (by decide)
  have hmark : markS x n = [] := by
    unfold markS
    rw [if_neg (fun h => h.2 h0)]
  rw [hmark]
  have ht := fun u => toWidth_c (w := u) h.width [] (dgB 8 n) (by simp) (by omega) (.inl rfl)
  have hd := fun u hu => digits_c (x := x) n 8 hn (by decide) u (hT.keep hu) hlen
  have hhp : ∀ u, Calls Tryz.prog 152 #[.string (bz (dgB 8 n)), .string ⟨#[48]⟩] u fun e w' => e = .returned (.bool true) ∧ w' = u := fun u => by
    subst h0
    exact Tryz.strings_HasPrefix (bz (dgB 8 0)) ⟨#[48]⟩ u
  clear h0
  clear h hmark hT
  generalize fillS x ([] ++ dgB 8 n) = R at ht ⊢
  generalize dgB 8 n = L at *
  obtain ⟨xb, xl, xm, xp, xk, xz, xs, xw, xq⟩ := x
  simp only at hs
  subst hs
  unfold cvV cvA at ht hd
  unfold cvV cvA
  simp only at ht hd ⊢
  have eb : bz [] = ⟨#[]⟩ := rfl
  rw [eb] at ht
  have hB0 : Below w.heap.size w (w.alloc (.cells #[.bool xm, .bool xp, .bool xk, .bool xz, .bool true, .int .i64 (xw : Int), .int .i64 (-1)] 283)) := (Below.refl _ w).alloc (Nat.le_refl _) _
  have hU : (w.alloc (.cells #[.bool xm, .bool xp, .bool xk, .bool xz, .bool true, .int .i64 (xw : Int), .int .i64 (-1)] 283)).heap[w.heap.size]? = some (.cells #[.bool xm, .bool xp, .bool xk, .bool xz, .bool true, .int .i64 (xw : Int), .int .i64 (-1)] 283) := al_new _ _
  go_enter Tryz.func217, Tryz.ntmps217
  go_upto_region 1 with fail
  have hdU := hd _ hB0
  clear hd
  generalize w.alloc (.cells #[.bool xm, .bool xp, .bool xk, .bool xz, .bool true, .int .i64 (xw : Int), .int .i64 (-1)] 283) = U at hB0 hU hdU ⊢
  have f0 : U.cell? ⟨w.heap.size, 0, none⟩ = some (.bool xm) := h_cell hU 0 rfl
  have f1 : U.cell? ⟨w.heap.size, 1, none⟩ = some (.bool xp) := h_cell hU 1 rfl
  have f2 : U.cell? ⟨w.heap.size, 2, none⟩ = some (.bool xk) := h_cell hU 2 rfl
  have f3 : U.cell? ⟨w.heap.size, 3, none⟩ = some (.bool xz) := h_cell hU 3 rfl
  have f4 : U.cell? ⟨w.heap.size, 4, none⟩ = some (.bool true) := h_cell hU 4 rfl
  have f5 : U.cell? ⟨w.heap.size, 5, none⟩ = some (.int .i64 (xw : Int)) := h_cell hU 5 rfl
  have f6 : U.cell? ⟨w.heap.size, 6, none⟩ = some (.int .i64 (-1)) := h_cell hU 6 rfl
  have hlt : w.heap.size < U.heap.size := h_lt hU
  clear hU
  go_wp2_with (first
    | (go_at_call 232; refine hdU.mono ?_; rintro e w2 ⟨rfl, hB2⟩; have g0 := (hB2.cell (p := ⟨w.heap.size, 0, none⟩) hlt).trans f0; have g1 := (hB2.cell (p := ⟨w.heap.size, 1, none⟩) hlt).trans f1; have g2 := (hB2.cell (p := ⟨w.heap.size, 2, none⟩) hlt).trans f2; have g3 := (hB2.cell (p := ⟨w.heap.size, 3, none⟩) hlt).trans f3; have g4 := (hB2.cell (p := ⟨w.heap.size, 4, none⟩) hlt).trans f4; have g5 := (hB2.cell (p := ⟨w.heap.size, 5, none⟩) hlt).trans f5; have g6 := (hB2.cell (p := ⟨w.heap.size, 6, none⟩) hlt).trans f6; have HB := Lib.hid (hB0.trans (hB2.mono hB0.size)); have htv := ht w2; clear hdU hB2 hB0)
    | (go_at_call 152; refine (hhp _).mono ?_; rintro e w5 ⟨rfl, hw5⟩; rw [hw5]; clear hw5)
    | (go_at_call 231; refine htv.mono ?_; rintro e w3 ⟨rfl, hB3⟩; have HC := Lib.hid (HB.out.trans (hB3.mono HB.out.size)); clear htv hB3))
  go_ret
  exact ⟨rfl, HC.out⟩
set_option maxRecDepth 100000 in
set_option maxHeartbeats 2000000 in
theorem ofU8p {w : World} {x : Pc} (h : OkPc x) (hs : x.sharp = true) (n : Nat) (h0 : n ≠ 0) (hn : n ≤ 9223372036854775807) (hT : TabD w) : Calls Tryz.prog 217 #[cvV x (-1), .int .u64 (n : Int), .int .i64 8] w fun e w' => e = .returned (.string (bz (fillS x (markS x n ++ dgB 8 n)))) ∧ Below w.heap.size w w' := by
  have hlen := dg_len (b := 8) hn (by decide)
  have hmark : markS x n = [48] := by
    unfold markS
    rw [if_pos ⟨hs, h0⟩]
  rw [hmark]
  have ht := fun u => toWidth_c (w := u) h.width [48] (dgB 8 n) (by simp) (by omega) (.inr (h.sharp hs).2)
  have hd := fun u hu => digits_c (x := x) n 8 hn (by decide) u (hT.keep hu) hlen
  have hhp : ∀ u, Calls Tryz.prog 152 #[.string (bz (dgB 8 n)), .string ⟨#[48]⟩] u fun e w' => e = .returned (.bool false) ∧ w' = u := fun u => by
    have := Tryz.strings_HasPrefix (bz (dgB 8 n)) ⟨#[48]⟩ u
    rw [has_no h0] at this
    exact this
  clear h0
  clear h hmark hT
  generalize fillS x ([48] ++ dgB 8 n) = R at ht ⊢
  generalize dgB 8 n = L at *
  obtain ⟨xb, xl, xm, xp, xk, xz, xs, xw, xq⟩ := x
  simp only at hs
  subst hs
  unfold cvV cvA at ht hd
  unfold cvV cvA
  simp only at ht hd ⊢
  have eb : bz [48] = ⟨#[48]⟩ := rfl
  rw [eb] at ht
  have hB0 : Below w.heap.size w (w.alloc (.cells #[.bool xm, .bool xp, .bool xk, .bool xz, .bool true, .int .i64 (xw : Int), .int .i64 (-1)] 283)) := (Below.refl _ w).alloc (Nat.le_refl _) _
  have hU : (w.alloc (.cells #[.bool xm, .bool xp, .bool xk, .bool xz, .bool true, .int .i64 (xw : Int), .int .i64 (-1)] 283)).heap[w.heap.size]? = some (.cells #[.bool xm, .bool xp, .bool xk, .bool xz, .bool true, .int .i64 (xw : Int), .int .i64 (-1)] 283) := al_new _ _
  go_enter Tryz.func217, Tryz.ntmps217
  go_upto_region 1 with fail
  have hdU := hd _ hB0
  clear hd
  generalize w.alloc (.cells #[.bool xm, .bool xp, .bool xk, .bool xz, .bool true, .int .i64 (xw : Int), .int .i64 (-1)] 283) = U at hB0 hU hdU ⊢
  have f0 : U.cell? ⟨w.heap.size, 0, none⟩ = some (.bool xm) := h_cell hU 0 rfl
  have f1 : U.cell? ⟨w.heap.size, 1, none⟩ = some (.bool xp) := h_cell hU 1 rfl
  have f2 : U.cell? ⟨w.heap.size, 2, none⟩ = some (.bool xk) := h_cell hU 2 rfl
  have f3 : U.cell? ⟨w.heap.size, 3, none⟩ = some (.bool xz) := h_cell hU 3 rfl
  have f4 : U.cell? ⟨w.heap.size, 4, none⟩ = some (.bool true) := h_cell hU 4 rfl
  have f5 : U.cell? ⟨w.heap.size, 5, none⟩ = some (.int .i64 (xw : Int)) := h_cell hU 5 rfl
  have f6 : U.cell? ⟨w.heap.size, 6, none⟩ = some (.int .i64 (-1)) := h_cell hU 6 rfl
  have hlt : w.heap.size < U.heap.size := h_lt hU
  clear hU
  go_wp2_with (first
    | (go_at_call 232; refine hdU.mono ?_; rintro e w2 ⟨rfl, hB2⟩; have g0 := (hB2.cell (p := ⟨w.heap.size, 0, none⟩) hlt).trans f0; have g1 := (hB2.cell (p := ⟨w.heap.size, 1, none⟩) hlt).trans f1; have g2 := (hB2.cell (p := ⟨w.heap.size, 2, none⟩) hlt).trans f2; have g3 := (hB2.cell (p := ⟨w.heap.size, 3, none⟩) hlt).trans f3; have g4 := (hB2.cell (p := ⟨w.heap.size, 4, none⟩) hlt).trans f4; have g5 := (hB2.cell (p := ⟨w.heap.size, 5, none⟩) hlt).trans f5; have g6 := (hB2.cell (p := ⟨w.heap.size, 6, none⟩) hlt).trans f6; have HB := Lib.hid (hB0.trans (hB2.mono hB0.size)); have htv := ht w2; clear hdU hB2 hB0)
    | (go_at_call 152; refine (hhp _).mono ?_; rintro e w5 ⟨rfl, hw5⟩; rw [hw5]; clear hw5)
    | (go_at_call 231; refine htv.mono ?_; rintro e w3 ⟨rfl, hB3⟩; have HC := Lib.hid (HB.out.trans (hB3.mono HB.out.size)); clear htv hB3))
  go_ret
  exact ⟨rfl, HC.out⟩
theorem ofUns_c {w : World} {x : Pc} (h : OkPc x) (hl : x.letter = 120 ∨ x.letter = 111) (n : Nat) (hn : n ≤ 9223372036854775807) (hT : TabD w) : Calls Tryz.prog 217 #[cvV x (-1), .int .u64 (n : Int), .int .i64 (baseL x.letter : Int)] w fun e w' => e = .returned (.string (bz (fillS x (markS x n ++ dgB (baseL x.letter) n)))) ∧ Below w.heap.size w w' := by
  rcases hl with e | e
  · have hs : x.sharp = false := by
      cases hs : x.sharp with
      | false => rfl
      | true => have := (h.sharp hs).1; rw [e] at this; exact absurd this (by decide)
    have eb : baseL x.letter = 16 := by rw [e]; rfl
    rw [eb]
    exact ofU16 h hs n hn hT
  · have eb : baseL x.letter = 8 := by rw [e]; rfl
    rw [eb]
    cases hs : x.sharp with
    | false => exact ofU8 h hs n hn hT
    | true =>
      by_cases h0 : n = 0
      · exact ofU8z h hs n h0 hn hT
      · exact ofU8p h hs n h0 hn hT
end Go.Proofs.YteimilnecahifaaGreatDoor.Nm
