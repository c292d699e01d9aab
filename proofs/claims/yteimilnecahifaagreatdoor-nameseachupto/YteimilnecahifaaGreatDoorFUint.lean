/- printf: filled up to a width. -/
import Derived.Deep.Cut
import Derived.Test.YteimilnecahifaaGreatDoorFCv
import Derived.Test.YteimilnecahifaaGreatDoorNDig
namespace Go.Proofs.YteimilnecahifaaGreatDoor.Nm
open Go.Proofs.YteimilnecahifaaGreatDoor Go.Proofs.YteimilnecahifaaGreatDoor.Op
open Go.RowKit

theorem ret_s {a b : ByteArray} (h : a = b) : Ending.returned (.string a) = .returned (.string b) := by rw [h]
theorem many_size (c : UInt8) (k : Nat) : (bz (many c k)).size = k := by
  rw [bz_size]; simp [many]
theorem fill_m {x : Pc} (h : x.minus = true) (a s : List UInt8) : fillS x (a ++ s) = (a ++ s) ++ many 32 (x.width - (a.length + s.length)) := by
  rw [fillS, if_pos h, List.length_append]
theorem fill_z {x : Pc} (h : x.minus = false) (hz : x.zero = true) (a s : List UInt8) (ha : a = []) : fillS x (a ++ s) = a ++ (many 48 (x.width - (a.length + s.length)) ++ s) := by
  subst ha
  rw [fillS, if_neg (by rw [h]; decide), if_pos hz, List.length_append]
  rfl
theorem fill_b {x : Pc} (h : x.minus = false) (hz : x.zero = false) (a s : List UInt8) : fillS x (a ++ s) = many 32 (x.width - (a.length + s.length)) ++ (a ++ s) := by
  rw [fillS, if_neg (by rw [h]; decide), if_neg (by rw [hz]; decide), List.length_append]
set_option maxRecDepth 100000 in
set_option maxHeartbeats 2000000 in
theorem toWidth_m {w : World} {x : Pc} (hw : x.width ≤ 1000) (hm : x.minus = true) (ahead s : List UInt8) (hla : ahead.length ≤ 16) (hls : s.length ≤ 2097152) : Calls Tryz.prog 231 #[cvV x (-1), .string (bz ahead), .string (bz s)] w fun e w' => e = .returned (.string (bz (fillS x (ahead ++ s)))) ∧ Below w.heap.size w w' := by
  have hr := room_nat x.width ahead.length s.length
  have hn : x.width - (ahead.length + s.length) ≤ 1000 := by omega
  have sa := bz_size ahead
  have ss := bz_size s
  have sm := fun c => many_size c (x.width - (ahead.length + s.length))
  rw [fill_m hm]
  generalize x.width - (ahead.length + s.length) = k at hr hn sm ⊢
  have m32 := sm 32
  have m48 := sm 48
  clear sm
  obtain ⟨xb, xl, xm, xp, xk, xz, xs, xw, xq⟩ := x
  unfold cvV
  unfold cvA
  simp only at *
  subst hm
  have hB0 : Below w.heap.size w (w.alloc (.cells #[.bool true, .bool xp, .bool xk, .bool xz, .bool xs, .int .i64 (xw : Int), .int .i64 (-1)] 283)) := (Below.refl _ w).alloc (Nat.le_refl _) _
  have hU : (w.alloc (.cells #[.bool true, .bool xp, .bool xk, .bool xz, .bool xs, .int .i64 (xw : Int), .int .i64 (-1)] 283)).heap[w.heap.size]? = some (.cells #[.bool true, .bool xp, .bool xk, .bool xz, .bool xs, .int .i64 (xw : Int), .int .i64 (-1)] 283) := al_new _ _
  have hSU : (w.alloc (.cells #[.bool true, .bool xp, .bool xk, .bool xz, .bool xs, .int .i64 (xw : Int), .int .i64 (-1)] 283)).heap.size = w.heap.size + 1 := by simp
  go_enter Tryz.func231, Tryz.ntmps231
  go_upto_region 1 with fail
  generalize w.alloc (.cells #[.bool true, .bool xp, .bool xk, .bool xz, .bool xs, .int .i64 (xw : Int), .int .i64 (-1)] 283) = U at hB0 hU hSU ⊢
  have d0 : U.cell? ⟨w.heap.size, 0, none⟩ = some (.bool true) := h_cell hU 0 rfl
  have d3 : U.cell? ⟨w.heap.size, 3, none⟩ = some (.bool xz) := h_cell hU 3 rfl
  have d5 : U.cell? ⟨w.heap.size, 5, none⟩ = some (.int .i64 (xw : Int)) := h_cell hU 5 rfl
  have d6 : U.cell? ⟨w.heap.size, 6, none⟩ = some (.int .i64 (-1)) := h_cell hU 6 rfl
  have hrp := rep_c 32 k hn U
  have hrq := fun u => rep_c 48 k hn u
  have hlt : w.heap.size < U.heap.size := by omega
  clear hU hSU
  go_wp2_with (go_at_call 246; first | (refine hrp.mono ?_; rintro e w2 ⟨rfl, hB2⟩; have e0 := (hB2.cell (p := ⟨w.heap.size, 0, none⟩) hlt).trans d0; have e3 := (hB2.cell (p := ⟨w.heap.size, 3, none⟩) hlt).trans d3; have e6 := (hB2.cell (p := ⟨w.heap.size, 6, none⟩) hlt).trans d6; have HB := Lib.hid (hB0.trans (hB2.mono hB0.size)); clear hrp hB2 hB0))
  go_ret
  exact ⟨ret_s (by simp only [bz_app, List.append_assoc]), HB.out⟩
set_option maxRecDepth 100000 in
set_option maxHeartbeats 2000000 in
theorem toWidth_z {w : World} {x : Pc} (hw : x.width ≤ 1000) (hm : x.minus = false) (hz : x.zero = true) (ahead s : List UInt8) (hla : ahead.length ≤ 16) (hls : s.length ≤ 2097152) (ha : ahead = []) : Calls Tryz.prog 231 #[cvV x (-1), .string (bz ahead), .string (bz s)] w fun e w' => e = .returned (.string (bz (fillS x (ahead ++ s)))) ∧ Below w.heap.size w w' := by
  have hr := room_nat x.width ahead.length s.length
  have hn : x.width - (ahead.length + s.length) ≤ 1000 := by omega
  have sa := bz_size ahead
  have ss := bz_size s
  have sm := fun c => many_size c (x.width - (ahead.length + s.length))
  rw [fill_z hm hz _ _ ha]
  clear ha
  generalize x.width - (ahead.length + s.length) = k at hr hn sm ⊢
  have m32 := sm 32
  have m48 := sm 48
  clear sm
  obtain ⟨xb, xl, xm, xp, xk, xz, xs, xw, xq⟩ := x
  unfold cvV
  unfold cvA
  simp only at *
  subst hm hz
  have hB0 : Below w.heap.size w (w.alloc (.cells #[.bool false, .bool xp, .bool xk, .bool true, .bool xs, .int .i64 (xw : Int), .int .i64 (-1)] 283)) := (Below.refl _ w).alloc (Nat.le_refl _) _
  have hU : (w.alloc (.cells #[.bool false, .bool xp, .bool xk, .bool true, .bool xs, .int .i64 (xw : Int), .int .i64 (-1)] 283)).heap[w.heap.size]? = some (.cells #[.bool false, .bool xp, .bool xk, .bool true, .bool xs, .int .i64 (xw : Int), .int .i64 (-1)] 283) := al_new _ _
  have hSU : (w.alloc (.cells #[.bool false, .bool xp, .bool xk, .bool true, .bool xs, .int .i64 (xw : Int), .int .i64 (-1)] 283)).heap.size = w.heap.size + 1 := by simp
  go_enter Tryz.func231, Tryz.ntmps231
  go_upto_region 1 with fail
  generalize w.alloc (.cells #[.bool false, .bool xp, .bool xk, .bool true, .bool xs, .int .i64 (xw : Int), .int .i64 (-1)] 283) = U at hB0 hU hSU ⊢
  have d0 : U.cell? ⟨w.heap.size, 0, none⟩ = some (.bool false) := h_cell hU 0 rfl
  have d3 : U.cell? ⟨w.heap.size, 3, none⟩ = some (.bool true) := h_cell hU 3 rfl
  have d5 : U.cell? ⟨w.heap.size, 5, none⟩ = some (.int .i64 (xw : Int)) := h_cell hU 5 rfl
  have d6 : U.cell? ⟨w.heap.size, 6, none⟩ = some (.int .i64 (-1)) := h_cell hU 6 rfl
  have hrp := rep_c 32 k hn U
  have hrq := fun u => rep_c 48 k hn u
  have hlt : w.heap.size < U.heap.size := by omega
  clear hU hSU
  go_wp2_with (go_at_call 246; first | (refine hrp.mono ?_; rintro e w2 ⟨rfl, hB2⟩; have e0 := (hB2.cell (p := ⟨w.heap.size, 0, none⟩) hlt).trans d0; have e3 := (hB2.cell (p := ⟨w.heap.size, 3, none⟩) hlt).trans d3; have e6 := (hB2.cell (p := ⟨w.heap.size, 6, none⟩) hlt).trans d6; have HB := Lib.hid (hB0.trans (hB2.mono hB0.size)); clear hrp hB2 hB0) | (refine (hrq _).mono ?_; rintro e w3 ⟨rfl, hB3⟩; have HC := Lib.hid (HB.out.trans (hB3.mono HB.out.size)); clear hB3))
  go_ret
  exact ⟨ret_s (by simp only [bz_app, List.append_assoc]), HC.out⟩
set_option maxRecDepth 100000 in
set_option maxHeartbeats 2000000 in
theorem toWidth_b {w : World} {x : Pc} (hw : x.width ≤ 1000) (hm : x.minus = false) (hz : x.zero = false) (ahead s : List UInt8) (hla : ahead.length ≤ 16) (hls : s.length ≤ 2097152) : Calls Tryz.prog 231 #[cvV x (-1), .string (bz ahead), .string (bz s)] w fun e w' => e = .returned (.string (bz (fillS x (ahead ++ s)))) ∧ Below w.heap.size w w' := by
  have hr := room_nat x.width ahead.length s.length
  have hn : x.width - (ahead.length + s.length) ≤ 1000 := by omega
  have sa := bz_size ahead
  have ss := bz_size s
  have sm := fun c => many_size c (x.width - (ahead.length + s.length))
  rw [fill_b hm hz]
  generalize x.width - (ahead.length + s.length) = k at hr hn sm ⊢
  have m32 := sm 32
  have m48 := sm 48
  clear sm
  obtain ⟨xb, xl, xm, xp, xk, xz, xs, xw, xq⟩ := x
  unfold cvV
  unfold cvA
  simp only at *
  subst hm hz
  have hB0 : Below w.heap.size w (w.alloc (.cells #[.bool false, .bool xp, .bool xk, .bool false, .bool xs, .int .i64 (xw : Int), .int .i64 (-1)] 283)) := (Below.refl _ w).alloc (Nat.le_refl _) _
  have hU : (w.alloc (.cells #[.bool false, .bool xp, .bool xk, .bool false, .bool xs, .int .i64 (xw : Int), .int .i64 (-1)] 283)).heap[w.heap.size]? = some (.cells #[.bool false, .bool xp, .bool xk, .bool false, .bool xs, .int .i64 (xw : Int), .int .i64 (-1)] 283) := al_new _ _
  have hSU : (w.alloc (.cells #[.bool false, .bool xp, .bool xk, .bool false, .bool xs, .int .i64 (xw : Int), .int .i64 (-1)] 283)).heap.size = w.heap.size + 1 := by simp
  go_enter Tryz.func231, Tryz.ntmps231
  go_upto_region 1 with fail
  generalize w.alloc (.cells #[.bool false, .bool xp, .bool xk, .bool false, .bool xs, .int .i64 (xw : Int), .int .i64 (-1)] 283) = U at hB0 hU hSU ⊢
  have d0 : U.cell? ⟨w.heap.size, 0, none⟩ = some (.bool false) := h_cell hU 0 rfl
  have d3 : U.cell? ⟨w.heap.size, 3, none⟩ = some (.bool false) := h_cell hU 3 rfl
  have d5 : U.cell? ⟨w.heap.size, 5, none⟩ = some (.int .i64 (xw : Int)) := h_cell hU 5 rfl
  have d6 : U.cell? ⟨w.heap.size, 6, none⟩ = some (.int .i64 (-1)) := h_cell hU 6 rfl
  have hrp := rep_c 32 k hn U
  have hrq := fun u => rep_c 48 k hn u
  have hlt : w.heap.size < U.heap.size := by omega
  clear hU hSU
  go_wp2_with (go_at_call 246; first | (refine hrp.mono ?_; rintro e w2 ⟨rfl, hB2⟩; have e0 := (hB2.cell (p := ⟨w.heap.size, 0, none⟩) hlt).trans d0; have e3 := (hB2.cell (p := ⟨w.heap.size, 3, none⟩) hlt).trans d3; have e6 := (hB2.cell (p := ⟨w.heap.size, 6, none⟩) hlt).trans d6; have HB := Lib.hid (hB0.trans (hB2.mono hB0.size)); clear hrp hB2 hB0))
  go_ret
  exact ⟨ret_s (by simp only [bz_app, List.append_assoc]), HB.out⟩
theorem toWidth_c {w : World} {x : Pc} (hw : x.width ≤ 1000) (ahead s : List UInt8) (hla : ahead.length ≤ 16) (hls : s.length ≤ 2097152) (hz : ahead = [] ∨ x.zero = false) : Calls Tryz.prog 231 #[cvV x (-1), .string (bz ahead), .string (bz s)] w fun e w' => e = .returned (.string (bz (fillS x (ahead ++ s)))) ∧ Below w.heap.size w w' := by
  cases hm : x.minus
  · cases hz2 : x.zero
    · exact toWidth_b hw hm hz2 ahead s hla hls
    · exact toWidth_z hw hm hz2 ahead s hla hls (hz.resolve_right (by rw [hz2]; decide))
  · exact toWidth_m hw hm ahead s hla hls
end Go.Proofs.YteimilnecahifaaGreatDoor.Nm

namespace Go.Proofs.YteimilnecahifaaGreatDoor.Nm
open Go.Proofs.YteimilnecahifaaGreatDoor Go.Proofs.YteimilnecahifaaGreatDoor.Op
open Go.RowKit Go.Sort Go.Lib

theorem holds0 (w : World) (T : TypeId) (nd : Nat) (hs : nd ≤ 24) : Holds (fun (b : UInt8) => Value.int .u8 (b.toNat : Int)) (w.alloc (.cells zeros24 T)) w.heap.size 0 (Array.replicate nd (0 : UInt8)) := fun j hj => by
  have hj' : j < nd := by simpa using hj
  refine ⟨?_, World.frozen?_alloc_new _ _ _ _⟩
  rw [World.cell?_alloc_new, zeros24_at _ (by omega), getElem!_pos _ j hj]
  simp
theorem fin0 (w : World) (o : Obj) (dk : Array UInt8) (k : Nat) : ∃ os, (putRow (fun (b : UInt8) => Value.int .u8 (b.toNat : Int)) (w.alloc o) w.heap.size 0 dk).drewN k = grow (w.drewN k) os := by
  rw [alloc_eq_grow]
  obtain ⟨os', _, e⟩ := putRow_grow_new (fun (b : UInt8) => Value.int .u8 (b.toNat : Int)) w #[o] w.heap.size 0 dk (Nat.le_refl _)
  exact ⟨os', by rw [e]; rfl⟩
set_option maxRecDepth 100000 in
set_option maxHeartbeats 2000000 in
theorem fu10s (u : Nat) (hu : u < 100) (w : World) : Calls Tryz.prog 263 #[.int .u64 (u : Int), .int .i64 10] w fun e w' => e = .returned (.string ⟨(decDigits u).toArray⟩) ∧ Below w.heap.size w w' := by
  have h100 : decide ((u : Int) < 100) = true := by simp; omega
  have hsm := Tryz.internal_strconv_small u hu w
  go_enter Tryz.func263, Tryz.ntmps263
  go_wp2_with (go_at_call 36; refine hsm.mono ?_; rintro e w' ⟨rfl, rfl⟩)
  go_ret
  exact ⟨rfl, Below.refl _ _⟩
set_option maxRecDepth 100000 in
set_option maxHeartbeats 4000000 in
theorem fu10b (u : Nat) (hu : 100 ≤ u) (hu64 : u < 18446744073709551616) (w : World) (htab : Lib.TabIs Tryz.prog w "internal/strconv.uint64pow10" .u64 Lib.pow10Tab) : Calls Tryz.prog 263 #[.int .u64 (u : Int), .int .i64 10] w fun e w' => e = .returned (.string ⟨(decDigits u).toArray⟩) ∧ Below w.heap.size w w' := by
  have hu1 : 1 ≤ u := by omega
  have hnd20 : nDigits u ≤ 20 := by have := numDigits_eq u hu1 hu64; split at this <;> omega
  have hal : Tryz.prog.arrayLen 65 = 24 := by kernel_rfl
  have hsl1 : ∀ W, (Instr.sliceAt 65 (.pointer (some ⟨w.heap.size, 0, none⟩)) none (some (.int .i64 (nDigits u : Int))) none).run Tryz.prog W = .ok (.slice (some ⟨w.heap.size, 0, none⟩) (nDigits u) 24) W := fun W => by
    rw [run_sliceAt_array_h W 65 ⟨w.heap.size, 0, none⟩ (by kernel_rfl) .i64 (nDigits u : Int) (by omega) (by rw [hal]; omega)]
    rw [hal]
    go_simp
  have hH0 := holds0 w 65 (nDigits u) (by omega)
  have hfmt := Tryz.internal_strconv_formatBase10 w.heap.size 0 24 u (Array.replicate (nDigits u) 0) (w.alloc (.cells zeros24 65)) hH0 (by rw [Array.size_replicate]; exact lt_pow_nDigits u) hu64 (by rw [Array.size_replicate]; omega)
  rw [Array.size_replicate] at hfmt
  have HH0 := Lib.hid hH0
  have hnd := Tryz.internal_strconv_numDigits u hu1 hu64 _ (Lib.tabIs_alloc htab (.cells zeros24 65))
  clear hH0 hal htab
  have hge : decide ((u : Int) < 100) = false := by simp; omega
  go_enter Tryz.func263, Tryz.ntmps263
  go_wp2_with (go_at_call 37; refine hnd.mono ?_; rintro e w' ⟨rfl, rfl⟩)
  go_at_call 38
  refine hfmt.mono ?_
  rintro e w' ⟨rfl, k, v', dk, rfl, hF⟩
  have hcv : (convert 27 9 (.slice (some ⟨w.heap.size, 0, none⟩) (nDigits u) 24)).run Tryz.prog ((putRow (fun (b : UInt8) => Value.int .u8 (b.toNat : Int)) (w.alloc (.cells zeros24 65)) w.heap.size 0 dk).drewN k) = .ok (.string ⟨(decDigits u).toArray⟩) ((putRow (fun (b : UInt8) => Value.int .u8 (b.toNat : Int)) (w.alloc (.cells zeros24 65)) w.heap.size 0 dk).drewN k) := by
    have h := run_convert_bytes_back (P := Tryz.prog) ((putRow (fun (b : UInt8) => Value.int .u8 (b.toNat : Int)) (w.alloc (.cells zeros24 65)) w.heap.size 0 dk).drewN k) 27 9 5 ⟨w.heap.size, 0, none⟩ 24 (decDigits u) Tryz.underlying27 Tryz.underlying5 Tryz.underlying9 (fun j hj => by
      rw [row_is_numeral hF j hj, Lib.add_plain, World.cell?_drewN]
      exact cell?_putRow (fun (b : UInt8) => Value.int .u8 (b.toNat : Int)) _ w.heap.size 0 _ dk HH0.out (by rw [hF.size, Array.size_replicate]) j (by rw [hF.size]; rw [decDigits_length] at hj; exact hj))
    rw [decDigits_length] at h
    exact h
  go_wp2
  go_ret
  obtain ⟨os, eo⟩ := fin0 w (.cells zeros24 65) dk k
  exact ⟨rfl, by rw [eo]; exact below_grow _ _ _⟩
/-- What is known of the tables. -/
structure TabD (w : World) : Prop where
  t7 : w.cell? ⟨5, 7, none⟩ = some (.int .u8 3)
  t15 : w.cell? ⟨5, 15, none⟩ = some (.int .u8 4)
  ps : 1 < w.heap.size
  p10 : Lib.TabIs Tryz.prog w "internal/strconv.uint64pow10" .u64 Lib.pow10Tab
theorem gPow10 : Tryz.prog.globalNamed "internal/strconv.uint64pow10" = some 1 := by kernel_rfl
theorem TabD.keep {w w' : World} (h : TabD w) (hB : Below w.heap.size w w') : TabD w' :=
  ⟨(hB.cell (p := ⟨5, 7, none⟩) (World.block_lt_of_cell? _ _ h.t7)).trans h.t7, (hB.cell (p := ⟨5, 15, none⟩) (World.block_lt_of_cell? _ _ h.t15)).trans h.t15, Nat.lt_of_lt_of_le h.ps hB.size, var?_below hB gPow10 h.ps h.p10⟩
set_option maxRecDepth 100000 in
set_option maxHeartbeats 2000000 in
theorem fu_in (u b : Nat) (hu64 : u < 18446744073709551616) (hb : b = 8 ∨ b = 10 ∨ b = 16) (w : World) (hT : TabD w) : Calls Tryz.prog 263 #[.int .u64 (u : Int), .int .i64 (b : Int)] w fun e w' => e = .returned (.string (bz (dgB b u))) ∧ Below w.heap.size w w' := by
  have hsz := World.block_lt_of_cell? _ _ hT.t7
  rcases hb with rfl | rfl | rfl
  · have hf := fmt8P u hu64 w hT.t7 hsz
    clear hT hsz
    go_enter Tryz.func263, Tryz.ntmps263
    go_wp2_with (go_at_call 39; refine hf.mono ?_; rintro e w' ⟨rfl, o, rfl⟩)
    go_ret
    exact ⟨rfl, (Below.refl _ _).alloc (Nat.le_refl _) _⟩
  · rw [← decDigits_dgB]
    by_cases hs : u < 100
    · exact fu10s u hs w
    · exact fu10b u (by omega) hu64 w hT.p10
  · have hf := fmt16P u hu64 w hT.t15 hsz
    clear hT hsz
    go_enter Tryz.func263, Tryz.ntmps263
    go_wp2_with (go_at_call 39; refine hf.mono ?_; rintro e w' ⟨rfl, o, rfl⟩)
    go_ret
    exact ⟨rfl, (Below.refl _ _).alloc (Nat.le_refl _) _⟩
theorem fu_c (u b : Nat) (hu64 : u < 18446744073709551616) (hb : b = 8 ∨ b = 10 ∨ b = 16) (w : World) (hT : TabD w) : Calls Tryz.prog 247 #[.int .u64 (u : Int), .int .i64 (b : Int)] w fun e w' => e = .returned (.string (bz (dgB b u))) ∧ Below w.heap.size w w' := by
  have hf := fu_in u b hu64 hb w hT
  clear hT
  go_enter Tryz.func247, Tryz.ntmps247
  go_wp2_with (go_at_call 263; refine hf.mono ?_; rintro e w' ⟨rfl, hB⟩)
  go_ret
  exact ⟨rfl, hB⟩
set_option maxRecDepth 100000 in
set_option maxHeartbeats 2000000 in
theorem digits_c {x : Pc} (u b : Nat) (hu : u ≤ 9223372036854775807) (hb : b = 8 ∨ b = 10 ∨ b = 16) (w : World) (hT : TabD w) (hl : (dgB b u).length ≤ 64) : Calls Tryz.prog 232 #[cvV x (-1), .int .u64 (u : Int), .int .i64 (b : Int)] w fun e w' => e = .returned (.string (bz (dgB b u))) ∧ Below w.heap.size w w' := by
  have hf := fun v hB => fu_c u b (by omega) hb v (hT.keep hB)
  have hrp := fun v => rep_c 48 0 (by omega) v
  have hz : bz (many 48 0) ++ bz (dgB b u) = bz (dgB b u) := by rw [bz_app]; rfl
  have m0 : (bz (many 48 0)).size = 0 := many_size _ _
  have sz := bz_size (dgB b u)
  clear hT hb
  generalize dgB b u = L at *
  obtain ⟨xb, xl, xm, xp, xk, xz, xs, xw, xq⟩ := x
  unfold cvV
  unfold cvA
  simp only at *
  have hB0 : Below w.heap.size w (w.alloc (.cells #[.bool xm, .bool xp, .bool xk, .bool xz, .bool xs, .int .i64 (xw : Int), .int .i64 (-1)] 283)) := (Below.refl _ w).alloc (Nat.le_refl _) _
  have hU : (w.alloc (.cells #[.bool xm, .bool xp, .bool xk, .bool xz, .bool xs, .int .i64 (xw : Int), .int .i64 (-1)] 283)).heap[w.heap.size]? = some (.cells #[.bool xm, .bool xp, .bool xk, .bool xz, .bool xs, .int .i64 (xw : Int), .int .i64 (-1)] 283) := al_new _ _
  go_enter Tryz.func232, Tryz.ntmps232
  go_upto_region 1 with fail
  have hf1 := hf _ hB0
  generalize w.alloc (.cells #[.bool xm, .bool xp, .bool xk, .bool xz, .bool xs, .int .i64 (xw : Int), .int .i64 (-1)] 283) = U at hB0 hU hf1 ⊢
  have d6 : U.cell? ⟨w.heap.size, 6, none⟩ = some (.int .i64 (-1)) := h_cell hU 6 rfl
  have hlt : w.heap.size < U.heap.size := h_lt hU
  have hmx : max (0 : Int) (-1 - (L.length : Int)) = ((0 : Nat) : Int) := by omega
  clear hU hf
  by_cases hu0 : u = 0
  · subst hu0
    go_wp2_with (first | (go_at_call 247; refine hf1.mono ?_; rintro e w2 ⟨rfl, hB2⟩; have e6 := (hB2.cell (p := ⟨w.heap.size, 6, none⟩) hlt).trans d6; have HB := Lib.hid (hB0.trans (hB2.mono hB0.size)); clear hf1 hB2 hB0) | (go_at_call 246; refine (hrp _).mono ?_; rintro e w3 ⟨rfl, hB3⟩; have HC := Lib.hid (HB.out.trans (hB3.mono HB.out.size)); clear hB3))
    go_ret
    exact ⟨rfl, HC.out⟩
  · have hne : ((u : Int) == 0) = false := by rw [beq_eq_false_iff_ne]; omega
    clear hu0
    go_wp2_with (first | (go_at_call 247; refine hf1.mono ?_; rintro e w2 ⟨rfl, hB2⟩; have e6 := (hB2.cell (p := ⟨w.heap.size, 6, none⟩) hlt).trans d6; have HB := Lib.hid (hB0.trans (hB2.mono hB0.size)); clear hf1 hB2 hB0) | (go_at_call 246; refine (hrp _).mono ?_; rintro e w3 ⟨rfl, hB3⟩; have HC := Lib.hid (HB.out.trans (hB3.mono HB.out.size)); clear hB3))
    go_ret
    exact ⟨rfl, HC.out⟩
end Go.Proofs.YteimilnecahifaaGreatDoor.Nm
