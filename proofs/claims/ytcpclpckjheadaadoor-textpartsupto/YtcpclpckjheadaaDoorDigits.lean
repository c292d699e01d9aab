/- The contract of the program's teller of numbers, to the bases 8, 10 and 16. -/
import Derived.Test.YtcpclpckjheadaaDoorFmt
import Derived.Test.YtcpclpckjheadaaDoorShelf
import Derived.WalkSmall
namespace Go.Proofs.YtcpclpckjheadaaDoor
open Go.RowKit

theorem retS_of {a b : List UInt8} (h : b = a) : Ending.returned (.string ⟨a.toArray⟩) = .returned (.string ⟨b.toArray⟩) := by rw [h]
theorem digL_neg (B u : Nat) (h : 1 ≤ u) : digL B (-(u : Int)) = 45 :: dgB B u := by
  rw [digL, if_pos (by omega), Int.natAbs_neg, Int.natAbs_natCast]
theorem digL_nonneg (B u : Nat) : digL B (u : Int) = dgB B u := by
  rw [digL, if_neg (by omega), Int.natAbs_natCast]
theorem wrapNeg (u : Nat) (h : u ≤ 9223372036854775808) : IntKind.u64.wrap (-(IntKind.u64.wrap (-(u : Int)))) = (u : Int) := by
  rw [IntKind.wrap_u64, IntKind.wrap_u64]; omega
theorem decDigits_dgB (u : Nat) : Lib.decDigits u = dgB 10 u := by
  induction u using Nat.strongRecOn with
  | ind u ih =>
    by_cases h : u < 10
    · rw [Lib.decDigits_one h, dgB_small h, sgn, if_pos h]
    · rw [Lib.decDigits, dif_neg h, dgB_step (by omega) (by omega), ih (u / 10) (by omega), sgn, if_pos (by omega)]
theorem itoa_digL (n : Int) : Lib.itoa n = digL 10 n := by
  unfold Lib.itoa digL
  by_cases h : n < 0
  · rw [if_pos h, if_pos h, decDigits_dgB]
  · rw [if_neg h, if_neg h, decDigits_dgB]
    congr 1
    omega
theorem below_grow (w : World) (k : Nat) (os : Array Obj) : Below w.heap.size w (Sort.grow (w.drewN k) os) := by
  have h : Below w.heap.size w (w.drewN k) := below_drewN (Below.refl _ _) k
  have hs : w.heap.size ≤ (w.drewN k).heap.size := h.size
  exact h.trans ⟨rfl, rfl, rfl, by simp, fun j hj => Sort.heap_grow_old _ _ (by omega)⟩

set_option maxHeartbeats 400000 in
theorem fi8P (u : Nat) (hu : u ≤ 9223372036854775807) (w : World) (h7 : w.cell? ⟨4, 7, none⟩ = some (.int .u8 3)) (hsz : 4 < w.heap.size) :
    Calls Tryd.prog 32 #[.int .i64 u, .int .i64 8] w fun e w' => e = .returned (.string ⟨(dgB 8 u).toArray⟩) ∧ ∃ o, w' = w.alloc o := by
  go_enter Tryd.func32, Tryd.ntmps32
  go_wp2_with (go_at_call 36; refine (fmt8P u (by omega) _ h7 hsz).mono ?_; rintro e w' ⟨rfl, o, rfl⟩)
  go_ret
  exact ⟨rfl, _, rfl⟩
set_option maxHeartbeats 400000 in
theorem fi8N (u : Nat) (h1 : 1 ≤ u) (hu : u ≤ 9223372036854775808) (w : World) (h7 : w.cell? ⟨4, 7, none⟩ = some (.int .u8 3)) (hsz : 4 < w.heap.size) :
    Calls Tryd.prog 32 #[.int .i64 (-(u : Int)), .int .i64 8] w fun e w' => e = .returned (.string ⟨(45 :: dgB 8 u).toArray⟩) ∧ ∃ o, w' = w.alloc o := by
  have hdec : decide (0 < u) = true := by simp; omega
  have HM := Lib.hid (wrapNeg u (by omega))
  go_enter Tryd.func32, Tryd.ntmps32
  go_wp2_with (go_at_call 36; refine (fmt8N u (by omega) _ HM.out _ h7 hsz).mono ?_; rintro e w' ⟨rfl, o, rfl⟩)
  go_ret
  exact ⟨rfl, _, rfl⟩
theorem sfi8 (n : Int) (h0 : -9223372036854775808 ≤ n) (h1 : n ≤ 9223372036854775807) (w : World) (h7 : w.cell? ⟨4, 7, none⟩ = some (.int .u8 3)) (hsz : 4 < w.heap.size) :
    Calls Tryd.prog 30 #[.int .i64 n, .int .i64 8] w fun e w' => e = .returned (.string ⟨(digL 8 n).toArray⟩) ∧ Below w.heap.size w w' := by
  by_cases hn : n < 0
  · obtain ⟨u, rfl⟩ : ∃ u : Nat, n = -(u : Int) := ⟨n.natAbs, by omega⟩
    have HD := Lib.hid (digL_neg 8 u (by omega))
    go_enter Tryd.func30, Tryd.ntmps30
    go_wp2_with (go_at_call 32; refine (fi8N u (by omega) (by omega) _ h7 hsz).mono ?_; rintro e w' ⟨rfl, o, rfl⟩)
    go_ret
    exact ⟨retS_of HD.out, (Below.refl _ _).alloc (Nat.le_refl _) _⟩
  · obtain ⟨u, rfl⟩ : ∃ u : Nat, n = u := ⟨n.toNat, by omega⟩
    have HD := Lib.hid (digL_nonneg 8 u)
    go_enter Tryd.func30, Tryd.ntmps30
    go_wp2_with (go_at_call 32; refine (fi8P u (by omega) _ h7 hsz).mono ?_; rintro e w' ⟨rfl, o, rfl⟩)
    go_ret
    exact ⟨retS_of HD.out, (Below.refl _ _).alloc (Nat.le_refl _) _⟩

set_option maxHeartbeats 400000 in
theorem fi16P (u : Nat) (hu : u ≤ 9223372036854775807) (w : World) (h7 : w.cell? ⟨4, 15, none⟩ = some (.int .u8 4)) (hsz : 4 < w.heap.size) :
    Calls Tryd.prog 32 #[.int .i64 u, .int .i64 16] w fun e w' => e = .returned (.string ⟨(dgB 16 u).toArray⟩) ∧ ∃ o, w' = w.alloc o := by
  go_enter Tryd.func32, Tryd.ntmps32
  go_wp2_with (go_at_call 36; refine (fmt16P u (by omega) _ h7 hsz).mono ?_; rintro e w' ⟨rfl, o, rfl⟩)
  go_ret
  exact ⟨rfl, _, rfl⟩
set_option maxHeartbeats 400000 in
theorem fi16N (u : Nat) (h1 : 1 ≤ u) (hu : u ≤ 9223372036854775808) (w : World) (h7 : w.cell? ⟨4, 15, none⟩ = some (.int .u8 4)) (hsz : 4 < w.heap.size) :
    Calls Tryd.prog 32 #[.int .i64 (-(u : Int)), .int .i64 16] w fun e w' => e = .returned (.string ⟨(45 :: dgB 16 u).toArray⟩) ∧ ∃ o, w' = w.alloc o := by
  have hdec : decide (0 < u) = true := by simp; omega
  have HM := Lib.hid (wrapNeg u (by omega))
  go_enter Tryd.func32, Tryd.ntmps32
  go_wp2_with (go_at_call 36; refine (fmt16N u (by omega) _ HM.out _ h7 hsz).mono ?_; rintro e w' ⟨rfl, o, rfl⟩)
  go_ret
  exact ⟨rfl, _, rfl⟩
theorem sfi16 (n : Int) (h0 : -9223372036854775808 ≤ n) (h1 : n ≤ 9223372036854775807) (w : World) (h7 : w.cell? ⟨4, 15, none⟩ = some (.int .u8 4)) (hsz : 4 < w.heap.size) :
    Calls Tryd.prog 30 #[.int .i64 n, .int .i64 16] w fun e w' => e = .returned (.string ⟨(digL 16 n).toArray⟩) ∧ Below w.heap.size w w' := by
  by_cases hn : n < 0
  · obtain ⟨u, rfl⟩ : ∃ u : Nat, n = -(u : Int) := ⟨n.natAbs, by omega⟩
    have HD := Lib.hid (digL_neg 16 u (by omega))
    go_enter Tryd.func30, Tryd.ntmps30
    go_wp2_with (go_at_call 32; refine (fi16N u (by omega) (by omega) _ h7 hsz).mono ?_; rintro e w' ⟨rfl, o, rfl⟩)
    go_ret
    exact ⟨retS_of HD.out, (Below.refl _ _).alloc (Nat.le_refl _) _⟩
  · obtain ⟨u, rfl⟩ : ∃ u : Nat, n = u := ⟨n.toNat, by omega⟩
    have HD := Lib.hid (digL_nonneg 16 u)
    go_enter Tryd.func30, Tryd.ntmps30
    go_wp2_with (go_at_call 32; refine (fi16P u (by omega) _ h7 hsz).mono ?_; rintro e w' ⟨rfl, o, rfl⟩)
    go_ret
    exact ⟨retS_of HD.out, (Below.refl _ _).alloc (Nat.le_refl _) _⟩

/-- What the program's number teller says to a base. -/
def digAt (base n : Int) : List UInt8 := if base = 8 then digL 8 n else if base = 10 then digL 10 n else if base = 16 then digL 16 n else []

set_option maxHeartbeats 400000 in
theorem digits_any (n base : Int) (h0 : -9223372036854775808 ≤ n) (h1 : n ≤ 9223372036854775807) (w : World) (h7 : w.cell? ⟨4, 7, none⟩ = some (.int .u8 3)) (h15 : w.cell? ⟨4, 15, none⟩ = some (.int .u8 4)) (hsz : 4 < w.heap.size) (htab : Lib.TabIs Tryd.prog w "internal/strconv.uint64pow10" .u64 Lib.pow10Tab) :
    Calls Tryd.prog 17 #[.int .i64 n, .int .i64 base] w fun e w' => e = .returned (.string ⟨(digAt base n).toArray⟩) ∧ Below w.heap.size w w' := by
  have HT := Lib.hid htab
  clear htab
  by_cases b8 : base = 8
  · subst b8
    go_enter Tryd.func17, Tryd.ntmps17
    go_wp2_with (go_at_call 30; refine (sfi8 n h0 h1 _ h7 hsz).mono ?_; rintro e w' ⟨rfl, hb⟩)
    go_ret
    exact ⟨rfl, hb⟩
  by_cases b10 : base = 10
  · subst b10
    go_enter Tryd.func17, Tryd.ntmps17
    go_wp2_with (go_at_call 30; refine (Tryd.strconv_FormatInt_10 n h0 h1 _ HT.out).mono ?_; rintro e w' ⟨rfl, k, os, rfl⟩)
    go_ret
    exact ⟨retS_of (itoa_digL n).symm, below_grow _ _ _⟩
  by_cases b16 : base = 16
  · subst b16
    go_enter Tryd.func17, Tryd.ntmps17
    go_wp2_with (go_at_call 30; refine (sfi16 n h0 h1 _ h15 hsz).mono ?_; rintro e w' ⟨rfl, hb⟩)
    go_ret
    exact ⟨rfl, hb⟩
  have HD : Hid (digAt base n = []) := by show digAt base n = []; rw [digAt, if_neg b8, if_neg b10, if_neg b16]
  have e8 : (base == 8) = false := by rw [beq_eq_false_iff_ne]; exact b8
  have e10 : (base == 10) = false := by rw [beq_eq_false_iff_ne]; exact b10
  have e16 : (base == 16) = false := by rw [beq_eq_false_iff_ne]; exact b16
  clear b8 b10 b16
  go_enter Tryd.func17, Tryd.ntmps17
  go_wp2
  go_ret
  exact ⟨retS_of HD.out, Below.refl _ _⟩
end Go.Proofs.YtcpclpckjheadaaDoor
