/- The program's kinds of bytes. -/
import Derived.Test.YtlekfdkahlobiaaGreatDoorHJoin
namespace Go.Proofs.YtlekfdkahlobiaaGreatDoor.Kd
open Go.Proofs.YtlekfdkahlobiaaGreatDoor.Tr
open Go.RowKit

section
variable {c : Nat} {w : World}
/-- A call of a kind of bytes. -/
abbrev Kind (f : Nat) (caps : Array Value) (p : Nat → Bool) (w : World) : Prop := ∀ c : Nat, c < 256 → Calls Tryz.prog f (#[.int .u8 (c : Int)] ++ caps) w fun e w' => e = .returned (.bool (p c)) ∧ w' = w
theorem kind_of {f : Nat} {p : Nat → Bool} (h : ∀ c : Nat, c < 256 → ∀ P, Hid (P = p c) → Calls Tryz.prog f #[.int .u8 (c : Int)] w fun e w' => e = .returned (.bool P) ∧ w' = w) : Kind f #[] p w := by
  intro c hc
  have := h c hc (p c) rfl
  simpa using this
theorem kind_at {f : Nat} {p : Nat → Bool} (h : Kind f #[] p w) (c : Nat) (hc : c < 256) : Calls Tryz.prog f #[.int .u8 (c : Int)] w fun e w' => e = .returned (.bool (p c)) ∧ w' = w := by
  have := h c hc
  simpa using this
end
theorem ret_t {b : Bool} (h : b = true) : Ending.returned (.bool true) = .returned (.bool b) := by rw [h]
theorem ret_f {b : Bool} (h : ¬ b = true) : Ending.returned (.bool false) = .returned (.bool b) := by rw [Bool.not_eq_true] at h; rw [h]

theorem k_isUpper (c : Nat) : (upperB) c = true ↔ (65 ≤ c ∧ c ≤ 90) := by simp [upperB, within]
set_option maxRecDepth 100000 in
set_option maxHeartbeats 2000000 in
theorem isUpper_c (w : World) : Kind 102 #[] (upperB) w := by
  refine kind_of fun c hc P HP => ?_
  by_cases h0 : 65 ≤ c
  · have n0 : (65 : Int) ≤ (c : Int) := by omega
    by_cases h1 : c ≤ 90
    · have n1 : (c : Int) ≤ 90 := by omega
      go_enter Tryz.func102, Tryz.ntmps102
      go_wp2
      go_ret
      exact ⟨by first | exact ret_t (HP.out.trans ((k_isUpper c).2 (by omega))) | exact ret_f (fun h => by have := (k_isUpper c).1 (HP.out.symm.trans h); omega), rfl⟩
    · have n1 : ¬ (c : Int) ≤ 90 := by omega
      go_enter Tryz.func102, Tryz.ntmps102
      go_wp2
      go_ret
      exact ⟨by first | exact ret_t (HP.out.trans ((k_isUpper c).2 (by omega))) | exact ret_f (fun h => by have := (k_isUpper c).1 (HP.out.symm.trans h); omega), rfl⟩
  · have n0 : ¬ (65 : Int) ≤ (c : Int) := by omega
    by_cases h1 : c ≤ 90
    · have n1 : (c : Int) ≤ 90 := by omega
      go_enter Tryz.func102, Tryz.ntmps102
      go_wp2
      go_ret
      exact ⟨by first | exact ret_t (HP.out.trans ((k_isUpper c).2 (by omega))) | exact ret_f (fun h => by have := (k_isUpper c).1 (HP.out.symm.trans h); omega), rfl⟩
    · have n1 : ¬ (c : Int) ≤ 90 := by omega
      go_enter Tryz.func102, Tryz.ntmps102
      go_wp2
      go_ret
      exact ⟨by first | exact ret_t (HP.out.trans ((k_isUpper c).2 (by omega))) | exact ret_f (fun h => by have := (k_isUpper c).1 (HP.out.symm.trans h); omega), rfl⟩
theorem k_isLower (c : Nat) : (lowerB) c = true ↔ (97 ≤ c ∧ c ≤ 122) := by simp [lowerB, within]
set_option maxRecDepth 100000 in
set_option maxHeartbeats 2000000 in
theorem isLower_c (w : World) : Kind 103 #[] (lowerB) w := by
  refine kind_of fun c hc P HP => ?_
  by_cases h0 : 97 ≤ c
  · have n0 : (97 : Int) ≤ (c : Int) := by omega
    by_cases h1 : c ≤ 122
    · have n1 : (c : Int) ≤ 122 := by omega
      go_enter Tryz.func103, Tryz.ntmps103
      go_wp2
      go_ret
      exact ⟨by first | exact ret_t (HP.out.trans ((k_isLower c).2 (by omega))) | exact ret_f (fun h => by have := (k_isLower c).1 (HP.out.symm.trans h); omega), rfl⟩
    · have n1 : ¬ (c : Int) ≤ 122 := by omega
      go_enter Tryz.func103, Tryz.ntmps103
      go_wp2
      go_ret
      exact ⟨by first | exact ret_t (HP.out.trans ((k_isLower c).2 (by omega))) | exact ret_f (fun h => by have := (k_isLower c).1 (HP.out.symm.trans h); omega), rfl⟩
  · have n0 : ¬ (97 : Int) ≤ (c : Int) := by omega
    by_cases h1 : c ≤ 122
    · have n1 : (c : Int) ≤ 122 := by omega
      go_enter Tryz.func103, Tryz.ntmps103
      go_wp2
      go_ret
      exact ⟨by first | exact ret_t (HP.out.trans ((k_isLower c).2 (by omega))) | exact ret_f (fun h => by have := (k_isLower c).1 (HP.out.symm.trans h); omega), rfl⟩
    · have n1 : ¬ (c : Int) ≤ 122 := by omega
      go_enter Tryz.func103, Tryz.ntmps103
      go_wp2
      go_ret
      exact ⟨by first | exact ret_t (HP.out.trans ((k_isLower c).2 (by omega))) | exact ret_f (fun h => by have := (k_isLower c).1 (HP.out.symm.trans h); omega), rfl⟩
theorem k_isDigit (c : Nat) : (digitB) c = true ↔ (48 ≤ c ∧ c ≤ 57) := by simp [digitB, within]
set_option maxRecDepth 100000 in
set_option maxHeartbeats 2000000 in
theorem isDigit_c (w : World) : Kind 91 #[] (digitB) w := by
  refine kind_of fun c hc P HP => ?_
  by_cases h0 : 48 ≤ c
  · have n0 : (48 : Int) ≤ (c : Int) := by omega
    by_cases h1 : c ≤ 57
    · have n1 : (c : Int) ≤ 57 := by omega
      go_enter Tryz.func91, Tryz.ntmps91
      go_wp2
      go_ret
      exact ⟨by first | exact ret_t (HP.out.trans ((k_isDigit c).2 (by omega))) | exact ret_f (fun h => by have := (k_isDigit c).1 (HP.out.symm.trans h); omega), rfl⟩
    · have n1 : ¬ (c : Int) ≤ 57 := by omega
      go_enter Tryz.func91, Tryz.ntmps91
      go_wp2
      go_ret
      exact ⟨by first | exact ret_t (HP.out.trans ((k_isDigit c).2 (by omega))) | exact ret_f (fun h => by have := (k_isDigit c).1 (HP.out.symm.trans h); omega), rfl⟩
  · have n0 : ¬ (48 : Int) ≤ (c : Int) := by omega
    by_cases h1 : c ≤ 57
    · have n1 : (c : Int) ≤ 57 := by omega
      go_enter Tryz.func91, Tryz.ntmps91
      go_wp2
      go_ret
      exact ⟨by first | exact ret_t (HP.out.trans ((k_isDigit c).2 (by omega))) | exact ret_f (fun h => by have := (k_isDigit c).1 (HP.out.symm.trans h); omega), rfl⟩
    · have n1 : ¬ (c : Int) ≤ 57 := by omega
      go_enter Tryz.func91, Tryz.ntmps91
      go_wp2
      go_ret
      exact ⟨by first | exact ret_t (HP.out.trans ((k_isDigit c).2 (by omega))) | exact ret_f (fun h => by have := (k_isDigit c).1 (HP.out.symm.trans h); omega), rfl⟩
theorem k_isGraph (c : Nat) : (within 33 126) c = true ↔ (33 ≤ c ∧ c ≤ 126) := by simp [within]
set_option maxRecDepth 100000 in
set_option maxHeartbeats 2000000 in
theorem isGraph_c (w : World) : Kind 110 #[] (within 33 126) w := by
  refine kind_of fun c hc P HP => ?_
  by_cases h0 : 33 ≤ c
  · have n0 : (33 : Int) ≤ (c : Int) := by omega
    by_cases h1 : c ≤ 126
    · have n1 : (c : Int) ≤ 126 := by omega
      go_enter Tryz.func110, Tryz.ntmps110
      go_wp2
      go_ret
      exact ⟨by first | exact ret_t (HP.out.trans ((k_isGraph c).2 (by omega))) | exact ret_f (fun h => by have := (k_isGraph c).1 (HP.out.symm.trans h); omega), rfl⟩
    · have n1 : ¬ (c : Int) ≤ 126 := by omega
      go_enter Tryz.func110, Tryz.ntmps110
      go_wp2
      go_ret
      exact ⟨by first | exact ret_t (HP.out.trans ((k_isGraph c).2 (by omega))) | exact ret_f (fun h => by have := (k_isGraph c).1 (HP.out.symm.trans h); omega), rfl⟩
  · have n0 : ¬ (33 : Int) ≤ (c : Int) := by omega
    by_cases h1 : c ≤ 126
    · have n1 : (c : Int) ≤ 126 := by omega
      go_enter Tryz.func110, Tryz.ntmps110
      go_wp2
      go_ret
      exact ⟨by first | exact ret_t (HP.out.trans ((k_isGraph c).2 (by omega))) | exact ret_f (fun h => by have := (k_isGraph c).1 (HP.out.symm.trans h); omega), rfl⟩
    · have n1 : ¬ (c : Int) ≤ 126 := by omega
      go_enter Tryz.func110, Tryz.ntmps110
      go_wp2
      go_ret
      exact ⟨by first | exact ret_t (HP.out.trans ((k_isGraph c).2 (by omega))) | exact ret_f (fun h => by have := (k_isGraph c).1 (HP.out.symm.trans h); omega), rfl⟩
theorem k_isAlpha (c : Nat) : (upperB c || lowerB c) = true ↔ (65 ≤ c ∧ c ≤ 90) ∨ (97 ≤ c ∧ c ≤ 122) := by simp [upperB, lowerB, within]
set_option maxRecDepth 100000 in
set_option maxHeartbeats 2000000 in
theorem isAlpha_c (w : World) : Kind 92 #[] (fun c => upperB c || lowerB c) w := by
  refine kind_of fun c hc P HP => ?_
  have k0 := kind_at (isUpper_c w) c hc
  have HK0 : Hid (Calls Tryz.prog 102 #[.int .u8 (c : Int)] w fun e w' => e = .returned (.bool ((upperB) c)) ∧ w' = w) := k0
  clear k0
  have k1 := kind_at (isLower_c w) c hc
  have HK1 : Hid (Calls Tryz.prog 103 #[.int .u8 (c : Int)] w fun e w' => e = .returned (.bool ((lowerB) c)) ∧ w' = w) := k1
  clear k1
  cases q0 : (upperB) c with
  | true =>
    cases q1 : (lowerB) c with
    | true =>
      go_enter Tryz.func92, Tryz.ntmps92
      go_wp2_with (first | (go_at_call 102; refine HK0.out.mono ?_; rintro e w1 ⟨rfl, hw1⟩; rw [hw1, q0]; clear hw1) | (go_at_call 103; refine HK1.out.mono ?_; rintro e w1 ⟨rfl, hw1⟩; rw [hw1, q1]; clear hw1))
      go_ret
      have r0 := k_isUpper c
      rw [q0] at r0
      simp at r0
      have r1 := k_isLower c
      rw [q1] at r1
      simp at r1
      exact ⟨by first | exact ret_t (HP.out.trans ((k_isAlpha c).2 (by omega))) | exact ret_f (fun h => by have := (k_isAlpha c).1 (HP.out.symm.trans h); omega), rfl⟩
    | false =>
      go_enter Tryz.func92, Tryz.ntmps92
      go_wp2_with (first | (go_at_call 102; refine HK0.out.mono ?_; rintro e w1 ⟨rfl, hw1⟩; rw [hw1, q0]; clear hw1) | (go_at_call 103; refine HK1.out.mono ?_; rintro e w1 ⟨rfl, hw1⟩; rw [hw1, q1]; clear hw1))
      go_ret
      have r0 := k_isUpper c
      rw [q0] at r0
      simp at r0
      have r1 := k_isLower c
      rw [q1] at r1
      simp at r1
      exact ⟨by first | exact ret_t (HP.out.trans ((k_isAlpha c).2 (by omega))) | exact ret_f (fun h => by have := (k_isAlpha c).1 (HP.out.symm.trans h); omega), rfl⟩
  | false =>
    cases q1 : (lowerB) c with
    | true =>
      go_enter Tryz.func92, Tryz.ntmps92
      go_wp2_with (first | (go_at_call 102; refine HK0.out.mono ?_; rintro e w1 ⟨rfl, hw1⟩; rw [hw1, q0]; clear hw1) | (go_at_call 103; refine HK1.out.mono ?_; rintro e w1 ⟨rfl, hw1⟩; rw [hw1, q1]; clear hw1))
      go_ret
      have r0 := k_isUpper c
      rw [q0] at r0
      simp at r0
      have r1 := k_isLower c
      rw [q1] at r1
      simp at r1
      exact ⟨by first | exact ret_t (HP.out.trans ((k_isAlpha c).2 (by omega))) | exact ret_f (fun h => by have := (k_isAlpha c).1 (HP.out.symm.trans h); omega), rfl⟩
    | false =>
      go_enter Tryz.func92, Tryz.ntmps92
      go_wp2_with (first | (go_at_call 102; refine HK0.out.mono ?_; rintro e w1 ⟨rfl, hw1⟩; rw [hw1, q0]; clear hw1) | (go_at_call 103; refine HK1.out.mono ?_; rintro e w1 ⟨rfl, hw1⟩; rw [hw1, q1]; clear hw1))
      go_ret
      have r0 := k_isUpper c
      rw [q0] at r0
      simp at r0
      have r1 := k_isLower c
      rw [q1] at r1
      simp at r1
      exact ⟨by first | exact ret_t (HP.out.trans ((k_isAlpha c).2 (by omega))) | exact ret_f (fun h => by have := (k_isAlpha c).1 (HP.out.symm.trans h); omega), rfl⟩
theorem k_isAlnum (c : Nat) : (upperB c || lowerB c || digitB c) = true ↔ ((65 ≤ c ∧ c ≤ 90) ∨ (97 ≤ c ∧ c ≤ 122)) ∨ (48 ≤ c ∧ c ≤ 57) := by simp [upperB, lowerB, digitB, within]
set_option maxRecDepth 100000 in
set_option maxHeartbeats 2000000 in
theorem isAlnum_c (w : World) : Kind 80 #[] (fun c => upperB c || lowerB c || digitB c) w := by
  refine kind_of fun c hc P HP => ?_
  have k0 := kind_at (isAlpha_c w) c hc
  have HK0 : Hid (Calls Tryz.prog 92 #[.int .u8 (c : Int)] w fun e w' => e = .returned (.bool ((upperB c || lowerB c))) ∧ w' = w) := k0
  clear k0
  have k1 := kind_at (isDigit_c w) c hc
  have HK1 : Hid (Calls Tryz.prog 91 #[.int .u8 (c : Int)] w fun e w' => e = .returned (.bool ((digitB) c)) ∧ w' = w) := k1
  clear k1
  cases q0 : (upperB c || lowerB c) with
  | true =>
    cases q1 : (digitB) c with
    | true =>
      go_enter Tryz.func80, Tryz.ntmps80
      go_wp2_with (first | (go_at_call 92; refine HK0.out.mono ?_; rintro e w1 ⟨rfl, hw1⟩; rw [hw1, q0]; clear hw1) | (go_at_call 91; refine HK1.out.mono ?_; rintro e w1 ⟨rfl, hw1⟩; rw [hw1, q1]; clear hw1))
      go_ret
      have r0 := k_isAlpha c
      rw [q0] at r0
      simp at r0
      have r1 := k_isDigit c
      rw [q1] at r1
      simp at r1
      exact ⟨by first | exact ret_t (HP.out.trans ((k_isAlnum c).2 (by omega))) | exact ret_f (fun h => by have := (k_isAlnum c).1 (HP.out.symm.trans h); omega), rfl⟩
    | false =>
      go_enter Tryz.func80, Tryz.ntmps80
      go_wp2_with (first | (go_at_call 92; refine HK0.out.mono ?_; rintro e w1 ⟨rfl, hw1⟩; rw [hw1, q0]; clear hw1) | (go_at_call 91; refine HK1.out.mono ?_; rintro e w1 ⟨rfl, hw1⟩; rw [hw1, q1]; clear hw1))
      go_ret
      have r0 := k_isAlpha c
      rw [q0] at r0
      simp at r0
      have r1 := k_isDigit c
      rw [q1] at r1
      simp at r1
      exact ⟨by first | exact ret_t (HP.out.trans ((k_isAlnum c).2 (by omega))) | exact ret_f (fun h => by have := (k_isAlnum c).1 (HP.out.symm.trans h); omega), rfl⟩
  | false =>
    cases q1 : (digitB) c with
    | true =>
      go_enter Tryz.func80, Tryz.ntmps80
      go_wp2_with (first | (go_at_call 92; refine HK0.out.mono ?_; rintro e w1 ⟨rfl, hw1⟩; rw [hw1, q0]; clear hw1) | (go_at_call 91; refine HK1.out.mono ?_; rintro e w1 ⟨rfl, hw1⟩; rw [hw1, q1]; clear hw1))
      go_ret
      have r0 := k_isAlpha c
      rw [q0] at r0
      simp at r0
      have r1 := k_isDigit c
      rw [q1] at r1
      simp at r1
      exact ⟨by first | exact ret_t (HP.out.trans ((k_isAlnum c).2 (by omega))) | exact ret_f (fun h => by have := (k_isAlnum c).1 (HP.out.symm.trans h); omega), rfl⟩
    | false =>
      go_enter Tryz.func80, Tryz.ntmps80
      go_wp2_with (first | (go_at_call 92; refine HK0.out.mono ?_; rintro e w1 ⟨rfl, hw1⟩; rw [hw1, q0]; clear hw1) | (go_at_call 91; refine HK1.out.mono ?_; rintro e w1 ⟨rfl, hw1⟩; rw [hw1, q1]; clear hw1))
      go_ret
      have r0 := k_isAlpha c
      rw [q0] at r0
      simp at r0
      have r1 := k_isDigit c
      rw [q1] at r1
      simp at r1
      exact ⟨by first | exact ret_t (HP.out.trans ((k_isAlnum c).2 (by omega))) | exact ret_f (fun h => by have := (k_isAlnum c).1 (HP.out.symm.trans h); omega), rfl⟩
theorem k_blank (c : Nat) : (c == 9 || c == 32) = true ↔ c = 9 ∨ c = 32 := by simp
set_option maxRecDepth 100000 in
set_option maxHeartbeats 2000000 in
theorem blank_c (w : World) : Kind 108 #[] (fun c => c == 9 || c == 32) w := by
  refine kind_of fun c hc P HP => ?_
  by_cases h0 : c = 9
  · have n0 : (c : Int) = 9 := by omega
    have m0 : ((c : Int) == 9) = true := by rw [beq_iff_eq]; omega
    by_cases h1 : c = 32
    · have n1 : (c : Int) = 32 := by omega
      have m1 : ((c : Int) == 32) = true := by rw [beq_iff_eq]; omega
      go_enter Tryz.func108, Tryz.ntmps108
      go_wp2
      go_ret
      exact ⟨by first | exact ret_t (HP.out.trans ((k_blank c).2 (by omega))) | exact ret_f (fun h => by have := (k_blank c).1 (HP.out.symm.trans h); omega), rfl⟩
    · have n1 : ¬ (c : Int) = 32 := by omega
      have m1 : ((c : Int) == 32) = false := by rw [beq_eq_false_iff_ne]; omega
      go_enter Tryz.func108, Tryz.ntmps108
      go_wp2
      go_ret
      exact ⟨by first | exact ret_t (HP.out.trans ((k_blank c).2 (by omega))) | exact ret_f (fun h => by have := (k_blank c).1 (HP.out.symm.trans h); omega), rfl⟩
  · have n0 : ¬ (c : Int) = 9 := by omega
    have m0 : ((c : Int) == 9) = false := by rw [beq_eq_false_iff_ne]; omega
    by_cases h1 : c = 32
    · have n1 : (c : Int) = 32 := by omega
      have m1 : ((c : Int) == 32) = true := by rw [beq_iff_eq]; omega
      go_enter Tryz.func108, Tryz.ntmps108
      go_wp2
      go_ret
      exact ⟨by first | exact ret_t (HP.out.trans ((k_blank c).2 (by omega))) | exact ret_f (fun h => by have := (k_blank c).1 (HP.out.symm.trans h); omega), rfl⟩
    · have n1 : ¬ (c : Int) = 32 := by omega
      have m1 : ((c : Int) == 32) = false := by rw [beq_eq_false_iff_ne]; omega
      go_enter Tryz.func108, Tryz.ntmps108
      go_wp2
      go_ret
      exact ⟨by first | exact ret_t (HP.out.trans ((k_blank c).2 (by omega))) | exact ret_f (fun h => by have := (k_blank c).1 (HP.out.symm.trans h); omega), rfl⟩
theorem k_cntrl (c : Nat) : (decide (c < 32) || c == 127) = true ↔ c < 32 ∨ c = 127 := by simp
set_option maxRecDepth 100000 in
set_option maxHeartbeats 2000000 in
theorem cntrl_c (w : World) : Kind 109 #[] (fun c => decide (c < 32) || c == 127) w := by
  refine kind_of fun c hc P HP => ?_
  by_cases h0 : c < 32
  · have n0 : (c : Int) < 32 := by omega
    by_cases h1 : c = 127
    · have n1 : (c : Int) = 127 := by omega
      have m1 : ((c : Int) == 127) = true := by rw [beq_iff_eq]; omega
      go_enter Tryz.func109, Tryz.ntmps109
      go_wp2
      go_ret
      exact ⟨by first | exact ret_t (HP.out.trans ((k_cntrl c).2 (by omega))) | exact ret_f (fun h => by have := (k_cntrl c).1 (HP.out.symm.trans h); omega), rfl⟩
    · have n1 : ¬ (c : Int) = 127 := by omega
      have m1 : ((c : Int) == 127) = false := by rw [beq_eq_false_iff_ne]; omega
      go_enter Tryz.func109, Tryz.ntmps109
      go_wp2
      go_ret
      exact ⟨by first | exact ret_t (HP.out.trans ((k_cntrl c).2 (by omega))) | exact ret_f (fun h => by have := (k_cntrl c).1 (HP.out.symm.trans h); omega), rfl⟩
  · have n0 : ¬ (c : Int) < 32 := by omega
    by_cases h1 : c = 127
    · have n1 : (c : Int) = 127 := by omega
      have m1 : ((c : Int) == 127) = true := by rw [beq_iff_eq]; omega
      go_enter Tryz.func109, Tryz.ntmps109
      go_wp2
      go_ret
      exact ⟨by first | exact ret_t (HP.out.trans ((k_cntrl c).2 (by omega))) | exact ret_f (fun h => by have := (k_cntrl c).1 (HP.out.symm.trans h); omega), rfl⟩
    · have n1 : ¬ (c : Int) = 127 := by omega
      have m1 : ((c : Int) == 127) = false := by rw [beq_eq_false_iff_ne]; omega
      go_enter Tryz.func109, Tryz.ntmps109
      go_wp2
      go_ret
      exact ⟨by first | exact ret_t (HP.out.trans ((k_cntrl c).2 (by omega))) | exact ret_f (fun h => by have := (k_cntrl c).1 (HP.out.symm.trans h); omega), rfl⟩
theorem k_print (c : Nat) : (within 32 126) c = true ↔ (32 ≤ c ∧ c ≤ 126) := by simp [within]
set_option maxRecDepth 100000 in
set_option maxHeartbeats 2000000 in
theorem print_c (w : World) : Kind 111 #[] (within 32 126) w := by
  refine kind_of fun c hc P HP => ?_
  have k0 := kind_at (isGraph_c w) c hc
  have HK0 : Hid (Calls Tryz.prog 110 #[.int .u8 (c : Int)] w fun e w' => e = .returned (.bool ((within 33 126) c)) ∧ w' = w) := k0
  clear k0
  by_cases h0 : c = 32
  · have n0 : (c : Int) = 32 := by omega
    have m0 : ((c : Int) == 32) = true := by rw [beq_iff_eq]; omega
    cases q0 : (within 33 126) c with
    | true =>
      go_enter Tryz.func111, Tryz.ntmps111
      go_wp2_with (go_at_call 110; refine HK0.out.mono ?_; rintro e w1 ⟨rfl, hw1⟩; rw [hw1, q0]; clear hw1)
      go_ret
      have r0 := k_isGraph c
      rw [q0] at r0
      simp at r0
      exact ⟨by first | exact ret_t (HP.out.trans ((k_print c).2 (by omega))) | exact ret_f (fun h => by have := (k_print c).1 (HP.out.symm.trans h); omega), rfl⟩
    | false =>
      go_enter Tryz.func111, Tryz.ntmps111
      go_wp2_with (go_at_call 110; refine HK0.out.mono ?_; rintro e w1 ⟨rfl, hw1⟩; rw [hw1, q0]; clear hw1)
      go_ret
      have r0 := k_isGraph c
      rw [q0] at r0
      simp at r0
      exact ⟨by first | exact ret_t (HP.out.trans ((k_print c).2 (by omega))) | exact ret_f (fun h => by have := (k_print c).1 (HP.out.symm.trans h); omega), rfl⟩
  · have n0 : ¬ (c : Int) = 32 := by omega
    have m0 : ((c : Int) == 32) = false := by rw [beq_eq_false_iff_ne]; omega
    cases q0 : (within 33 126) c with
    | true =>
      go_enter Tryz.func111, Tryz.ntmps111
      go_wp2_with (go_at_call 110; refine HK0.out.mono ?_; rintro e w1 ⟨rfl, hw1⟩; rw [hw1, q0]; clear hw1)
      go_ret
      have r0 := k_isGraph c
      rw [q0] at r0
      simp at r0
      exact ⟨by first | exact ret_t (HP.out.trans ((k_print c).2 (by omega))) | exact ret_f (fun h => by have := (k_print c).1 (HP.out.symm.trans h); omega), rfl⟩
    | false =>
      go_enter Tryz.func111, Tryz.ntmps111
      go_wp2_with (go_at_call 110; refine HK0.out.mono ?_; rintro e w1 ⟨rfl, hw1⟩; rw [hw1, q0]; clear hw1)
      go_ret
      have r0 := k_isGraph c
      rw [q0] at r0
      simp at r0
      exact ⟨by first | exact ret_t (HP.out.trans ((k_print c).2 (by omega))) | exact ret_f (fun h => by have := (k_print c).1 (HP.out.symm.trans h); omega), rfl⟩
theorem k_punct (c : Nat) : (within 33 126 c && !upperB c && !lowerB c && !digitB c) = true ↔ ((33 ≤ c ∧ c ≤ 126) ∧ ¬ (65 ≤ c ∧ c ≤ 90)) ∧ ¬ (97 ≤ c ∧ c ≤ 122) ∧ ¬ (48 ≤ c ∧ c ≤ 57) := by simp [upperB, lowerB, digitB, within]; omega
set_option maxRecDepth 100000 in
set_option maxHeartbeats 2000000 in
theorem punct_c (w : World) : Kind 112 #[] (fun c => within 33 126 c && !upperB c && !lowerB c && !digitB c) w := by
  refine kind_of fun c hc P HP => ?_
  have k0 := kind_at (isGraph_c w) c hc
  have HK0 : Hid (Calls Tryz.prog 110 #[.int .u8 (c : Int)] w fun e w' => e = .returned (.bool ((within 33 126) c)) ∧ w' = w) := k0
  clear k0
  have k1 := kind_at (isAlnum_c w) c hc
  have HK1 : Hid (Calls Tryz.prog 80 #[.int .u8 (c : Int)] w fun e w' => e = .returned (.bool ((upperB c || lowerB c || digitB c))) ∧ w' = w) := k1
  clear k1
  cases q0 : (within 33 126) c with
  | true =>
    cases q1 : (upperB c || lowerB c || digitB c) with
    | true =>
      go_enter Tryz.func112, Tryz.ntmps112
      go_wp2_with (first | (go_at_call 110; refine HK0.out.mono ?_; rintro e w1 ⟨rfl, hw1⟩; rw [hw1, q0]; clear hw1) | (go_at_call 80; refine HK1.out.mono ?_; rintro e w1 ⟨rfl, hw1⟩; rw [hw1, q1]; clear hw1))
      go_ret
      have r0 := k_isGraph c
      rw [q0] at r0
      simp at r0
      have r1 := k_isAlnum c
      rw [q1] at r1
      simp at r1
      exact ⟨by first | exact ret_t (HP.out.trans ((k_punct c).2 (by omega))) | exact ret_f (fun h => by have := (k_punct c).1 (HP.out.symm.trans h); omega), rfl⟩
    | false =>
      go_enter Tryz.func112, Tryz.ntmps112
      go_wp2_with (first | (go_at_call 110; refine HK0.out.mono ?_; rintro e w1 ⟨rfl, hw1⟩; rw [hw1, q0]; clear hw1) | (go_at_call 80; refine HK1.out.mono ?_; rintro e w1 ⟨rfl, hw1⟩; rw [hw1, q1]; clear hw1))
      go_ret
      have r0 := k_isGraph c
      rw [q0] at r0
      simp at r0
      have r1 := k_isAlnum c
      rw [q1] at r1
      simp at r1
      exact ⟨by first | exact ret_t (HP.out.trans ((k_punct c).2 (by omega))) | exact ret_f (fun h => by have := (k_punct c).1 (HP.out.symm.trans h); omega), rfl⟩
  | false =>
    cases q1 : (upperB c || lowerB c || digitB c) with
    | true =>
      go_enter Tryz.func112, Tryz.ntmps112
      go_wp2_with (first | (go_at_call 110; refine HK0.out.mono ?_; rintro e w1 ⟨rfl, hw1⟩; rw [hw1, q0]; clear hw1) | (go_at_call 80; refine HK1.out.mono ?_; rintro e w1 ⟨rfl, hw1⟩; rw [hw1, q1]; clear hw1))
      go_ret
      have r0 := k_isGraph c
      rw [q0] at r0
      simp at r0
      have r1 := k_isAlnum c
      rw [q1] at r1
      simp at r1
      exact ⟨by first | exact ret_t (HP.out.trans ((k_punct c).2 (by omega))) | exact ret_f (fun h => by have := (k_punct c).1 (HP.out.symm.trans h); omega), rfl⟩
    | false =>
      go_enter Tryz.func112, Tryz.ntmps112
      go_wp2_with (first | (go_at_call 110; refine HK0.out.mono ?_; rintro e w1 ⟨rfl, hw1⟩; rw [hw1, q0]; clear hw1) | (go_at_call 80; refine HK1.out.mono ?_; rintro e w1 ⟨rfl, hw1⟩; rw [hw1, q1]; clear hw1))
      go_ret
      have r0 := k_isGraph c
      rw [q0] at r0
      simp at r0
      have r1 := k_isAlnum c
      rw [q1] at r1
      simp at r1
      exact ⟨by first | exact ret_t (HP.out.trans ((k_punct c).2 (by omega))) | exact ret_f (fun h => by have := (k_punct c).1 (HP.out.symm.trans h); omega), rfl⟩
theorem k_space (c : Nat) : (within 9 13 c || c == 32) = true ↔ (9 ≤ c ∧ c ≤ 13) ∨ c = 32 := by simp [within]
set_option maxRecDepth 100000 in
set_option maxHeartbeats 2000000 in
theorem space_c (w : World) : Kind 113 #[] (fun c => within 9 13 c || c == 32) w := by
  refine kind_of fun c hc P HP => ?_
  by_cases h0 : 9 ≤ c
  · have n0 : (9 : Int) ≤ (c : Int) := by omega
    by_cases h1 : c ≤ 13
    · have n1 : (c : Int) ≤ 13 := by omega
      by_cases h2 : c = 32
      · have n2 : (c : Int) = 32 := by omega
        have m2 : ((c : Int) == 32) = true := by rw [beq_iff_eq]; omega
        go_enter Tryz.func113, Tryz.ntmps113
        go_wp2
        go_ret
        exact ⟨by first | exact ret_t (HP.out.trans ((k_space c).2 (by omega))) | exact ret_f (fun h => by have := (k_space c).1 (HP.out.symm.trans h); omega), rfl⟩
      · have n2 : ¬ (c : Int) = 32 := by omega
        have m2 : ((c : Int) == 32) = false := by rw [beq_eq_false_iff_ne]; omega
        go_enter Tryz.func113, Tryz.ntmps113
        go_wp2
        go_ret
        exact ⟨by first | exact ret_t (HP.out.trans ((k_space c).2 (by omega))) | exact ret_f (fun h => by have := (k_space c).1 (HP.out.symm.trans h); omega), rfl⟩
    · have n1 : ¬ (c : Int) ≤ 13 := by omega
      by_cases h2 : c = 32
      · have n2 : (c : Int) = 32 := by omega
        have m2 : ((c : Int) == 32) = true := by rw [beq_iff_eq]; omega
        go_enter Tryz.func113, Tryz.ntmps113
        go_wp2
        go_ret
        exact ⟨by first | exact ret_t (HP.out.trans ((k_space c).2 (by omega))) | exact ret_f (fun h => by have := (k_space c).1 (HP.out.symm.trans h); omega), rfl⟩
      · have n2 : ¬ (c : Int) = 32 := by omega
        have m2 : ((c : Int) == 32) = false := by rw [beq_eq_false_iff_ne]; omega
        go_enter Tryz.func113, Tryz.ntmps113
        go_wp2
        go_ret
        exact ⟨by first | exact ret_t (HP.out.trans ((k_space c).2 (by omega))) | exact ret_f (fun h => by have := (k_space c).1 (HP.out.symm.trans h); omega), rfl⟩
  · have n0 : ¬ (9 : Int) ≤ (c : Int) := by omega
    by_cases h1 : c ≤ 13
    · have n1 : (c : Int) ≤ 13 := by omega
      by_cases h2 : c = 32
      · have n2 : (c : Int) = 32 := by omega
        have m2 : ((c : Int) == 32) = true := by rw [beq_iff_eq]; omega
        go_enter Tryz.func113, Tryz.ntmps113
        go_wp2
        go_ret
        exact ⟨by first | exact ret_t (HP.out.trans ((k_space c).2 (by omega))) | exact ret_f (fun h => by have := (k_space c).1 (HP.out.symm.trans h); omega), rfl⟩
      · have n2 : ¬ (c : Int) = 32 := by omega
        have m2 : ((c : Int) == 32) = false := by rw [beq_eq_false_iff_ne]; omega
        go_enter Tryz.func113, Tryz.ntmps113
        go_wp2
        go_ret
        exact ⟨by first | exact ret_t (HP.out.trans ((k_space c).2 (by omega))) | exact ret_f (fun h => by have := (k_space c).1 (HP.out.symm.trans h); omega), rfl⟩
    · have n1 : ¬ (c : Int) ≤ 13 := by omega
      by_cases h2 : c = 32
      · have n2 : (c : Int) = 32 := by omega
        have m2 : ((c : Int) == 32) = true := by rw [beq_iff_eq]; omega
        go_enter Tryz.func113, Tryz.ntmps113
        go_wp2
        go_ret
        exact ⟨by first | exact ret_t (HP.out.trans ((k_space c).2 (by omega))) | exact ret_f (fun h => by have := (k_space c).1 (HP.out.symm.trans h); omega), rfl⟩
      · have n2 : ¬ (c : Int) = 32 := by omega
        have m2 : ((c : Int) == 32) = false := by rw [beq_eq_false_iff_ne]; omega
        go_enter Tryz.func113, Tryz.ntmps113
        go_wp2
        go_ret
        exact ⟨by first | exact ret_t (HP.out.trans ((k_space c).2 (by omega))) | exact ret_f (fun h => by have := (k_space c).1 (HP.out.symm.trans h); omega), rfl⟩
end Go.Proofs.YtlekfdkahlobiaaGreatDoor.Kd
