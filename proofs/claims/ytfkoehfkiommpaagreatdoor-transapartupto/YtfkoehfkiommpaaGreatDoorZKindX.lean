/- The program's strings: bytes of a kind, and how many a text begins with. -/
import Derived.Deep.RegionWith
import Derived.Deep.RegionLaw
import Derived.Maps.AppendAt
import Derived.Test.YtfkoehfkiommpaaGreatDoorZSetM
namespace Go.Proofs.YtfkoehfkiommpaaGreatDoor.Tr
open Go.Proofs.YtfkoehfkiommpaaGreatDoor.Op
open Go.RowKit

section
variable {c : Nat} {w : World}
/-- A call of a kind of bytes. -/
abbrev Kind (f : Nat) (caps : Array Value) (p : Nat → Bool) (w : World) : Prop := ∀ c : Nat, c < 256 → Calls Tryz.prog f (#[.int .u8 (c : Int)] ++ caps) w fun e w' => e = .returned (.bool (p c)) ∧ w' = w
theorem kind_of {f : Nat} {p : Nat → Bool} (h : ∀ c : Nat, c < 256 → ∀ P, Hid (P = p c) → Calls Tryz.prog f #[.int .u8 (c : Int)] w fun e w' => e = .returned (.bool P) ∧ w' = w) : Kind f #[] p w := by
  intro c hc
  have := h c hc (p c) rfl
  simpa using this
theorem kind_at {f : Nat} {p : Nat → Bool} (h : Kind f #[] p w) (c : Nat) (hc : c < 256) : Calls Tryz.prog f #[.int .u8 (c : Int)] w fun e w' => e = .returned (.bool (p c)) ∧ w' = w := by
  have := h c hc
  simpa using this
set_option maxRecDepth 100000 in
theorem isOctal_c (w : World) : Kind 91 #[] (within 48 55) w := by
  intro c hc
  unfold within
  by_cases h1 : 48 ≤ c
  · have n1 : (48 : Int) ≤ (c : Int) := by omega
    by_cases h2 : c ≤ 55
    · have n2 : (c : Int) ≤ 55 := by omega
      go_enter Tryz.func91, Tryz.ntmps91
      go_wp2
      go_ret
      exact ⟨by simp [h1, h2], rfl⟩
    · have n2 : ¬ (c : Int) ≤ 55 := by omega
      go_enter Tryz.func91, Tryz.ntmps91
      go_wp2
      go_ret
      exact ⟨by simp, rfl⟩
  · have n1 : ¬ (48 : Int) ≤ (c : Int) := by omega
    go_enter Tryz.func91, Tryz.ntmps91
    go_wp2
    go_ret
    exact ⟨by simp, rfl⟩
set_option maxRecDepth 100000 in
set_option maxHeartbeats 2000000 in
theorem bytesOf_c (f : Nat) (caps : Array Value) (p : Nat → Bool) (w : World) (hcf : ∀ (z : Array Value) (u : World), (callFunc f z).run Tryz.prog u = .ok (.enter f z) u) (hp : ∀ W, Below w.heap.size w W → Kind f caps p W) :
    Calls Tryz.prog 47 #[.func (.func f) #[] caps] w fun e w' => ∃ v, e = .returned v ∧ Row w' w.heap.size v (bytesOf p 256) ∧ Below w.heap.size w w' := by
  obtain ⟨i0, hi, hz0, hz1, hz2⟩ := info_parts2 info_u8
  have HP := Lib.hid hp
  clear hp
  go_enter Tryz.func47, Tryz.ntmps47
  go_wp2
  go_loopw [3, 5] (fun l i wr => ∃ k : Nat, k ≤ 256 ∧ i = .int .i64 k ∧ Hid (Row wr w.heap.size l (bytesOf p k) ∧ Below w.heap.size w wr)) (fun _ i _ => 256 - (intOf i).toNat)
  case atStart => exact ⟨0, by omega, rfl, World.ownsRow_nil _ _ _ _, Below.refl _ _⟩
  case round =>
    obtain ⟨k, hk, rfl, HR⟩ := hrel
    by_cases hlt : k < 256
    · have n1 : (k : Int) < 256 := by omega
      have hw8 : IntKind.u8.wrap (k : Int) = (k : Int) := u8_wrap _ (by omega)
      have hcall := HP.out wr HR.out.2 k hlt
      have hl8 : (bytesOf p k).length ≤ 256 := Nat.le_trans (bytesOf_len p k) (by omega)
      have hof : ((UInt8.ofNat k).toNat : Int) = (k : Int) := by simp; omega
      have hsn := bytesOf_succ p k
      generalize bytesOf p k = L at HR hl8 hsn
      cases hpk : p k with
      | true =>
        rw [hpk] at hcall
        go_wp2_with (first
          | (refine hcall.mono ?_; rintro e w1 ⟨rfl, hw1⟩; rw [hw1]; clear hw1)
          | (at_builtin; refine wpList_append_own _ rfl _ _ 23 rfl w.heap.size 5 i0 (.int .u8 0) 1 1 Tryz.underlying23 hi hz0 hz1 hz2 rfl (by decide) _ _ _ rfl (World.ownsRow.alloc HR.out.1 _) ⟨wr.heap.size, 0, none⟩ 1 1 [.int .u8 (k : Int)] rfl rfl (cell_one_new _ _ _) (by simp [Value.oneCell']) (by unfold maxLen; omega) (by omega) (by have h := HR.out.2.size; simp; omega) ?_; intro v2 w9 hown2 hgrow2 _))
        have hr2 : Row w9 w.heap.size v2 (L ++ [UInt8.ofNat k]) := by
          show w9.ownsRow _ _ _ _ _ _
          rw [u8s_snoc, List.length_append, hof]
          exact hown2
        rw [hpk, if_pos rfl] at hsn
        refine ⟨⟨k + 1, by omega, by go_num, ?_⟩, by simp [intOf]; omega⟩
        rw [hsn]
        exact ⟨hr2, (HR.out.2.alloc HR.out.2.size _).grown hgrow2 (by have h := HR.out.2.size; simp; omega) (fun j ej => own_ge2 HR.out.1 j ej)⟩
      | false =>
        rw [hpk] at hcall
        go_wp2_with (refine hcall.mono ?_; rintro e w1 ⟨rfl, hw1⟩; rw [hw1]; clear hw1)
        rw [hpk, if_neg (by simp), List.append_nil] at hsn
        refine ⟨⟨k + 1, by omega, by go_num, ?_⟩, by simp [intOf]; omega⟩
        rw [hsn]
        exact HR.out
    · obtain rfl : k = 256 := by omega
      go_wp2
      go_ret
      exact ⟨_, rfl, HR.out.1, HR.out.2⟩
end
end Go.Proofs.YtfkoehfkiommpaaGreatDoor.Tr

namespace Go.Proofs.YtfkoehfkiommpaaGreatDoor.Tr
open Go.Proofs.YtfkoehfkiommpaaGreatDoor.Op
open Go.RowKit

theorem ret_t {b : Bool} (h : b = true) : Ending.returned (.bool true) = .returned (.bool b) := by rw [h]
theorem ret_f {b : Bool} (h : ¬ b = true) : Ending.returned (.bool false) = .returned (.bool b) := by rw [Bool.not_eq_true] at h; rw [h]

theorem k_isUpper (c : Nat) : (upperB) c = true ↔ (65 ≤ c ∧ c ≤ 90) := by simp [upperB, within]
set_option maxRecDepth 100000 in
set_option maxHeartbeats 2000000 in
theorem isUpper_c (w : World) : Kind 88 #[] (upperB) w := by
  refine kind_of fun c hc P HP => ?_
  by_cases h0 : 65 ≤ c
  · have n0 : (65 : Int) ≤ (c : Int) := by omega
    by_cases h1 : c ≤ 90
    · have n1 : (c : Int) ≤ 90 := by omega
      go_enter Tryz.func88, Tryz.ntmps88
      go_wp2
      go_ret
      exact ⟨by first | exact ret_t (HP.out.trans ((k_isUpper c).2 (by omega))) | exact ret_f (fun h => by have := (k_isUpper c).1 (HP.out.symm.trans h); omega), rfl⟩
    · have n1 : ¬ (c : Int) ≤ 90 := by omega
      go_enter Tryz.func88, Tryz.ntmps88
      go_wp2
      go_ret
      exact ⟨by first | exact ret_t (HP.out.trans ((k_isUpper c).2 (by omega))) | exact ret_f (fun h => by have := (k_isUpper c).1 (HP.out.symm.trans h); omega), rfl⟩
  · have n0 : ¬ (65 : Int) ≤ (c : Int) := by omega
    by_cases h1 : c ≤ 90
    · have n1 : (c : Int) ≤ 90 := by omega
      go_enter Tryz.func88, Tryz.ntmps88
      go_wp2
      go_ret
      exact ⟨by first | exact ret_t (HP.out.trans ((k_isUpper c).2 (by omega))) | exact ret_f (fun h => by have := (k_isUpper c).1 (HP.out.symm.trans h); omega), rfl⟩
    · have n1 : ¬ (c : Int) ≤ 90 := by omega
      go_enter Tryz.func88, Tryz.ntmps88
      go_wp2
      go_ret
      exact ⟨by first | exact ret_t (HP.out.trans ((k_isUpper c).2 (by omega))) | exact ret_f (fun h => by have := (k_isUpper c).1 (HP.out.symm.trans h); omega), rfl⟩
theorem k_isLower (c : Nat) : (lowerB) c = true ↔ (97 ≤ c ∧ c ≤ 122) := by simp [lowerB, within]
set_option maxRecDepth 100000 in
set_option maxHeartbeats 2000000 in
theorem isLower_c (w : World) : Kind 84 #[] (lowerB) w := by
  refine kind_of fun c hc P HP => ?_
  by_cases h0 : 97 ≤ c
  · have n0 : (97 : Int) ≤ (c : Int) := by omega
    by_cases h1 : c ≤ 122
    · have n1 : (c : Int) ≤ 122 := by omega
      go_enter Tryz.func84, Tryz.ntmps84
      go_wp2
      go_ret
      exact ⟨by first | exact ret_t (HP.out.trans ((k_isLower c).2 (by omega))) | exact ret_f (fun h => by have := (k_isLower c).1 (HP.out.symm.trans h); omega), rfl⟩
    · have n1 : ¬ (c : Int) ≤ 122 := by omega
      go_enter Tryz.func84, Tryz.ntmps84
      go_wp2
      go_ret
      exact ⟨by first | exact ret_t (HP.out.trans ((k_isLower c).2 (by omega))) | exact ret_f (fun h => by have := (k_isLower c).1 (HP.out.symm.trans h); omega), rfl⟩
  · have n0 : ¬ (97 : Int) ≤ (c : Int) := by omega
    by_cases h1 : c ≤ 122
    · have n1 : (c : Int) ≤ 122 := by omega
      go_enter Tryz.func84, Tryz.ntmps84
      go_wp2
      go_ret
      exact ⟨by first | exact ret_t (HP.out.trans ((k_isLower c).2 (by omega))) | exact ret_f (fun h => by have := (k_isLower c).1 (HP.out.symm.trans h); omega), rfl⟩
    · have n1 : ¬ (c : Int) ≤ 122 := by omega
      go_enter Tryz.func84, Tryz.ntmps84
      go_wp2
      go_ret
      exact ⟨by first | exact ret_t (HP.out.trans ((k_isLower c).2 (by omega))) | exact ret_f (fun h => by have := (k_isLower c).1 (HP.out.symm.trans h); omega), rfl⟩
theorem k_isDigit (c : Nat) : (digitB) c = true ↔ (48 ≤ c ∧ c ≤ 57) := by simp [digitB, within]
set_option maxRecDepth 100000 in
set_option maxHeartbeats 2000000 in
theorem isDigit_c (w : World) : Kind 82 #[] (digitB) w := by
  refine kind_of fun c hc P HP => ?_
  by_cases h0 : 48 ≤ c
  · have n0 : (48 : Int) ≤ (c : Int) := by omega
    by_cases h1 : c ≤ 57
    · have n1 : (c : Int) ≤ 57 := by omega
      go_enter Tryz.func82, Tryz.ntmps82
      go_wp2
      go_ret
      exact ⟨by first | exact ret_t (HP.out.trans ((k_isDigit c).2 (by omega))) | exact ret_f (fun h => by have := (k_isDigit c).1 (HP.out.symm.trans h); omega), rfl⟩
    · have n1 : ¬ (c : Int) ≤ 57 := by omega
      go_enter Tryz.func82, Tryz.ntmps82
      go_wp2
      go_ret
      exact ⟨by first | exact ret_t (HP.out.trans ((k_isDigit c).2 (by omega))) | exact ret_f (fun h => by have := (k_isDigit c).1 (HP.out.symm.trans h); omega), rfl⟩
  · have n0 : ¬ (48 : Int) ≤ (c : Int) := by omega
    by_cases h1 : c ≤ 57
    · have n1 : (c : Int) ≤ 57 := by omega
      go_enter Tryz.func82, Tryz.ntmps82
      go_wp2
      go_ret
      exact ⟨by first | exact ret_t (HP.out.trans ((k_isDigit c).2 (by omega))) | exact ret_f (fun h => by have := (k_isDigit c).1 (HP.out.symm.trans h); omega), rfl⟩
    · have n1 : ¬ (c : Int) ≤ 57 := by omega
      go_enter Tryz.func82, Tryz.ntmps82
      go_wp2
      go_ret
      exact ⟨by first | exact ret_t (HP.out.trans ((k_isDigit c).2 (by omega))) | exact ret_f (fun h => by have := (k_isDigit c).1 (HP.out.symm.trans h); omega), rfl⟩
theorem k_isGraph (c : Nat) : (within 33 126) c = true ↔ (33 ≤ c ∧ c ≤ 126) := by simp [within]
set_option maxRecDepth 100000 in
set_option maxHeartbeats 2000000 in
theorem isGraph_c (w : World) : Kind 83 #[] (within 33 126) w := by
  refine kind_of fun c hc P HP => ?_
  by_cases h0 : 33 ≤ c
  · have n0 : (33 : Int) ≤ (c : Int) := by omega
    by_cases h1 : c ≤ 126
    · have n1 : (c : Int) ≤ 126 := by omega
      go_enter Tryz.func83, Tryz.ntmps83
      go_wp2
      go_ret
      exact ⟨by first | exact ret_t (HP.out.trans ((k_isGraph c).2 (by omega))) | exact ret_f (fun h => by have := (k_isGraph c).1 (HP.out.symm.trans h); omega), rfl⟩
    · have n1 : ¬ (c : Int) ≤ 126 := by omega
      go_enter Tryz.func83, Tryz.ntmps83
      go_wp2
      go_ret
      exact ⟨by first | exact ret_t (HP.out.trans ((k_isGraph c).2 (by omega))) | exact ret_f (fun h => by have := (k_isGraph c).1 (HP.out.symm.trans h); omega), rfl⟩
  · have n0 : ¬ (33 : Int) ≤ (c : Int) := by omega
    by_cases h1 : c ≤ 126
    · have n1 : (c : Int) ≤ 126 := by omega
      go_enter Tryz.func83, Tryz.ntmps83
      go_wp2
      go_ret
      exact ⟨by first | exact ret_t (HP.out.trans ((k_isGraph c).2 (by omega))) | exact ret_f (fun h => by have := (k_isGraph c).1 (HP.out.symm.trans h); omega), rfl⟩
    · have n1 : ¬ (c : Int) ≤ 126 := by omega
      go_enter Tryz.func83, Tryz.ntmps83
      go_wp2
      go_ret
      exact ⟨by first | exact ret_t (HP.out.trans ((k_isGraph c).2 (by omega))) | exact ret_f (fun h => by have := (k_isGraph c).1 (HP.out.symm.trans h); omega), rfl⟩
theorem k_isAlpha (c : Nat) : (upperB c || lowerB c) = true ↔ (65 ≤ c ∧ c ≤ 90) ∨ (97 ≤ c ∧ c ≤ 122) := by simp [upperB, lowerB, within]
set_option maxRecDepth 100000 in
set_option maxHeartbeats 2000000 in
theorem isAlpha_c (w : World) : Kind 79 #[] (fun c => upperB c || lowerB c) w := by
  refine kind_of fun c hc P HP => ?_
  have k0 := kind_at (isUpper_c w) c hc
  have HK0 : Hid (Calls Tryz.prog 88 #[.int .u8 (c : Int)] w fun e w' => e = .returned (.bool ((upperB) c)) ∧ w' = w) := k0
  clear k0
  have k1 := kind_at (isLower_c w) c hc
  have HK1 : Hid (Calls Tryz.prog 84 #[.int .u8 (c : Int)] w fun e w' => e = .returned (.bool ((lowerB) c)) ∧ w' = w) := k1
  clear k1
  cases q0 : (upperB) c with
  | true =>
    cases q1 : (lowerB) c with
    | true =>
      go_enter Tryz.func79, Tryz.ntmps79
      go_wp2_with (first | (go_at_call 88; refine HK0.out.mono ?_; rintro e w1 ⟨rfl, hw1⟩; rw [hw1, q0]; clear hw1) | (go_at_call 84; refine HK1.out.mono ?_; rintro e w1 ⟨rfl, hw1⟩; rw [hw1, q1]; clear hw1))
      go_ret
      have r0 := k_isUpper c
      rw [q0] at r0
      simp at r0
      have r1 := k_isLower c
      rw [q1] at r1
      simp at r1
      exact ⟨by first | exact ret_t (HP.out.trans ((k_isAlpha c).2 (by omega))) | exact ret_f (fun h => by have := (k_isAlpha c).1 (HP.out.symm.trans h); omega), rfl⟩
    | false =>
      go_enter Tryz.func79, Tryz.ntmps79
      go_wp2_with (first | (go_at_call 88; refine HK0.out.mono ?_; rintro e w1 ⟨rfl, hw1⟩; rw [hw1, q0]; clear hw1) | (go_at_call 84; refine HK1.out.mono ?_; rintro e w1 ⟨rfl, hw1⟩; rw [hw1, q1]; clear hw1))
      go_ret
      have r0 := k_isUpper c
      rw [q0] at r0
      simp at r0
      have r1 := k_isLower c
      rw [q1] at r1
      simp at r1
      exact ⟨by first | exact ret_t (HP.out.trans ((k_isAlpha c).2 (by omega))) | exact ret_f (fun h => by have := (k_isAlpha c).1 (HP.out.symm.trans h); omega), rfl⟩
  | false =>
    cases q1 : (lowerB) c with
    | true =>
      go_enter Tryz.func79, Tryz.ntmps79
      go_wp2_with (first | (go_at_call 88; refine HK0.out.mono ?_; rintro e w1 ⟨rfl, hw1⟩; rw [hw1, q0]; clear hw1) | (go_at_call 84; refine HK1.out.mono ?_; rintro e w1 ⟨rfl, hw1⟩; rw [hw1, q1]; clear hw1))
      go_ret
      have r0 := k_isUpper c
      rw [q0] at r0
      simp at r0
      have r1 := k_isLower c
      rw [q1] at r1
      simp at r1
      exact ⟨by first | exact ret_t (HP.out.trans ((k_isAlpha c).2 (by omega))) | exact ret_f (fun h => by have := (k_isAlpha c).1 (HP.out.symm.trans h); omega), rfl⟩
    | false =>
      go_enter Tryz.func79, Tryz.ntmps79
      go_wp2_with (first | (go_at_call 88; refine HK0.out.mono ?_; rintro e w1 ⟨rfl, hw1⟩; rw [hw1, q0]; clear hw1) | (go_at_call 84; refine HK1.out.mono ?_; rintro e w1 ⟨rfl, hw1⟩; rw [hw1, q1]; clear hw1))
      go_ret
      have r0 := k_isUpper c
      rw [q0] at r0
      simp at r0
      have r1 := k_isLower c
      rw [q1] at r1
      simp at r1
      exact ⟨by first | exact ret_t (HP.out.trans ((k_isAlpha c).2 (by omega))) | exact ret_f (fun h => by have := (k_isAlpha c).1 (HP.out.symm.trans h); omega), rfl⟩
theorem k_isAlnum (c : Nat) : (upperB c || lowerB c || digitB c) = true ↔ ((65 ≤ c ∧ c ≤ 90) ∨ (97 ≤ c ∧ c ≤ 122)) ∨ (48 ≤ c ∧ c ≤ 57) := by simp [upperB, lowerB, digitB, within]
set_option maxRecDepth 100000 in
set_option maxHeartbeats 2000000 in
theorem isAlnum_c (w : World) : Kind 78 #[] (fun c => upperB c || lowerB c || digitB c) w := by
  refine kind_of fun c hc P HP => ?_
  have k0 := kind_at (isAlpha_c w) c hc
  have HK0 : Hid (Calls Tryz.prog 79 #[.int .u8 (c : Int)] w fun e w' => e = .returned (.bool ((upperB c || lowerB c))) ∧ w' = w) := k0
  clear k0
  have k1 := kind_at (isDigit_c w) c hc
  have HK1 : Hid (Calls Tryz.prog 82 #[.int .u8 (c : Int)] w fun e w' => e = .returned (.bool ((digitB) c)) ∧ w' = w) := k1
  clear k1
  cases q0 : (upperB c || lowerB c) with
  | true =>
    cases q1 : (digitB) c with
    | true =>
      go_enter Tryz.func78, Tryz.ntmps78
      go_wp2_with (first | (go_at_call 79; refine HK0.out.mono ?_; rintro e w1 ⟨rfl, hw1⟩; rw [hw1, q0]; clear hw1) | (go_at_call 82; refine HK1.out.mono ?_; rintro e w1 ⟨rfl, hw1⟩; rw [hw1, q1]; clear hw1))
      go_ret
      have r0 := k_isAlpha c
      rw [q0] at r0
      simp at r0
      have r1 := k_isDigit c
      rw [q1] at r1
      simp at r1
      exact ⟨by first | exact ret_t (HP.out.trans ((k_isAlnum c).2 (by omega))) | exact ret_f (fun h => by have := (k_isAlnum c).1 (HP.out.symm.trans h); omega), rfl⟩
    | false =>
      go_enter Tryz.func78, Tryz.ntmps78
      go_wp2_with (first | (go_at_call 79; refine HK0.out.mono ?_; rintro e w1 ⟨rfl, hw1⟩; rw [hw1, q0]; clear hw1) | (go_at_call 82; refine HK1.out.mono ?_; rintro e w1 ⟨rfl, hw1⟩; rw [hw1, q1]; clear hw1))
      go_ret
      have r0 := k_isAlpha c
      rw [q0] at r0
      simp at r0
      have r1 := k_isDigit c
      rw [q1] at r1
      simp at r1
      exact ⟨by first | exact ret_t (HP.out.trans ((k_isAlnum c).2 (by omega))) | exact ret_f (fun h => by have := (k_isAlnum c).1 (HP.out.symm.trans h); omega), rfl⟩
  | false =>
    cases q1 : (digitB) c with
    | true =>
      go_enter Tryz.func78, Tryz.ntmps78
      go_wp2_with (first | (go_at_call 79; refine HK0.out.mono ?_; rintro e w1 ⟨rfl, hw1⟩; rw [hw1, q0]; clear hw1) | (go_at_call 82; refine HK1.out.mono ?_; rintro e w1 ⟨rfl, hw1⟩; rw [hw1, q1]; clear hw1))
      go_ret
      have r0 := k_isAlpha c
      rw [q0] at r0
      simp at r0
      have r1 := k_isDigit c
      rw [q1] at r1
      simp at r1
      exact ⟨by first | exact ret_t (HP.out.trans ((k_isAlnum c).2 (by omega))) | exact ret_f (fun h => by have := (k_isAlnum c).1 (HP.out.symm.trans h); omega), rfl⟩
    | false =>
      go_enter Tryz.func78, Tryz.ntmps78
      go_wp2_with (first | (go_at_call 79; refine HK0.out.mono ?_; rintro e w1 ⟨rfl, hw1⟩; rw [hw1, q0]; clear hw1) | (go_at_call 82; refine HK1.out.mono ?_; rintro e w1 ⟨rfl, hw1⟩; rw [hw1, q1]; clear hw1))
      go_ret
      have r0 := k_isAlpha c
      rw [q0] at r0
      simp at r0
      have r1 := k_isDigit c
      rw [q1] at r1
      simp at r1
      exact ⟨by first | exact ret_t (HP.out.trans ((k_isAlnum c).2 (by omega))) | exact ret_f (fun h => by have := (k_isAlnum c).1 (HP.out.symm.trans h); omega), rfl⟩
theorem k_blank (c : Nat) : (c == 9 || c == 32) = true ↔ c = 9 ∨ c = 32 := by simp
set_option maxRecDepth 100000 in
set_option maxHeartbeats 2000000 in
theorem blank_c (w : World) : Kind 80 #[] (fun c => c == 9 || c == 32) w := by
  refine kind_of fun c hc P HP => ?_
  by_cases h0 : c = 9
  · have n0 : (c : Int) = 9 := by omega
    have m0 : ((c : Int) == 9) = true := by rw [beq_iff_eq]; omega
    by_cases h1 : c = 32
    · have n1 : (c : Int) = 32 := by omega
      have m1 : ((c : Int) == 32) = true := by rw [beq_iff_eq]; omega
      go_enter Tryz.func80, Tryz.ntmps80
      go_wp2
      go_ret
      exact ⟨by first | exact ret_t (HP.out.trans ((k_blank c).2 (by omega))) | exact ret_f (fun h => by have := (k_blank c).1 (HP.out.symm.trans h); omega), rfl⟩
    · have n1 : ¬ (c : Int) = 32 := by omega
      have m1 : ((c : Int) == 32) = false := by rw [beq_eq_false_iff_ne]; omega
      go_enter Tryz.func80, Tryz.ntmps80
      go_wp2
      go_ret
      exact ⟨by first | exact ret_t (HP.out.trans ((k_blank c).2 (by omega))) | exact ret_f (fun h => by have := (k_blank c).1 (HP.out.symm.trans h); omega), rfl⟩
  · have n0 : ¬ (c : Int) = 9 := by omega
    have m0 : ((c : Int) == 9) = false := by rw [beq_eq_false_iff_ne]; omega
    by_cases h1 : c = 32
    · have n1 : (c : Int) = 32 := by omega
      have m1 : ((c : Int) == 32) = true := by rw [beq_iff_eq]; omega
      go_enter Tryz.func80, Tryz.ntmps80
      go_wp2
      go_ret
      exact ⟨by first | exact ret_t (HP.out.trans ((k_blank c).2 (by omega))) | exact ret_f (fun h => by have := (k_blank c).1 (HP.out.symm.trans h); omega), rfl⟩
    · have n1 : ¬ (c : Int) = 32 := by omega
      have m1 : ((c : Int) == 32) = false := by rw [beq_eq_false_iff_ne]; omega
      go_enter Tryz.func80, Tryz.ntmps80
      go_wp2
      go_ret
      exact ⟨by first | exact ret_t (HP.out.trans ((k_blank c).2 (by omega))) | exact ret_f (fun h => by have := (k_blank c).1 (HP.out.symm.trans h); omega), rfl⟩
theorem k_cntrl (c : Nat) : (decide (c < 32) || c == 127) = true ↔ c < 32 ∨ c = 127 := by simp
set_option maxRecDepth 100000 in
set_option maxHeartbeats 2000000 in
theorem cntrl_c (w : World) : Kind 81 #[] (fun c => decide (c < 32) || c == 127) w := by
  refine kind_of fun c hc P HP => ?_
  by_cases h0 : c < 32
  · have n0 : (c : Int) < 32 := by omega
    by_cases h1 : c = 127
    · have n1 : (c : Int) = 127 := by omega
      have m1 : ((c : Int) == 127) = true := by rw [beq_iff_eq]; omega
      go_enter Tryz.func81, Tryz.ntmps81
      go_wp2
      go_ret
      exact ⟨by first | exact ret_t (HP.out.trans ((k_cntrl c).2 (by omega))) | exact ret_f (fun h => by have := (k_cntrl c).1 (HP.out.symm.trans h); omega), rfl⟩
    · have n1 : ¬ (c : Int) = 127 := by omega
      have m1 : ((c : Int) == 127) = false := by rw [beq_eq_false_iff_ne]; omega
      go_enter Tryz.func81, Tryz.ntmps81
      go_wp2
      go_ret
      exact ⟨by first | exact ret_t (HP.out.trans ((k_cntrl c).2 (by omega))) | exact ret_f (fun h => by have := (k_cntrl c).1 (HP.out.symm.trans h); omega), rfl⟩
  · have n0 : ¬ (c : Int) < 32 := by omega
    by_cases h1 : c = 127
    · have n1 : (c : Int) = 127 := by omega
      have m1 : ((c : Int) == 127) = true := by rw [beq_iff_eq]; omega
      go_enter Tryz.func81, Tryz.ntmps81
      go_wp2
      go_ret
      exact ⟨by first | exact ret_t (HP.out.trans ((k_cntrl c).2 (by omega))) | exact ret_f (fun h => by have := (k_cntrl c).1 (HP.out.symm.trans h); omega), rfl⟩
    · have n1 : ¬ (c : Int) = 127 := by omega
      have m1 : ((c : Int) == 127) = false := by rw [beq_eq_false_iff_ne]; omega
      go_enter Tryz.func81, Tryz.ntmps81
      go_wp2
      go_ret
      exact ⟨by first | exact ret_t (HP.out.trans ((k_cntrl c).2 (by omega))) | exact ret_f (fun h => by have := (k_cntrl c).1 (HP.out.symm.trans h); omega), rfl⟩
theorem k_print (c : Nat) : (within 32 126) c = true ↔ (32 ≤ c ∧ c ≤ 126) := by simp [within]
set_option maxRecDepth 100000 in
set_option maxHeartbeats 2000000 in
theorem print_c (w : World) : Kind 85 #[] (within 32 126) w := by
  refine kind_of fun c hc P HP => ?_
  have k0 := kind_at (isGraph_c w) c hc
  have HK0 : Hid (Calls Tryz.prog 83 #[.int .u8 (c : Int)] w fun e w' => e = .returned (.bool ((within 33 126) c)) ∧ w' = w) := k0
  clear k0
  by_cases h0 : c = 32
  · have n0 : (c : Int) = 32 := by omega
    have m0 : ((c : Int) == 32) = true := by rw [beq_iff_eq]; omega
    cases q0 : (within 33 126) c with
    | true =>
      go_enter Tryz.func85, Tryz.ntmps85
      go_wp2_with (go_at_call 83; refine HK0.out.mono ?_; rintro e w1 ⟨rfl, hw1⟩; rw [hw1, q0]; clear hw1)
      go_ret
      have r0 := k_isGraph c
      rw [q0] at r0
      simp at r0
      exact ⟨by first | exact ret_t (HP.out.trans ((k_print c).2 (by omega))) | exact ret_f (fun h => by have := (k_print c).1 (HP.out.symm.trans h); omega), rfl⟩
    | false =>
      go_enter Tryz.func85, Tryz.ntmps85
      go_wp2_with (go_at_call 83; refine HK0.out.mono ?_; rintro e w1 ⟨rfl, hw1⟩; rw [hw1, q0]; clear hw1)
      go_ret
      have r0 := k_isGraph c
      rw [q0] at r0
      simp at r0
      exact ⟨by first | exact ret_t (HP.out.trans ((k_print c).2 (by omega))) | exact ret_f (fun h => by have := (k_print c).1 (HP.out.symm.trans h); omega), rfl⟩
  · have n0 : ¬ (c : Int) = 32 := by omega
    have m0 : ((c : Int) == 32) = false := by rw [beq_eq_false_iff_ne]; omega
    cases q0 : (within 33 126) c with
    | true =>
      go_enter Tryz.func85, Tryz.ntmps85
      go_wp2_with (go_at_call 83; refine HK0.out.mono ?_; rintro e w1 ⟨rfl, hw1⟩; rw [hw1, q0]; clear hw1)
      go_ret
      have r0 := k_isGraph c
      rw [q0] at r0
      simp at r0
      exact ⟨by first | exact ret_t (HP.out.trans ((k_print c).2 (by omega))) | exact ret_f (fun h => by have := (k_print c).1 (HP.out.symm.trans h); omega), rfl⟩
    | false =>
      go_enter Tryz.func85, Tryz.ntmps85
      go_wp2_with (go_at_call 83; refine HK0.out.mono ?_; rintro e w1 ⟨rfl, hw1⟩; rw [hw1, q0]; clear hw1)
      go_ret
      have r0 := k_isGraph c
      rw [q0] at r0
      simp at r0
      exact ⟨by first | exact ret_t (HP.out.trans ((k_print c).2 (by omega))) | exact ret_f (fun h => by have := (k_print c).1 (HP.out.symm.trans h); omega), rfl⟩
theorem k_punct (c : Nat) : (within 33 126 c && !upperB c && !lowerB c && !digitB c) = true ↔ ((33 ≤ c ∧ c ≤ 126) ∧ ¬ (65 ≤ c ∧ c ≤ 90)) ∧ ¬ (97 ≤ c ∧ c ≤ 122) ∧ ¬ (48 ≤ c ∧ c ≤ 57) := by simp [upperB, lowerB, digitB, within]; omega
set_option maxRecDepth 100000 in
set_option maxHeartbeats 2000000 in
theorem punct_c (w : World) : Kind 86 #[] (fun c => within 33 126 c && !upperB c && !lowerB c && !digitB c) w := by
  refine kind_of fun c hc P HP => ?_
  have k0 := kind_at (isGraph_c w) c hc
  have HK0 : Hid (Calls Tryz.prog 83 #[.int .u8 (c : Int)] w fun e w' => e = .returned (.bool ((within 33 126) c)) ∧ w' = w) := k0
  clear k0
  have k1 := kind_at (isAlnum_c w) c hc
  have HK1 : Hid (Calls Tryz.prog 78 #[.int .u8 (c : Int)] w fun e w' => e = .returned (.bool ((upperB c || lowerB c || digitB c))) ∧ w' = w) := k1
  clear k1
  cases q0 : (within 33 126) c with
  | true =>
    cases q1 : (upperB c || lowerB c || digitB c) with
    | true =>
      go_enter Tryz.func86, Tryz.ntmps86
      go_wp2_with (first | (go_at_call 83; refine HK0.out.mono ?_; rintro e w1 ⟨rfl, hw1⟩; rw [hw1, q0]; clear hw1) | (go_at_call 78; refine HK1.out.mono ?_; rintro e w1 ⟨rfl, hw1⟩; rw [hw1, q1]; clear hw1))
      go_ret
      have r0 := k_isGraph c
      rw [q0] at r0
      simp at r0
      have r1 := k_isAlnum c
      rw [q1] at r1
      simp at r1
      exact ⟨by first | exact ret_t (HP.out.trans ((k_punct c).2 (by omega))) | exact ret_f (fun h => by have := (k_punct c).1 (HP.out.symm.trans h); omega), rfl⟩
    | false =>
      go_enter Tryz.func86, Tryz.ntmps86
      go_wp2_with (first | (go_at_call 83; refine HK0.out.mono ?_; rintro e w1 ⟨rfl, hw1⟩; rw [hw1, q0]; clear hw1) | (go_at_call 78; refine HK1.out.mono ?_; rintro e w1 ⟨rfl, hw1⟩; rw [hw1, q1]; clear hw1))
      go_ret
      have r0 := k_isGraph c
      rw [q0] at r0
      simp at r0
      have r1 := k_isAlnum c
      rw [q1] at r1
      simp at r1
      exact ⟨by first | exact ret_t (HP.out.trans ((k_punct c).2 (by omega))) | exact ret_f (fun h => by have := (k_punct c).1 (HP.out.symm.trans h); omega), rfl⟩
  | false =>
    cases q1 : (upperB c || lowerB c || digitB c) with
    | true =>
      go_enter Tryz.func86, Tryz.ntmps86
      go_wp2_with (first | (go_at_call 83; refine HK0.out.mono ?_; rintro e w1 ⟨rfl, hw1⟩; rw [hw1, q0]; clear hw1) | (go_at_call 78; refine HK1.out.mono ?_; rintro e w1 ⟨rfl, hw1⟩; rw [hw1, q1]; clear hw1))
      go_ret
      have r0 := k_isGraph c
      rw [q0] at r0
      simp at r0
      have r1 := k_isAlnum c
      rw [q1] at r1
      simp at r1
      exact ⟨by first | exact ret_t (HP.out.trans ((k_punct c).2 (by omega))) | exact ret_f (fun h => by have := (k_punct c).1 (HP.out.symm.trans h); omega), rfl⟩
    | false =>
      go_enter Tryz.func86, Tryz.ntmps86
      go_wp2_with (first | (go_at_call 83; refine HK0.out.mono ?_; rintro e w1 ⟨rfl, hw1⟩; rw [hw1, q0]; clear hw1) | (go_at_call 78; refine HK1.out.mono ?_; rintro e w1 ⟨rfl, hw1⟩; rw [hw1, q1]; clear hw1))
      go_ret
      have r0 := k_isGraph c
      rw [q0] at r0
      simp at r0
      have r1 := k_isAlnum c
      rw [q1] at r1
      simp at r1
      exact ⟨by first | exact ret_t (HP.out.trans ((k_punct c).2 (by omega))) | exact ret_f (fun h => by have := (k_punct c).1 (HP.out.symm.trans h); omega), rfl⟩
theorem k_space (c : Nat) : (within 9 13 c || c == 32) = true ↔ (9 ≤ c ∧ c ≤ 13) ∨ c = 32 := by simp [within]
set_option maxRecDepth 100000 in
set_option maxHeartbeats 2000000 in
theorem space_c (w : World) : Kind 87 #[] (fun c => within 9 13 c || c == 32) w := by
  refine kind_of fun c hc P HP => ?_
  by_cases h0 : 9 ≤ c
  · have n0 : (9 : Int) ≤ (c : Int) := by omega
    by_cases h1 : c ≤ 13
    · have n1 : (c : Int) ≤ 13 := by omega
      by_cases h2 : c = 32
      · have n2 : (c : Int) = 32 := by omega
        have m2 : ((c : Int) == 32) = true := by rw [beq_iff_eq]; omega
        go_enter Tryz.func87, Tryz.ntmps87
        go_wp2
        go_ret
        exact ⟨by first | exact ret_t (HP.out.trans ((k_space c).2 (by omega))) | exact ret_f (fun h => by have := (k_space c).1 (HP.out.symm.trans h); omega), rfl⟩
      · have n2 : ¬ (c : Int) = 32 := by omega
        have m2 : ((c : Int) == 32) = false := by rw [beq_eq_false_iff_ne]; omega
        go_enter Tryz.func87, Tryz.ntmps87
        go_wp2
        go_ret
        exact ⟨by first | exact ret_t (HP.out.trans ((k_space c).2 (by omega))) | exact ret_f (fun h => by have := (k_space c).1 (HP.out.symm.trans h); omega), rfl⟩
    · have n1 : ¬ (c : Int) ≤ 13 := by omega
      by_cases h2 : c = 32
      · have n2 : (c : Int) = 32 := by omega
        have m2 : ((c : Int) == 32) = true := by rw [beq_iff_eq]; omega
        go_enter Tryz.func87, Tryz.ntmps87
        go_wp2
        go_ret
        exact ⟨by first | exact ret_t (HP.out.trans ((k_space c).2 (by omega))) | exact ret_f (fun h => by have := (k_space c).1 (HP.out.symm.trans h); omega), rfl⟩
      · have n2 : ¬ (c : Int) = 32 := by omega
        have m2 : ((c : Int) == 32) = false := by rw [beq_eq_false_iff_ne]; omega
        go_enter Tryz.func87, Tryz.ntmps87
        go_wp2
        go_ret
        exact ⟨by first | exact ret_t (HP.out.trans ((k_space c).2 (by omega))) | exact ret_f (fun h => by have := (k_space c).1 (HP.out.symm.trans h); omega), rfl⟩
  · have n0 : ¬ (9 : Int) ≤ (c : Int) := by omega
    by_cases h1 : c ≤ 13
    · have n1 : (c : Int) ≤ 13 := by omega
      by_cases h2 : c = 32
      · have n2 : (c : Int) = 32 := by omega
        have m2 : ((c : Int) == 32) = true := by rw [beq_iff_eq]; omega
        go_enter Tryz.func87, Tryz.ntmps87
        go_wp2
        go_ret
        exact ⟨by first | exact ret_t (HP.out.trans ((k_space c).2 (by omega))) | exact ret_f (fun h => by have := (k_space c).1 (HP.out.symm.trans h); omega), rfl⟩
      · have n2 : ¬ (c : Int) = 32 := by omega
        have m2 : ((c : Int) == 32) = false := by rw [beq_eq_false_iff_ne]; omega
        go_enter Tryz.func87, Tryz.ntmps87
        go_wp2
        go_ret
        exact ⟨by first | exact ret_t (HP.out.trans ((k_space c).2 (by omega))) | exact ret_f (fun h => by have := (k_space c).1 (HP.out.symm.trans h); omega), rfl⟩
    · have n1 : ¬ (c : Int) ≤ 13 := by omega
      by_cases h2 : c = 32
      · have n2 : (c : Int) = 32 := by omega
        have m2 : ((c : Int) == 32) = true := by rw [beq_iff_eq]; omega
        go_enter Tryz.func87, Tryz.ntmps87
        go_wp2
        go_ret
        exact ⟨by first | exact ret_t (HP.out.trans ((k_space c).2 (by omega))) | exact ret_f (fun h => by have := (k_space c).1 (HP.out.symm.trans h); omega), rfl⟩
      · have n2 : ¬ (c : Int) = 32 := by omega
        have m2 : ((c : Int) == 32) = false := by rw [beq_eq_false_iff_ne]; omega
        go_enter Tryz.func87, Tryz.ntmps87
        go_wp2
        go_ret
        exact ⟨by first | exact ret_t (HP.out.trans ((k_space c).2 (by omega))) | exact ret_f (fun h => by have := (k_space c).1 (HP.out.symm.trans h); omega), rfl⟩
end Go.Proofs.YtfkoehfkiommpaaGreatDoor.Tr

namespace Go.Proofs.YtfkoehfkiommpaaGreatDoor.Tr
open Go.Proofs.YtfkoehfkiommpaaGreatDoor.Op
open Go.RowKit


theorem k_xdigit (c : Nat) : (digitB c || within 65 70 c || within 97 102 c) = true ↔ ((48 ≤ c ∧ c ≤ 57) ∨ (65 ≤ c ∧ c ≤ 70)) ∨ (97 ≤ c ∧ c ≤ 102) := by simp [digitB, within]
set_option maxRecDepth 100000 in
set_option maxHeartbeats 4000000 in
theorem xdigit_c (w : World) : Kind 89 #[] (fun c => digitB c || within 65 70 c || within 97 102 c) w := by
  refine kind_of fun c hc P HP => ?_
  have k0 := kind_at (isDigit_c w) c hc
  have HK0 : Hid (Calls Tryz.prog 82 #[.int .u8 (c : Int)] w fun e w' => e = .returned (.bool (digitB c)) ∧ w' = w) := k0
  clear k0
  cases q0 : digitB c with
  | true =>
    go_enter Tryz.func89, Tryz.ntmps89
    go_wp2_with (go_at_call 82; refine HK0.out.mono ?_; rintro e w1 ⟨rfl, hw1⟩; rw [hw1, q0]; clear hw1)
    go_ret
    have r0 := k_isDigit c
    rw [q0] at r0
    simp at r0
    exact ⟨by first | exact ret_t (HP.out.trans ((k_xdigit c).2 (by omega))) | exact ret_f (fun h => by have := (k_xdigit c).1 (HP.out.symm.trans h); omega), rfl⟩
  | false =>
    by_cases h1 : 65 ≤ c
    · have n1 : (65 : Int) ≤ (c : Int) := by omega
      by_cases h2 : c ≤ 70
      · have n2 : (c : Int) ≤ 70 := by omega
        go_enter Tryz.func89, Tryz.ntmps89
        go_wp2_with (go_at_call 82; refine HK0.out.mono ?_; rintro e w1 ⟨rfl, hw1⟩; rw [hw1, q0]; clear hw1)
        go_ret
        have r0 := k_isDigit c
        rw [q0] at r0
        simp at r0
        exact ⟨by first | exact ret_t (HP.out.trans ((k_xdigit c).2 (by omega))) | exact ret_f (fun h => by have := (k_xdigit c).1 (HP.out.symm.trans h); omega), rfl⟩
      · have n2 : ¬ (c : Int) ≤ 70 := by omega
        have d2 : decide ((c : Int) ≤ 70) = false := decide_eq_false n2
        by_cases h3 : 97 ≤ c
        · have n3 : (97 : Int) ≤ (c : Int) := by omega
          by_cases h4 : c ≤ 102
          · have n4 : (c : Int) ≤ 102 := by omega
            go_enter Tryz.func89, Tryz.ntmps89
            go_wp2_with (go_at_call 82; refine HK0.out.mono ?_; rintro e w1 ⟨rfl, hw1⟩; rw [hw1, q0]; clear hw1)
            go_ret
            have r0 := k_isDigit c
            rw [q0] at r0
            simp at r0
            exact ⟨by first | exact ret_t (HP.out.trans ((k_xdigit c).2 (by omega))) | exact ret_f (fun h => by have := (k_xdigit c).1 (HP.out.symm.trans h); omega), rfl⟩
          · have n4 : ¬ (c : Int) ≤ 102 := by omega
            have d4 : decide ((c : Int) ≤ 102) = false := decide_eq_false n4
            go_enter Tryz.func89, Tryz.ntmps89
            go_wp2_with (go_at_call 82; refine HK0.out.mono ?_; rintro e w1 ⟨rfl, hw1⟩; rw [hw1, q0]; clear hw1)
            go_ret
            have r0 := k_isDigit c
            rw [q0] at r0
            simp at r0
            exact ⟨by first | exact ret_t (HP.out.trans ((k_xdigit c).2 (by omega))) | exact ret_f (fun h => by have := (k_xdigit c).1 (HP.out.symm.trans h); omega), rfl⟩
        · have n3 : ¬ (97 : Int) ≤ (c : Int) := by omega
          go_enter Tryz.func89, Tryz.ntmps89
          go_wp2_with (go_at_call 82; refine HK0.out.mono ?_; rintro e w1 ⟨rfl, hw1⟩; rw [hw1, q0]; clear hw1)
          go_ret
          have r0 := k_isDigit c
          rw [q0] at r0
          simp at r0
          exact ⟨by first | exact ret_t (HP.out.trans ((k_xdigit c).2 (by omega))) | exact ret_f (fun h => by have := (k_xdigit c).1 (HP.out.symm.trans h); omega), rfl⟩
    · have n1 : ¬ (65 : Int) ≤ (c : Int) := by omega
      have n3 : ¬ (97 : Int) ≤ (c : Int) := by omega
      go_enter Tryz.func89, Tryz.ntmps89
      go_wp2_with (go_at_call 82; refine HK0.out.mono ?_; rintro e w1 ⟨rfl, hw1⟩; rw [hw1, q0]; clear hw1)
      go_ret
      have r0 := k_isDigit c
      rw [q0] at r0
      simp at r0
      exact ⟨by first | exact ret_t (HP.out.trans ((k_xdigit c).2 (by omega))) | exact ret_f (fun h => by have := (k_xdigit c).1 (HP.out.symm.trans h); omega), rfl⟩
end Go.Proofs.YtfkoehfkiommpaaGreatDoor.Tr
