/- The reference of strings: classes and signs. -/
import Derived.Test.YtfkoehfkiommpaaGreatDoorYSame
import Derived.Test.YtfkoehfkiommpaaGreatDoorZMath
namespace Go.Proofs.YtfkoehfkiommpaaGreatDoor.Tr
open Go.Proofs.YtfkoehfkiommpaaGreatDoor.Op
open Go.RowKit

theorem u8_beq (a b : UInt8) : ((a.toNat : Int) == (b.toNat : Int)) = decide (a = b) := by
  rw [Bool.eq_iff_iff]; simp only [beq_iff_eq, decide_eq_true_eq, ← UInt8.toNat_inj]; omega
theorem u8_lit (a : UInt8) (n : Nat) (h : n < 256) : ((a.toNat : Int) == (n : Int)) = decide (a = UInt8.ofNat n) := by
  have := u8_beq a (UInt8.ofNat n)
  rw [show (UInt8.ofNat n).toNat = n from by simp; omega] at this
  exact this
theorem u8_no {a : UInt8} (n : Nat) (h : n < 256) (hne : a ≠ UInt8.ofNat n) : ((a.toNat : Int) == (n : Int)) = false := by rw [u8_lit a n h]; simpa using hne
theorem u8_yes {a : UInt8} (n : Nat) (h : n < 256) (he : a = UInt8.ofNat n) : ((a.toNat : Int) == (n : Int)) = true := by rw [u8_lit a n h]; simpa using he
theorem by_drop (s : ByteArray) (k : Nat) (h : k < s.size) : s.data.toList.drop k = s[k] :: s.data.toList.drop (k + 1) := by
  rw [List.drop_eq_getElem_cons (by exact h)]; rfl
theorem by_drop_end (s : ByteArray) (k : Nat) (h : s.size ≤ k) : s.data.toList.drop k = [] := List.drop_eq_nil_of_le h
theorem by_at (s : ByteArray) (k : Nat) (h : k < s.size) : s.data.toList[k]? = some s[k] := by
  rw [Array.getElem?_toList]; exact Array.getElem?_eq_getElem h

set_option maxRecDepth 100000 in
theorem between_c (c : Nat) (a b : Nat) (w : World) (_hc : c < 256) (_ha : a < 256) (_hb : b < 256) :
    Calls Tryz.prog 53 #[.int .u8 (c : Int), .int .u8 (a : Int), .int .u8 (b : Int)] w fun e w' => e = .returned (.bool (within a b c)) ∧ w' = w := by
  unfold within
  by_cases h1 : a ≤ c
  · have n1 : (a : Int) ≤ (c : Int) := by omega
    by_cases h2 : c ≤ b
    · have n2 : (c : Int) ≤ (b : Int) := by omega
      go_enter Tryz.func53, Tryz.ntmps53
      go_wp2
      go_ret
      exact ⟨by simp [h1, h2], rfl⟩
    · have n2 : ¬ (c : Int) ≤ (b : Int) := by omega
      go_enter Tryz.func53, Tryz.ntmps53
      go_wp2
      go_ret
      exact ⟨by simp, rfl⟩
  · have n1 : ¬ (a : Int) ≤ (c : Int) := by omega
    go_enter Tryz.func53, Tryz.ntmps53
    go_wp2
    go_ret
    exact ⟨by simp, rfl⟩

def classB (name : List UInt8) (c : Nat) : Bool := match classP name with | some p => p c | none => false
theorem ne_name {a : ByteArray} {l : List UInt8} (h : a.data.toList ≠ l) : (a.toList == l) = false := by
  rw [beq_eq_false_iff_ne, ByteArray.toList_eq]
  exact h
theorem eq_name {a : ByteArray} {l : List UInt8} (h : a.data.toList = l) : a = ⟨l.toArray⟩ := by
  cases a with | mk d => congr; rw [← Array.toList_inj]; simpa using h

theorem bool_end {a b : Bool} (h : a = true ↔ b = true) : Ending.returned (.bool a) = .returned (.bool b) := by rw [Bool.eq_iff_iff.2 h]
section
variable {c : Nat} {w : World} {U L D : Bool}
/-- What is known ahead of a class's own row. -/
abbrev Btw (c a b : Nat) (R : Bool) (w : World) : Prop := Calls Tryz.prog 53 #[.int .u8 (c : Int), .int .u8 (a : Int), .int .u8 (b : Int)] w fun e w' => e = .returned (.bool R) ∧ w' = w
set_option maxHeartbeats 2000000 in
set_option maxRecDepth 100000 in
theorem class_alpha (_hc : c < 256) (b1 : Btw c 65 90 U w) (b2 : Btw c 97 122 L w) (b3 : Btw c 48 57 D w) :
    Calls Tryz.prog 29 #[.string ⟨#[97, 108, 112, 104, 97]⟩, .int .u8 (c : Int)] w fun e w' => e = .returned (.bool (U || L)) ∧ w' = w := by
  cases U <;> cases L <;> (
    go_enter Tryz.func29, Tryz.ntmps29
    go_wp2_with fail
    refine b1.mono ?_
    rintro e w1 ⟨rfl, rfl⟩
    go_wp2_with fail
    refine b2.mono ?_
    rintro e w2 ⟨rfl, rfl⟩
    go_wp2_with fail
    refine b3.mono ?_
    rintro e w3 ⟨rfl, rfl⟩
    go_wp2_with fail
    go_ret
    exact ⟨by rfl, rfl⟩)
set_option maxHeartbeats 2000000 in
set_option maxRecDepth 100000 in
theorem class_digit (_hc : c < 256) (b1 : Btw c 65 90 U w) (b2 : Btw c 97 122 L w) (b3 : Btw c 48 57 D w) :
    Calls Tryz.prog 29 #[.string ⟨#[100, 105, 103, 105, 116]⟩, .int .u8 (c : Int)] w fun e w' => e = .returned (.bool (D)) ∧ w' = w := by
  (
    go_enter Tryz.func29, Tryz.ntmps29
    go_wp2_with fail
    refine b1.mono ?_
    rintro e w1 ⟨rfl, rfl⟩
    go_wp2_with fail
    refine b2.mono ?_
    rintro e w2 ⟨rfl, rfl⟩
    go_wp2_with fail
    refine b3.mono ?_
    rintro e w3 ⟨rfl, rfl⟩
    go_wp2_with fail
    go_ret
    exact ⟨by rfl, rfl⟩)
set_option maxHeartbeats 2000000 in
set_option maxRecDepth 100000 in
theorem class_alnum (_hc : c < 256) (b1 : Btw c 65 90 U w) (b2 : Btw c 97 122 L w) (b3 : Btw c 48 57 D w) :
    Calls Tryz.prog 29 #[.string ⟨#[97, 108, 110, 117, 109]⟩, .int .u8 (c : Int)] w fun e w' => e = .returned (.bool (U || L || D)) ∧ w' = w := by
  cases U <;> cases L <;> cases D <;> (
    go_enter Tryz.func29, Tryz.ntmps29
    go_wp2_with fail
    refine b1.mono ?_
    rintro e w1 ⟨rfl, rfl⟩
    go_wp2_with fail
    refine b2.mono ?_
    rintro e w2 ⟨rfl, rfl⟩
    go_wp2_with fail
    refine b3.mono ?_
    rintro e w3 ⟨rfl, rfl⟩
    go_wp2_with fail
    go_ret
    exact ⟨by rfl, rfl⟩)
set_option maxHeartbeats 2000000 in
set_option maxRecDepth 100000 in
theorem class_upper (_hc : c < 256) (b1 : Btw c 65 90 U w) (b2 : Btw c 97 122 L w) (b3 : Btw c 48 57 D w) :
    Calls Tryz.prog 29 #[.string ⟨#[117, 112, 112, 101, 114]⟩, .int .u8 (c : Int)] w fun e w' => e = .returned (.bool (U)) ∧ w' = w := by
  (
    go_enter Tryz.func29, Tryz.ntmps29
    go_wp2_with fail
    refine b1.mono ?_
    rintro e w1 ⟨rfl, rfl⟩
    go_wp2_with fail
    refine b2.mono ?_
    rintro e w2 ⟨rfl, rfl⟩
    go_wp2_with fail
    refine b3.mono ?_
    rintro e w3 ⟨rfl, rfl⟩
    go_wp2_with fail
    go_ret
    exact ⟨by rfl, rfl⟩)
set_option maxHeartbeats 2000000 in
set_option maxRecDepth 100000 in
theorem class_lower (_hc : c < 256) (b1 : Btw c 65 90 U w) (b2 : Btw c 97 122 L w) (b3 : Btw c 48 57 D w) :
    Calls Tryz.prog 29 #[.string ⟨#[108, 111, 119, 101, 114]⟩, .int .u8 (c : Int)] w fun e w' => e = .returned (.bool (L)) ∧ w' = w := by
  (
    go_enter Tryz.func29, Tryz.ntmps29
    go_wp2_with fail
    refine b1.mono ?_
    rintro e w1 ⟨rfl, rfl⟩
    go_wp2_with fail
    refine b2.mono ?_
    rintro e w2 ⟨rfl, rfl⟩
    go_wp2_with fail
    refine b3.mono ?_
    rintro e w3 ⟨rfl, rfl⟩
    go_wp2_with fail
    go_ret
    exact ⟨by rfl, rfl⟩)
set_option maxHeartbeats 2000000 in
set_option maxRecDepth 100000 in
theorem class_blank (hc : c < 256) (b1 : Btw c 65 90 U w) (b2 : Btw c 97 122 L w) (b3 : Btw c 48 57 D w) :
    Calls Tryz.prog 29 #[.string ⟨#[98, 108, 97, 110, 107]⟩, .int .u8 (c : Int)] w fun e w' => e = .returned (.bool (c == 9 || c == 32)) ∧ w' = w := by
  by_cases h1 : c = 9
  · subst h1
    (
    go_enter Tryz.func29, Tryz.ntmps29
    go_wp2_with fail
    refine b1.mono ?_
    rintro e w1 ⟨rfl, rfl⟩
    go_wp2_with fail
    refine b2.mono ?_
    rintro e w2 ⟨rfl, rfl⟩
    go_wp2_with fail
    refine b3.mono ?_
    rintro e w3 ⟨rfl, rfl⟩
    go_wp2_with fail
    go_ret
    exact ⟨by rfl, rfl⟩)
  · have e1 : ((c : Int) == 9) = false := by rw [beq_eq_false_iff_ne]; omega
    by_cases h2 : c = 32
    · subst h2
      (
      go_enter Tryz.func29, Tryz.ntmps29
      go_wp2_with fail
      refine b1.mono ?_
      rintro e w1 ⟨rfl, rfl⟩
      go_wp2_with fail
      refine b2.mono ?_
      rintro e w2 ⟨rfl, rfl⟩
      go_wp2_with fail
      refine b3.mono ?_
      rintro e w3 ⟨rfl, rfl⟩
      go_wp2_with fail
      go_ret
      exact ⟨by rfl, rfl⟩)
    · have e2 : ((c : Int) == 32) = false := by rw [beq_eq_false_iff_ne]; omega
      (
      go_enter Tryz.func29, Tryz.ntmps29
      go_wp2_with fail
      refine b1.mono ?_
      rintro e w1 ⟨rfl, rfl⟩
      go_wp2_with fail
      refine b2.mono ?_
      rintro e w2 ⟨rfl, rfl⟩
      go_wp2_with fail
      refine b3.mono ?_
      rintro e w3 ⟨rfl, rfl⟩
      go_wp2_with fail
      go_ret
      exact ⟨bool_end (by simp <;> omega), rfl⟩)
set_option maxHeartbeats 2000000 in
set_option maxRecDepth 100000 in
theorem class_space (hc : c < 256) (b1 : Btw c 65 90 U w) (b2 : Btw c 97 122 L w) (b3 : Btw c 48 57 D w) :
    Calls Tryz.prog 29 #[.string ⟨#[115, 112, 97, 99, 101]⟩, .int .u8 (c : Int)] w fun e w' => e = .returned (.bool (within 9 13 c || c == 32)) ∧ w' = w := by
  unfold within
  by_cases h1 : 9 ≤ c
  · have n1 : (9 : Int) ≤ (c : Int) := by omega
    by_cases h2 : c ≤ 13
    · have n2 : (c : Int) ≤ 13 := by omega
      (
      go_enter Tryz.func29, Tryz.ntmps29
      go_wp2_with fail
      refine b1.mono ?_
      rintro e w1 ⟨rfl, rfl⟩
      go_wp2_with fail
      refine b2.mono ?_
      rintro e w2 ⟨rfl, rfl⟩
      go_wp2_with fail
      refine b3.mono ?_
      rintro e w3 ⟨rfl, rfl⟩
      go_wp2_with fail
      go_ret
      exact ⟨bool_end (by simp <;> omega), rfl⟩)
    · have n2 : ¬ (c : Int) ≤ 13 := by omega
      by_cases h3 : c = 32
      · subst h3
        (
        go_enter Tryz.func29, Tryz.ntmps29
        go_wp2_with fail
        refine b1.mono ?_
        rintro e w1 ⟨rfl, rfl⟩
        go_wp2_with fail
        refine b2.mono ?_
        rintro e w2 ⟨rfl, rfl⟩
        go_wp2_with fail
        refine b3.mono ?_
        rintro e w3 ⟨rfl, rfl⟩
        go_wp2_with fail
        go_ret
        exact ⟨by rfl, rfl⟩)
      · have e2 : ((c : Int) == 32) = false := by rw [beq_eq_false_iff_ne]; omega
        (
        go_enter Tryz.func29, Tryz.ntmps29
        go_wp2_with fail
        refine b1.mono ?_
        rintro e w1 ⟨rfl, rfl⟩
        go_wp2_with fail
        refine b2.mono ?_
        rintro e w2 ⟨rfl, rfl⟩
        go_wp2_with fail
        refine b3.mono ?_
        rintro e w3 ⟨rfl, rfl⟩
        go_wp2_with fail
        go_ret
        exact ⟨bool_end (by simp <;> omega), rfl⟩)
  · have n1 : ¬ (9 : Int) ≤ (c : Int) := by omega
    have e2 : ((c : Int) == 32) = false := by rw [beq_eq_false_iff_ne]; omega
    have h3 : ¬ c = 32 := by omega
    (
    go_enter Tryz.func29, Tryz.ntmps29
    go_wp2_with fail
    refine b1.mono ?_
    rintro e w1 ⟨rfl, rfl⟩
    go_wp2_with fail
    refine b2.mono ?_
    rintro e w2 ⟨rfl, rfl⟩
    go_wp2_with fail
    refine b3.mono ?_
    rintro e w3 ⟨rfl, rfl⟩
    go_wp2_with fail
    go_ret
    exact ⟨bool_end (by simp <;> omega), rfl⟩)
set_option maxHeartbeats 2000000 in
set_option maxRecDepth 100000 in
theorem class_cntrl (hc : c < 256) (b1 : Btw c 65 90 U w) (b2 : Btw c 97 122 L w) (b3 : Btw c 48 57 D w) :
    Calls Tryz.prog 29 #[.string ⟨#[99, 110, 116, 114, 108]⟩, .int .u8 (c : Int)] w fun e w' => e = .returned (.bool (decide (c < 32) || c == 127)) ∧ w' = w := by
  by_cases h1 : c < 32
  · have n1 : (c : Int) < 32 := by omega
    (
    go_enter Tryz.func29, Tryz.ntmps29
    go_wp2_with fail
    refine b1.mono ?_
    rintro e w1 ⟨rfl, rfl⟩
    go_wp2_with fail
    refine b2.mono ?_
    rintro e w2 ⟨rfl, rfl⟩
    go_wp2_with fail
    refine b3.mono ?_
    rintro e w3 ⟨rfl, rfl⟩
    go_wp2_with fail
    go_ret
    exact ⟨bool_end (by simp <;> omega), rfl⟩)
  · have n1 : ¬ (c : Int) < 32 := by omega
    by_cases h3 : c = 127
    · subst h3
      (
      go_enter Tryz.func29, Tryz.ntmps29
      go_wp2_with fail
      refine b1.mono ?_
      rintro e w1 ⟨rfl, rfl⟩
      go_wp2_with fail
      refine b2.mono ?_
      rintro e w2 ⟨rfl, rfl⟩
      go_wp2_with fail
      refine b3.mono ?_
      rintro e w3 ⟨rfl, rfl⟩
      go_wp2_with fail
      go_ret
      exact ⟨by rfl, rfl⟩)
    · have e2 : ((c : Int) == 127) = false := by rw [beq_eq_false_iff_ne]; omega
      (
      go_enter Tryz.func29, Tryz.ntmps29
      go_wp2_with fail
      refine b1.mono ?_
      rintro e w1 ⟨rfl, rfl⟩
      go_wp2_with fail
      refine b2.mono ?_
      rintro e w2 ⟨rfl, rfl⟩
      go_wp2_with fail
      refine b3.mono ?_
      rintro e w3 ⟨rfl, rfl⟩
      go_wp2_with fail
      go_ret
      exact ⟨bool_end (by simp <;> omega), rfl⟩)
set_option maxHeartbeats 2000000 in
set_option maxRecDepth 100000 in
theorem class_print (hc : c < 256) (b1 : Btw c 65 90 U w) (b2 : Btw c 97 122 L w) (b3 : Btw c 48 57 D w) :
    Calls Tryz.prog 29 #[.string ⟨#[112, 114, 105, 110, 116]⟩, .int .u8 (c : Int)] w fun e w' => e = .returned (.bool (within 32 126 c)) ∧ w' = w := by
  unfold within
  by_cases h1 : 32 ≤ c
  · have n1 : (32 : Int) ≤ (c : Int) := by omega
    by_cases h2 : c < 127
    · have n2 : (c : Int) < 127 := by omega
      have h3 : c ≤ 126 := by omega
      (
      go_enter Tryz.func29, Tryz.ntmps29
      go_wp2_with fail
      refine b1.mono ?_
      rintro e w1 ⟨rfl, rfl⟩
      go_wp2_with fail
      refine b2.mono ?_
      rintro e w2 ⟨rfl, rfl⟩
      go_wp2_with fail
      refine b3.mono ?_
      rintro e w3 ⟨rfl, rfl⟩
      go_wp2_with fail
      go_ret
      exact ⟨bool_end (by simp <;> omega), rfl⟩)
    · have n2 : ¬ (c : Int) < 127 := by omega
      have h3 : ¬ c ≤ 126 := by omega
      (
      go_enter Tryz.func29, Tryz.ntmps29
      go_wp2_with fail
      refine b1.mono ?_
      rintro e w1 ⟨rfl, rfl⟩
      go_wp2_with fail
      refine b2.mono ?_
      rintro e w2 ⟨rfl, rfl⟩
      go_wp2_with fail
      refine b3.mono ?_
      rintro e w3 ⟨rfl, rfl⟩
      go_wp2_with fail
      go_ret
      exact ⟨bool_end (by simp <;> omega), rfl⟩)
  · have n1 : ¬ (32 : Int) ≤ (c : Int) := by omega
    (
    go_enter Tryz.func29, Tryz.ntmps29
    go_wp2_with fail
    refine b1.mono ?_
    rintro e w1 ⟨rfl, rfl⟩
    go_wp2_with fail
    refine b2.mono ?_
    rintro e w2 ⟨rfl, rfl⟩
    go_wp2_with fail
    refine b3.mono ?_
    rintro e w3 ⟨rfl, rfl⟩
    go_wp2_with fail
    go_ret
    exact ⟨bool_end (by simp <;> omega), rfl⟩)
set_option maxHeartbeats 2000000 in
set_option maxRecDepth 100000 in
theorem class_graph (hc : c < 256) (b1 : Btw c 65 90 U w) (b2 : Btw c 97 122 L w) (b3 : Btw c 48 57 D w) :
    Calls Tryz.prog 29 #[.string ⟨#[103, 114, 97, 112, 104]⟩, .int .u8 (c : Int)] w fun e w' => e = .returned (.bool (within 33 126 c)) ∧ w' = w := by
  unfold within
  by_cases h1 : 33 ≤ c
  · have n1 : (32 : Int) < (c : Int) := by omega
    by_cases h2 : c < 127
    · have n2 : (c : Int) < 127 := by omega
      have h3 : c ≤ 126 := by omega
      (
      go_enter Tryz.func29, Tryz.ntmps29
      go_wp2_with fail
      refine b1.mono ?_
      rintro e w1 ⟨rfl, rfl⟩
      go_wp2_with fail
      refine b2.mono ?_
      rintro e w2 ⟨rfl, rfl⟩
      go_wp2_with fail
      refine b3.mono ?_
      rintro e w3 ⟨rfl, rfl⟩
      go_wp2_with fail
      go_ret
      exact ⟨bool_end (by simp <;> omega), rfl⟩)
    · have n2 : ¬ (c : Int) < 127 := by omega
      have h3 : ¬ c ≤ 126 := by omega
      (
      go_enter Tryz.func29, Tryz.ntmps29
      go_wp2_with fail
      refine b1.mono ?_
      rintro e w1 ⟨rfl, rfl⟩
      go_wp2_with fail
      refine b2.mono ?_
      rintro e w2 ⟨rfl, rfl⟩
      go_wp2_with fail
      refine b3.mono ?_
      rintro e w3 ⟨rfl, rfl⟩
      go_wp2_with fail
      go_ret
      exact ⟨bool_end (by simp <;> omega), rfl⟩)
  · have n1 : ¬ (32 : Int) < (c : Int) := by omega
    (
    go_enter Tryz.func29, Tryz.ntmps29
    go_wp2_with fail
    refine b1.mono ?_
    rintro e w1 ⟨rfl, rfl⟩
    go_wp2_with fail
    refine b2.mono ?_
    rintro e w2 ⟨rfl, rfl⟩
    go_wp2_with fail
    refine b3.mono ?_
    rintro e w3 ⟨rfl, rfl⟩
    go_wp2_with fail
    go_ret
    exact ⟨bool_end (by simp <;> omega), rfl⟩)
set_option maxHeartbeats 2000000 in
set_option maxRecDepth 100000 in
theorem class_punct (hc : c < 256) (b1 : Btw c 65 90 U w) (b2 : Btw c 97 122 L w) (b3 : Btw c 48 57 D w) :
    Calls Tryz.prog 29 #[.string ⟨#[112, 117, 110, 99, 116]⟩, .int .u8 (c : Int)] w fun e w' => e = .returned (.bool (within 33 126 c && !U && !L && !D)) ∧ w' = w := by
  unfold within
  by_cases h1 : 33 ≤ c
  · have n1 : (32 : Int) < (c : Int) := by omega
    by_cases h2 : c < 127
    · have n2 : (c : Int) < 127 := by omega
      have h3 : c ≤ 126 := by omega
      cases U <;> cases L <;> cases D <;> (
      go_enter Tryz.func29, Tryz.ntmps29
      go_wp2_with fail
      refine b1.mono ?_
      rintro e w1 ⟨rfl, rfl⟩
      go_wp2_with fail
      refine b2.mono ?_
      rintro e w2 ⟨rfl, rfl⟩
      go_wp2_with fail
      refine b3.mono ?_
      rintro e w3 ⟨rfl, rfl⟩
      go_wp2_with fail
      go_ret
      exact ⟨bool_end (by simp <;> omega), rfl⟩)
    · have n2 : ¬ (c : Int) < 127 := by omega
      have h3 : ¬ c ≤ 126 := by omega
      (
      go_enter Tryz.func29, Tryz.ntmps29
      go_wp2_with fail
      refine b1.mono ?_
      rintro e w1 ⟨rfl, rfl⟩
      go_wp2_with fail
      refine b2.mono ?_
      rintro e w2 ⟨rfl, rfl⟩
      go_wp2_with fail
      refine b3.mono ?_
      rintro e w3 ⟨rfl, rfl⟩
      go_wp2_with fail
      go_ret
      exact ⟨bool_end (by simp <;> omega), rfl⟩)
  · have n1 : ¬ (32 : Int) < (c : Int) := by omega
    (
    go_enter Tryz.func29, Tryz.ntmps29
    go_wp2_with fail
    refine b1.mono ?_
    rintro e w1 ⟨rfl, rfl⟩
    go_wp2_with fail
    refine b2.mono ?_
    rintro e w2 ⟨rfl, rfl⟩
    go_wp2_with fail
    refine b3.mono ?_
    rintro e w3 ⟨rfl, rfl⟩
    go_wp2_with fail
    go_ret
    exact ⟨bool_end (by simp <;> omega), rfl⟩)
set_option maxHeartbeats 2000000 in
set_option maxRecDepth 100000 in
theorem class_xdigit (hc : c < 256) (b1 : Btw c 65 90 U w) (b2 : Btw c 97 122 L w) (b3 : Btw c 48 57 D w) :
    Calls Tryz.prog 29 #[.string ⟨#[120, 100, 105, 103, 105, 116]⟩, .int .u8 (c : Int)] w fun e w' => e = .returned (.bool (D || within 65 70 c || within 97 102 c)) ∧ w' = w := by
  unfold within
  cases D with
  | true =>
    (
    go_enter Tryz.func29, Tryz.ntmps29
    go_wp2_with fail
    refine b1.mono ?_
    rintro e w1 ⟨rfl, rfl⟩
    go_wp2_with fail
    refine b2.mono ?_
    rintro e w2 ⟨rfl, rfl⟩
    go_wp2_with fail
    refine b3.mono ?_
    rintro e w3 ⟨rfl, rfl⟩
    go_wp2_with fail
    go_ret
    exact ⟨by rfl, rfl⟩)
  | false =>
    by_cases h1 : 65 ≤ c
    · have n1 : (65 : Int) ≤ (c : Int) := by omega
      by_cases h2 : c ≤ 70
      · have n2 : (c : Int) ≤ 70 := by omega
        (
        go_enter Tryz.func29, Tryz.ntmps29
        go_wp2_with fail
        refine b1.mono ?_
        rintro e w1 ⟨rfl, rfl⟩
        go_wp2_with fail
        refine b2.mono ?_
        rintro e w2 ⟨rfl, rfl⟩
        go_wp2_with fail
        refine b3.mono ?_
        rintro e w3 ⟨rfl, rfl⟩
        go_wp2_with fail
        go_ret
        exact ⟨bool_end (by simp <;> omega), rfl⟩)
      · have n2 : ¬ (c : Int) ≤ 70 := by omega
        by_cases h3 : 97 ≤ c
        · have n3 : (97 : Int) ≤ (c : Int) := by omega
          by_cases h4 : c ≤ 102
          · have n4 : (c : Int) ≤ 102 := by omega
            (
            go_enter Tryz.func29, Tryz.ntmps29
            go_wp2_with fail
            refine b1.mono ?_
            rintro e w1 ⟨rfl, rfl⟩
            go_wp2_with fail
            refine b2.mono ?_
            rintro e w2 ⟨rfl, rfl⟩
            go_wp2_with fail
            refine b3.mono ?_
            rintro e w3 ⟨rfl, rfl⟩
            go_wp2_with fail
            go_ret
            exact ⟨bool_end (by simp <;> omega), rfl⟩)
          · have n4 : ¬ (c : Int) ≤ 102 := by omega
            (
            go_enter Tryz.func29, Tryz.ntmps29
            go_wp2_with fail
            refine b1.mono ?_
            rintro e w1 ⟨rfl, rfl⟩
            go_wp2_with fail
            refine b2.mono ?_
            rintro e w2 ⟨rfl, rfl⟩
            go_wp2_with fail
            refine b3.mono ?_
            rintro e w3 ⟨rfl, rfl⟩
            go_wp2_with fail
            go_ret
            exact ⟨bool_end (by simp <;> omega), rfl⟩)
        · have n3 : ¬ (97 : Int) ≤ (c : Int) := by omega
          (
          go_enter Tryz.func29, Tryz.ntmps29
          go_wp2_with fail
          refine b1.mono ?_
          rintro e w1 ⟨rfl, rfl⟩
          go_wp2_with fail
          refine b2.mono ?_
          rintro e w2 ⟨rfl, rfl⟩
          go_wp2_with fail
          refine b3.mono ?_
          rintro e w3 ⟨rfl, rfl⟩
          go_wp2_with fail
          go_ret
          exact ⟨bool_end (by simp <;> omega), rfl⟩)
    · have n1 : ¬ (65 : Int) ≤ (c : Int) := by omega
      have n3 : ¬ (97 : Int) ≤ (c : Int) := by omega
      have h3 : ¬ 97 ≤ c := by omega
      (
      go_enter Tryz.func29, Tryz.ntmps29
      go_wp2_with fail
      refine b1.mono ?_
      rintro e w1 ⟨rfl, rfl⟩
      go_wp2_with fail
      refine b2.mono ?_
      rintro e w2 ⟨rfl, rfl⟩
      go_wp2_with fail
      refine b3.mono ?_
      rintro e w3 ⟨rfl, rfl⟩
      go_wp2_with fail
      go_ret
      exact ⟨bool_end (by simp <;> omega), rfl⟩)
set_option maxHeartbeats 2000000 in
set_option maxRecDepth 100000 in
theorem class_none (name : ByteArray) (_hn : name.size ≤ 2097152) (b1 : Btw c 65 90 U w) (b2 : Btw c 97 122 L w) (b3 : Btw c 48 57 D w)
    (n0 : (name.toList == [97, 108, 112, 104, 97]) = false)
    (n1 : (name.toList == [100, 105, 103, 105, 116]) = false)
    (n2 : (name.toList == [97, 108, 110, 117, 109]) = false)
    (n3 : (name.toList == [117, 112, 112, 101, 114]) = false)
    (n4 : (name.toList == [108, 111, 119, 101, 114]) = false)
    (n5 : (name.toList == [98, 108, 97, 110, 107]) = false)
    (n6 : (name.toList == [115, 112, 97, 99, 101]) = false)
    (n7 : (name.toList == [99, 110, 116, 114, 108]) = false)
    (n8 : (name.toList == [112, 114, 105, 110, 116]) = false)
    (n9 : (name.toList == [103, 114, 97, 112, 104]) = false)
    (n10 : (name.toList == [112, 117, 110, 99, 116]) = false)
    (n11 : (name.toList == [120, 100, 105, 103, 105, 116]) = false) :
    Calls Tryz.prog 29 #[.string name, .int .u8 (c : Int)] w fun e w' => e = .returned (.bool false) ∧ w' = w := by
  (
  go_enter Tryz.func29, Tryz.ntmps29
  go_wp2_with fail
  refine b1.mono ?_
  rintro e w1 ⟨rfl, rfl⟩
  go_wp2_with fail
  refine b2.mono ?_
  rintro e w2 ⟨rfl, rfl⟩
  go_wp2_with fail
  refine b3.mono ?_
  rintro e w3 ⟨rfl, rfl⟩
  go_wp2_with fail
  go_ret
  exact ⟨by rfl, rfl⟩)
end
theorem class_c (name : ByteArray) (c : Nat) (w : World) (hn : name.size ≤ 2097152) (hc : c < 256) :
    Calls Tryz.prog 29 #[.string name, .int .u8 (c : Int)] w fun e w' => e = .returned (.bool (classB name.data.toList c)) ∧ w' = w := by
  have b1 : Btw c 65 90 (upperB c) w := between_c c 65 90 w hc (by omega) (by omega)
  have b2 : Btw c 97 122 (lowerB c) w := between_c c 97 122 w hc (by omega) (by omega)
  have b3 : Btw c 48 57 (digitB c) w := between_c c 48 57 w hc (by omega) (by omega)
  by_cases h0 : name.data.toList = [97, 108, 112, 104, 97]
  · obtain rfl := eq_name h0
    exact class_alpha hc b1 b2 b3
  by_cases h1 : name.data.toList = [100, 105, 103, 105, 116]
  · obtain rfl := eq_name h1
    exact class_digit hc b1 b2 b3
  by_cases h2 : name.data.toList = [97, 108, 110, 117, 109]
  · obtain rfl := eq_name h2
    exact class_alnum hc b1 b2 b3
  by_cases h3 : name.data.toList = [117, 112, 112, 101, 114]
  · obtain rfl := eq_name h3
    exact class_upper hc b1 b2 b3
  by_cases h4 : name.data.toList = [108, 111, 119, 101, 114]
  · obtain rfl := eq_name h4
    exact class_lower hc b1 b2 b3
  by_cases h5 : name.data.toList = [98, 108, 97, 110, 107]
  · obtain rfl := eq_name h5
    exact class_blank hc b1 b2 b3
  by_cases h6 : name.data.toList = [115, 112, 97, 99, 101]
  · obtain rfl := eq_name h6
    exact class_space hc b1 b2 b3
  by_cases h7 : name.data.toList = [99, 110, 116, 114, 108]
  · obtain rfl := eq_name h7
    exact class_cntrl hc b1 b2 b3
  by_cases h8 : name.data.toList = [112, 114, 105, 110, 116]
  · obtain rfl := eq_name h8
    exact class_print hc b1 b2 b3
  by_cases h9 : name.data.toList = [103, 114, 97, 112, 104]
  · obtain rfl := eq_name h9
    exact class_graph hc b1 b2 b3
  by_cases h10 : name.data.toList = [112, 117, 110, 99, 116]
  · obtain rfl := eq_name h10
    exact class_punct hc b1 b2 b3
  by_cases h11 : name.data.toList = [120, 100, 105, 103, 105, 116]
  · obtain rfl := eq_name h11
    exact class_xdigit hc b1 b2 b3
  have e : classB name.data.toList c = false := by
    unfold classB classP
    rw [if_neg h0, if_neg h1, if_neg h2, if_neg h3, if_neg h4, if_neg h5, if_neg h6, if_neg h7, if_neg h8, if_neg h9, if_neg h10, if_neg h11]
  rw [e]
  exact class_none name hn b1 b2 b3 (ne_name h0) (ne_name h1) (ne_name h2) (ne_name h3) (ne_name h4) (ne_name h5) (ne_name h6) (ne_name h7) (ne_name h8) (ne_name h9) (ne_name h10) (ne_name h11)
end Go.Proofs.YtfkoehfkiommpaaGreatDoor.Tr
