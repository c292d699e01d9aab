/- Plain mathematics of the digits of a number to a base; no program is named here. -/
namespace Go.Proofs.YtcpclpckjheadaaDoor

/-- A digit's sign. -/
def sgn (d : Nat) : UInt8 := if d < 10 then UInt8.ofNat (48 + d) else UInt8.ofNat (87 + d)

/-- A number's digits to a base, the greatest first, at most so many. -/
def dgF : Nat → Nat → Nat → List UInt8
  | 0, _, u => [sgn u]
  | f + 1, B, u => if u < B then [sgn u] else dgF f B (u / B) ++ [sgn (u % B)]

theorem dgF_enough (B : Nat) (hB : 2 ≤ B) : ∀ (f g u : Nat), u ≤ f → u ≤ g → dgF f B u = dgF g B u
  | 0, 0, _, _, _ => rfl
  | 0, g + 1, u, h, _ => by
    obtain rfl : u = 0 := by omega
    rw [dgF, dgF, if_pos (by omega)]
  | f + 1, 0, u, _, h => by
    obtain rfl : u = 0 := by omega
    rw [dgF, dgF, if_pos (by omega)]
  | f + 1, g + 1, u, h, h' => by
    rw [dgF, dgF]
    by_cases hu : u < B
    · rw [if_pos hu, if_pos hu]
    · have hd := Nat.div_lt_self (show 0 < u by omega) (show 1 < B by omega)
      rw [if_neg hu, if_neg hu, dgF_enough B hB f g (u / B) (by omega) (by omega)]

/-- A number's digits to a base, the greatest first. -/
def dgB (B u : Nat) : List UInt8 := dgF u B u

theorem dgB_small {B u : Nat} (h : u < B) : dgB B u = [sgn u] := by
  unfold dgB
  cases u with
  | zero => rfl
  | succ u => rw [dgF, if_pos h]
theorem dgB_step {B u : Nat} (hB : 2 ≤ B) (h : B ≤ u) : dgB B u = dgB B (u / B) ++ [sgn (u % B)] := by
  unfold dgB
  have hd := Nat.div_lt_self (show 0 < u by omega) (show 1 < B by omega)
  cases u with
  | zero => omega
  | succ u => rw [dgF, if_neg (by omega), dgF_enough B hB u ((u + 1) / B) ((u + 1) / B) (by omega) (Nat.le_refl _)]

/-- An int's digits, with its sign. -/
def digL (B : Nat) (n : Int) : List UInt8 := if n < 0 then 45 :: dgB B n.natAbs else dgB B n.natAbs

theorem pow_lt_of {u i : Nat} (hu : 8 ≤ u) (h : u < 2 ^ (i - 1)) (h2 : 2 ≤ i) : 5 ≤ i := by
  rcases Nat.lt_or_ge i 5 with hi | hi
  · have : i = 2 ∨ i = 3 ∨ i = 4 := by omega
    rcases this with rfl | rfl | rfl <;> simp at h <;> omega
  · exact hi
theorem pow_next {u i k : Nat} (hk : 2 ≤ k) (h : u < 2 ^ (i - 1)) (h2 : 2 ≤ i) : u / k < 2 ^ (i - 1 - 1) := by
  rw [Nat.div_lt_iff_lt_mul (by omega)]
  have e : 2 ^ (i - 1) = 2 ^ (i - 1 - 1) * 2 := by rw [← Nat.pow_succ]; congr 1; omega
  rw [e] at h
  exact Nat.lt_of_lt_of_le h (Nat.mul_le_mul_left _ hk)

theorem dgB_length (B : Nat) (hB : 2 ≤ B) : ∀ (k u : Nat), u < 2 ^ (k + 1) → (dgB B u).length ≤ k + 1
  | 0, u, h => by
    rw [dgB_small (show u < B by simp at h; omega)]; simp
  | k + 1, u, h => by
    by_cases hu : u < B
    · rw [dgB_small hu]; simp
    · rw [dgB_step hB (by omega), List.length_append]
      have h2 : u / B < 2 ^ (k + 1) := by
        rw [Nat.div_lt_iff_lt_mul (by omega)]
        have e : 2 ^ (k + 1 + 1) = 2 ^ (k + 1) * 2 := Nat.pow_succ ..
        rw [e] at h
        exact Nat.lt_of_lt_of_le h (Nat.mul_le_mul_left _ hB)
      have := dgB_length B hB k (u / B) h2
      simp; omega

/-- Behind some rounds of the plain telling of digits: u is left, out is told. -/
def DigInv (B u0 u : Nat) (out : List UInt8) : Prop := (u = 0 ∧ out ≠ [] ∧ out = dgB B u0) ∨ ((u ≠ 0 ∨ out = []) ∧ dgB B u ++ out = dgB B u0)
theorem DigInv.start (B u0 : Nat) : DigInv B u0 u0 [] := .inr ⟨.inr rfl, List.append_nil _⟩
theorem DigInv.next {B u0 u : Nat} {out : List UInt8} (hB : 2 ≤ B) (h : DigInv B u0 u out) (hc : u ≠ 0 ∨ out = []) : DigInv B u0 (u / B) (sgn (u % B) :: out) := by
  have h' : dgB B u ++ out = dgB B u0 := by
    rcases h with ⟨h1, h2, _⟩ | ⟨_, h3⟩
    · exact absurd hc (by intro hc; rcases hc with hc | hc; exact hc h1; exact h2 hc)
    · exact h3
  by_cases hu : u < B
  · rw [dgB_small hu] at h'
    refine .inl ⟨Nat.div_eq_of_lt hu, by simp, ?_⟩
    rw [Nat.mod_eq_of_lt hu]; exact h'
  · rw [dgB_step hB (by omega), List.append_assoc] at h'
    refine .inr ⟨.inl ?_, h'⟩
    have := Nat.div_pos (show B ≤ u by omega) (by omega)
    omega
theorem DigInv.done {B u0 u : Nat} {out : List UInt8} (h : DigInv B u0 u out) (hc : u = 0 ∧ out ≠ []) : out = dgB B u0 := by
  rcases h with ⟨_, _, h3⟩ | ⟨h1, _⟩
  · exact h3
  · exact absurd h1 (by intro h1; rcases h1 with h1 | h1; exact h1 hc.1; exact hc.2 h1)
theorem DigInv.length {B u0 u : Nat} {out : List UInt8} (hB : 2 ≤ B) (hu : u0 < 2 ^ 64) (h : DigInv B u0 u out) : out.length ≤ 64 := by
  have hl := dgB_length B hB 63 u0 hu
  rcases h with ⟨_, _, h3⟩ | ⟨_, h3⟩
  · rw [h3]; exact hl
  · have := congrArg List.length h3
    rw [List.length_append] at this
    omega
theorem tdiv_neg_nat (u B : Nat) : (-(u : Int)).tdiv (B : Int) = -((u / B : Nat) : Int) := by
  rw [Int.neg_tdiv, Int.tdiv_eq_ediv_of_nonneg (by omega)]; rfl
theorem tmod_neg_nat (u B : Nat) : (-(u : Int)).tmod (B : Int) = -((u % B : Nat) : Int) := by
  rw [Int.neg_tmod, Int.tmod_eq_emod_of_nonneg (by omega)]; rfl
end Go.Proofs.YtcpclpckjheadaaDoor
