/- Regular expressions: what is left behind each piece is less; the reading by its own equation. -/
import Derived.Test.YtlekfdkahlobiaaGreatDoorGSpec
namespace Go.Proofs.YtlekfdkahlobiaaGreatDoor.Re
open Go.Proofs.YtlekfdkahlobiaaGreatDoor.Tr

theorem lt_of_some {s : List UInt8} {i : Nat} {c : UInt8} (h : s[i]? = some c) : i < s.length := (List.getElem?_eq_some_iff.1 h).1
theorem endS_is {k : UInt8} {s : List UInt8} {q : UInt8 × List UInt8} (h : endS k s = some q) : (s[0]? = some 91 ∧ s[1]? = some k ∧ s[3]? = some k ∧ s[4]? = some 93) ∧ q = (s[2]?.getD 0, s.drop 5) := by
  unfold endS at h
  split at h
  · rename_i hc; exact ⟨hc, (Option.some.inj h).symm⟩
  · cases h
theorem endS_len {k : UInt8} {s : List UInt8} {q : UInt8 × List UInt8} (h : endS k s = some q) : q.2.length < s.length := by
  obtain ⟨⟨_, _, _, h4⟩, rfl⟩ := endS_is h
  have := lt_of_some h4
  rw [List.length_drop]; omega
theorem shutS_len : ∀ {t : List UInt8} {k : Nat}, shutS t = some k → k + 2 ≤ t.length
  | [], _, h => by cases h
  | [_], _, h => by cases h
  | a :: b :: r, k, h => by
    rw [shutS] at h
    split at h
    · cases h; simp
    · cases hs : shutS (b :: r) with
      | none => rw [hs] at h; cases h
      | some j =>
        rw [hs] at h
        cases h
        have := shutS_len hs
        simp at this ⊢
        omega
theorem clsS_len {s : List UInt8} {q : List UInt8 × List UInt8} (h : clsS s = some q) : q.2.length < s.length := by
  unfold clsS at h
  split at h
  · cases hs : shutS (s.drop 2) with
    | none => rw [hs] at h; cases h
    | some k =>
      rw [hs] at h
      cases h
      have := shutS_len hs
      simp at this ⊢
      omega
  · cases h
theorem fromS_len {s : List UInt8} (h : s ≠ []) : (fromS s).2.length < s.length := by
  unfold fromS
  cases he : endS 46 s with
  | none => have := List.length_pos_iff.2 h; simp; omega
  | some q => exact endS_len he
theorem toS_len {s : List UInt8} (h : s ≠ []) : (toS s).2.length < s.length := fromS_len h
theorem spanS_len {c : UInt8} {r : List UInt8} {q : (UInt8 → Bool) × List UInt8} (h : spanS c r = some q) : q.2.length ≤ r.length := by
  unfold spanS at h
  split at h
  · rename_i hc
    split at h
    · cases h
    · cases h
      have hn : r.drop 1 ≠ [] := by
        intro e
        have := congrArg List.length e
        simp at this
        omega
      have := toS_len hn
      simp at this ⊢
      omega
  · cases h; exact Nat.le_refl _
theorem partS_len {s : List UInt8} (hs : s ≠ []) {q : (UInt8 → Bool) × List UInt8} (h : partS s = some q) : q.2.length < s.length := by
  unfold partS at h
  split at h
  · rename_i u hu
    cases hp : classP u.1 with
    | none => rw [hp] at h; cases h
    | some p => rw [hp] at h; cases h; exact clsS_len hu
  · split at h
    · rename_i u hu; cases h; exact endS_len hu
    · exact Nat.lt_of_le_of_lt (spanS_len h) (fromS_len hs)
theorem partsS_len : ∀ {f : Nat} {b : Bool} {p : UInt8 → Bool} {s : List UInt8} {q : (UInt8 → Bool) × List UInt8}, partsS f b p s = some q → q.2.length < s.length
  | 0, _, _, _, _, h => by cases h
  | _ + 1, _, _, [], _, h => by cases h
  | f + 1, b, p, c :: r, q, h => by
    rw [partsS] at h
    split at h
    · cases h; simp
    · cases hp : partS (c :: r) with
      | none => rw [hp] at h; cases h
      | some u =>
        rw [hp] at h
        exact Nat.lt_trans (partsS_len h) (partS_len (by simp) hp)
theorem bracketS_len {fold : Bool} {s : List UInt8} {q : Nd × List UInt8} (h : bracketS fold s = some q) : q.2.length < s.length := by
  unfold bracketS at h
  cases hp : partsS (s.length + 1) true noB (behindNot s) with
  | none => rw [hp] at h; cases h
  | some u =>
    rw [hp] at h
    cases h
    have := partsS_len hp
    have h2 : (behindNot s).length ≤ s.length := by unfold behindNot; split <;> simp
    show u.2.length < _
    omega
theorem drop_lt {s : List UInt8} {k : Nat} (hk : 0 < k) {c : UInt8} (h : s[0]? = some c) : (s.drop k).length < s.length := by
  have := lt_of_some h
  rw [List.length_drop]; omega
theorem brace2_len {shut t : List UInt8} {m : Int} {q : Int × Int × List UInt8} (h : brace2 shut m t = some q) : q.2.2.length ≤ t.length := by
  unfold brace2 at h
  split at h
  · cases h; simp
  · simp only at h
    split at h
    · cases h; simp <;> omega
    · cases h
theorem braceS_len {shut s : List UInt8} {q : Int × Int × List UInt8} (h : braceS shut s = some q) : q.2.2.length ≤ s.length := by
  unfold braceS at h
  simp only at h
  split at h
  · cases h
  · split at h
    · have := brace2_len h
      simp at this
      omega
    · split at h
      · cases h; simp <;> omega
      · cases h
theorem timesS_len {ext : Bool} {s : List UInt8} {q : Int × Int × List UInt8} (h : timesS ext s = some (some q)) : q.2.2.length < s.length := by
  unfold timesS at h
  split at h
  · rename_i h0; cases h; exact drop_lt (by omega) h0
  · split at h
    · split at h
      · rename_i h0; cases h; exact drop_lt (by omega) h0
      · split at h
        · rename_i h0; cases h; exact drop_lt (by omega) h0
        · split at h
          · rename_i h0
            exact Nat.lt_of_le_of_lt (braceS_len (Option.some.inj h)) (drop_lt (by omega) h0)
          · cases h
    · split at h
      · rename_i h0
        exact Nat.lt_of_le_of_lt (braceS_len (Option.some.inj h)) (drop_lt (by omega) h0.1)
      · cases h
theorem repS_len {ext : Bool} {x : Nd} {s : List UInt8} {q : Nd × List UInt8} (h : repS ext x s = some q) : q.2.length ≤ s.length := by
  unfold repS at h
  split at h
  · cases h; exact Nat.le_refl _
  · cases h
  · rename_i u hu
    split at h
    · cases h
    · cases h; exact Nat.le_of_lt (timesS_len hu)

def Shr (G : Nat → List UInt8 → RL) : Prop := ∀ m s q, G m s = some q → q.2.length ≤ s.length
section
variable {mk : Nd → Nd} {fold : Bool} {G G' : Nat → List UInt8 → RL}
theorem closeS_len {k : Nat} {shut s : List UInt8} {r : RL} {q : Nd × List UInt8} (hr : ∀ t, r = some t → t.2.length ≤ s.length) (h : closeS mk k shut r = some q) : q.2.length ≤ s.length := by
  unfold closeS at h
  cases r with
  | none => cases h
  | some t =>
    have := hr t rfl
    rw [Option.bind_some] at h
    split at h
    · cases h; simp; omega
    · cases h
theorem quoteE_len {r : List UInt8} {q : Nd × List UInt8} (h : quoteE fold r = some q) : q.2.length ≤ r.length := by
  cases r with
  | nil => cases h
  | cons d t =>
    rw [quoteE] at h
    split at h
    · cases h
    · cases h; simp
theorem atomE_len (hG : Shr G) {c : UInt8} {r : List UInt8} {q : Nd × List UInt8} (h : atomE mk fold G c r = some q) : q.2.length ≤ r.length := by
  unfold atomE at h
  split at h
  · exact closeS_len (fun t ht => hG _ _ _ ht) h
  split at h
  · exact Nat.le_of_lt (bracketS_len h)
  split at h
  · cases h; exact Nat.le_refl _
  split at h
  · cases h; exact Nat.le_refl _
  split at h
  · cases h; exact Nat.le_refl _
  split at h
  · exact quoteE_len h
  split at h
  · cases h
  · cases h; exact Nat.le_refl _
theorem pieceE_len (hG : Shr G) {c : UInt8} {r : List UInt8} {q : Nd × List UInt8} (h : pieceE mk fold G c r = some q) : q.2.length ≤ r.length := by
  unfold pieceE at h
  cases ha : atomE mk fold G c r with
  | none => rw [ha] at h; cases h
  | some u =>
    have h1 := atomE_len hG ha
    rw [ha, Option.bind_some] at h
    split at h
    · split at h
      · cases h
      · cases h; exact h1
    · exact Nat.le_trans (repS_len h) h1
theorem quoteB_len (hG : Shr G) {r : List UInt8} {q : Nd × List UInt8} (h : quoteB mk fold G r = some q) : q.2.length ≤ r.length := by
  cases r with
  | nil => cases h
  | cons d t =>
    rw [quoteB] at h
    split at h
    · have := closeS_len (fun t ht => hG _ _ _ ht) h
      simp; omega
    split at h
    · cases h
    · cases h; simp
theorem plainB_len (hG : Shr G) {c : UInt8} {r : List UInt8} {q : Nd × List UInt8} (h : plainB mk fold G c r = some q) : q.2.length ≤ r.length := by
  unfold plainB at h
  split at h
  · exact Nat.le_of_lt (bracketS_len h)
  split at h
  · cases h; exact Nat.le_refl _
  split at h
  · exact quoteB_len hG h
  · cases h; exact Nat.le_refl _
theorem consR_len {x : Nd} {r : RL} {q : List Nd × List UInt8} {n : Nat} (hr : ∀ t, r = some t → t.2.length ≤ n) (h : consR x r = some q) : q.2.length ≤ n := by
  unfold consR at h
  cases r with
  | none => cases h
  | some t => cases h; exact hr t rfl
theorem step_len (hG : Shr G) : Shr (step mk fold G) := by
  intro m s q h
  unfold step at h
  split at h
  · cases h1 : G 1 s with
    | none => rw [h1] at h; cases h
    | some u =>
      have hu := hG _ _ _ h1
      rw [h1, Option.bind_some] at h
      unfold stepA at h
      split at h
      · cases h
      split at h
      · refine consR_len (fun t ht => ?_) h
        have := hG _ _ _ ht
        simp at this
        omega
      · cases h; exact hu
  split at h
  · cases s with
    | nil => cases h; simp
    | cons c r =>
      rw [stepE] at h
      split at h
      · cases h; exact Nat.le_refl _
      · cases hp : pieceE mk fold G c r with
        | none => rw [hp] at h; cases h
        | some u =>
          rw [hp, Option.bind_some] at h
          have h1 := pieceE_len hG hp
          refine consR_len (fun t ht => ?_) h
          have := hG _ _ _ ht
          simp
          omega
  · cases s with
    | nil => cases h; simp
    | cons c r =>
      rw [stepB] at h
      split at h
      · cases h; exact Nat.le_refl _
      split at h
      · refine consR_len (fun t ht => ?_) h
        have := hG _ _ _ ht
        simp; omega
      split at h
      · refine consR_len (fun t ht => ?_) h
        have := hG _ _ _ ht
        simp; omega
      split at h
      · cases h
      · cases hp : plainB mk fold G c r with
        | none => rw [hp] at h; cases h
        | some u =>
          rw [hp, Option.bind_some] at h
          cases hr : repS false u.1 u.2 with
          | none => rw [hr] at h; cases h
          | some t =>
            rw [hr, Option.bind_some] at h
            have h1 := plainB_len hG hp
            have h2 := repS_len hr
            refine consR_len (fun v hv => ?_) h
            have := hG _ _ _ hv
            simp; omega
theorem rank_lt {m m' : Nat} {s s' : List UInt8} (h : s'.length < s.length) : rank m' s' < rank m s := by
  unfold rank
  split <;> split <;> omega
theorem atomE_congr {c : UInt8} {r : List UInt8} (h : G 0 r = G' 0 r) : atomE mk fold G c r = atomE mk fold G' c r := by unfold atomE; rw [h]
theorem pieceE_congr {c : UInt8} {r : List UInt8} (h : G 0 r = G' 0 r) : pieceE mk fold G c r = pieceE mk fold G' c r := by unfold pieceE; rw [atomE_congr h]
theorem plainB_congr {c : UInt8} {r : List UInt8} (h : ∀ d t, r = d :: t → G 2 t = G' 2 t) : plainB mk fold G c r = plainB mk fold G' c r := by
  unfold plainB
  cases r with
  | nil => rfl
  | cons d t => rw [quoteB, quoteB, h d t rfl]
theorem step_congr (hG : Shr G) {m : Nat} {s : List UInt8} (h : ∀ m' s', rank m' s' < rank m s → G m' s' = G' m' s') : step mk fold G m s = step mk fold G' m s := by
  unfold step
  by_cases h0 : m = 0
  · subst h0
    rw [if_pos rfl, if_pos rfl, ← h 1 s (by simp [rank])]
    cases h1 : G 1 s with
    | none => rfl
    | some q =>
      have := hG _ _ _ h1
      rw [Option.bind_some, Option.bind_some]
      unfold stepA
      by_cases hz : q.2[0]? = some 124
      · have h2 := lt_of_some hz
        rw [h 0 (q.2.drop 1) (rank_lt (by simp; omega))]
      · rw [if_neg hz, if_neg hz]
  rw [if_neg h0, if_neg h0]
  by_cases h1 : m = 1
  · rw [if_pos h1, if_pos h1]
    cases s with
    | nil => rfl
    | cons c r =>
      have e := pieceE_congr (mk := mk) (fold := fold) (c := c) (h 0 r (rank_lt (by simp)))
      rw [stepE, stepE, ← e]
      cases hp : pieceE mk fold G c r with
      | none => rfl
      | some q =>
        have := pieceE_len hG hp
        rw [Option.bind_some, Option.bind_some, h 1 q.2 (rank_lt (by simp; omega))]
  · rw [if_neg h1, if_neg h1]
    cases s with
    | nil => rfl
    | cons c r =>
      have e := plainB_congr (mk := mk) (fold := fold) (c := c) (r := r) (G := G) (G' := G') (fun d t e => h 2 t (rank_lt (by rw [e]; simp; omega)))
      rw [stepB, stepB, ← e, h 3 r (rank_lt (by simp)), h 4 r (rank_lt (by simp))]
      cases hp : plainB mk fold G c r with
      | none => rfl
      | some q =>
        have h1 := plainB_len hG hp
        rw [Option.bind_some, Option.bind_some]
        cases hr : repS false q.1 q.2 with
        | none => rfl
        | some t =>
          have h2 := repS_len hr
          rw [Option.bind_some, Option.bind_some, h 4 t.2 (rank_lt (by simp; omega))]
theorem goN_len : ∀ n, Shr (goN mk fold n)
  | 0 => fun _ _ _ h => by cases h
  | n + 1 => step_len (goN_len n)
theorem rank_pos (m : Nat) (s : List UInt8) : 0 < rank m s := by unfold rank; split <;> omega
theorem goN_enough : ∀ (n n' m : Nat) (s : List UInt8), rank m s ≤ n → rank m s ≤ n' → goN mk fold n m s = goN mk fold n' m s
  | 0, _, m, s, h, _ => absurd (rank_pos m s) (by omega)
  | _ + 1, 0, m, s, _, h => absurd (rank_pos m s) (by omega)
  | n + 1, n' + 1, m, s, h, h' => by
    rw [goN, goN]
    exact step_congr (goN_len n) fun m' s' hr => goN_enough n n' m' s' (by omega) (by omega)
theorem goS_len : Shr (goS mk fold) := fun m s q h => goN_len _ m s q h
/-- The reading's own equation. -/
theorem goS_eq (m : Nat) (s : List UInt8) : goS mk fold m s = step mk fold (goS mk fold) m s := by
  show goN mk fold (rank m s) m s = _
  obtain ⟨k, hk⟩ : ∃ k, rank m s = k + 1 := ⟨rank m s - 1, by have := rank_pos m s; omega⟩
  rw [hk, goN]
  exact step_congr (goN_len k) fun m' s' hr => goN_enough _ _ m' s' (by omega) (Nat.le_refl _)
theorem goS_0 (s : List UInt8) : goS mk fold 0 s = (goS mk fold 1 s).bind (stepA (goS mk fold)) := by rw [goS_eq]; rfl
theorem goS_1 (s : List UInt8) : goS mk fold 1 s = stepE mk fold (goS mk fold) s := by rw [goS_eq]; rfl
theorem goS_B {m : Nat} (hm : 2 ≤ m) (s : List UInt8) : goS mk fold m s = stepB mk fold (goS mk fold) m s := by rw [goS_eq]; unfold step; rw [if_neg (by omega), if_neg (by omega)]
end
end Go.Proofs.YtlekfdkahlobiaaGreatDoor.Re
