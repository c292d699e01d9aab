/- Regular expressions: what is left behind each piece is less; the reading by its own equation. -/
import Derived.Test.YtlekfdkahlobiaaGreatGSpec
namespace Go.Proofs.YtlekfdkahlobiaaGreat.Re
open Go.Proofs.YtlekfdkahlobiaaGreat.Tr

theorem lt_of_some {s : List UInt8} {i : Nat} {c : UInt8} (h : s[i]? = some c) : i < s.length := (List.getElem?_eq_some_iff.1 h).1
theorem endS_is {k : UInt8} {s : List UInt8} {q : UInt8 × List UInt8} (h : endS k s = some q) : (s[0]? = some 91 ∧ s[1]? = some k ∧ s[3]? = some k ∧ s[4]? = some 93) ∧ q = (s[2]?.getD 0, s.drop 5) := by
  unfold endS at h
  split at h
  · rename_i hc; exact ⟨hc, (Option.some.inj h).symm⟩
  · cases h
theorem endS_len {k : UInt8} {s : List UInt8} {q : UInt8 × List UInt8} (h : endS k s = some q) : q.2.length < s.length := by
  obtain ⟨⟨_, _, _, h4⟩, rfl⟩ := endS_is h
  have := lt_of_some h4
  rw [List.length_drop]; omega
theorem shutS_len : ∀ {t : List UInt8} {k : Nat}, shutS t = some k → k + 2 ≤ t.length
  | [], _, h => by cases h
  | [_], _, h => by cases h
  | a :: b :: r, k, h => by
    rw [shutS] at h
    split at h
    · cases h; simp
    · cases hs : shutS (b :: r) with
      | none => rw [hs] at h; cases h
      | some j =>
        rw [hs] at h
        cases h
        have := shutS_len hs
        simp at this ⊢
        omega
theorem clsS_len {s : List UInt8} {q : List UInt8 × List UInt8} (h : clsS s = some q) : q.2.length < s.length := by
  unfold clsS at h
  split at h
  · cases hs : shutS (s.drop 2) with
    | none => rw [hs] at h; cases h
    | some k =>
      rw [hs] at h
      cases h
      have := shutS_len hs
      simp at this ⊢
      omega
  · cases h
theorem fromS_len {s : List UInt8} (h : s ≠ []) : (fromS s).2.length < s.length := by
  unfold fromS
  cases he : endS 46 s with
  | none => have := List.length_pos_iff.2 h; simp; omega
  | some q => exact endS_len he
theorem toS_len {s : List UInt8} (h : s ≠ []) : (toS s).2.length < s.length := fromS_len h
theorem spanS_len {c : UInt8} {r : List UInt8} {q : (UInt8 → Bool) × List UInt8} (h : spanS c r = some q) : q.2.length ≤ r.length := by
  unfold spanS at h
  split at h
  · rename_i hc
    split at h
    · cases h
    · cases h
      have hn : r.drop 1 ≠ [] := by
        intro e
        have := congrArg List.length e
        simp at this
        omega
      have := toS_len hn
      simp at this ⊢
      omega
  · cases h; exact Nat.le_refl _
theorem partS_len {s : List UInt8} (hs : s ≠ []) {q : (UInt8 → Bool) × List UInt8} (h : partS s = some q) : q.2.length < s.length := by
  unfold partS at h
  split at h
  · rename_i u hu
    cases hp : classP u.1 with
    | none => rw [hp] at h; cases h
    | some p => rw [hp] at h; cases h; exact clsS_len hu
  · split at h
    · rename_i u hu; cases h; exact endS_len hu
    · exact Nat.lt_of_le_of_lt (spanS_len h) (fromS_len hs)
theorem partsS_len : ∀ {f : Nat} {b : Bool} {p : UInt8 → Bool} {s : List UInt8} {q : (UInt8 → Bool) × List UInt8}, partsS f b p s = some q → q.2.length < s.length
  | 0, _, _, _, _, h => by cases h
  | _ + 1, _, _, [], _, h => by cases h
  | f + 1, b, p, c :: r, q, h => by
    rw [partsS] at h
    split at h
    · cases h; simp
    · cases hp : partS (c :: r) with
      | none => rw [hp] at h; cases h
      | some u =>
        rw [hp] at h
        exact Nat.lt_trans (partsS_len h) (partS_len (by simp) hp)
theorem bracketS_len {fold : Bool} {s : List UInt8} {q : Nd × List UInt8} (h : bracketS fold s = some q) : q.2.length < s.length := by
  unfold bracketS at h
  cases hp : partsS (s.length + 1) true noB (behindNot s) with
  | none => rw [hp] at h; cases h
  | some u =>
    rw [hp] at h
    cases h
    have := partsS_len hp
    have h2 : (behindNot s).length ≤ s.length := by unfold behindNot; split <;> simp
    show u.2.length < _
    omega
theorem drop_lt {s : List UInt8} {k : Nat} (hk : 0 < k) {c : UInt8} (h : s[0]? = some c) : (s.drop k).length < s.length := by
  have := lt_of_some h
  rw [List.length_drop]; omega
theorem brace2_len {shut t : List UInt8} {m : Int} {q : Int × Int × List UInt8} (h : brace2 shut m t = some q) : q.2.2.length ≤ t.length := by
  unfold brace2 at h
  split at h
  · cases h; simp
  · simp only at h
    split at h
    · cases h; simp <;> omega
    · cases h
theorem braceS_len {shut s : List UInt8} {q : Int × Int × List UInt8} (h : braceS shut s = some q) : q.2.2.length ≤ s.length := by
  unfold braceS at h
  simp only at h
  split at h
  · cases h
  · split at h
    · have := brace2_len h
      simp at this
      omega
    · split at h
      · cases h; simp <;> omega
      · cases h
theorem timesS_len {ext : Bool} {s : List UInt8} {q : Int × Int × List UInt8} (h : timesS ext s = some (some q)) : q.2.2.length < s.length := by
  unfold timesS at h
  split at h
  · rename_i h0; cases h; exact drop_lt (by omega) h0
  · split at h
    · split at h
      · rename_i h0; cases h; exact drop_lt (by omega) h0
      · split at h
        · rename_i h0; cases h; exact drop_lt (by omega) h0
        · split at h
          · rename_i h0
            exact Nat.lt_of_le_of_lt (braceS_len (Option.some.inj h)) (drop_lt (by omega) h0)
          · cases h
    · split at h
      · rename_i h0
        exact Nat.lt_of_le_of_lt (braceS_len (Option.some.inj h)) (drop_lt (by omega) h0.1)
      · cases h
theorem repS_len {ext : Bool} {x : Nd} {s : List UInt8} {q : Nd × List UInt8} (h : repS ext x s = some q) : q.2.length ≤ s.length := by
  unfold repS at h
  split at h
  · cases h; exact Nat.le_refl _
  · cases h
  · rename_i u hu
    split at h
    · cases h
    · cases h; exact Nat.le_of_lt (timesS_len hu)

def Shr (G : Nat → List UInt8 → RL) : Prop := ∀ m s q, G m s = some q → q.2.length ≤ s.length
section
variable {mk : Nd → Nd} {fold : Bool} {G G' : Nat → List UInt8 → RL}
theorem closeS_len {k : Nat} {shut s : List UInt8} {r : RL} {q : Nd × List UInt8} (hr : ∀ t, r = some t → t.2.length ≤ s.length) (h : closeS mk k shut r = some q) : q.2.length ≤ s.length := by
  unfold closeS at h
  cases r with
  | none => cases h
  | some t =>
    have := hr t rfl
    rw [Option.bind_some] at h
    split at h
    · cases h; simp; omega
    · cases h
theorem quoteE_len {r : List UInt8} {q : Nd × List UInt8} (h : quoteE fold r = some q) : q.2.length ≤ r.length := by
  cases r with
  | nil => cases h
  | cons d t =>
    rw [quoteE] at h
    split at h
    · cases h
    · cases h; simp
theorem atomE_len (hG : Shr G) {c : UInt8} {r : List UInt8} {q : Nd × List UInt8} (h : atomE mk fold G c r = some q) : q.2.length ≤ r.length := by
  unfold atomE at h
  split at h
  · exact closeS_len (fun t ht => hG _ _ _ ht) h
  split at h
  · exact Nat.le_of_lt (bracketS_len h)
  split at h
  · cases h; exact Nat.le_refl _
  split at h
  · cases h; exact Nat.le_refl _
  split at h
  · cases h; exact Nat.le_refl _
  split at h
  · exact quoteE_len h
  split at h
  · cases h
  · cases h; exact Nat.le_refl _
theorem pieceE_len (hG : Shr G) {c : UInt8} {r : List UInt8} {q : Nd × List UInt8} (h : pieceE mk fold G c r = some q) : q.2.length ≤ r.length := by
  unfold pieceE at h
  cases ha : atomE mk fold G c r with
  | none => rw [ha] at h; cases h
  | some u =>
    have h1 := atomE_len hG ha
    rw [ha, Option.bind_some] at h
    split at h
    · split at h
      · cases h
      · cases h; exact h1
    · exact Nat.le_trans (repS_len h) h1
theorem quoteB_len (hG : Shr G) {r : List UInt8} {q : Nd × List UInt8} (h : quoteB mk fold G r = some q) : q.2.length ≤ r.length := by
  cases r with
  | nil => cases h
  | cons d t =>
    rw [quoteB] at h
    split at h
    · have := closeS_len (fun t ht => hG _ _ _ ht) h
      simp; omega
    split at h
    · cases h
    · cases h; simp
theorem plainB_len (hG : Shr G) {c : UInt8} {r : List UInt8} {q : Nd × List UInt8} (h : plainB mk fold G c r = some q) : q.2.length ≤ r.length := by
  unfold plainB at h
  split at h
  · exact Nat.le_of_lt (bracketS_len h)
  split at h
  · cases h; exact Nat.le_refl _
  split at h
  · exact quoteB_len hG h
  · cases h; exact Nat.le_refl _
theorem consR_len {x : Nd} {r : RL} {q : List Nd × List UInt8} {n : Nat} (hr : ∀ t, r = some t → t.2.length ≤ n) (h : consR x r = some q) : q.2.length ≤ n := by
  unfold consR at h
  cases r with
  | none => cases h
  | some t => cases h; exact hr t rfl
theorem step_len (hG : Shr G) : Shr (step mk fold G) := by
  intro m s q h
  unfold step at h
  split at h
  · cases h1 : G 1 s with
    | none => rw [h1] at h; cases h
    | some u =>
      have hu := hG _ _ _ h1
      rw [h1, Option.bind_some] at h
      unfold stepA at h
      split at h
      · cases h
      split at h
      · refine consR_len (fun t ht => ?_) h
        have := hG _ _ _ ht
        simp at this
        omega
      · cases h; exact hu
  split at h
  · cases s with
    | nil => cases h; simp
    | cons c r =>
      rw [stepE] at h
      split at h
      · cases h; exact Nat.le_refl _
      · cases hp : pieceE mk fold G c r with
        | none => rw [hp] at h; cases h
        | some u =>
          rw [hp, Option.bind_some] at h
          have h1 := pieceE_len hG hp
          refine consR_len (fun t ht => ?_) h
          have := hG _ _ _ ht
          simp
          omega
  · cases s with
    | nil => cases h; simp
    | cons c r =>
      rw [stepB] at h
      split at h
      · cases h; exact Nat.le_refl _
      split at h
      · refine consR_len (fun t ht => ?_) h
        have := hG _ _ _ ht
        simp; omega
      split at h
      · refine consR_len (fun t ht => ?_) h
        have := hG _ _ _ ht
        simp; omega
      split at h
      · cases h
      · cases hp : plainB mk fold G c r with
        | none => rw [hp] at h; cases h
        | some u =>
          rw [hp, Option.bind_some] at h
          cases hr : repS false u.1 u.2 with
          | none => rw [hr] at h; cases h
          | some t =>
            rw [hr, Option.bind_some] at h
            have h1 := plainB_len hG hp
            have h2 := repS_len hr
            refine consR_len (fun v hv => ?_) h
            have := hG _ _ _ hv
            simp; omega
theorem rank_lt {m m' : Nat} {s s' : List UInt8} (h : s'.length < s.length) : rank m' s' < rank m s := by
  unfold rank
  split <;> split <;> omega
theorem atomE_congr {c : UInt8} {r : List UInt8} (h : G 0 r = G' 0 r) : atomE mk fold G c r = atomE mk fold G' c r := by unfold atomE; rw [h]
theorem pieceE_congr {c : UInt8} {r : List UInt8} (h : G 0 r = G' 0 r) : pieceE mk fold G c r = pieceE mk fold G' c r := by unfold pieceE; rw [atomE_congr h]
theorem plainB_congr {c : UInt8} {r : List UInt8} (h : ∀ d t, r = d :: t → G 2 t = G' 2 t) : plainB mk fold G c r = plainB mk fold G' c r := by
  unfold plainB
  cases r with
  | nil => rfl
  | cons d t => rw [quoteB, quoteB, h d t rfl]
theorem step_congr (hG : Shr G) {m : Nat} {s : List UInt8} (h : ∀ m' s', rank m' s' < rank m s → G m' s' = G' m' s') : step mk fold G m s = step mk fold G' m s := by
  unfold step
  by_cases h0 : m = 0
  · subst h0
    rw [if_pos rfl, if_pos rfl, ← h 1 s (by simp [rank])]
    cases h1 : G 1 s with
    | none => rfl
    | some q =>
      have := hG _ _ _ h1
      rw [Option.bind_some, Option.bind_some]
      unfold stepA
      by_cases hz : q.2[0]? = some 124
      · have h2 := lt_of_some hz
        rw [h 0 (q.2.drop 1) (rank_lt (by simp; omega))]
      · rw [if_neg hz, if_neg hz]
  rw [if_neg h0, if_neg h0]
  by_cases h1 : m = 1
  · rw [if_pos h1, if_pos h1]
    cases s with
    | nil => rfl
    | cons c r =>
      have e := pieceE_congr (mk := mk) (fold := fold) (c := c) (h 0 r (rank_lt (by simp)))
      rw [stepE, stepE, ← e]
      cases hp : pieceE mk fold G c r with
      | none => rfl
      | some q =>
        have := pieceE_len hG hp
        rw [Option.bind_some, Option.bind_some, h 1 q.2 (rank_lt (by simp; omega))]
  · rw [if_neg h1, if_neg h1]
    cases s with
    | nil => rfl
    | cons c r =>
      have e := plainB_congr (mk := mk) (fold := fold) (c := c) (r := r) (G := G) (G' := G') (fun d t e => h 2 t (rank_lt (by rw [e]; simp; omega)))
      rw [stepB, stepB, ← e, h 3 r (rank_lt (by simp)), h 4 r (rank_lt (by simp))]
      cases hp : plainB mk fold G c r with
      | none => rfl
      | some q =>
        have h1 := plainB_len hG hp
        rw [Option.bind_some, Option.bind_some]
        cases hr : repS false q.1 q.2 with
        | none => rfl
        | some t =>
          have h2 := repS_len hr
          rw [Option.bind_some, Option.bind_some, h 4 t.2 (rank_lt (by simp; omega))]
theorem goN_len : ∀ n, Shr (goN mk fold n)
  | 0 => fun _ _ _ h => by cases h
  | n + 1 => step_len (goN_len n)
theorem rank_pos (m : Nat) (s : List UInt8) : 0 < rank m s := by unfold rank; split <;> omega
theorem goN_enough : ∀ (n n' m : Nat) (s : List UInt8), rank m s ≤ n → rank m s ≤ n' → goN mk fold n m s = goN mk fold n' m s
  | 0, _, m, s, h, _ => absurd (rank_pos m s) (by omega)
  | _ + 1, 0, m, s, _, h => absurd (rank_pos m s) (by omega)
  | n + 1, n' + 1, m, s, h, h' => by
    rw [goN, goN]
    exact step_congr (goN_len n) fun m' s' hr => goN_enough n n' m' s' (by omega) (by omega)
theorem goS_len : Shr (goS mk fold) := fun m s q h => goN_len _ m s q h
/-- The reading's own equation. -/
theorem goS_eq (m : Nat) (s : List UInt8) : goS mk fold m s = step mk fold (goS mk fold) m s := by
  show goN mk fold (rank m s) m s = _
  obtain ⟨k, hk⟩ : ∃ k, rank m s = k + 1 := ⟨rank m s - 1, by have := rank_pos m s; omega⟩
  rw [hk, goN]
  exact step_congr (goN_len k) fun m' s' hr => goN_enough _ _ m' s' (by omega) (Nat.le_refl _)
theorem goS_0 (s : List UInt8) : goS mk fold 0 s = (goS mk fold 1 s).bind (stepA (goS mk fold)) := by rw [goS_eq]; rfl
theorem goS_1 (s : List UInt8) : goS mk fold 1 s = stepE mk fold (goS mk fold) s := by rw [goS_eq]; rfl
theorem goS_B {m : Nat} (hm : 2 ≤ m) (s : List UInt8) : goS mk fold m s = stepB mk fold (goS mk fold) m s := by rw [goS_eq]; unfold step; rw [if_neg (by omega), if_neg (by omega)]
end
end Go.Proofs.YtlekfdkahlobiaaGreat.Re

namespace Go.Proofs.YtlekfdkahlobiaaGreat.Re
open Go.Proofs.YtlekfdkahlobiaaGreat.Tr

/-- No class, and nothing like one, begins here. -/
def noCls (s : List UInt8) : Prop := ∀ i : Nat, s[i]? = some 91 → s[i + 1]? ≠ some 58 ∧ s[i + 1]? ≠ some 46 ∧ s[i + 1]? ≠ some 61
def P2 (s : List UInt8) : Prop := s[0]? = some 91 → s[1]? ≠ some 58 ∧ s[1]? ≠ some 46 ∧ s[1]? ≠ some 61
theorem noCls.drop {s : List UInt8} (h : noCls s) (k : Nat) : noCls (s.drop k) := by
  intro i hi
  rw [List.getElem?_drop] at hi
  have := h (k + i) hi
  rw [List.getElem?_drop]
  exact this
theorem noCls.tail {c : UInt8} {s : List UInt8} (h : noCls (c :: s)) : noCls s := h.drop 1
theorem noCls.p2 {s : List UInt8} (h : noCls s) : P2 s := h 0
theorem app_get {s t : List UInt8} {i : Nat} (h : i < s.length) : (s ++ t)[i]? = s[i]? := List.getElem?_append_left h
theorem noCls.p2_app {s t : List UInt8} (h : noCls s) (hl : 2 ≤ s.length) : P2 (s ++ t) := by
  intro h0
  rw [app_get (by omega)] at h0
  rw [app_get (by omega)]
  exact h 0 h0
theorem P2.cls {s : List UInt8} (h : P2 s) : clsS s = none := by
  unfold clsS; rw [if_neg]; rintro ⟨h0, h1⟩; exact (h h0).1 h1
theorem P2.end46 {s : List UInt8} (h : P2 s) : endS 46 s = none := by
  unfold endS; rw [if_neg]; rintro ⟨h0, h1, _⟩; exact (h h0).2.1 h1
theorem P2.end61 {s : List UInt8} (h : P2 s) : endS 61 s = none := by
  unfold endS; rw [if_neg]; rintro ⟨h0, h1, _⟩; exact (h h0).2.2 h1
theorem P2.to {s : List UInt8} (h : P2 s) : toS s = (s.headD 0, s.drop 1) := by unfold toS fromS; rw [h.end46]; rfl
theorem P2.part {s : List UInt8} (h : P2 s) : partS s = spanS (s.headD 0) (s.drop 1) := by
  unfold partS; rw [h.cls]; simp only; rw [h.end61]; simp only; unfold fromS; rw [h.end46]; rfl
theorem partS_app {c : UInt8} {r t : List UInt8} {q : (UInt8 → Bool) × List UInt8} (hn : noCls (c :: r)) (h : partS (c :: r) = some q) (hm : 93 ∈ q.2) : partS (c :: r ++ t) = some (q.1, q.2 ++ t) ∧ noCls q.2 := by
  rw [hn.p2.part] at h
  have h1 : spanS c r = some q := h
  unfold spanS at h1
  by_cases hc : r[0]? = some 45 ∧ 2 ≤ r.length ∧ r[1]? ≠ some 93
  · rw [if_pos hc] at h1
    have e2 : toS (r.drop 1) = ((r.drop 1).headD 0, r.drop 2) := by rw [(hn.tail.drop 1).p2.to, List.drop_drop]
    rw [e2] at h1
    by_cases hlt : (r.drop 1).headD 0 < c
    · rw [if_pos hlt] at h1; cases h1
    · rw [if_neg hlt] at h1
      cases h1
      have hl : 3 ≤ r.length := by
        have := List.length_pos_iff.2 (List.ne_nil_of_mem hm)
        simp at this
        omega
      refine ⟨?_, hn.tail.drop 2⟩
      have hp : P2 (c :: r ++ t) := hn.p2_app (by simp; omega)
      rw [hp.part]
      show spanS c (r ++ t) = _
      unfold spanS
      rw [app_get (by omega), app_get (by omega), if_pos ⟨hc.1, by simp; omega, hc.2.2⟩]
      have e3 : (r ++ t).drop 1 = r.drop 1 ++ t := List.drop_append_of_le_length (by omega)
      have e4 : toS ((r ++ t).drop 1) = ((r.drop 1).headD 0, r.drop 2 ++ t) := by
        rw [e3, ((hn.tail.drop 1).p2_app (by simp; omega)).to]
        have hne : r.drop 1 ≠ [] := fun e => by have := congrArg List.length e; simp at this; omega
        have e5 : (r.drop 1 ++ t).drop 1 = r.drop 2 ++ t := by rw [List.drop_append_of_le_length (by simp; omega), List.drop_drop]
        rw [e5]
        congr 1
        rcases hd : r.drop 1 with _ | ⟨a, l⟩
        · exact absurd hd hne
        · rfl
      rw [e4, if_neg hlt]
  · rw [if_neg hc] at h1
    cases h1
    have hl : 1 ≤ r.length := List.length_pos_iff.2 (List.ne_nil_of_mem hm)
    refine ⟨?_, hn.tail⟩
    have hp : P2 (c :: r ++ t) := hn.p2_app (by simp; omega)
    rw [hp.part]
    show spanS c (r ++ t) = _
    unfold spanS
    rw [if_neg]
    rintro ⟨g0, _, g2⟩
    rw [app_get (by omega)] at g0
    by_cases hl2 : 2 ≤ r.length
    · rw [app_get (by omega)] at g2
      exact hc ⟨g0, hl2, g2⟩
    · have : r.length = 1 := by omega
      obtain ⟨a, rfl⟩ := List.length_eq_one_iff.1 this
      simp at g0 hm
      rw [g0] at hm
      exact absurd hm (by decide)
theorem partS_mem {c : UInt8} {r : List UInt8} {q : (UInt8 → Bool) × List UInt8} (hn : noCls (c :: r)) (h : partS (c :: r) = some q) : (∀ x, x ∈ q.2 → x ∈ c :: r) ∧ noCls q.2 := by
  rw [hn.p2.part] at h
  have h1 : spanS c r = some q := h
  unfold spanS at h1
  by_cases hc : r[0]? = some 45 ∧ 2 ≤ r.length ∧ r[1]? ≠ some 93
  · rw [if_pos hc, (hn.tail.drop 1).p2.to] at h1
    split at h1
    · cases h1
    · cases h1
      rw [List.drop_drop]
      exact ⟨fun x hx => List.mem_cons_of_mem _ (List.mem_of_mem_drop hx), hn.tail.drop 2⟩
  · rw [if_neg hc] at h1
    cases h1
    exact ⟨fun x hx => List.mem_cons_of_mem _ hx, hn.tail⟩
theorem partsS_mem : ∀ {f : Nat} {b : Bool} {p : UInt8 → Bool} {s : List UInt8} {q : (UInt8 → Bool) × List UInt8}, noCls s → partsS f b p s = some q → 93 ∈ s
  | 0, _, _, _, _, _, h => by cases h
  | _ + 1, _, _, [], _, _, h => by cases h
  | f + 1, b, p, c :: r, q, hn, h => by
    rw [partsS] at h
    split at h
    · rename_i hc; rw [hc.2]; exact List.mem_cons_self
    · cases hp : partS (c :: r) with
      | none => rw [hp] at h; cases h
      | some u =>
        rw [hp, Option.bind_some] at h
        have h2 := partS_mem hn hp
        exact h2.1 _ (partsS_mem h2.2 h)
theorem partsS_app (t : List UInt8) : ∀ {f f' : Nat} {b : Bool} {p : UInt8 → Bool} {s : List UInt8} {q : (UInt8 → Bool) × List UInt8}, f ≤ f' → noCls s → partsS f b p s = some q → partsS f' b p (s ++ t) = some (q.1, q.2 ++ t) ∧ noCls q.2
  | 0, _, _, _, _, _, _, _, h => by cases h
  | _ + 1, _, _, _, [], _, _, _, h => by cases h
  | _ + 1, 0, _, _, _ :: _, _, hf, _, _ => by omega
  | f + 1, f' + 1, b, p, c :: r, q, hf, hn, h => by
    rw [partsS] at h
    rw [List.cons_append, partsS]
    split at h
    · rename_i hc
      cases h
      rw [if_pos hc]
      exact ⟨rfl, hn.tail⟩
    · rename_i hc
      rw [if_neg hc]
      cases hp : partS (c :: r) with
      | none => rw [hp] at h; cases h
      | some u =>
        rw [hp, Option.bind_some] at h
        have h2 := partS_mem hn hp
        have h3 := partS_app (t := t) hn hp (partsS_mem h2.2 h)
        rw [List.cons_append] at h3
        rw [h3.1, Option.bind_some]
        exact partsS_app t (by omega) h3.2 h
theorem bracketS_app (t : List UInt8) {fold : Bool} {s : List UInt8} {q : Nd × List UInt8} (hn : noCls s) (h : bracketS fold s = some q) : bracketS fold (s ++ t) = some (q.1, q.2 ++ t) ∧ noCls q.2 := by
  have hl := bracketS_len h
  unfold bracketS at h ⊢
  have e1 : notS (s ++ t) = notS s := by unfold notS; rw [app_get (by omega)]
  have e2 : behindNot (s ++ t) = behindNot s ++ t := by
    unfold behindNot
    rw [e1]
    split
    · exact List.drop_append_of_le_length (by omega)
    · rfl
  have hb : noCls (behindNot s) := by unfold behindNot; split; exact hn.drop 1; exact hn
  cases hp : partsS (s.length + 1) true noB (behindNot s) with
  | none => rw [hp] at h; cases h
  | some u =>
    rw [hp] at h
    cases h
    have := partsS_app t (f' := (s ++ t).length + 1) (by simp) hb hp
    rw [e2, this.1, e1]
    exact ⟨rfl, this.2⟩
theorem tw_app {p : UInt8 → Bool} {s t : List UInt8} (h : s.drop (s.takeWhile p).length ≠ []) : (s ++ t).takeWhile p = s.takeWhile p ∧ (s ++ t).drop (s.takeWhile p).length = s.drop (s.takeWhile p).length ++ t := by
  have hl : (s.takeWhile p).length < s.length := by
    have := List.length_pos_iff.2 h
    simp at this
    omega
  refine ⟨?_, List.drop_append_of_le_length (by omega)⟩
  rw [List.takeWhile_append, if_neg (by omega)]
theorem begins_app {a s t : List UInt8} (h : begins a s = true) : begins a (s ++ t) = true ∧ (s ++ t).drop a.length = s.drop a.length ++ t := by
  have h1 : a <+: s := List.isPrefixOf_iff_prefix.1 h
  exact ⟨List.isPrefixOf_iff_prefix.2 (h1.trans (List.prefix_append _ _)), List.drop_append_of_le_length h1.length_le⟩
theorem begins_ne {c : UInt8} {a s : List UInt8} (h : begins (c :: a) s = true) : s ≠ [] := by
  rintro rfl; cases h
theorem begins_one {c : UInt8} {s : List UInt8} : begins [c] s = true ↔ s[0]? = some c := by
  unfold begins
  cases s with
  | nil => simp
  | cons a s => simp [List.isPrefixOf]; exact eq_comm
theorem brace2_app {t T : List UInt8} {m : Int} {q : Int × Int × List UInt8} (hn : noCls t) (h : brace2 [125] m t = some q) : brace2 [125] m (t ++ T) = some (q.1, q.2.1, q.2.2 ++ T) ∧ noCls q.2.2 := by
  unfold brace2 at h ⊢
  by_cases hb : begins [125] t = true
  · rw [if_pos hb] at h
    cases h
    rw [if_pos (begins_app hb).1, (begins_app hb).2]
    exact ⟨rfl, hn.drop _⟩
  · rw [if_neg hb] at h
    simp only at h ⊢
    split at h
    · rename_i hc
      cases h
      have h2 := tw_app (t := T) (begins_ne hc.2.2)
      rw [h2.1, h2.2]
      have hb2 : ¬ begins [125] (t ++ T) = true := by
        rw [begins_one] at hb ⊢
        have : t ≠ [] := by rintro rfl; simp at hc; exact absurd hc.2.2 (by decide)
        rwa [app_get (List.length_pos_iff.2 this)]
      rw [if_neg hb2, if_pos ⟨hc.1, hc.2.1, (begins_app hc.2.2).1⟩, (begins_app hc.2.2).2]
      exact ⟨rfl, (hn.drop _).drop _⟩
    · cases h
theorem braceS_app {s T : List UInt8} {q : Int × Int × List UInt8} (hn : noCls s) (h : braceS [125] s = some q) : braceS [125] (s ++ T) = some (q.1, q.2.1, q.2.2 ++ T) ∧ noCls q.2.2 := by
  unfold braceS at h ⊢
  simp only at h ⊢
  have hr : s.drop (s.takeWhile isDec).length ≠ [] := by
    intro e
    rw [e] at h
    split at h
    · cases h
    · simp [begins, List.isPrefixOf] at h
  have h2 := tw_app (t := T) hr
  have hpos := List.length_pos_iff.2 hr
  rw [h2.1, h2.2]
  split at h
  · cases h
  · rename_i hm
    rw [if_neg hm, app_get hpos]
    split at h
    · rename_i hc
      rw [if_pos hc, List.drop_append_of_le_length (by omega)]
      exact brace2_app ((hn.drop _).drop _) h
    · rename_i hc
      rw [if_neg hc]
      split at h
      · rename_i hb
        cases h
        rw [if_pos (begins_app hb).1, (begins_app hb).2]
        exact ⟨rfl, (hn.drop _).drop _⟩
      · cases h
theorem timesS_app {s T : List UInt8} {q : Int × Int × List UInt8} (hn : noCls s) (h : timesS true s = some (some q)) : timesS true (s ++ T) = some (some (q.1, q.2.1, q.2.2 ++ T)) ∧ noCls q.2.2 := by
  have hl := timesS_len h
  have hd : ∀ k, k ≤ 1 → (s ++ T).drop k = s.drop k ++ T := fun k hk => List.drop_append_of_le_length (by omega)
  unfold timesS at h ⊢
  rw [app_get (by omega), hd 1 (by omega)]
  simp only [if_true] at h ⊢
  split at h
  · rename_i h0; cases h; rw [if_pos h0]; exact ⟨rfl, hn.drop 1⟩
  rename_i h0
  rw [if_neg h0]
  split at h
  · rename_i h1; cases h; rw [if_pos h1]; exact ⟨rfl, hn.drop 1⟩
  rename_i h1
  rw [if_neg h1]
  split at h
  · rename_i h2; cases h; rw [if_pos h2]; exact ⟨rfl, hn.drop 1⟩
  rename_i h2
  rw [if_neg h2]
  split at h
  · rename_i h3
    rw [if_pos h3]
    have := braceS_app (T := T) (hn.drop 1) (Option.some.inj h)
    rw [this.1]
    exact ⟨rfl, this.2⟩
  · cases h
theorem timesS_none {s t : List UInt8} (h : timesS true s = none) : timesS true (s ++ 41 :: t) = none := by
  cases s with
  | nil => rfl
  | cons c r =>
    unfold timesS at h ⊢
    simp only [List.cons_append, List.getElem?_cons_zero, if_true] at h ⊢
    split at h
    · cases h
    rename_i h0
    rw [if_neg h0]
    split at h
    · cases h
    rename_i h1
    rw [if_neg h1]
    split at h
    · cases h
    rename_i h2
    rw [if_neg h2]
    split at h
    · cases h
    rename_i h3
    rw [if_neg h3]
theorem isSome_none {α : Type} {o : Option α} (h : ¬ o.isSome = true) : o = none := by cases o with | none => rfl | some a => exact absurd rfl h
theorem repS_app {x : Nd} {s t : List UInt8} {q : Nd × List UInt8} (hn : noCls s) (h : repS true x s = some q) : repS true x (s ++ 41 :: t) = some (q.1, q.2 ++ 41 :: t) ∧ noCls q.2 := by
  unfold repS at h ⊢
  cases ht : timesS true s with
  | none =>
    rw [ht] at h
    cases h
    rw [timesS_none ht]
    exact ⟨rfl, hn⟩
  | some u =>
    cases u with
    | none => rw [ht] at h; cases h
    | some u =>
      rw [ht] at h
      have h2 := timesS_app (T := 41 :: t) hn ht
      rw [h2.1]
      simp only at h ⊢
      split at h
      · cases h
      · rename_i hi
        cases h
        rw [if_neg (by rw [timesS_none (isSome_none hi)]; simp)]
        exact ⟨rfl, h2.2⟩
section
variable {fold : Bool}
theorem atomE_app {t : List UInt8} {c : UInt8} {r : List UInt8} {q : Nd × List UInt8} (hn : noCls (c :: r))
    (hG : ∀ u, goS id fold 0 r = some u → goS id fold 0 (r ++ 41 :: t) = some (u.1, u.2 ++ 41 :: t) ∧ noCls u.2) (h : atomE id fold (goS id fold) c r = some q) :
    atomE id fold (goS id fold) c (r ++ 41 :: t) = some (q.1, q.2 ++ 41 :: t) ∧ noCls q.2 := by
  unfold atomE at h ⊢
  split at h
  · rename_i h0
    rw [if_pos h0]
    unfold closeS at h ⊢
    cases hu : goS id fold 0 r with
    | none => rw [hu] at h; cases h
    | some u =>
      rw [hu, Option.bind_some] at h
      rw [(hG u hu).1, Option.bind_some]
      split at h
      · rename_i hb
        cases h
        rw [if_pos (begins_app hb).1, (begins_app hb).2]
        exact ⟨rfl, (hG u hu).2.drop _⟩
      · cases h
  rename_i h0
  rw [if_neg h0]
  split at h
  · rename_i h1; rw [if_pos h1]; exact bracketS_app _ hn.tail h
  rename_i h1
  rw [if_neg h1]
  split at h
  · rename_i h2; cases h; rw [if_pos h2]; exact ⟨rfl, hn.tail⟩
  rename_i h2
  rw [if_neg h2]
  split at h
  · rename_i h3; cases h; rw [if_pos h3]; exact ⟨rfl, hn.tail⟩
  rename_i h3
  rw [if_neg h3]
  split at h
  · rename_i h4; cases h; rw [if_pos h4]; exact ⟨rfl, hn.tail⟩
  rename_i h4
  rw [if_neg h4]
  split at h
  · rename_i h5
    rw [if_pos h5]
    cases r with
    | nil => cases h
    | cons d r =>
      rw [quoteE] at h
      rw [List.cons_append, quoteE]
      split at h
      · cases h
      · rename_i ha; cases h; rw [if_neg ha]; exact ⟨rfl, hn.tail.tail⟩
  rename_i h5
  rw [if_neg h5]
  split at h
  · cases h
  rename_i h6
  cases h
  rw [if_neg h6]
  exact ⟨rfl, hn.tail⟩
theorem pieceE_app {t : List UInt8} {c : UInt8} {r : List UInt8} {q : Nd × List UInt8} (hn : noCls (c :: r))
    (hG : ∀ u, goS id fold 0 r = some u → goS id fold 0 (r ++ 41 :: t) = some (u.1, u.2 ++ 41 :: t) ∧ noCls u.2) (h : pieceE id fold (goS id fold) c r = some q) :
    pieceE id fold (goS id fold) c (r ++ 41 :: t) = some (q.1, q.2 ++ 41 :: t) ∧ noCls q.2 := by
  unfold pieceE at h ⊢
  cases ha : atomE id fold (goS id fold) c r with
  | none => rw [ha] at h; cases h
  | some u =>
    have h1 := atomE_app hn hG ha
    rw [ha, Option.bind_some] at h
    rw [h1.1, Option.bind_some]
    split at h
    · rename_i hc
      rw [if_pos hc]
      split at h
      · cases h
      · rename_i hi
        cases h
        rw [if_neg (by rw [timesS_none (isSome_none hi)]; simp)]
        exact ⟨rfl, h1.2⟩
    · rename_i hc
      rw [if_neg hc]
      exact repS_app h1.2 h
theorem goS_app (t : List UInt8) : ∀ (n m : Nat) (s : List UInt8) (q : List Nd × List UInt8), rank m s ≤ n → m ≤ 1 → noCls s → goS id fold m s = some q → goS id fold m (s ++ 41 :: t) = some (q.1, q.2 ++ 41 :: t) ∧ noCls q.2
  | 0, m, s, _, h, _, _, _ => absurd (rank_pos m s) (by omega)
  | n + 1, 0, s, q, hr, hm, hn, h => by
    rw [goS_0] at h ⊢
    cases hu : goS id fold 1 s with
    | none => rw [hu] at h; cases h
    | some u =>
      have h1 := goS_app t n 1 s u (by simp [rank] at hr ⊢; omega) (by omega) hn hu
      have hl := goS_len _ _ _ hu
      rw [hu, Option.bind_some] at h
      rw [h1.1, Option.bind_some]
      unfold stepA at h ⊢
      simp only
      split at h
      · cases h
      rename_i h0
      rw [if_neg h0]
      split at h
      · rename_i hz
        have hz2 := lt_of_some hz
        rw [app_get hz2, if_pos hz, List.drop_append_of_le_length (by omega)]
        unfold consR at h ⊢
        cases hv : goS id fold 0 (u.2.drop 1) with
        | none => rw [hv] at h; cases h
        | some v =>
          have h2 := goS_app t n 0 (u.2.drop 1) v (by simp [rank] at hr ⊢; omega) (by omega) (h1.2.drop 1) hv
          rw [hv] at h
          cases h
          rw [h2.1]
          exact ⟨rfl, h2.2⟩
      · rename_i hz
        cases h
        refine ⟨?_, h1.2⟩
        rw [if_neg]
        intro hc
        cases hu2 : u.2 with
        | nil => rw [hu2] at hc; simp at hc
        | cons a b => rw [hu2] at hc hz; exact hz hc
  | n + 1, 1, s, q, hr, hm, hn, h => by
    rw [goS_1] at h ⊢
    cases s with
    | nil =>
      cases h
      refine ⟨?_, hn⟩
      rw [List.nil_append, stepE, if_pos (.inr rfl)]
    | cons c r =>
      rw [stepE] at h
      rw [List.cons_append, stepE]
      split at h
      · rename_i hc; cases h; rw [if_pos hc]; exact ⟨rfl, hn⟩
      rename_i hc
      rw [if_neg hc]
      cases hp : pieceE id fold (goS id fold) c r with
      | none => rw [hp] at h; cases h
      | some u =>
        have h1 := pieceE_app (t := t) hn (fun v hv => goS_app t n 0 r v (by simp [rank] at hr ⊢; omega) (by omega) hn.tail hv) hp
        have hl := pieceE_len goS_len hp
        rw [hp, Option.bind_some] at h
        rw [h1.1, Option.bind_some]
        unfold consR at h ⊢
        cases hv : goS id fold 1 u.2 with
        | none => rw [hv] at h; cases h
        | some v =>
          have h2 := goS_app t n 1 u.2 v (by simp [rank] at hr ⊢; omega) (by omega) h1.2 hv
          rw [hv] at h
          cases h
          simp only
          rw [h2.1]
          exact ⟨rfl, h2.2⟩
  | n + 1, m + 2, s, q, hr, hm, hn, h => by omega
theorem read_go {s : List UInt8} {x : Nd} (h : readS id true fold s = some x) : ∃ l, goS id fold 0 s = some (l, []) ∧ x = joinN 5 l := by
  unfold readS at h
  simp only [if_true] at h
  cases hu : goS id fold 0 s with
  | none => rw [hu] at h; cases h
  | some u =>
    rw [hu, Option.bind_some] at h
    split at h
    · rename_i he
      cases h
      exact ⟨u.1, by rw [← he], rfl⟩
    · cases h
/-- An expression in parentheses is one atom. -/
theorem paren_E {s t : List UInt8} {x : Nd} (hn : noCls s) (h : readS id true fold s = some x) : atomE id fold (goS id fold) 40 (s ++ 41 :: t) = some (x, t) := by
  obtain ⟨l, hl, rfl⟩ := read_go h
  unfold atomE closeS
  rw [if_pos rfl, (goS_app t _ 0 s _ (Nat.le_refl _) (by omega) hn hl).1, Option.bind_some, if_pos (by rfl)]
  rfl
theorem paren_P {s t : List UInt8} {x : Nd} (hn : noCls s) (h : readS id true fold s = some x) (ht : timesS true t = none) : pieceE id fold (goS id fold) 40 (s ++ 41 :: t) = some (x, t) := by
  unfold pieceE
  rw [paren_E hn h, Option.bind_some, if_neg (by decide)]
  unfold repS
  rw [ht]
theorem go1_nil : goS id fold 1 [] = some ([], []) := by rw [goS_1]; rfl
theorem go1_paren {s t : List UInt8} {x : Nd} (hn : noCls s) (h : readS id true fold s = some x) (ht : timesS true t = none) : goS id fold 1 (40 :: (s ++ 41 :: t)) = consR x (goS id fold 1 t) := by
  rw [goS_1, stepE, if_neg (by decide), paren_P hn h ht]
  rfl
/-- One of both. -/
theorem read_alt {p q : List UInt8} {x y : Nd} (hp : noCls p) (hq : noCls q) (h : readS id true fold p = some x) (h2 : readS id true fold q = some y) : readS id true fold (40 :: (p ++ 41 :: 124 :: 40 :: (q ++ [41]))) = some (ndK 5 [x, y]) := by
  have e : goS id fold 1 (124 :: 40 :: (q ++ [41])) = some ([], 124 :: 40 :: (q ++ [41])) := by rw [goS_1, stepE, if_pos (.inl rfl)]
  have e2 : goS id fold 0 (40 :: (q ++ [41])) = some ([y], []) := by rw [goS_0, go1_paren hq h2 rfl, go1_nil]; rfl
  unfold readS
  simp only [if_true]
  rw [goS_0, go1_paren hp h rfl, e]
  simp only [consR, Option.map_some, Option.bind_some, stepA]
  rw [if_neg (by simp), if_pos (by rfl)]
  simp only [List.drop_succ_cons, List.drop_zero]
  rw [e2]
  rfl
end
end Go.Proofs.YtlekfdkahlobiaaGreat.Re
