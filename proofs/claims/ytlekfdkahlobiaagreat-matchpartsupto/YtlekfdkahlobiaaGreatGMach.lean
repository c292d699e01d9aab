/- Expressions that are read without recursion: what has not ended is kept in a row of frames; it comes to the same as the reading by the grammar. -/
import Derived.Test.YtlekfdkahlobiaaGreatGLoc
namespace Go.Proofs.YtlekfdkahlobiaaGreat.Re
open Go.Proofs.YtlekfdkahlobiaaGreat.Tr

/-- An expression that has not ended: its branches that have, and the pieces of the last one. -/
abbrev Fr := List Nd × List Nd
def pieceF (x : Nd) : List Fr → List Fr
  | [] => []
  | f :: t => (f.1, f.2 ++ [x]) :: t
def repF (m n : Int) : List Fr → List Fr
  | [] => []
  | f :: t => (f.1, f.2.dropLast ++ [repN m n (f.2.getLastD emptyN)]) :: t
def branchF : List Fr → List Fr
  | [] => []
  | f :: t => (f.1 ++ [joinN 4 f.2], []) :: t
def endF : List Fr → List Fr
  | [] => []
  | f :: t => pieceF (joinN 5 f.1) t
/-- What is left, what was read last (0 nothing, 1 nothing of a branch, 2 the beginning, 3 the end, 4 an atom, 5 a repetition), and what has not ended. -/
abbrev Ms := Option (List UInt8 × Nat × List Fr)
def atomM (fs : List Fr) (r : R1) : Ms := r.map fun q => (q.2, 4, pieceF q.1 fs)
def repM (last : Nat) (fs : List Fr) (m n : Int) (r : List UInt8) : Ms := if last = 4 then some (r, 5, repF m n fs) else none
def boundsM (last : Nat) (fs : List Fr) (t : Tm) : Ms := t.bind fun q => repM last fs q.1 q.2.1 q.2.2
def shutM (ext : Bool) (last : Nat) (fs : List Fr) (r : List UInt8) : Ms :=
  if fs.length = 1 then none else if ext = true ∧ last ≤ 1 then none else some (r, 4, endF (branchF fs))
def plainM (fold : Bool) (fs : List Fr) (c : UInt8) (r : List UInt8) : Ms :=
  if c = 46 then atomM fs (some (anyN, r)) else if c = 91 then atomM fs (bracketS fold r) else atomM fs (some (oneN fold c, r))
def stepX (fold : Bool) (last : Nat) (fs : List Fr) (c : UInt8) (r : List UInt8) : Ms :=
  if c = 40 then some (r, 0, ([], []) :: fs)
  else if c = 41 then shutM true last fs r
  else if c = 124 then (if last ≤ 1 then none else some (r, 1, branchF fs))
  else if c = 42 then repM last fs 0 (-1) r
  else if c = 43 then repM last fs 1 (-1) r
  else if c = 63 then repM last fs 0 1 r
  else if c = 123 then boundsM last fs (braceS [125] r)
  else if c = 94 then some (r, 2, pieceF beginN fs)
  else if c = 36 then some (r, 3, pieceF endN fs)
  else if c = 92 then atomM fs (quoteE fold r)
  else plainM fold fs c r
def escB (fold : Bool) (last : Nat) (fs : List Fr) : List UInt8 → Ms
  | [] => none
  | d :: t =>
    if d = 40 then some (t, 0, ([], []) :: fs)
    else if d = 41 then shutM false last fs t
    else if d = 123 then boundsM last fs (braceS [92, 125] t)
    else if d = 125 then none
    else atomM fs (quoteE fold (d :: t))
def stepP (fold : Bool) (last : Nat) (fs : List Fr) (c : UInt8) (r : List UInt8) : Ms :=
  if c = 92 then escB fold last fs r
  else if c = 94 ∧ last = 0 then some (r, 2, pieceF beginN fs)
  else if c = 36 ∧ (r = [] ∨ begins [92, 41] r = true) then some (r, 3, pieceF endN fs)
  else if c = 42 ∧ last ≠ 0 ∧ last ≠ 2 then repM last fs 0 (-1) r
  else plainM fold fs c r
def stepM (ext fold : Bool) (last : Nat) (fs : List Fr) (c : UInt8) (r : List UInt8) : Ms := if ext = true then stepX fold last fs c r else stepP fold last fs c r
def lastM (ext : Bool) (last : Nat) : List Fr → Option Nd
  | [f] => if ext = true ∧ last ≤ 1 then none else some (joinN 5 (f.1 ++ [joinN 4 f.2]))
  | _ => none
def runN (ext fold : Bool) : Nat → List UInt8 → Nat → List Fr → Option Nd
  | 0, _, _, _ => none
  | _ + 1, [], last, fs => lastM ext last fs
  | n + 1, c :: r, last, fs => (stepM ext fold last fs c r).bind fun q => runN ext fold n q.1 q.2.1 q.2.2
def runM (ext fold : Bool) (s : List UInt8) (last : Nat) (fs : List Fr) : Option Nd := runN ext fold (s.length + 1) s last fs

section
variable {fold : Bool}
def ShM (n : Nat) (m : Ms) : Prop := ∀ q, m = some q → q.1.length ≤ n
theorem shM_none {n : Nat} : ShM n none := fun _ h => by cases h
theorem shM_some {n : Nat} {q : List UInt8 × Nat × List Fr} (h : q.1.length ≤ n) : ShM n (some q) := fun _ e => by cases e; exact h
theorem shM_ite {n : Nat} {c : Prop} [Decidable c] {a b : Ms} (ha : ShM n a) (hb : ShM n b) : ShM n (if c then a else b) := by split <;> assumption
theorem shM_atom {n : Nat} {fs : List Fr} {r : R1} (h : ∀ q, r = some q → q.2.length ≤ n) : ShM n (atomM fs r) := by
  intro q e
  cases r with
  | none => cases e
  | some u => cases e; exact h u rfl
theorem shM_rep {n last : Nat} {fs : List Fr} {a b : Int} {r : List UInt8} (h : r.length ≤ n) : ShM n (repM last fs a b r) := shM_ite (shM_some h) shM_none
theorem shM_bounds {n last : Nat} {fs : List Fr} {t : Tm} (h : ∀ q, t = some q → q.2.2.length ≤ n) : ShM n (boundsM last fs t) := by
  cases t with
  | none => exact shM_none
  | some u => exact shM_rep (h u rfl)
theorem shM_plain {fs : List Fr} {c : UInt8} {r : List UInt8} : ShM r.length (plainM fold fs c r) :=
  shM_ite (shM_atom fun q e => by cases e; exact Nat.le_refl _) (shM_ite (shM_atom fun q e => Nat.le_of_lt (bracketS_len e)) (shM_atom fun q e => by cases e; exact Nat.le_refl _))
theorem stepM_len {ext : Bool} {last : Nat} {fs : List Fr} {c : UInt8} {r : List UInt8} : ShM r.length (stepM ext fold last fs c r) := by
  unfold stepM
  refine shM_ite ?_ ?_
  · unfold stepX
    repeat' (first | exact shM_none | exact shM_plain | exact shM_rep (Nat.le_refl _) | exact shM_some (Nat.le_refl _) | exact shM_bounds (fun q e => braceS_len e) | exact shM_atom (fun q e => quoteE_len e) | refine shM_ite ?_ ?_)
  · unfold stepP
    refine shM_ite ?_ ?_
    · cases r with
      | nil => exact shM_none
      | cons d t =>
        have hl : t.length ≤ (d :: t).length := by simp
        unfold escB shutM
        repeat' (first | exact shM_none | exact shM_rep hl | exact shM_some hl | exact shM_bounds (fun q e => Nat.le_trans (braceS_len e) hl) | exact shM_atom (fun q e => quoteE_len e) | refine shM_ite ?_ ?_)
    · repeat' (first | exact shM_none | exact shM_plain | exact shM_rep (Nat.le_refl _) | exact shM_some (Nat.le_refl _) | refine shM_ite ?_ ?_)
theorem runN_enough {ext : Bool} : ∀ (n n' : Nat) (s : List UInt8) (last : Nat) (fs : List Fr), s.length < n → s.length < n' → runN ext fold n s last fs = runN ext fold n' s last fs
  | 0, _, _, _, _, h, _ => absurd h (by omega)
  | _ + 1, 0, _, _, _, _, h => absurd h (by omega)
  | n + 1, n' + 1, [], last, fs, _, _ => rfl
  | n + 1, n' + 1, c :: r, last, fs, h, h' => by
    rw [runN, runN]
    cases hs : stepM ext fold last fs c r with
    | none => rfl
    | some q =>
      have := stepM_len q hs
      simp only [List.length_cons] at h h'
      exact runN_enough n n' q.1 q.2.1 q.2.2 (by omega) (by omega)
theorem run_nil {ext : Bool} (last : Nat) (fs : List Fr) : runM ext fold [] last fs = lastM ext last fs := rfl
theorem run_cons {ext : Bool} (c : UInt8) (r : List UInt8) (last : Nat) (fs : List Fr) : runM ext fold (c :: r) last fs = (stepM ext fold last fs c r).bind fun q => runM ext fold q.1 q.2.1 q.2.2 := by
  show runN ext fold ((c :: r).length + 1) (c :: r) last fs = _
  rw [runN]
  cases hs : stepM ext fold last fs c r with
  | none => rfl
  | some q =>
    have := stepM_len q hs
    exact runN_enough _ _ _ _ _ (by simp; omega) (by omega)
theorem run_to {ext : Bool} {c : UInt8} {r : List UInt8} {last : Nat} {fs : List Fr} {q : List UInt8 × Nat × List Fr} (h : stepM ext fold last fs c r = some q) : runM ext fold (c :: r) last fs = runM ext fold q.1 q.2.1 q.2.2 := by rw [run_cons, h]; rfl
theorem run_no {ext : Bool} {c : UInt8} {r : List UInt8} {last : Nat} {fs : List Fr} (h : stepM ext fold last fs c r = none) : runM ext fold (c :: r) last fs = none := by rw [run_cons, h]; rfl
theorem rep_not {last : Nat} {fs : List Fr} {a b : Int} {r : List UInt8} (h : last ≠ 4) : repM last fs a b r = none := if_neg h
theorem bounds_not {last : Nat} {fs : List Fr} {t : Tm} (h : last ≠ 4) : boundsM last fs t = none := by
  cases t with
  | none => rfl
  | some q => exact rep_not h
theorem repF_last (m n : Int) (br pc : List Nd) (x : Nd) (fs : List Fr) : repF m n ((br, pc ++ [x]) :: fs) = (br, pc ++ [repN m n x]) :: fs := by
  simp [repF]

-- extended ones
/-- A repetition that is next. -/
theorem timesX_is {s : List UInt8} {o : Tm} (h : timesS true s = some o) : ∃ c r, s = c :: r ∧ ((c = 42 ∧ o = some (0, -1, r)) ∨ (c = 43 ∧ o = some (1, -1, r)) ∨ (c = 63 ∧ o = some (0, 1, r)) ∨ (c = 123 ∧ o = braceS [125] r)) := by
  cases s with
  | nil => cases h
  | cons c r =>
    refine ⟨c, r, rfl, ?_⟩
    unfold timesS at h
    simp only [List.getElem?_cons_zero, Option.some.injEq, List.drop_succ_cons, List.drop_zero] at h
    split at h
    · rename_i e; exact .inl ⟨e, (Option.some.inj h).symm⟩
    rw [if_pos trivial] at h
    split at h
    · rename_i e; exact .inr (.inl ⟨e, (Option.some.inj h).symm⟩)
    split at h
    · rename_i e; exact .inr (.inr (.inl ⟨e, (Option.some.inj h).symm⟩))
    split at h
    · rename_i e; exact .inr (.inr (.inr ⟨e, (Option.some.inj h).symm⟩))
    · cases h
theorem stepX_times {s : List UInt8} {o : Tm} (h : timesS true s = some o) (last : Nat) (fs : List Fr) : runM true fold s last fs = (boundsM last fs o).bind fun q => runM true fold q.1 q.2.1 q.2.2 := by
  obtain ⟨c, r, rfl, ⟨rfl, rfl⟩ | ⟨rfl, rfl⟩ | ⟨rfl, rfl⟩ | ⟨rfl, rfl⟩⟩ := timesX_is h
  all_goals (rw [run_cons]; rfl)
/-- Behind an atom: a repetition, or none. -/
theorem behindX {x : Nd} {t : List UInt8} (br pc : List Nd) (fs : List Fr) :
    match repS true x t with
    | none => runM true fold t 4 ((br, pc ++ [x]) :: fs) = none
    | some q => ∃ last, 2 ≤ last ∧ (last = 4 → timesS true q.2 = none) ∧ runM true fold t 4 ((br, pc ++ [x]) :: fs) = runM true fold q.2 last ((br, pc ++ [q.1]) :: fs) := by
  unfold repS
  cases ht : timesS true t with
  | none => exact ⟨4, by omega, fun _ => ht, rfl⟩
  | some o =>
    have e := stepX_times ht 4 ((br, pc ++ [x]) :: fs) (fold := fold)
    cases o with
    | none => exact e
    | some q =>
      have e2 : runM true fold t 4 ((br, pc ++ [x]) :: fs) = runM true fold q.2.2 5 ((br, pc ++ [repN q.1 q.2.1 x]) :: fs) := by
        rw [e, ← repF_last]; rfl
      simp only
      cases h2 : timesS true q.2.2 with
      | none =>
        rw [if_neg (by simp)]
        exact ⟨5, by omega, fun h => by omega, e2⟩
      | some o2 =>
        rw [if_pos (show (some o2).isSome = true from rfl)]
        show _ = none
        rw [e2, stepX_times h2, bounds_not (by omega)]; rfl
def TermX (s : List UInt8) : Prop := s = [] ∨ s[0]? = some 124 ∨ s[0]? = some 41
def PcX (fold : Bool) (s : List UInt8) (last : Nat) (br pc : List Nd) (fs : List Fr) : Prop :=
  match goS id fold 1 s with
  | none => runM true fold s last ((br, pc) :: fs) = none
  | some q => TermX q.2 ∧ ∃ last', (last' ≤ 1 ↔ last ≤ 1 ∧ q.1 = []) ∧ runM true fold s last ((br, pc) :: fs) = runM true fold q.2 last' ((br, pc ++ q.1) :: fs)
def BrX (fold : Bool) (s : List UInt8) (last : Nat) (br : List Nd) (fs : List Fr) : Prop :=
  match goS id fold 0 s with
  | none => runM true fold s last ((br, []) :: fs) = none
  | some q => (q.2 = [] ∨ q.2[0]? = some 41) ∧ ∃ br' pc' last', 2 ≤ last' ∧ br' ++ [joinN 4 pc'] = br ++ q.1 ∧ runM true fold s last ((br, []) :: fs) = runM true fold q.2 last' ((br', pc') :: fs)
/-- What is in parentheses, out of its branches. -/
theorem paren_X {r : List UInt8} {f : Fr} {fs : List Fr} (h : BrX fold r 0 [] (f :: fs)) :
    match closeS id 5 [41] (goS id fold 0 r) with
    | none => runM true fold r 0 (([], []) :: f :: fs) = none
    | some q => runM true fold r 0 (([], []) :: f :: fs) = runM true fold q.2 4 ((f.1, f.2 ++ [q.1]) :: fs) := by
  unfold BrX at h
  unfold closeS
  cases hg : goS id fold 0 r with
  | none => rw [hg] at h; exact h
  | some q =>
    rw [hg] at h
    obtain ⟨ht, br', pc', last', hl, hj, e⟩ := h
    rw [Option.bind_some]
    rcases ht with ht | ht
    · rw [ht, if_neg (by decide)]
      show _ = none
      rw [e, ht]; rfl
    · obtain ⟨t, hq⟩ : ∃ t, q.2 = 41 :: t := by
        cases hc : q.2 with
        | nil => rw [hc] at ht; cases ht
        | cons c t => rw [hc] at ht; cases ht; exact ⟨t, rfl⟩
      rw [if_pos (by rw [hq]; rfl)]
      show _ = runM true fold (q.2.drop 1) 4 ((f.1, f.2 ++ [joinN 5 q.1]) :: fs)
      rw [e, hq]
      have hs : stepM true fold last' ((br', pc') :: f :: fs) 41 t = some (t, 4, (f.1, f.2 ++ [joinN 5 q.1]) :: fs) := by
        show shutM true last' ((br', pc') :: f :: fs) t = _
        unfold shutM
        rw [if_neg (by simp), if_neg (by omega)]
        show some (t, 4, (f.1, f.2 ++ [joinN 5 (br' ++ [joinN 4 pc'])]) :: fs) = _
        rw [hj]; rfl
      exact run_to hs
/-- A piece that was read, and others behind it. -/
theorem goOnX {s u : List UInt8} {y : Nd} {last l2 : Nat} {br pc : List Nd} {fs : List Fr}
    (e : runM true fold s last ((br, pc) :: fs) = runM true fold u l2 ((br, pc ++ [y]) :: fs)) (hl : 2 ≤ l2) (h : PcX fold u l2 br (pc ++ [y]) fs) (hs : goS id fold 1 s = consR y (goS id fold 1 u)) : PcX fold s last br pc fs := by
  unfold PcX at h ⊢
  rw [hs]
  cases hg : goS id fold 1 u with
  | none => rw [hg] at h; rw [e]; exact h
  | some q =>
    rw [hg] at h
    obtain ⟨ht, l3, hi, e2⟩ := h
    refine ⟨ht, l3, ⟨fun hx => absurd (hi.1 hx).1 (by omega), fun hx => absurd hx.2 (by simp)⟩, ?_⟩
    rw [e, e2]
    simp
theorem noneX {s : List UInt8} {last : Nat} {br pc : List Nd} {fs : List Fr} (h : goS id fold 1 s = none) (e : runM true fold s last ((br, pc) :: fs) = none) : PcX fold s last br pc fs := by
  unfold PcX; rw [h]; exact e
theorem atomX {c : UInt8} {r t : List UInt8} {x : Nd} {last : Nat} {br pc : List Nd} {fs : List Fr} (hc : c ≠ 124 ∧ c ≠ 41) (ha : atomE id fold (goS id fold) c r = some (x, t)) (hk : ¬ (c = 94 ∨ c = 36))
    (e : runM true fold (c :: r) last ((br, pc) :: fs) = runM true fold t 4 ((br, pc ++ [x]) :: fs)) (ih : ∀ (u : List UInt8) (l2 : Nat) (pc' : List Nd), u.length < (c :: r).length → (l2 = 4 → timesS true u = none) → PcX fold u l2 br pc' fs) : PcX fold (c :: r) last br pc fs := by
  have hl := atomE_len goS_len ha
  have hg : goS id fold 1 (c :: r) = (repS true x t).bind fun q => consR q.1 (goS id fold 1 q.2) := by
    rw [goS_1, stepE, if_neg (by simp [hc.1, hc.2])]
    unfold pieceE
    rw [ha, Option.bind_some, if_neg hk]
  have hb := behindX (fold := fold) (x := x) (t := t) br pc fs
  cases hr : repS true x t with
  | none => rw [hr] at hb hg; exact noneX hg (by rw [e]; exact hb)
  | some q =>
    rw [hr] at hb hg
    obtain ⟨l2, h2, h4, e2⟩ := hb
    have := repS_len hr
    simp only at hl
    exact goOnX (by rw [e]; exact e2) h2 (ih q.2 l2 _ (by simp; omega) h4) hg
theorem pcs_X (n : Nat) (ih0 : ∀ (s : List UInt8) (fs : List Fr), s.length < n → BrX fold s 0 [] fs) (ih1 : ∀ (s : List UInt8) (last : Nat) (br pc : List Nd) (fs : List Fr), s.length < n → (last = 4 → timesS true s = none) → PcX fold s last br pc fs)
    (s : List UInt8) (hn : s.length ≤ n) (last : Nat) (br pc : List Nd) (fs : List Fr) (h4 : last = 4 → timesS true s = none) : PcX fold s last br pc fs := by
  cases s with
  | nil =>
    unfold PcX
    rw [goS_1]
    exact ⟨.inl rfl, last, by simp, by simp⟩
  | cons c r =>
    simp only [List.length_cons] at hn
    have ih : ∀ (u : List UInt8) (l2 : Nat) (pc' : List Nd), u.length < (c :: r).length → (l2 = 4 → timesS true u = none) → PcX fold u l2 br pc' fs := fun u l2 pc' hu h => ih1 u l2 br pc' fs (by simp at hu; omega) h
    by_cases h1 : c = 124 ∨ c = 41
    · unfold PcX
      rw [goS_1, stepE, if_pos h1]
      exact ⟨by rcases h1 with rfl | rfl; exact .inr (.inl rfl); exact .inr (.inr rfl), last, by simp, by simp⟩
    have h1' : c ≠ 124 ∧ c ≠ 41 := ⟨fun e => h1 (.inl e), fun e => h1 (.inr e)⟩
    by_cases h2 : c = 40
    · subst h2
      have hp := paren_X (f := (br, pc)) (ih0 r ((br, pc) :: fs) (by omega))
      have e0 : runM true fold (40 :: r) last ((br, pc) :: fs) = runM true fold r 0 (([], []) :: (br, pc) :: fs) := run_to (q := (r, 0, ([], []) :: (br, pc) :: fs)) rfl
      cases hc : closeS id 5 [41] (goS id fold 0 r) with
      | none =>
        rw [hc] at hp
        refine noneX ?_ (by rw [e0]; exact hp)
        rw [goS_1, stepE, if_neg (by decide)]
        unfold pieceE atomE
        rw [if_pos rfl, hc]; rfl
      | some q =>
        rw [hc] at hp
        refine atomX (x := q.1) (t := q.2) h1' ?_ (by decide) (by rw [e0]; exact hp) ih
        unfold atomE
        rw [if_pos rfl, hc]
    by_cases h3 : c = 42 ∨ c = 43 ∨ c = 63 ∨ c = 123
    · have ht : (timesS true (c :: r)).isSome = true := by rcases h3 with rfl | rfl | rfl | rfl <;> rfl
      refine noneX ?_ ?_
      · rw [goS_1, stepE, if_neg h1]
        unfold pieceE atomE
        rw [if_neg h2]
        rcases h3 with rfl | rfl | rfl | rfl <;> rfl
      · obtain ⟨o, ho⟩ := Option.isSome_iff_exists.1 ht
        rw [stepX_times ho, bounds_not (by intro e; rw [h4 e] at ho; cases ho)]; rfl
    by_cases h5 : c = 94 ∨ c = 36
    · obtain ⟨x, l2, hl2, hn4, hx, e0⟩ : ∃ x l2, 2 ≤ l2 ∧ l2 ≠ 4 ∧ atomE id fold (goS id fold) c r = some (x, r) ∧ runM true fold (c :: r) last ((br, pc) :: fs) = runM true fold r l2 ((br, pc ++ [x]) :: fs) := by
        rcases h5 with rfl | rfl
        · exact ⟨beginN, 2, by omega, by omega, rfl, run_to (q := (r, 2, (br, pc ++ [beginN]) :: fs)) rfl⟩
        · exact ⟨endN, 3, by omega, by omega, rfl, run_to (q := (r, 3, (br, pc ++ [endN]) :: fs)) rfl⟩
      have hg : goS id fold 1 (c :: r) = (if (timesS true r).isSome = true then none else some (x, r)).bind fun q => consR q.1 (goS id fold 1 q.2) := by
        rw [goS_1, stepE, if_neg h1]
        unfold pieceE
        rw [hx, Option.bind_some, if_pos h5]
      cases ht : timesS true r with
      | none =>
        rw [ht] at hg
        exact goOnX e0 hl2 (ih r l2 _ (by simp) fun e => absurd e hn4) (by rw [hg]; rfl)
      | some o =>
        rw [ht] at hg
        refine noneX hg ?_
        rw [e0, stepX_times ht, bounds_not hn4]; rfl
    have hst : stepM true fold last ((br, pc) :: fs) c r = atomM ((br, pc) :: fs) (atomE id fold (goS id fold) c r) := by
      show stepX fold last ((br, pc) :: fs) c r = _
      unfold stepX atomE
      rw [if_neg h2, if_neg h1'.2, if_neg h1'.1, if_neg (fun e => h3 (.inl e)), if_neg (fun e => h3 (.inr (.inl e))), if_neg (fun e => h3 (.inr (.inr (.inl e)))), if_neg (fun e => h3 (.inr (.inr (.inr e)))), if_neg (fun e => h5 (.inl e)), if_neg (fun e => h5 (.inr e)), if_neg h2]
      by_cases h6 : c = 91
      · subst h6; rfl
      rw [if_neg h6]
      by_cases h7 : c = 46
      · subst h7; rfl
      rw [if_neg h7, if_neg (fun e => h5 (.inl e)), if_neg (fun e => h5 (.inr e))]
      by_cases h8 : c = 92
      · rw [if_pos h8, if_pos h8]
      rw [if_neg h8, if_neg h8, if_neg h3]
      unfold plainM
      rw [if_neg h7, if_neg h6]
    cases ha : atomE id fold (goS id fold) c r with
    | none =>
      rw [ha] at hst
      refine noneX ?_ (run_no hst)
      rw [goS_1, stepE, if_neg h1]
      unfold pieceE
      rw [ha]; rfl
    | some q =>
      rw [ha] at hst
      exact atomX (x := q.1) (t := q.2) h1' ha h5 (run_to hst) ih
theorem brs_X (n : Nat) (ih0 : ∀ (s : List UInt8) (last : Nat) (br : List Nd) (fs : List Fr), s.length < n → last ≤ 1 → BrX fold s last br fs) (s : List UInt8) (hn : s.length ≤ n) (last : Nat) (hl : last ≤ 1) (br : List Nd) (fs : List Fr) (h1 : PcX fold s last br [] fs) : BrX fold s last br fs := by
  unfold PcX at h1
  unfold BrX
  rw [goS_0]
  cases hg : goS id fold 1 s with
  | none => rw [hg] at h1; exact h1
  | some q =>
    rw [hg] at h1
    obtain ⟨ht, l2, hi, e⟩ := h1
    have hq := goS_len _ _ _ hg
    rw [Option.bind_some]
    unfold stepA
    rw [List.nil_append] at e
    by_cases hz : q.1 = []
    · rw [if_pos hz]
      have h2 : l2 ≤ 1 := hi.2 ⟨hl, hz⟩
      show _ = none
      rw [e, hz]
      rcases ht with ht | ht | ht
      · rw [ht, run_nil]
        cases fs with
        | nil => show (if _ then _ else _) = _; rw [if_pos ⟨rfl, h2⟩]
        | cons f fs => rfl
      · obtain ⟨t, hc⟩ : ∃ t, q.2 = 124 :: t := by
          cases hc : q.2 with
          | nil => rw [hc] at ht; cases ht
          | cons c t => rw [hc] at ht; cases ht; exact ⟨t, rfl⟩
        rw [hc]
        refine run_no ?_
        show (if l2 ≤ 1 then _ else _) = _
        rw [if_pos h2]
      · obtain ⟨t, hc⟩ : ∃ t, q.2 = 41 :: t := by
          cases hc : q.2 with
          | nil => rw [hc] at ht; cases ht
          | cons c t => rw [hc] at ht; cases ht; exact ⟨t, rfl⟩
        rw [hc]
        refine run_no ?_
        show shutM true l2 _ t = _
        unfold shutM
        split
        · rfl
        · rw [if_pos ⟨rfl, h2⟩]
    · rw [if_neg hz]
      have h2 : 2 ≤ l2 := by
        rcases Nat.lt_or_ge l2 2 with h | h
        · exact absurd (hi.1 (by omega)).2 hz
        · exact h
      by_cases hb : q.2[0]? = some 124
      · rw [if_pos hb]
        obtain ⟨t, hc⟩ : ∃ t, q.2 = 124 :: t := by
          cases hc : q.2 with
          | nil => rw [hc] at hb; cases hb
          | cons c t => rw [hc] at hb; cases hb; exact ⟨t, rfl⟩
        have e2 : runM true fold s last ((br, []) :: fs) = runM true fold t 1 ((br ++ [joinN 4 q.1], []) :: fs) := by
          rw [e, hc]
          refine run_to (q := (t, 1, (br ++ [joinN 4 q.1], []) :: fs)) ?_
          show (if l2 ≤ 1 then _ else _) = _
          rw [if_neg (by omega)]; rfl
        have ih := ih0 t 1 (br ++ [joinN 4 q.1]) fs (by rw [hc] at hq; simp at hq; omega) (by omega)
        unfold BrX at ih
        rw [show q.2.drop 1 = t by rw [hc]; rfl]
        cases hg2 : goS id fold 0 t with
        | none => rw [hg2] at ih; show _ = none; rw [e2]; exact ih
        | some u =>
          rw [hg2] at ih
          obtain ⟨ht2, br', pc', l3, h3, hj, e3⟩ := ih
          exact ⟨ht2, br', pc', l3, h3, by rw [hj]; simp, by rw [e2, e3]⟩
      · rw [if_neg hb]
        refine ⟨?_, br, q.1, l2, h2, rfl, e⟩
        rcases ht with ht | ht | ht
        · exact .inl ht
        · exact absurd ht hb
        · exact .inr ht
theorem all_X : ∀ n : Nat, (∀ (s : List UInt8) (last : Nat) (br pc : List Nd) (fs : List Fr), s.length < n → (last = 4 → timesS true s = none) → PcX fold s last br pc fs) ∧ ∀ (s : List UInt8) (last : Nat) (br : List Nd) (fs : List Fr), s.length < n → last ≤ 1 → BrX fold s last br fs
  | 0 => ⟨fun _ _ _ _ _ h => absurd h (by omega), fun _ _ _ _ h => absurd h (by omega)⟩
  | n + 1 => by
    obtain ⟨i1, i0⟩ := all_X n
    have a1 : ∀ (s : List UInt8) (last : Nat) (br pc : List Nd) (fs : List Fr), s.length < n + 1 → (last = 4 → timesS true s = none) → PcX fold s last br pc fs := fun s last br pc fs hs h4 => pcs_X n (fun s fs h => i0 s 0 [] fs h (by omega)) i1 s (by omega) last br pc fs h4
    exact ⟨a1, fun s last br fs hs hl => brs_X n i0 s (by omega) last hl br fs (a1 s last br [] fs hs fun e => absurd e (by omega))⟩
theorem run_X (s : List UInt8) : runM true fold s 0 [([], [])] = readS id true fold s := by
  have h := (all_X (fold := fold) (s.length + 1)).2 s 0 [] [] (by omega) (by omega)
  unfold BrX at h
  unfold readS
  rw [if_pos rfl, if_pos rfl]
  cases hg : goS id fold 0 s with
  | none => rw [hg] at h; exact h
  | some q =>
    rw [hg] at h
    obtain ⟨ht, br', pc', l3, h3, hj, e⟩ := h
    rw [e, Option.bind_some]
    rcases ht with ht | ht
    · rw [ht, if_pos rfl, run_nil]
      show (if _ then _ else _) = _
      rw [if_neg (by omega), hj]; rfl
    · obtain ⟨t, hc⟩ : ∃ t, q.2 = 41 :: t := by
        cases hc : q.2 with
        | nil => rw [hc] at ht; cases ht
        | cons c t => rw [hc] at ht; cases ht; exact ⟨t, rfl⟩
      rw [hc, if_neg (by simp)]
      exact run_no rfl
-- basic ones
theorem begins_two {a b : UInt8} {s : List UInt8} : begins [a, b] s = true ↔ s[0]? = some a ∧ s[1]? = some b := by
  match s with
  | [] => simp [begins]
  | [c] => simp [begins]
  | c :: d :: t => simp [begins, List.isPrefixOf]; constructor <;> (rintro ⟨rfl, rfl⟩; exact ⟨rfl, rfl⟩)
theorem two_is {a b : UInt8} {s : List UInt8} (h : begins [a, b] s = true) : ∃ t, s = a :: b :: t := by
  rw [begins_two] at h
  match s, h with
  | [], h => cases h.1
  | [c], h => cases h.2
  | c :: d :: t, h => cases h.1; cases h.2; exact ⟨t, rfl⟩
theorem timesB_is {s : List UInt8} {o : Tm} (h : timesS false s = some o) : (∃ r, s = 42 :: r ∧ o = some (0, -1, r)) ∨ ∃ r, s = 92 :: 123 :: r ∧ o = braceS [92, 125] r := by
  unfold timesS at h
  rw [if_neg (by decide : ¬ (false = true))] at h
  split at h
  · rename_i e
    cases s with
    | nil => cases e
    | cons c r => cases e; exact .inl ⟨r, rfl, (Option.some.inj h).symm⟩
  · split at h
    · rename_i e
      obtain ⟨r, rfl⟩ := two_is (begins_two.2 e)
      exact .inr ⟨r, rfl, (Option.some.inj h).symm⟩
    · cases h
theorem stepB_times {s : List UInt8} {o : Tm} (h : timesS false s = some o) {last : Nat} (h0 : last ≠ 0) (h2 : last ≠ 2) (fs : List Fr) : runM false fold s last fs = (boundsM last fs o).bind fun q => runM false fold q.1 q.2.1 q.2.2 := by
  rcases timesB_is h with ⟨r, rfl, rfl⟩ | ⟨r, rfl, rfl⟩
  · rw [run_cons]
    have e : stepM false fold last fs 42 r = repM last fs 0 (-1) r := by
      show stepP fold last fs 42 r = _
      unfold stepP
      rw [if_neg (by decide), if_neg (fun e => absurd e.1 (by decide)), if_neg (fun e => absurd e.1 (by decide)), if_pos ⟨rfl, h0, h2⟩]
    rw [e]; rfl
  · rw [run_cons]; rfl
theorem behindB {x : Nd} {t : List UInt8} (br pc : List Nd) (fs : List Fr) :
    match repS false x t with
    | none => runM false fold t 4 ((br, pc ++ [x]) :: fs) = none
    | some q => ∃ last, 3 ≤ last ∧ (last = 4 → timesS false q.2 = none) ∧ runM false fold t 4 ((br, pc ++ [x]) :: fs) = runM false fold q.2 last ((br, pc ++ [q.1]) :: fs) := by
  unfold repS
  cases ht : timesS false t with
  | none => exact ⟨4, by omega, fun _ => ht, rfl⟩
  | some o =>
    have e := stepB_times ht (last := 4) (by omega) (by omega) ((br, pc ++ [x]) :: fs) (fold := fold)
    cases o with
    | none => exact e
    | some q =>
      have e2 : runM false fold t 4 ((br, pc ++ [x]) :: fs) = runM false fold q.2.2 5 ((br, pc ++ [repN q.1 q.2.1 x]) :: fs) := by
        rw [e, ← repF_last]; rfl
      simp only
      cases h2 : timesS false q.2.2 with
      | none =>
        rw [if_neg (by simp)]
        exact ⟨5, by omega, fun h => by omega, e2⟩
      | some o2 =>
        rw [if_pos (show (some o2).isSome = true from rfl)]
        show _ = none
        rw [e2, stepB_times h2 (by omega) (by omega), bounds_not (by omega)]; rfl
def PcB (fold : Bool) (m : Nat) (s : List UInt8) (last : Nat) (br pc : List Nd) (fs : List Fr) : Prop :=
  match goS id fold m s with
  | none => runM false fold s last ((br, pc) :: fs) = none
  | some q => (q.2 = [] ∨ begins [92, 41] q.2 = true) ∧ ∃ last', runM false fold s last ((br, pc) :: fs) = runM false fold q.2 last' ((br, pc ++ q.1) :: fs)
def MB (m last : Nat) : Prop := (m = 2 ∧ last = 0) ∨ (m = 3 ∧ last = 2) ∨ (m = 4 ∧ last ≠ 0 ∧ last ≠ 2)
theorem shut_B {last : Nat} {f : Fr} {fs : List Fr} {t : List UInt8} : runM false fold (92 :: 41 :: t) last (f :: fs) = (shutM false last (f :: fs) t).bind fun q => runM false fold q.1 q.2.1 q.2.2 := by
  rw [run_cons]; rfl
theorem paren_B {r : List UInt8} {f : Fr} {fs : List Fr} (h : PcB fold 2 r 0 [] [] (f :: fs)) :
    match closeS id 4 [92, 41] (goS id fold 2 r) with
    | none => runM false fold r 0 (([], []) :: f :: fs) = none
    | some q => runM false fold r 0 (([], []) :: f :: fs) = runM false fold q.2 4 ((f.1, f.2 ++ [q.1]) :: fs) := by
  unfold PcB at h
  unfold closeS
  cases hg : goS id fold 2 r with
  | none => rw [hg] at h; exact h
  | some q =>
    rw [hg] at h
    obtain ⟨ht, last', e⟩ := h
    rw [Option.bind_some]
    rcases ht with ht | ht
    · rw [ht, if_neg (by decide)]
      show _ = none
      rw [e, ht]; rfl
    · rw [if_pos ht]
      obtain ⟨t, hq⟩ := two_is ht
      show _ = runM false fold (q.2.drop 2) 4 ((f.1, f.2 ++ [joinN 4 q.1]) :: fs)
      rw [e, hq, shut_B]
      unfold shutM
      rw [if_neg (by simp), if_neg (by simp)]
      rfl
theorem goOnB {s u : List UInt8} {y : Nd} {m m2 last l2 : Nat} {br pc : List Nd} {fs : List Fr}
    (e : runM false fold s last ((br, pc) :: fs) = runM false fold u l2 ((br, pc ++ [y]) :: fs)) (h : PcB fold m2 u l2 br (pc ++ [y]) fs) (hs : goS id fold m s = consR y (goS id fold m2 u)) : PcB fold m s last br pc fs := by
  unfold PcB at h ⊢
  rw [hs]
  cases hg : goS id fold m2 u with
  | none => rw [hg] at h; rw [e]; exact h
  | some q =>
    rw [hg] at h
    obtain ⟨ht, l3, e2⟩ := h
    refine ⟨ht, l3, ?_⟩
    rw [e, e2]
    simp
theorem noneB {s : List UInt8} {m last : Nat} {br pc : List Nd} {fs : List Fr} (h : goS id fold m s = none) (e : runM false fold s last ((br, pc) :: fs) = none) : PcB fold m s last br pc fs := by
  unfold PcB; rw [h]; exact e
theorem pcs_B : ∀ (n : Nat) (m : Nat) (s : List UInt8) (last : Nat) (br pc : List Nd) (fs : List Fr), s.length < n → MB m last → (last = 4 → timesS false s = none) → PcB fold m s last br pc fs
  | 0, _, _, _, _, _, _, h, _, _ => absurd h (by omega)
  | n + 1, m, s, last, br, pc, fs, hn, hm, h4 => by
    have h2m : 2 ≤ m := by rcases hm with h | h | h <;> omega
    have heq := goS_B (mk := id) (fold := fold) h2m s
    cases s with
    | nil =>
      unfold PcB
      rw [heq]
      exact ⟨.inl rfl, last, by simp⟩
    | cons c r =>
      simp only [List.length_cons] at hn
      rw [stepB] at heq
      by_cases h1 : c = 92 ∧ r[0]? = some 41
      · unfold PcB
        rw [heq, if_pos h1]
        exact ⟨.inr (begins_two.2 (by rw [h1.1]; exact ⟨rfl, h1.2⟩)), last, by simp⟩
      rw [if_neg h1] at heq
      by_cases h2 : c = 94 ∧ m = 2
      · rw [if_pos h2] at heq
        obtain ⟨rfl, rfl⟩ := h2
        have hl : last = 0 := by rcases hm with h | h | h <;> omega
        subst hl
        exact goOnB (run_to (q := (r, 2, (br, pc ++ [beginN]) :: fs)) rfl) (pcs_B n 3 r 2 br _ fs (by omega) (.inr (.inl ⟨rfl, rfl⟩)) (fun e => absurd e (by omega))) heq
      rw [if_neg h2] at heq
      by_cases h3 : c = 36 ∧ (r = [] ∨ r[0]? = some 92 ∧ r[1]? = some 41)
      · rw [if_pos h3] at heq
        have h3' : c = 36 ∧ (r = [] ∨ begins [92, 41] r = true) := ⟨h3.1, h3.2.imp id begins_two.2⟩
        refine goOnB (run_to (q := (r, 3, (br, pc ++ [endN]) :: fs)) ?_) (pcs_B n 4 r 3 br _ fs (by omega) (.inr (.inr ⟨rfl, by omega, by omega⟩)) (fun e => absurd e (by omega))) heq
        show stepP fold last _ c r = _
        unfold stepP
        rw [if_neg (by rw [h3.1]; decide), if_neg (fun e => absurd (h3.1.symm.trans e.1) (by decide)), if_pos h3']
        rfl
      rw [if_neg h3] at heq
      by_cases h5 : c = 42 ∧ m = 4
      · rw [if_pos h5] at heq
        obtain ⟨rfl, rfl⟩ := h5
        have hl : last ≠ 0 ∧ last ≠ 2 := by rcases hm with h | h | h <;> omega
        have ht : timesS false (42 :: r) = some (some (0, -1, r)) := rfl
        refine noneB heq ?_
        rw [stepB_times ht hl.1 hl.2, bounds_not (by intro e; rw [h4 e] at ht; cases ht)]; rfl
      rw [if_neg h5] at heq
      have fin : ∀ (x : Nd) (t : List UInt8), plainB id fold (goS id fold) c r = some (x, t) → t.length ≤ r.length → runM false fold (c :: r) last ((br, pc) :: fs) = runM false fold t 4 ((br, pc ++ [x]) :: fs) → PcB fold m (c :: r) last br pc fs := by
        intro x t hp hl e
        rw [hp, Option.bind_some] at heq
        have hb := behindB (fold := fold) (x := x) (t := t) br pc fs
        cases hr : repS false x t with
        | none => rw [hr] at hb heq; exact noneB heq (by rw [e]; exact hb)
        | some q =>
          rw [hr] at hb heq
          obtain ⟨l2, hl2, hl4, e2⟩ := hb
          have := repS_len hr
          exact goOnB (by rw [e]; exact e2) (pcs_B n 4 q.2 l2 br _ fs (by omega) (.inr (.inr ⟨rfl, by omega, by omega⟩)) hl4) heq
      have no : plainB id fold (goS id fold) c r = none → runM false fold (c :: r) last ((br, pc) :: fs) = none → PcB fold m (c :: r) last br pc fs := by
        intro hp e
        rw [hp] at heq
        exact noneB heq e
      by_cases h6 : c = 92
      · subst h6
        cases r with
        | nil => exact no rfl (run_no rfl)
        | cons d t =>
          simp only [List.length_cons] at hn
          by_cases d1 : d = 40
          · subst d1
            have hp := paren_B (f := (br, pc)) (pcs_B n 2 t 0 [] [] ((br, pc) :: fs) (by omega) (.inl ⟨rfl, rfl⟩) (fun e => absurd e (by omega)))
            have e0 : runM false fold (92 :: 40 :: t) last ((br, pc) :: fs) = runM false fold t 0 (([], []) :: (br, pc) :: fs) := run_to (q := (t, 0, ([], []) :: (br, pc) :: fs)) rfl
            have e1 : plainB id fold (goS id fold) 92 (40 :: t) = closeS id 4 [92, 41] (goS id fold 2 t) := rfl
            cases hc : closeS id 4 [92, 41] (goS id fold 2 t) with
            | none => rw [hc] at hp e1; exact no e1 (by rw [e0]; exact hp)
            | some q =>
              rw [hc] at hp e1
              have hl := closeS_len (s := t) (fun u hu => goS_len _ _ _ hu) hc
              exact fin q.1 q.2 e1 (by simp; omega) (by rw [e0]; exact hp)
          have d2 : d ≠ 41 := fun e => h1 ⟨rfl, by rw [e]; rfl⟩
          have hq : plainB id fold (goS id fold) 92 (d :: t) = if alnumB d = true ∨ d = 41 ∨ d = 123 ∨ d = 125 then none else some (oneN fold d, t) := by
            show quoteB id fold (goS id fold) (d :: t) = _
            rw [quoteB, if_neg d1]
          by_cases d3 : d = 123
          · subst d3
            have ht : timesS false (92 :: 123 :: t) = some (braceS [92, 125] t) := rfl
            refine no (by rw [hq, if_pos (.inr (.inr (.inl rfl)))]) ?_
            have e : stepM false fold last ((br, pc) :: fs) 92 (123 :: t) = none := by
              show boundsM last _ _ = _
              exact bounds_not (by intro e; rw [h4 e] at ht; cases ht)
            exact run_no e
          by_cases d4 : d = 125
          · subst d4
            exact no (by rw [hq, if_pos (.inr (.inr (.inr rfl)))]) (run_no rfl)
          have hst : stepM false fold last ((br, pc) :: fs) 92 (d :: t) = atomM ((br, pc) :: fs) (quoteE fold (d :: t)) := by
            show escB fold last _ (d :: t) = _
            rw [escB, if_neg d1, if_neg d2, if_neg d3, if_neg d4]
          by_cases d5 : alnumB d = true
          · refine no (by rw [hq, if_pos (.inl d5)]) (run_no ?_)
            rw [hst, quoteE, if_pos d5]; rfl
          · refine fin (oneN fold d) t (by rw [hq, if_neg (by simp [d5, d2, d3, d4])]) (by simp) (run_to (q := (t, 4, (br, pc ++ [oneN fold d]) :: fs)) ?_)
            rw [hst, quoteE, if_neg d5]; rfl
      have hst : stepM false fold last ((br, pc) :: fs) c r = atomM ((br, pc) :: fs) (plainB id fold (goS id fold) c r) := by
        show stepP fold last _ c r = _
        unfold stepP
        rw [if_neg h6, if_neg (by rintro ⟨ec, el⟩; refine h2 ⟨ec, ?_⟩; rcases hm with h | h | h <;> omega), if_neg (by rintro ⟨ec, er⟩; exact h3 ⟨ec, er.imp id begins_two.1⟩), if_neg (by rintro ⟨ec, e0, e2⟩; refine h5 ⟨ec, ?_⟩; rcases hm with h | h | h <;> omega)]
        unfold plainM plainB
        by_cases h7 : c = 46
        · subst h7; rfl
        rw [if_neg h7]
        by_cases h8 : c = 91
        · subst h8; rfl
        rw [if_neg h8, if_neg h8, if_neg h7, if_neg h6]
      cases hp : plainB id fold (goS id fold) c r with
      | none => rw [hp] at hst; exact no hp (run_no hst)
      | some q =>
        rw [hp] at hst
        exact fin q.1 q.2 hp (plainB_len goS_len hp) (run_to hst)
theorem run_B (s : List UInt8) : runM false fold s 0 [([], [])] = readS id false fold s := by
  have h := pcs_B (fold := fold) (s.length + 1) 2 s 0 [] [] [] (by omega) (.inl ⟨rfl, rfl⟩) (fun e => absurd e (by omega))
  unfold PcB at h
  unfold readS
  rw [if_neg (by decide), if_neg (by decide)]
  cases hg : goS id fold 2 s with
  | none => rw [hg] at h; exact h
  | some q =>
    rw [hg] at h
    obtain ⟨ht, l2, e⟩ := h
    rw [e, Option.bind_some]
    rcases ht with ht | ht
    · rw [ht, if_pos rfl, run_nil]; rfl
    · obtain ⟨t, hc⟩ := two_is ht
      rw [hc, if_neg (by simp), shut_B]; rfl
/-- What is read without recursion is what is read by the grammar. -/
theorem run_read (ext : Bool) (s : List UInt8) : runM ext fold s 0 [([], [])] = readS id ext fold s := by
  cases ext with
  | true => exact run_X s
  | false => exact run_B s
end
end Go.Proofs.YtlekfdkahlobiaaGreat.Re
