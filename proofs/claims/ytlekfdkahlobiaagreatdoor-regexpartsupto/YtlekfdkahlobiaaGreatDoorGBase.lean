/- Regular expressions: nodes that may be, without marks of parentheses; texts that stand for themselves; numbers in braces. -/
import Derived.Test.YtlekfdkahlobiaaGreatDoorGLoc
import Derived.WalkKit
import Derived.WalkSpells
import Derived.Lib.Hide
import Derived.Deep.AppendLies
import Derived.Deep.RegionLaw
import Derived.Deep.QuietTactic
import Derived.Deep.RegionWith
import Derived.Maps.AppendAt
import Derived.BigQuiet
import Derived.Test.YtlekfdkahlobiaaGreatDoorProg
namespace Go.Proofs.YtlekfdkahlobiaaGreatDoor.Re
open Go.Proofs.YtlekfdkahlobiaaGreatDoor.Tr

/-- A node as the reading makes it. -/
def Nd.wf : Nd → Bool
  | ⟨k, _, m, n, l⟩ => decide (k ≤ 6) && decide (0 ≤ m ∧ m ≤ 255 ∧ -1 ≤ n ∧ n ≤ 255) && (decide (k ≠ 6) || decide (l.length = 1)) && (decide (4 ≤ k) || l.isEmpty) && wfs l
  where wfs : List Nd → Bool
  | [] => true
  | x :: l => x.wf && wfs l
theorem wfs_iff : ∀ {l : List Nd}, Nd.wf.wfs l = true ↔ ∀ x ∈ l, x.wf = true
  | [] => by simp [Nd.wf.wfs]
  | x :: l => by rw [Nd.wf.wfs, Bool.and_eq_true, wfs_iff (l := l)]; simp
theorem wf_join {k : Nat} (hk : k = 4 ∨ k = 5) : ∀ {l : List Nd}, (∀ x ∈ l, x.wf = true) → (joinN k l).wf = true
  | [], _ => rfl
  | [x], h => h x (by simp)
  | x :: y :: l, h => by
    show Nd.wf ⟨k, noB, 0, 0, x :: y :: l⟩ = true
    rw [Nd.wf, wfs_iff.2 h]
    rcases hk with rfl | rfl <;> rfl
theorem wf_rep {m n : Int} {x : Nd} (h : 0 ≤ m ∧ m ≤ 255 ∧ -1 ≤ n ∧ n ≤ 255) (hx : x.wf = true) : (repN m n x).wf = true := by
  show Nd.wf ⟨6, noB, m, n, [x]⟩ = true
  rw [Nd.wf, Nd.wf.wfs, Nd.wf.wfs, hx, decide_eq_true h]
  rfl
theorem rd_in {b most : Int} (hb : 0 < b) (hm : 0 ≤ most) : ∀ (s : List UInt8) (n : Int), 0 ≤ n → n ≤ most → 0 ≤ (rd b most s n).1 ∧ (rd b most s n).1 ≤ most
  | [], n, h0, h1 => ⟨h0, h1⟩
  | c :: cs, n, h0, h1 => by
    rw [rd]
    split
    · exact ⟨Int.le_refl _, hm⟩
    · rename_i hc
      have h2 : n ≤ (most - ((c.toNat : Int) - 48)) / b := by omega
      have h3 := (Int.le_ediv_iff_mul_le hb).1 h2
      have h4 : 0 ≤ n * b := Int.mul_nonneg h0 (by omega)
      exact rd_in hb hm cs _ (by omega) (by omega)
theorem rdAll_in (s : List UInt8) : 0 ≤ (rdAll 10 255 s).1 ∧ (rdAll 10 255 s).1 ≤ 255 := by
  unfold rdAll
  split
  · exact ⟨by decide, by decide⟩
  · exact rd_in (by decide) (by decide) s 0 (by decide) (by decide)
def TmIn (q : Int × Int × List UInt8) : Prop := 0 ≤ q.1 ∧ q.1 ≤ 255 ∧ -1 ≤ q.2.1 ∧ q.2.1 ≤ 255
theorem braceS_in {shut s : List UInt8} {q : Int × Int × List UInt8} (h : braceS shut s = some q) : TmIn q := by
  unfold braceS at h
  simp only at h
  have h1 := rdAll_in (s.takeWhile isDec)
  split at h
  · cases h
  split at h
  · unfold brace2 at h
    simp only at h
    split at h
    · cases h; exact ⟨h1.1, h1.2, by simp⟩
    split at h
    · cases h
      have h2 := rdAll_in (((s.drop (s.takeWhile isDec).length).drop 1).takeWhile isDec)
      exact ⟨h1.1, h1.2, by simp only; omega, h2.2⟩
    · cases h
  · split at h
    · cases h; exact ⟨h1.1, h1.2, by simp only; omega, h1.2⟩
    · cases h
theorem timesS_in {ext : Bool} {s : List UInt8} {q : Int × Int × List UInt8} (h : timesS ext s = some (some q)) : TmIn q := by
  unfold timesS at h
  split at h
  · cases h; exact ⟨by simp, by simp, by simp, by simp⟩
  split at h
  · split at h
    · cases h; exact ⟨by simp, by simp, by simp, by simp⟩
    split at h
    · cases h; exact ⟨by simp, by simp, by simp, by simp⟩
    split at h
    · exact braceS_in (Option.some.inj h)
    · cases h
  · split at h
    · exact braceS_in (Option.some.inj h)
    · cases h
theorem repS_wf {ext : Bool} {x : Nd} {s : List UInt8} {q : Nd × List UInt8} (hx : x.wf = true) (h : repS ext x s = some q) : q.1.wf = true := by
  unfold repS at h
  split at h
  · cases h; exact hx
  · cases h
  · rename_i u hu
    split at h
    · cases h
    · cases h; exact wf_rep (timesS_in hu) hx
theorem bracketS_wf {fold : Bool} {s : List UInt8} {q : Nd × List UInt8} (h : bracketS fold s = some q) : q.1.wf = true := by
  unfold bracketS at h
  cases hp : partsS (s.length + 1) true noB (behindNot s) with
  | none => rw [hp] at h; cases h
  | some u => rw [hp] at h; cases h; rfl
def WfG (G : Nat → List UInt8 → RL) : Prop := ∀ m s q, G m s = some q → ∀ x ∈ q.1, x.wf = true
section
variable {mk : Nd → Nd} {fold : Bool} {G : Nat → List UInt8 → RL}
theorem closeS_wf (hmk : ∀ x, x.wf = true → (mk x).wf = true) {k : Nat} (hk : k = 4 ∨ k = 5) {shut : List UInt8} {r : RL} {q : Nd × List UInt8} (hr : ∀ t, r = some t → ∀ x ∈ t.1, x.wf = true) (h : closeS mk k shut r = some q) : q.1.wf = true := by
  unfold closeS at h
  cases r with
  | none => cases h
  | some t =>
    rw [Option.bind_some] at h
    split at h
    · cases h; exact hmk _ (wf_join hk (hr t rfl))
    · cases h
theorem atomE_wf (hmk : ∀ x, x.wf = true → (mk x).wf = true) (hG : WfG G) {c : UInt8} {r : List UInt8} {q : Nd × List UInt8} (h : atomE mk fold G c r = some q) : q.1.wf = true := by
  unfold atomE at h
  split at h
  · exact closeS_wf hmk (.inr rfl) (fun t ht => hG _ _ _ ht) h
  split at h
  · exact bracketS_wf h
  split at h
  · cases h; rfl
  split at h
  · cases h; rfl
  split at h
  · cases h; rfl
  split at h
  · cases r with
    | nil => cases h
    | cons d t =>
      rw [quoteE] at h
      split at h
      · cases h
      · cases h; rfl
  split at h
  · cases h
  · cases h; rfl
theorem pieceE_wf (hmk : ∀ x, x.wf = true → (mk x).wf = true) (hG : WfG G) {c : UInt8} {r : List UInt8} {q : Nd × List UInt8} (h : pieceE mk fold G c r = some q) : q.1.wf = true := by
  unfold pieceE at h
  cases ha : atomE mk fold G c r with
  | none => rw [ha] at h; cases h
  | some u =>
    have h1 := atomE_wf hmk hG ha
    rw [ha, Option.bind_some] at h
    split at h
    · split at h
      · cases h
      · cases h; exact h1
    · exact repS_wf h1 h
theorem plainB_wf (hmk : ∀ x, x.wf = true → (mk x).wf = true) (hG : WfG G) {c : UInt8} {r : List UInt8} {q : Nd × List UInt8} (h : plainB mk fold G c r = some q) : q.1.wf = true := by
  unfold plainB at h
  split at h
  · exact bracketS_wf h
  split at h
  · cases h; rfl
  split at h
  · cases r with
    | nil => cases h
    | cons d t =>
      rw [quoteB] at h
      split at h
      · exact closeS_wf hmk (.inl rfl) (fun t ht => hG _ _ _ ht) h
      split at h
      · cases h
      · cases h; rfl
  · cases h; rfl
theorem consR_wf {x : Nd} {r : RL} {q : List Nd × List UInt8} (hx : x.wf = true) (hr : ∀ t, r = some t → ∀ y ∈ t.1, y.wf = true) (h : consR x r = some q) : ∀ y ∈ q.1, y.wf = true := by
  unfold consR at h
  cases r with
  | none => cases h
  | some t =>
    cases h
    intro y hy
    rcases List.mem_cons.1 hy with rfl | hy
    · exact hx
    · exact hr t rfl y hy
theorem step_wf (hmk : ∀ x, x.wf = true → (mk x).wf = true) (hG : WfG G) : WfG (step mk fold G) := by
  intro m s q h
  unfold step at h
  split at h
  · cases h1 : G 1 s with
    | none => rw [h1] at h; cases h
    | some u =>
      have hu := wf_join (.inl rfl) (hG _ _ _ h1)
      rw [h1, Option.bind_some] at h
      unfold stepA at h
      split at h
      · cases h
      split at h
      · exact consR_wf hu (fun t ht => hG _ _ _ ht) h
      · cases h; intro x hx; rw [List.mem_singleton.1 hx]; exact hu
  split at h
  · cases s with
    | nil => cases h; intro x hx; cases hx
    | cons c r =>
      rw [stepE] at h
      split at h
      · cases h; intro x hx; cases hx
      · cases hp : pieceE mk fold G c r with
        | none => rw [hp] at h; cases h
        | some u => rw [hp, Option.bind_some] at h; exact consR_wf (pieceE_wf hmk hG hp) (fun t ht => hG _ _ _ ht) h
  · cases s with
    | nil => cases h; intro x hx; cases hx
    | cons c r =>
      rw [stepB] at h
      split at h
      · cases h; intro x hx; cases hx
      split at h
      · exact consR_wf rfl (fun t ht => hG _ _ _ ht) h
      split at h
      · exact consR_wf rfl (fun t ht => hG _ _ _ ht) h
      split at h
      · cases h
      · cases hp : plainB mk fold G c r with
        | none => rw [hp] at h; cases h
        | some u =>
          rw [hp, Option.bind_some] at h
          cases hr : repS false u.1 u.2 with
          | none => rw [hr] at h; cases h
          | some t => rw [hr, Option.bind_some] at h; exact consR_wf (repS_wf (plainB_wf hmk hG hp) hr) (fun t ht => hG _ _ _ ht) h
theorem goN_wf (hmk : ∀ x, x.wf = true → (mk x).wf = true) : ∀ n, WfG (goN mk fold n)
  | 0 => fun _ _ _ h => by cases h
  | n + 1 => step_wf hmk (goN_wf hmk n)
theorem goS_wf (hmk : ∀ x, x.wf = true → (mk x).wf = true) : WfG (goS mk fold) := fun m s q h => goN_wf hmk _ m s q h
end
theorem read_wf {ext fold : Bool} {s : List UInt8} {x : Nd} (h : readS id ext fold s = some x) : x.wf = true := by
  unfold readS at h
  cases hu : goS id fold (if ext = true then 0 else 2) s with
  | none => rw [hu] at h; cases h
  | some u =>
    rw [hu, Option.bind_some] at h
    split at h
    · cases h; exact wf_join (by cases ext <;> simp) (goS_wf (fun x hx => hx) _ _ _ hu)
    · cases h
theorem parse_wf {ext fold : Bool} {s : List UInt8} {x : Nd} (h : parseS ext fold s = .ok x) : x.wf = true ∧ x.size ≤ 10000 ∧ readS id ext fold s = some x := by
  unfold parseS at h
  split at h
  · cases h
  · rename_i y hy
    split at h
    · cases h
    · rename_i hz
      cases h
      exact ⟨read_wf hy, by omega, hy⟩
/-- A node is no deeper than it is great. -/
theorem deep_le : ∀ x : Nd, x.deep ≤ x.size
  | ⟨k, p, m, n, l⟩ => by
    have h := deeps_le l
    rw [Nd.deep, Nd.size]
    split
    · have : Nd.size.sizes l * 1 ≤ Nd.size.sizes l * max 1 (if n < 0 then m else n).toNat := Nat.mul_le_mul_left _ (Nat.le_max_left _ _)
      omega
    · omega
  where deeps_le : ∀ l : List Nd, Nd.deep.deeps l ≤ Nd.size.sizes l
  | [] => Nat.le_refl _
  | x :: l => by
    have h1 := deep_le x
    have h2 := deeps_le l
    rw [Nd.deep.deeps, Nd.size.sizes]
    omega

section
variable {fold : Bool} {G G' : Nat → List UInt8 → RL}
end
end Go.Proofs.YtlekfdkahlobiaaGreatDoor.Re

namespace Go.Proofs.YtlekfdkahlobiaaGreatDoor.Re
open Go.Proofs.YtlekfdkahlobiaaGreatDoor.Tr

def bareB (c : UInt8) : Bool := alnumB c || c == 40 || c == 41 || c == 123 || c == 125
def quoX (c : UInt8) : List UInt8 := if alnumB c = true then [c] else [92, c]
def quoY (c : UInt8) : List UInt8 := if bareB c = true then [c] else [92, c]
def sp1 : List UInt8 := [40, 41, 42, 43, 46, 63, 91, 92, 94, 36, 123, 124]
theorem alnum_sp : ∀ c ∈ sp1, alnumB c = false := by decide
theorem alnum_ne {c d : UInt8} (h : alnumB c = true) (hd : d ∈ sp1) : c ≠ d := by
  rintro rfl
  rw [alnum_sp _ hd] at h
  cases h
def sp2 : List UInt8 := [42, 46, 91, 92, 94, 36]
theorem bare_sp : ∀ c ∈ sp2, bareB c = false := by decide
theorem bare_ne {c d : UInt8} (h : bareB c = true) (hd : d ∈ sp2) : c ≠ d := by
  rintro rfl
  rw [bare_sp _ hd] at h
  cases h
theorem headX (s : List UInt8) : (s.flatMap quoX)[0]? = none ∨ (s.flatMap quoX)[0]? = some 92 ∨ ∃ c, (s.flatMap quoX)[0]? = some c ∧ alnumB c = true := by
  cases s with
  | nil => exact .inl rfl
  | cons c r =>
    rw [List.flatMap_cons, quoX]
    split
    · rename_i h; exact .inr (.inr ⟨c, rfl, h⟩)
    · exact .inr (.inl rfl)
theorem timesX (s : List UInt8) : timesS true (s.flatMap quoX) = none := by
  unfold timesS
  rcases headX s with h | h | ⟨c, h, hc⟩
  · rw [h]; rfl
  · rw [h]; rfl
  · rw [h, if_neg (fun e => alnum_ne hc (by decide : (42 : UInt8) ∈ sp1) (Option.some.inj e)), if_pos rfl, if_neg (fun e => alnum_ne hc (by decide : (43 : UInt8) ∈ sp1) (Option.some.inj e)), if_neg (fun e => alnum_ne hc (by decide : (63 : UInt8) ∈ sp1) (Option.some.inj e)), if_neg (fun e => alnum_ne hc (by decide : (123 : UInt8) ∈ sp1) (Option.some.inj e))]
section
variable {fold : Bool} {G : Nat → List UInt8 → RL}
theorem atomE_alnum {c : UInt8} {r : List UInt8} (h : alnumB c = true) : atomE id fold G c r = some (oneN fold c, r) := by
  unfold atomE
  rw [if_neg (alnum_ne h (by decide)), if_neg (alnum_ne h (by decide)), if_neg (alnum_ne h (by decide)), if_neg (alnum_ne h (by decide)), if_neg (alnum_ne h (by decide)), if_neg (alnum_ne h (by decide)), if_neg]
  rintro (h1 | h1 | h1 | h1)
  · exact alnum_ne h (by decide) h1
  · exact alnum_ne h (by decide) h1
  · exact alnum_ne h (by decide) h1
  · exact alnum_ne h (by decide) h1
theorem atomE_quote {c : UInt8} {r : List UInt8} (h : alnumB c = false) : atomE id fold G 92 (c :: r) = some (oneN fold c, r) := by
  unfold atomE
  rw [if_neg (by decide), if_neg (by decide), if_neg (by decide), if_neg (by decide), if_neg (by decide), if_pos rfl, quoteE, if_neg (by rw [h]; simp)]
theorem go1_X : ∀ s : List UInt8, goS id fold 1 (s.flatMap quoX) = some (s.map (oneN fold), [])
  | [] => by rw [goS_1]; rfl
  | c :: s => by
    have ih := go1_X s
    have ht := timesX s
    rw [goS_1, List.flatMap_cons, quoX]
    by_cases hc : alnumB c = true
    · rw [if_pos hc]
      show stepE id fold (goS id fold) (c :: s.flatMap quoX) = _
      rw [stepE, if_neg (fun h => h.elim (alnum_ne hc (by decide)) (alnum_ne hc (by decide)))]
      unfold pieceE
      rw [atomE_alnum hc, Option.bind_some, if_neg (fun h => h.elim (alnum_ne hc (by decide)) (alnum_ne hc (by decide)))]
      unfold repS
      simp only
      rw [ht]
      simp only [Option.bind_some]
      rw [ih]
      rfl
    · rw [if_neg hc]
      show stepE id fold (goS id fold) (92 :: c :: s.flatMap quoX) = _
      rw [stepE, if_neg (by decide)]
      unfold pieceE
      rw [atomE_quote (by simpa using hc), Option.bind_some, if_neg (by decide)]
      unfold repS
      simp only
      rw [ht]
      simp only [Option.bind_some]
      rw [ih]
      rfl
theorem read_X {s : List UInt8} (hs : s ≠ []) : readS id true fold (s.flatMap quoX) = some (literalS fold s) := by
  unfold readS
  simp only [if_true]
  rw [goS_0, go1_X, Option.bind_some]
  unfold stepA
  simp only
  rw [if_neg (by simpa using hs), if_neg (by simp)]
  rfl
theorem headY (s : List UInt8) : (s.flatMap quoY)[0]? = none ∨ ((s.flatMap quoY)[0]? = some 92 ∧ ∃ c, (s.flatMap quoY)[1]? = some c ∧ bareB c = false) ∨ ∃ c, (s.flatMap quoY)[0]? = some c ∧ bareB c = true := by
  cases s with
  | nil => exact .inl rfl
  | cons c r =>
    rw [List.flatMap_cons, quoY]
    split
    · rename_i h; exact .inr (.inr ⟨c, rfl, h⟩)
    · rename_i h; exact .inr (.inl ⟨rfl, c, rfl, by simpa using h⟩)
theorem bare_not {c d : UInt8} (h : bareB c = false) (hd : bareB d = true) : c ≠ d := by
  rintro rfl
  rw [h] at hd
  cases hd
theorem timesY (s : List UInt8) : timesS false (s.flatMap quoY) = none := by
  unfold timesS
  rcases headY s with h | ⟨h, c, h1, hc⟩ | ⟨c, h, hc⟩
  · rw [h]; rfl
  · rw [h, if_neg (by decide), if_neg (by simp), if_neg]
    rintro ⟨_, h2⟩
    rw [h1] at h2
    exact bare_not hc (by decide) (Option.some.inj h2)
  · rw [h, if_neg (fun e => bare_ne hc (by decide : (42 : UInt8) ∈ sp2) (Option.some.inj e)), if_neg (by simp), if_neg (fun e => bare_ne hc (by decide : (92 : UInt8) ∈ sp2) (Option.some.inj e.1))]
theorem goB_Y : ∀ (s : List UInt8) (m : Nat), 2 ≤ m → goS id fold m (s.flatMap quoY) = some (s.map (oneN fold), [])
  | [], m, hm => by rw [goS_B hm]; rfl
  | c :: s, m, hm => by
    have ih := goB_Y s 4 (by decide)
    have ht := timesY s
    rw [goS_B hm, List.flatMap_cons, quoY]
    by_cases hc : bareB c = true
    · rw [if_pos hc]
      show stepB id fold (goS id fold) m (c :: s.flatMap quoY) = _
      rw [stepB, if_neg (fun h => bare_ne hc (by decide) h.1), if_neg (fun h => bare_ne hc (by decide) h.1), if_neg (fun h => bare_ne hc (by decide) h.1), if_neg (fun h => bare_ne hc (by decide) h.1)]
      unfold plainB
      rw [if_neg (bare_ne hc (by decide)), if_neg (bare_ne hc (by decide)), if_neg (bare_ne hc (by decide)), Option.bind_some]
      unfold repS
      simp only
      rw [ht]
      simp only [Option.bind_some]
      rw [ih]
      rfl
    · rw [if_neg hc]
      have hc' : bareB c = false := by simpa using hc
      show stepB id fold (goS id fold) m (92 :: c :: s.flatMap quoY) = _
      rw [stepB, if_neg (fun h => bare_not hc' (by decide : bareB 41 = true) (Option.some.inj h.2)), if_neg (by simp), if_neg (fun h => absurd h.1 (by decide)), if_neg (fun h => absurd h.1 (by decide))]
      unfold plainB
      rw [if_neg (by decide), if_neg (by decide), if_pos rfl, quoteB, if_neg (bare_not hc' (by decide)), if_neg, Option.bind_some]
      · unfold repS
        simp only
        rw [ht]
        simp only [Option.bind_some]
        rw [ih]
        rfl
      · rintro (h | h | h | h)
        · unfold bareB at hc'; rw [h] at hc'; cases hc'
        · exact bare_not hc' (by decide) h
        · exact bare_not hc' (by decide) h
        · exact bare_not hc' (by decide) h
theorem read_Y (s : List UInt8) : readS id false fold (s.flatMap quoY) = some (literalS fold s) := by
  unfold readS
  simp only [Bool.false_eq_true, if_false]
  rw [goB_Y s 2 (by decide)]
  rfl
end
theorem sizes_ones (fold : Bool) : ∀ s : List UInt8, Nd.size.sizes (s.map (oneN fold)) = s.length
  | [] => rfl
  | c :: s => by
    rw [List.map_cons, Nd.size.sizes, sizes_ones fold s]
    show 1 + s.length = _
    simp; omega
theorem size_join (k : Nat) (hk : k ≠ 6) (l : List Nd) : (joinN k l).size ≤ 1 + Nd.size.sizes l := by
  match l with
  | [] => exact Nat.le_refl _
  | [x] => show x.size ≤ 1 + (x.size + 0); omega
  | x :: y :: l =>
    show Nd.size ⟨k, noB, 0, 0, x :: y :: l⟩ ≤ _
    rw [Nd.size, if_neg hk]
    exact Nat.le_refl _
theorem size_literal (fold : Bool) (s : List UInt8) : (literalS fold s).size ≤ 1 + s.length := by
  have := size_join 4 (by decide) (s.map (oneN fold))
  rw [sizes_ones] at this
  exact this
theorem parse_of {ext fold : Bool} {s : List UInt8} {x : Nd} (h : readS id ext fold s = some x) (hz : x.size ≤ 10000) : parseS ext fold s = .ok x := by
  unfold parseS
  rw [h]
  simp only
  rw [if_neg (by omega)]
theorem parse_X {fold : Bool} {s : List UInt8} (hs : s ≠ []) (hl : s.length ≤ 9999) : parseS true fold (s.flatMap quoX) = .ok (literalS fold s) := parse_of (read_X hs) (by have := size_literal fold s; omega)
theorem parse_Y {fold : Bool} {s : List UInt8} (hl : s.length ≤ 9999) : parseS false fold (s.flatMap quoY) = .ok (literalS fold s) := parse_of (read_Y s) (by have := size_literal fold s; omega)

-- numbers in braces
theorem dig_255 : ∀ u, u < 256 → (dgB 10 u).all isDec = true ∧ rdAll 10 255 (dgB 10 u) = ((u : Int), true) := by decide +kernel
theorem tw_all {p : UInt8 → Bool} {a : List UInt8} (h : a.all p = true) {c : UInt8} (hc : p c = false) (r : List UInt8) : (a ++ c :: r).takeWhile p = a := by
  induction a with
  | nil => simp [hc]
  | cons x a ih =>
    simp only [List.all_cons, Bool.and_eq_true] at h
    rw [List.cons_append, List.takeWhile_cons, if_pos h.1, ih h.2]
theorem times_brace {m n : Nat} (hm : m ≤ n) (hn : n ≤ 255) : timesS true (123 :: (dgB 10 m ++ 44 :: (dgB 10 n ++ [125]))) = some (some ((m : Int), (n : Int), [])) := by
  obtain ⟨a1, a2⟩ := dig_255 m (by omega)
  obtain ⟨b1, b2⟩ := dig_255 n (by omega)
  unfold timesS
  rw [if_neg (by simp), if_pos rfl, if_neg (by simp), if_neg (by simp), if_pos (by simp)]
  congr 1
  show braceS [125] (dgB 10 m ++ 44 :: (dgB 10 n ++ [125])) = _
  unfold braceS
  simp only
  rw [tw_all a1 (by decide), a2, List.drop_left]
  simp only
  rw [if_neg (by simp), if_pos (by simp)]
  show brace2 [125] (m : Int) (dgB 10 n ++ [125]) = _
  unfold brace2
  have hb : ¬ begins [125] (dgB 10 n ++ [125]) = true := by
    rw [begins_one]
    intro h
    cases hd : dgB 10 n with
    | nil => rw [hd] at b2; cases b2
    | cons x l =>
      rw [hd] at h b1
      simp only [List.cons_append, List.getElem?_cons_zero, Option.some.injEq] at h
      rw [h] at b1
      simp only [List.all_cons, Bool.and_eq_true] at b1
      exact absurd b1.1 (by decide)
  rw [if_neg hb]
  simp only
  rw [tw_all b1 (by decide), b2, List.drop_left]
  simp only
  rw [if_pos ⟨by trivial, by omega, by decide⟩]
  rfl
-- what is put together is told so
theorem text_cat (x y : Nd) : (ndK 4 [x, y]).text = 40 :: (x.text ++ y.text ++ [41]) := by
  show Nd.text ⟨4, noB, 0, 0, [x, y]⟩ = _
  rw [Nd.text]
  simp [Nd.text.texts]
theorem text_alt (x y : Nd) : (ndK 5 [x, y]).text = 40 :: (x.text ++ 124 :: y.text ++ [41]) := by
  show Nd.text ⟨5, noB, 0, 0, [x, y]⟩ = _
  rw [Nd.text]
  simp [Nd.text.texts]
theorem text_whole (x : Nd) : (wholeS x).text = 40 :: 94 :: (x.text ++ [36, 41]) := by
  show Nd.text ⟨4, noB, 0, 0, [beginN, x, endN]⟩ = _
  rw [Nd.text]
  simp [Nd.text.texts, beginN, endN, ndK, Nd.text]
theorem text_rep {m n : Nat} (x : Nd) : (repN (m : Int) (n : Int) x).text = x.text ++ 123 :: (dgB 10 m ++ 44 :: (dgB 10 n ++ [125])) := by
  show Nd.text ⟨6, noB, (m : Int), (n : Int), [x]⟩ = _
  rw [Nd.text]
  have e1 : digL 10 (m : Int) = dgB 10 m := by rw [digL, if_neg (by omega), Int.natAbs_natCast]
  have e2 : digL 10 (n : Int) = dgB 10 n := by rw [digL, if_neg (by omega), Int.natAbs_natCast]
  rw [e1, e2]
  simp [Nd.text.texts]
  intro h
  omega
theorem text_none : (anyS []).text = [60, 62] := by decide +kernel
theorem size_two {k : Nat} (hk : k ≠ 6) (x y : Nd) : (ndK k [x, y]).size = 1 + (x.size + y.size) := by
  show Nd.size ⟨k, noB, 0, 0, [x, y]⟩ = _
  rw [Nd.size, if_neg hk]
  rfl
theorem size_pos (x : Nd) : 1 ≤ x.size := by
  cases x
  rw [Nd.size]
  split <;> omega
theorem size_rep {m n : Nat} (x : Nd) : (repN (m : Int) (n : Int) x).size ≤ 1 + x.size * (n + 1) := by
  show Nd.size ⟨6, noB, (m : Int), (n : Int), [x]⟩ ≤ _
  rw [Nd.size, if_pos rfl, if_neg (by omega)]
  have : max 1 ((n : Int)).toNat ≤ n + 1 := by omega
  have h2 : Nd.size.sizes [x] = x.size := by show x.size + 0 = _; omega
  rw [h2]
  have := Nat.mul_le_mul_left x.size this
  omega
end Go.Proofs.YtlekfdkahlobiaaGreatDoor.Re

namespace Go.Proofs.YtlekfdkahlobiaaGreatDoor.Re
open Go.RowKit

theorem h_cell {w : World} {b T : Nat} {cs : Array Value} {fz : Nat × Nat} (h : w.heap[b]? = some (.cells cs T fz)) (i : Nat) {v : Value} (hi : cs[i]? = some v) : w.cell? ⟨b, i, none⟩ = some v := by simp [World.cell?, h, hi]
theorem h_fz {w : World} {b T : Nat} {cs : Array Value} (h : w.heap[b]? = some (.cells cs T)) (i : Nat) : w.frozen? ⟨b, i, none⟩ = false := by simp [World.frozen?, h]
theorem h_lt {w : World} {b : Nat} {o : Obj} (h : w.heap[b]? = some o) : b < w.heap.size := (Array.getElem?_eq_some_iff.1 h).1
theorem h_set {w : World} {b T : Nat} {cs : Array Value} (h : w.heap[b]? = some (.cells cs T)) (i : Nat) (v : Value) : (w.setCell ⟨b, i, none⟩ v).heap[b]? = some (.cells (cs.setIfInBounds i v) T) := by
  simp [World.setCell, Array.getElem?_modify, h]
theorem al_new (w : World) (o : Obj) : (w.alloc o).heap[w.heap.size]? = some o := by show (w.heap.push _)[w.heap.size]? = _; simp
theorem below_drewN {n : Nat} {w : World} {q : Nat} : Below n w (w.drewN q) := ⟨rfl, rfl, rfl, Nat.le_refl _, fun _ _ => rfl⟩
theorem below_drew {n : Nat} {a b : World} (h : Below n a b) : Below n a b.drew := h.trans ⟨rfl, rfl, rfl, Nat.le_refl _, fun _ _ => rfl⟩
abbrev ptr (b : Nat) : Value := .pointer (some ⟨b, 0, none⟩)
/-- A value that points somewhere. -/
def isPtr (w : World) (v : Value) : Prop := ∃ b, v = ptr b ∧ b < w.heap.size
def bs (l : List UInt8) : ByteArray := ⟨l.toArray⟩
theorem bs_size (l : List UInt8) : (bs l).size = l.length := rfl
end Go.Proofs.YtlekfdkahlobiaaGreatDoor.Re
