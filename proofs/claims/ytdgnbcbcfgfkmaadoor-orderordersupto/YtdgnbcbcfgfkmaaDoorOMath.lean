/- Plain mathematics of reading numbers: what the program's reader and the document's reader both compute; no program is named here. -/
import Derived.Below
namespace Go.Proofs.YtdgnbcbcfgfkmaaDoor

/-- The number that digits to the base b say, at most so great: from n on. -/
def rd (b most : Int) : List UInt8 → Int → Int × Bool
  | [], n => (n, true)
  | c :: cs, n =>
    if (c.toNat : Int) < 48 ∨ b + 48 ≤ (c.toNat : Int) ∨ most < (c.toNat : Int) - 48 ∨ (most - ((c.toNat : Int) - 48)) / b < n then (0, false)
    else rd b most cs (n * b + ((c.toNat : Int) - 48))

/-- The whole reading: nothing is no number. -/
def rdAll (b most : Int) (s : List UInt8) : Int × Bool := if s.length = 0 then (0, false) else rd b most s 0

theorem drop_cons (s : ByteArray) (k : Nat) (h : k < s.size) : s.data.toList.drop k = s[k] :: s.data.toList.drop (k + 1) := by
  rw [List.drop_eq_getElem_cons (by simpa using h)]; rfl

theorem rd_bad {b most : Int} {c : UInt8} {cs : List UInt8} {n : Int} {r : Int × Bool} (h : rd b most (c :: cs) n = r) (x : (c.toNat : Int) < 48 ∨ b + 48 ≤ (c.toNat : Int) ∨ most < (c.toNat : Int) - 48 ∨ (most - ((c.toNat : Int) - 48)) / b < n) : r = (0, false) := by
  rw [← h, rd, if_pos x]

theorem rd_go {b most : Int} {c : UInt8} {cs : List UInt8} {n : Int} {r : Int × Bool} (h : rd b most (c :: cs) n = r) (x : ¬ ((c.toNat : Int) < 48 ∨ b + 48 ≤ (c.toNat : Int) ∨ most < (c.toNat : Int) - 48 ∨ (most - ((c.toNat : Int) - 48)) / b < n)) : rd b most cs (n * b + ((c.toNat : Int) - 48)) = r := by
  rw [← h, rd, if_neg x]

theorem rd_end {b most n : Int} {s : List UInt8} {k : Nat} {r : Int × Bool} (h : rd b most (s.drop k) n = r) (x : s.length ≤ k) : r = (n, true) := by
  rw [← h, List.drop_of_length_le x, rd]

theorem rdAll_nil {b most : Int} {s : List UInt8} (h : s.length = 0) : rdAll b most s = (0, false) := by rw [rdAll, if_pos h]
theorem rdAll_go {b most : Int} {s : List UInt8} (h : ¬ s.length = 0) : rd b most s 0 = rdAll b most s := by rw [rdAll, if_neg h]

theorem tdiv_case (m b : Int) : (0 ≤ m ∧ m.tdiv b = m / b) ∨ (m < 0 ∧ m.tdiv b = -((-m) / b)) := by
  by_cases h : 0 ≤ m
  · exact .inl ⟨h, Int.tdiv_eq_ediv_of_nonneg h⟩
  · refine .inr ⟨by omega, ?_⟩
    have e : m.tdiv b = -((-m).tdiv b) := by rw [Int.neg_tdiv, Int.neg_neg]
    rw [e, Int.tdiv_eq_ediv_of_nonneg (by omega)]
end Go.Proofs.YtdgnbcbcfgfkmaaDoor
/- Options by the document: what arguments come to. -/
namespace Go.Proofs.YtdgnbcbcfgfkmaaDoor

abbrev Opts := List (UInt8 × ByteArray)

/-- Of a letter: 0 it is none, 1 alone, 2 with an argument. -/
def kindL (c : UInt8) : List UInt8 → Nat
  | [] => 0
  | x :: r => if x = c then (if r.head? = some 58 then 2 else 1) else kindL c r
def kindS (spec : ByteArray) (c : UInt8) : Nat := if c = 58 ∨ c = 45 then 0 else kindL c spec.data.toList

/-- A letter's argument is the next one. -/
def nextS (l : Opts) (c : UInt8) : List ByteArray → Option (Opts × List ByteArray)
  | [] => none
  | s :: rest => some (l ++ [(c, s)], rest)
/-- One argument's letters, and the arguments behind it. -/
def groupS (spec : ByteArray) : Opts → List UInt8 → List ByteArray → Option (Opts × List ByteArray)
  | l, [], rest => some (l, rest)
  | l, c :: r, rest =>
    if kindS spec c = 0 then none
    else if kindS spec c = 1 then groupS spec (l ++ [(c, ⟨#[]⟩)]) r rest
    else if r ≠ [] then some (l ++ [(c, ⟨r.toArray⟩)], rest)
    else nextS l c rest

theorem groupS_le (spec : ByteArray) : ∀ (g : List UInt8) (l : Opts) (rest : List ByteArray) (p : Opts × List ByteArray), groupS spec l g rest = some p → p.2.length ≤ rest.length
  | [], l, rest, p, h => by simp only [groupS, Option.some.injEq] at h; rw [← h]; exact Nat.le_refl _
  | c :: r, l, rest, p, h => by
    rw [groupS] at h
    split at h
    · cases h
    split at h
    · exact groupS_le spec r _ rest p h
    split at h
    · simp only [Option.some.injEq] at h; rw [← h]; exact Nat.le_refl _
    · cases rest with
      | nil => cases h
      | cons s rest => simp only [nextS, Option.some.injEq] at h; rw [← h]; simp

def dashes : ByteArray := ⟨#[45, 45]⟩

/-- So many arguments at most. -/
def parseN (spec : ByteArray) : Nat → Opts → List ByteArray → Option (Opts × List ByteArray)
  | _, l, [] => some (l, [])
  | 0, _, _ :: _ => none
  | n + 1, l, a :: rest =>
    if a = dashes then some (l, rest)
    else if a.size < 2 ∨ a.data.toList.head? ≠ some 45 then some (l, a :: rest)
    else (groupS spec l (a.data.toList.drop 1) rest).bind fun p => parseN spec n p.1 p.2
theorem parseN_same (spec : ByteArray) : ∀ (n m : Nat) (l : Opts) (args : List ByteArray), args.length ≤ n → args.length ≤ m → parseN spec n l args = parseN spec m l args
  | n, m, l, [], _, _ => by rw [parseN, parseN]
  | 0, _, _, _ :: _, h, _ => absurd h (by simp)
  | _ + 1, 0, _, _ :: _, _, h => absurd h (by simp)
  | n + 1, m + 1, l, a :: rest, h1, h2 => by
    rw [parseN, parseN]
    cases hg : groupS spec l (a.data.toList.drop 1) rest with
    | none => rfl
    | some p =>
      have h3 := groupS_le _ _ _ _ _ hg
      simp only [Option.bind_some]
      rw [parseN_same spec n m p.1 p.2 (by simp at h1; omega) (by simp at h2; omega)]

def parseS (spec : ByteArray) (l : Opts) (args : List ByteArray) : Option (Opts × List ByteArray) := parseN spec args.length l args

def tot (l : List ByteArray) : Nat := (l.map ByteArray.size).sum
theorem tot_cons (a : ByteArray) (l : List ByteArray) : tot (a :: l) = a.size + tot l := rfl

theorem parseS_nil (spec : ByteArray) (l : Opts) : parseS spec l [] = some (l, []) := by rw [parseS, parseN]
theorem parseS_dd (spec : ByteArray) (l : Opts) (a : ByteArray) (rest : List ByteArray) (h : a = dashes) : parseS spec l (a :: rest) = some (l, rest) := by rw [parseS, List.length_cons, parseN, if_pos h]
theorem parseS_stop (spec : ByteArray) (l : Opts) (a : ByteArray) (rest : List ByteArray) (h : a ≠ dashes) (h2 : a.size < 2 ∨ a.data.toList.head? ≠ some 45) : parseS spec l (a :: rest) = some (l, a :: rest) := by rw [parseS, List.length_cons, parseN, if_neg h, if_pos h2]
theorem parseS_go (spec : ByteArray) (l : Opts) (a : ByteArray) (rest : List ByteArray) (h : a ≠ dashes) (h2 : ¬ (a.size < 2 ∨ a.data.toList.head? ≠ some 45)) : parseS spec l (a :: rest) = (groupS spec l (a.data.toList.drop 1) rest).bind fun p => parseS spec p.1 p.2 := by
  rw [parseS, List.length_cons, parseN, if_neg h, if_neg h2]
  cases hg : groupS spec l (a.data.toList.drop 1) rest with
  | none => rfl
  | some p => exact parseN_same spec _ _ p.1 p.2 (groupS_le _ _ _ _ _ hg) (Nat.le_refl _)

/-- What is left to do within an argument. -/
def goS (spec : ByteArray) (l : Opts) (g : List UInt8) (rest : List ByteArray) : Option (Opts × List ByteArray) := (groupS spec l g rest).bind fun p => parseS spec p.1 p.2
theorem goS_nil (spec : ByteArray) (l : Opts) (rest : List ByteArray) : goS spec l [] rest = parseS spec l rest := rfl
theorem goS_0 {spec : ByteArray} {l : Opts} {c : UInt8} {r : List UInt8} {rest : List ByteArray} (h : kindS spec c = 0) : goS spec l (c :: r) rest = none := by rw [goS, groupS, if_pos h]; rfl
theorem goS_1 {spec : ByteArray} {l : Opts} {c : UInt8} {r : List UInt8} {rest : List ByteArray} (h : kindS spec c = 1) : goS spec l (c :: r) rest = goS spec (l ++ [(c, ⟨#[]⟩)]) r rest := by rw [goS, groupS, if_neg (by omega), if_pos h]; rfl
theorem goS_2 {spec : ByteArray} {l : Opts} {c : UInt8} {r : List UInt8} {rest : List ByteArray} (h0 : kindS spec c ≠ 0) (h : kindS spec c ≠ 1) (hr : r ≠ []) : goS spec l (c :: r) rest = parseS spec (l ++ [(c, ⟨r.toArray⟩)]) rest := by rw [goS, groupS, if_neg h0, if_neg h, if_pos hr]; rfl
theorem goS_3 {spec : ByteArray} {l : Opts} {c : UInt8} (h0 : kindS spec c ≠ 0) (h : kindS spec c ≠ 1) : goS spec l [c] [] = none := by rw [goS, groupS, if_neg h0, if_neg h, if_neg (by simp)]; rfl
theorem goS_4 {spec : ByteArray} {l : Opts} {c : UInt8} {s : ByteArray} {rest : List ByteArray} (h0 : kindS spec c ≠ 0) (h : kindS spec c ≠ 1) : goS spec l [c] (s :: rest) = parseS spec (l ++ [(c, s)]) rest := by rw [goS, groupS, if_neg h0, if_neg h, if_neg (by simp)]; rfl

theorem kindL_le (c : UInt8) : ∀ l, kindL c l ≤ 2
  | [] => by simp [kindL]
  | x :: r => by rw [kindL]; split; (split <;> omega); exact kindL_le c r
theorem kindS_le (spec : ByteArray) (c : UInt8) : kindS spec c ≤ 2 := by unfold kindS; split; (· omega); exact kindL_le _ _

/-- The first place of a letter. -/
theorem kindL_at (c : UInt8) : ∀ (l : List UInt8) (k : Nat), (∀ j, j < k → l[j]? ≠ some c) → kindL c l = kindL c (l.drop k)
  | l, 0, _ => by rw [List.drop_zero]
  | [], k + 1, _ => by simp
  | x :: r, k + 1, h => by
    have h0 : x ≠ c := fun e => h 0 (by omega) (by simp [e])
    rw [kindL, if_neg h0, List.drop_succ_cons]
    exact kindL_at c r k fun j hj => by simpa using h (j + 1) (by omega)

theorem kindL_mem {c : UInt8} : ∀ {l : List UInt8}, c ∈ l → kindL c l ≠ 0
  | x :: r, h => by
    rw [kindL]
    split
    · split <;> omega
    · rename_i hx
      rcases List.mem_cons.1 h with h | h
      · exact absurd h.symm hx
      · exact kindL_mem h
theorem kindL_not {c : UInt8} : ∀ {l : List UInt8}, c ∉ l → kindL c l = 0
  | [], _ => rfl
  | x :: r, h => by
    rw [kindL, if_neg (fun e => h (by simp [e]))]
    exact kindL_not (fun hm => h (by simp [hm]))
def hasS (l : Opts) (c : UInt8) : Bool := l.any fun p => p.1 == c
def lastS (l : Opts) (c : UInt8) : Option ByteArray := (l.reverse.find? fun p => p.1 == c).map (·.2)
end Go.Proofs.YtdgnbcbcfgfkmaaDoor
