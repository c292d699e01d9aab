/- Plain mathematics of the digits of a number to a base; no program is named here. -/
import Derived.Test.YteimilnecahifaaGreatDoorKBefall
namespace Go.Proofs.YteimilnecahifaaGreatDoor

/-- A digit's sign. -/
def sgn (d : Nat) : UInt8 := if d < 10 then UInt8.ofNat (48 + d) else UInt8.ofNat (87 + d)

/-- A number's digits to a base, the greatest first, at most so many. -/
def dgF : Nat → Nat → Nat → List UInt8
  | 0, _, u => [sgn u]
  | f + 1, B, u => if u < B then [sgn u] else dgF f B (u / B) ++ [sgn (u % B)]

theorem dgF_enough (B : Nat) (hB : 2 ≤ B) : ∀ (f g u : Nat), u ≤ f → u ≤ g → dgF f B u = dgF g B u
  | 0, 0, _, _, _ => rfl
  | 0, g + 1, u, h, _ => by
    obtain rfl : u = 0 := by omega
    rw [dgF, dgF, if_pos (by omega)]
  | f + 1, 0, u, _, h => by
    obtain rfl : u = 0 := by omega
    rw [dgF, dgF, if_pos (by omega)]
  | f + 1, g + 1, u, h, h' => by
    rw [dgF, dgF]
    by_cases hu : u < B
    · rw [if_pos hu, if_pos hu]
    · have hd := Nat.div_lt_self (show 0 < u by omega) (show 1 < B by omega)
      rw [if_neg hu, if_neg hu, dgF_enough B hB f g (u / B) (by omega) (by omega)]

/-- A number's digits to a base, the greatest first. -/
def dgB (B u : Nat) : List UInt8 := dgF u B u

theorem dgB_small {B u : Nat} (h : u < B) : dgB B u = [sgn u] := by
  unfold dgB
  cases u with
  | zero => rfl
  | succ u => rw [dgF, if_pos h]
theorem dgB_step {B u : Nat} (hB : 2 ≤ B) (h : B ≤ u) : dgB B u = dgB B (u / B) ++ [sgn (u % B)] := by
  unfold dgB
  have hd := Nat.div_lt_self (show 0 < u by omega) (show 1 < B by omega)
  cases u with
  | zero => omega
  | succ u => rw [dgF, if_neg (by omega), dgF_enough B hB u ((u + 1) / B) ((u + 1) / B) (by omega) (Nat.le_refl _)]

/-- An int's digits, with its sign. -/
def digL (B : Nat) (n : Int) : List UInt8 := if n < 0 then 45 :: dgB B n.natAbs else dgB B n.natAbs

theorem pow_lt_of {u i : Nat} (hu : 8 ≤ u) (h : u < 2 ^ (i - 1)) (h2 : 2 ≤ i) : 5 ≤ i := by
  rcases Nat.lt_or_ge i 5 with hi | hi
  · have : i = 2 ∨ i = 3 ∨ i = 4 := by omega
    rcases this with rfl | rfl | rfl <;> simp at h <;> omega
  · exact hi
theorem pow_next {u i k : Nat} (hk : 2 ≤ k) (h : u < 2 ^ (i - 1)) (h2 : 2 ≤ i) : u / k < 2 ^ (i - 1 - 1) := by
  rw [Nat.div_lt_iff_lt_mul (by omega)]
  have e : 2 ^ (i - 1) = 2 ^ (i - 1 - 1) * 2 := by rw [← Nat.pow_succ]; congr 1; omega
  rw [e] at h
  exact Nat.lt_of_lt_of_le h (Nat.mul_le_mul_left _ hk)

theorem dgB_length (B : Nat) (hB : 2 ≤ B) : ∀ (k u : Nat), u < 2 ^ (k + 1) → (dgB B u).length ≤ k + 1
  | 0, u, h => by
    rw [dgB_small (show u < B by simp at h; omega)]; simp
  | k + 1, u, h => by
    by_cases hu : u < B
    · rw [dgB_small hu]; simp
    · rw [dgB_step hB (by omega), List.length_append]
      have h2 : u / B < 2 ^ (k + 1) := by
        rw [Nat.div_lt_iff_lt_mul (by omega)]
        have e : 2 ^ (k + 1 + 1) = 2 ^ (k + 1) * 2 := Nat.pow_succ ..
        rw [e] at h
        exact Nat.lt_of_lt_of_le h (Nat.mul_le_mul_left _ hB)
      have := dgB_length B hB k (u / B) h2
      simp; omega

/-- Behind some rounds of the plain telling of digits: u is left, out is told. -/
def DigInv (B u0 u : Nat) (out : List UInt8) : Prop := (u = 0 ∧ out ≠ [] ∧ out = dgB B u0) ∨ ((u ≠ 0 ∨ out = []) ∧ dgB B u ++ out = dgB B u0)
theorem DigInv.start (B u0 : Nat) : DigInv B u0 u0 [] := .inr ⟨.inr rfl, List.append_nil _⟩
theorem DigInv.next {B u0 u : Nat} {out : List UInt8} (hB : 2 ≤ B) (h : DigInv B u0 u out) (hc : u ≠ 0 ∨ out = []) : DigInv B u0 (u / B) (sgn (u % B) :: out) := by
  have h' : dgB B u ++ out = dgB B u0 := by
    rcases h with ⟨h1, h2, _⟩ | ⟨_, h3⟩
    · exact absurd hc (by intro hc; rcases hc with hc | hc; exact hc h1; exact h2 hc)
    · exact h3
  by_cases hu : u < B
  · rw [dgB_small hu] at h'
    refine .inl ⟨Nat.div_eq_of_lt hu, by simp, ?_⟩
    rw [Nat.mod_eq_of_lt hu]; exact h'
  · rw [dgB_step hB (by omega), List.append_assoc] at h'
    refine .inr ⟨.inl ?_, h'⟩
    have := Nat.div_pos (show B ≤ u by omega) (by omega)
    omega
theorem DigInv.done {B u0 u : Nat} {out : List UInt8} (h : DigInv B u0 u out) (hc : u = 0 ∧ out ≠ []) : out = dgB B u0 := by
  rcases h with ⟨_, _, h3⟩ | ⟨h1, _⟩
  · exact h3
  · exact absurd h1 (by intro h1; rcases h1 with h1 | h1; exact h1 hc.1; exact hc.2 h1)
theorem DigInv.length {B u0 u : Nat} {out : List UInt8} (hB : 2 ≤ B) (hu : u0 < 2 ^ 64) (h : DigInv B u0 u out) : out.length ≤ 64 := by
  have hl := dgB_length B hB 63 u0 hu
  rcases h with ⟨_, _, h3⟩ | ⟨_, h3⟩
  · rw [h3]; exact hl
  · have := congrArg List.length h3
    rw [List.length_append] at this
    omega
end Go.Proofs.YteimilnecahifaaGreatDoor

namespace Go.Proofs.YteimilnecahifaaGreatDoor.Nm
open Go.Proofs.YteimilnecahifaaGreatDoor

/-- Without the strokes at the end. -/
def cutE (l : List UInt8) : List UInt8 := (l.reverse.dropWhile (· == 47)).reverse
/-- What stands behind the last stroke. -/
def behindL (l : List UInt8) : List UInt8 := (l.reverse.takeWhile (· != 47)).reverse
/-- What stands ahead of the last stroke. -/
def aheadL (l : List UInt8) : Option (List UInt8) :=
  match l.reverse.dropWhile (· != 47) with
  | [] => none
  | _ :: t => some t.reverse
/-- Without a suffix, if it is not all. -/
def lessS (t suf : List UInt8) : List UInt8 :=
  if suf.length < t.length ∧ t.drop (t.length - suf.length) = suf then t.take (t.length - suf.length) else t
def baseS (s suf : List UInt8) : List UInt8 :=
  if s = [] then [] else if cutE s = [] then [47] else lessS (behindL (cutE s)) suf
def dirS (s : List UInt8) : List UInt8 :=
  if s = [] then [46] else if cutE s = [] then [47] else
    match aheadL (cutE s) with
    | none => [46]
    | some t => if cutE t = [] then [47] else cutE t

/-- A piece of a format: bytes (letter 0), or a conversion. -/
structure Pc where
  b : List UInt8 := []
  letter : UInt8 := 0
  minus : Bool := false
  plus : Bool := false
  blank : Bool := false
  zero : Bool := false
  sharp : Bool := false
  width : Nat := 0
  prec : Option Nat := none

/-- At most so many digits to the base eight, behind a number of which so many were read: the number, what is behind. -/
def octS : Nat → Nat → List UInt8 → Nat × List UInt8
  | 0, n, l => (n, l)
  | _ + 1, n, [] => (n, [])
  | k + 1, n, c :: r => if 48 ≤ c ∧ c ≤ 55 then octS k (8 * n + (c.toNat - 48)) r else (n, c :: r)
def isOct (c : UInt8) : Bool := decide (48 ≤ c ∧ c ≤ 55)
/-- The byte that a letter behind a backslash is. -/
def codeS (c : UInt8) : Option UInt8 :=
  if c = 92 then some 92 else if c = 97 then some 7 else if c = 98 then some 8 else if c = 102 then some 12 else if c = 110 then some 10 else if c = 114 then some 13 else if c = 116 then some 9 else if c = 118 then some 11 else none
/-- Behind a backslash of a format. -/
def escS : List UInt8 → List UInt8 × List UInt8
  | [] => ([92], [])
  | c :: r => match codeS c with
    | some d => ([d], r)
    | none => if isOct c then ([UInt8.ofNat ((octS 3 0 (c :: r)).1 % 256)], (octS 3 0 (c :: r)).2) else ([92, c], r)
/-- Behind a backslash of an argument of b; true: all ends there. -/
def escA : List UInt8 → List UInt8 × List UInt8 × Bool
  | [] => ([92], [], false)
  | c :: r => match codeS c with
    | some d => ([d], r, false)
    | none =>
      if c = 99 then ([], r, true)
      else if c = 48 then
        (match r with
        | d :: r' => if isOct d then ([UInt8.ofNat ((octS 3 0 (d :: r')).1 % 256)], (octS 3 0 (d :: r')).2, false) else ([0], d :: r', false)
        | [] => ([0], [], false))
      else if isOct c then ([UInt8.ofNat ((octS 3 0 (c :: r)).1 % 256)], (octS 3 0 (c :: r)).2, false) else ([92, c], r, false)
/-- An argument with its escapes read. -/
def readA : Nat → List UInt8 → List UInt8 × Bool
  | 0, _ => ([], false)
  | _ + 1, [] => ([], false)
  | n + 1, c :: r =>
    if c = 92 then
      (if (escA r).2.2 then ((escA r).1, true) else ((escA r).1 ++ (readA n (escA r).2.1).1, (readA n (escA r).2.1).2))
    else (c :: (readA n r).1, (readA n r).2)

/-- Flags. -/
def flagS (x : Pc) (c : UInt8) : Option Pc :=
  if c = 45 then some { x with minus := true } else if c = 43 then some { x with plus := true } else if c = 32 then some { x with blank := true } else if c = 48 then some { x with zero := true } else if c = 35 then some { x with sharp := true } else none
def flagsS : Pc → List UInt8 → Pc × List UInt8
  | x, [] => (x, [])
  | x, c :: r => match flagS x c with
    | some y => flagsS y r
    | none => (x, c :: r)
def isDig (c : UInt8) : Bool := decide (48 ≤ c ∧ c ≤ 57)
/-- A number of digits, to the base ten. -/
def numS (n : Nat) : List UInt8 → Nat
  | [] => n
  | c :: r => numS (10 * n + (c.toNat - 48)) r
/-- Digits, at most 1000 together: the number, what is behind. -/
def upToS (l : List UInt8) : Option (Nat × List UInt8) :=
  if numS 0 (l.takeWhile isDig) ≤ 1000 then some (numS 0 (l.takeWhile isDig), l.dropWhile isDig) else none
def lettersS : List UInt8 := [100, 105, 117, 111, 120, 88, 99, 115, 98]
/-- The letter of a conversion. -/
def letterS (x : Pc) : List UInt8 → Option (Pc × List UInt8)
  | [] => none
  | c :: r => if c ∈ lettersS then some ({ x with letter := c }, r) else none
/-- A precision, a letter. -/
def precS (x : Pc) (l : List UInt8) : Option (Pc × List UInt8) :=
  match l with
  | 46 :: r => (upToS r).bind fun p => letterS { x with prec := some p.1 } p.2
  | _ => letterS x l
/-- A conversion, behind its %. -/
def convP (l : List UInt8) : Option (Pc × List UInt8) :=
  (upToS (flagsS {} l).2).bind fun p => precS { (flagsS {} l).1 with width := p.1 } p.2
/-- A format's pieces. -/
def piecesN : Nat → List UInt8 → Option (List Pc)
  | _, [] => some []
  | 0, _ :: _ => none
  | n + 1, c :: r =>
    if c = 92 then (piecesN n (escS r).2).map fun l => { b := (escS r).1 } :: l
    else if c = 37 then
      (if r.head? = some 37 then (piecesN n (r.drop 1)).map fun l => { b := [37] } :: l
      else (convP r).bind fun p => (piecesN n p.2).map fun l => p.1 :: l)
    else (piecesN n r).map fun l => { b := [c] } :: l
def piecesS (l : List UInt8) : Option (List Pc) := piecesN l.length l

/-- The value of a digit. -/
def digV (c : UInt8) : Option Nat :=
  if 48 ≤ c ∧ c ≤ 57 then some (c.toNat - 48) else if 97 ≤ c ∧ c ≤ 102 then some (c.toNat - 87) else if 65 ≤ c ∧ c ≤ 70 then some (c.toNat - 55) else none
def natB (B : Nat) : Nat → List UInt8 → Option Nat
  | n, [] => some n
  | n, c :: r => match digV c with
    | some d => if d < B then natB B (n * B + d) r else none
    | none => none
/-- The base, and the digits. -/
def baseOf (s : List UInt8) : Nat × List UInt8 :=
  match s with
  | 48 :: c :: r => if (c = 120 ∨ c = 88) ∧ r ≠ [] then (16, r) else (8, c :: r)
  | _ => (10, s)
/-- Behind a sign. -/
def wholeS (less : Bool) (s : List UInt8) : Option Int :=
  if (baseOf s).2 = [] then none else
    (natB (baseOf s).1 0 (baseOf s).2).bind fun n =>
      if less then (if n ≤ 9223372036854775808 then some (-(n : Int)) else none) else if n ≤ 9223372036854775807 then some (n : Int) else none
/-- An argument's number. -/
def valueS (s : List UInt8) : Option Int :=
  match s with
  | [] => some 0
  | c :: r =>
    if c = 39 ∨ c = 34 then
      (match r with
      | [] => some 0
      | [d] => some (d.toNat : Int)
      | _ => none)
    else if c = 45 then wholeS true r
    else if c = 43 then wholeS false r
    else wholeS false (c :: r)

def many (c : UInt8) (n : Nat) : List UInt8 := List.replicate n c
def wideS (x : Pc) (s : List UInt8) : List UInt8 := if x.minus then s ++ many 32 (x.width - s.length) else many 32 (x.width - s.length) ++ s
def greatC (c : UInt8) : UInt8 := if 97 ≤ c ∧ c ≤ 102 then c - 32 else c
def isSigned (c : UInt8) : Bool := c == 100 || c == 105
/-- What is told of a number's size: it, or 2^64 more. -/
def sizeS (x : Pc) (n : Int) : Nat := if isSigned x.letter then n.natAbs else (n % 18446744073709551616).toNat
def baseL (c : UInt8) : Nat := if c = 111 then 8 else if c = 120 ∨ c = 88 then 16 else 10
def digsS (x : Pc) (u : Nat) : List UInt8 := if u = 0 then [] else if x.letter = 88 then (dgB 16 u).map greatC else dgB (baseL x.letter) u
def signS (x : Pc) (n : Int) : List UInt8 :=
  if isSigned x.letter then (if n < 0 then [45] else if x.plus then [43] else if x.blank then [32] else [])
  else if x.sharp && (x.letter == 120 || x.letter == 88) && decide (sizeS x n ≠ 0) then [48, x.letter] else []
/-- With noughts to the precision. -/
def precD (x : Pc) (n : Int) : List UInt8 := many 48 (x.prec.getD 1 - (digsS x (sizeS x n)).length) ++ digsS x (sizeS x n)
def sharpD (x : Pc) (n : Int) : List UInt8 := if x.sharp = true ∧ x.letter = 111 ∧ (precD x n).head? ≠ some 48 then 48 :: precD x n else precD x n
def zeroD (x : Pc) (n : Int) : List UInt8 :=
  if x.zero = true ∧ x.minus = false ∧ x.prec = none then many 48 (x.width - (sharpD x n).length - (signS x n).length) ++ sharpD x n else sharpD x n
def toldS (x : Pc) (n : Int) : List UInt8 := wideS x (signS x n ++ zeroD x n)

/-- What a conversion tells of an argument; whether it is no number; whether all ends. -/
def convS (x : Pc) (a : ByteArray) : List UInt8 × Bool × Bool :=
  if x.letter = 99 then (wideS x (a.data.toList.take 1), false, false)
  else if x.letter = 115 then (wideS x (match x.prec with | some p => a.data.toList.take p | none => a.data.toList), false, false)
  else if x.letter = 98 then
    (wideS x (match x.prec with | some p => (readA a.size a.data.toList).1.take p | none => (readA a.size a.data.toList).1), false, (readA a.size a.data.toList).2)
  else match valueS a.data.toList with
    | some n => (toldS x n, false, false)
    | none => (toldS x 0, true, false)
/-- What comes of going through pieces: what is told, the arguments that are no numbers, the arguments that are left, whether one was taken, whether all ends. -/
structure Gone where
  out : List UInt8
  bad : List ByteArray
  left : List ByteArray
  took : Bool
  stop : Bool
def nothingS : ByteArray := ⟨#[]⟩
def onceS : List Pc → List ByteArray → Gone
  | [], args => ⟨[], [], args, false, false⟩
  | x :: l, args =>
    if x.letter = 0 then
      ⟨x.b ++ (onceS l args).out, (onceS l args).bad, (onceS l args).left, (onceS l args).took, (onceS l args).stop⟩
    else if (convS x (args.headD nothingS)).2.2 then ⟨(convS x (args.headD nothingS)).1, [], args.drop 1, true, true⟩
    else
      ⟨(convS x (args.headD nothingS)).1 ++ (onceS l (args.drop 1)).out, (if (convS x (args.headD nothingS)).2.1 then [args.headD nothingS] else []) ++ (onceS l (args.drop 1)).bad, (onceS l (args.drop 1)).left, true, (onceS l (args.drop 1)).stop⟩
/-- A format is gone through as long as arguments are left. -/
def allS (l : List Pc) : Nat → List ByteArray → List UInt8 × List ByteArray
  | 0, _ => ([], [])
  | n + 1, args =>
    if (onceS l args).stop = true ∨ (onceS l args).took = false ∨ (onceS l args).left = [] then ((onceS l args).out, (onceS l args).bad)
    else ((onceS l args).out ++ (allS l n (onceS l args).left).1, (onceS l args).bad ++ (allS l n (onceS l args).left).2)

def joinS : List ByteArray → List UInt8
  | [] => []
  | [a] => a.data.toList
  | a :: b :: l => a.data.toList ++ 32 :: joinS (b :: l)
/-- A line of an argument that is no number. -/
def badLine (a : ByteArray) : List UInt8 := [112, 114, 105, 110, 116, 102, 58, 32] ++ a.data.toList ++ [58, 32, 110, 111, 116, 32, 97, 32, 110, 117, 109, 98, 101, 114, 10]
/-- What a run comes to. -/
structure Res where
  out : List UInt8
  err : List UInt8
  st : Nat
def printfS (format : ByteArray) (args : List ByteArray) : Option Res :=
  (piecesS format.data.toList).map fun l => ⟨(allS l (args.length + 1) args).1, ((allS l (args.length + 1) args).2.map badLine).flatten, if (allS l (args.length + 1) args).2 = [] then 0 else 1⟩
def nEcho : ByteArray := ⟨#[101, 99, 104, 111]⟩
def nTrue : ByteArray := ⟨#[116, 114, 117, 101]⟩
def nFalse : ByteArray := ⟨#[102, 97, 108, 115, 101]⟩
def nBase : ByteArray := ⟨#[98, 97, 115, 101, 110, 97, 109, 101]⟩
def nDir : ByteArray := ⟨#[100, 105, 114, 110, 97, 109, 101]⟩
def nPrintf : ByteArray := ⟨#[112, 114, 105, 110, 116, 102]⟩
/-- Operands behind two dashes, which may be there. -/
def behindD (args : List ByteArray) : List ByteArray := if args.head? = some Op.dashes then args.drop 1 else args
def printfA (args : List ByteArray) : Option Res :=
  match behindD args with
  | [] => none
  | f :: r => printfS f r
def baseA (args : List ByteArray) : Option Res :=
  match Op.parseS nothingS [] args with
  | some (_, [a]) => some ⟨baseS a.data.toList [] ++ [10], [], 0⟩
  | some (_, [a, b]) => some ⟨baseS a.data.toList b.data.toList ++ [10], [], 0⟩
  | _ => none
def dirA (args : List ByteArray) : Option Res :=
  match Op.parseS nothingS [] args with
  | some (_, [a]) => some ⟨dirS a.data.toList ++ [10], [], 0⟩
  | _ => none
/-- What a job comes to; of one that is a usage error nothing is said. -/
def namesS : List ByteArray → Option Res
  | [] => none
  | nm :: args =>
    if nm = nEcho then some ⟨joinS args ++ [10], [], 0⟩
    else if nm = nTrue then some ⟨[], [], 0⟩
    else if nm = nFalse then some ⟨[], [], 1⟩
    else if nm = nBase then baseA args
    else if nm = nDir then dirA args
    else if nm = nPrintf then printfA args
    else none
end Go.Proofs.YteimilnecahifaaGreatDoor.Nm

namespace Go.Proofs.YteimilnecahifaaGreatDoor.Nm
open Go.Proofs.YteimilnecahifaaGreatDoor

/- Paths. -/
theorem cutE_snoc_other (l : List UInt8) (c : UInt8) (h : c ≠ 47) : cutE (l ++ [c]) = l ++ [c] := by
  simp [cutE, h]
theorem cutE_snoc_stroke (l : List UInt8) : cutE (l ++ [47]) = cutE l := by
  simp [cutE]
/-- What is left is empty, or ends with another byte. -/
theorem cutE_ends (l : List UInt8) : cutE l = [] ∨ ∃ m c, cutE l = m ++ [c] ∧ c ≠ 47 := by
  unfold cutE
  generalize l.reverse = r
  induction r with
  | nil => exact .inl rfl
  | cons c r ih =>
    by_cases h : c = 47
    · simp [h]; simpa using ih
    · refine .inr ⟨r.reverse, c, ?_, h⟩
      simp [h]
theorem cutE_cutE (l : List UInt8) : cutE (cutE l) = cutE l := by
  rcases cutE_ends l with h | ⟨m, c, h, hc⟩
  · rw [h]; rfl
  · rw [h, cutE_snoc_other _ _ hc]
theorem cutE_app (x b : List UInt8) (h0 : b ≠ []) (h : ∀ c ∈ b, c ≠ 47) : cutE (x ++ b) = x ++ b := by
  obtain ⟨m, c, rfl⟩ : ∃ m c, b = m ++ [c] := ⟨b.dropLast, b.getLast h0, (List.dropLast_concat_getLast h0).symm⟩
  rw [← List.append_assoc]
  exact cutE_snoc_other _ _ (h c (by simp))
theorem mem_take {p : UInt8 → Bool} : ∀ {l : List UInt8} {c : UInt8}, c ∈ l.takeWhile p → p c = true
  | [], _, h => by simp at h
  | d :: l, c, h => by
    rw [List.takeWhile_cons] at h
    split at h
    · rename_i hd
      rcases List.mem_cons.1 h with rfl | h
      · exact hd
      · exact mem_take h
    · simp at h
theorem behindL_not (l : List UInt8) : ∀ c ∈ behindL l, c ≠ 47 := by
  intro c hc
  simp only [behindL, List.mem_reverse] at hc
  have := mem_take hc
  simpa using this
theorem takeWhile_all {p : UInt8 → Bool} : ∀ {l : List UInt8}, (∀ c ∈ l, p c = true) → l.takeWhile p = l
  | [], _ => rfl
  | c :: l, h => by rw [List.takeWhile_cons, if_pos (h c (by simp)), takeWhile_all fun d hd => h d (by simp [hd])]
theorem takeWhile_app {p : UInt8 → Bool} {m : List UInt8} {c : UInt8} (hc : p c = false) : ∀ {l : List UInt8}, (∀ d ∈ l, p d = true) → (l ++ c :: m).takeWhile p = l
  | [], _ => by simp [hc]
  | d :: l, h => by rw [List.cons_append, List.takeWhile_cons, if_pos (h d (by simp)), takeWhile_app hc fun e he => h e (by simp [he])]
theorem dropWhile_app {p : UInt8 → Bool} {m : List UInt8} {c : UInt8} (hc : p c = false) : ∀ {l : List UInt8}, (∀ d ∈ l, p d = true) → (l ++ c :: m).dropWhile p = c :: m
  | [], _ => by simp [hc]
  | d :: l, h => by rw [List.cons_append, List.dropWhile_cons, if_pos (h d (by simp)), dropWhile_app hc fun e he => h e (by simp [he])]
theorem dropWhile_all {p : UInt8 → Bool} : ∀ {l : List UInt8}, (∀ c ∈ l, p c = true) → l.dropWhile p = []
  | [], _ => rfl
  | c :: l, h => by rw [List.dropWhile_cons, if_pos (h c (by simp)), dropWhile_all fun d hd => h d (by simp [hd])]
theorem behindL_app (d b : List UInt8) (h : ∀ c ∈ b, c ≠ 47) : behindL (d ++ 47 :: b) = b := by
  unfold behindL
  rw [List.reverse_append, List.reverse_cons, List.append_assoc, List.singleton_append, takeWhile_app (by decide) (fun c hc => by simpa using h c (by simpa using hc)), List.reverse_reverse]
theorem aheadL_app (d b : List UInt8) (h : ∀ c ∈ b, c ≠ 47) : aheadL (d ++ 47 :: b) = some d := by
  unfold aheadL
  rw [List.reverse_append, List.reverse_cons, List.append_assoc, List.singleton_append, dropWhile_app (by decide) (fun c hc => by simpa using h c (by simpa using hc))]
  simp only [List.reverse_reverse]
/-- A text is its last part, or that and what is ahead. -/
theorem parts_of (t : List UInt8) : (aheadL t = none ∧ behindL t = t) ∨ ∃ a, aheadL t = some a ∧ t = a ++ 47 :: behindL t := by
  unfold aheadL behindL
  have h : t.reverse.takeWhile (· != 47) ++ t.reverse.dropWhile (· != 47) = t.reverse := List.takeWhile_append_dropWhile
  have hd : ∀ c m, t.reverse.dropWhile (· != 47) = c :: m → c = 47 := fun c m e => by
    have := List.head?_dropWhile_not (· != 47) t.reverse
    rw [e] at this
    simpa using this
  generalize hX : t.reverse.takeWhile (· != 47) = X at h ⊢
  generalize hY : t.reverse.dropWhile (· != 47) = Y at h hd ⊢
  cases Y with
  | nil => rw [List.append_nil] at h; exact .inl ⟨rfl, by rw [h, List.reverse_reverse]⟩
  | cons c m =>
    obtain rfl := hd c m rfl
    refine .inr ⟨m.reverse, rfl, ?_⟩
    have := congrArg List.reverse h
    rw [List.reverse_reverse, List.reverse_append, List.reverse_cons, List.append_assoc, List.singleton_append] at this
    exact this.symm
theorem behindL_ne {t : List UInt8} (h : cutE t = t) (h0 : t ≠ []) : behindL t ≠ [] := by
  intro e
  rcases parts_of t with ⟨_, h2⟩ | ⟨a, _, h2⟩
  · rw [e] at h2; exact h0 h2.symm
  · rw [e] at h2
    rw [h2, cutE_snoc_stroke] at h
    have hl := congrArg List.length h
    rcases cutE_ends a with h3 | ⟨m, c, h3, _⟩
    · rw [h3] at hl; simp at hl
    · have h4 : (cutE a).length ≤ a.length := by
        unfold cutE
        simp only [List.length_reverse]
        exact Nat.le_trans (List.dropWhile_sublist _).length_le (by simp)
      simp at hl; omega
theorem lessS_nil (t : List UInt8) : lessS t [] = t := by
  unfold lessS
  split
  · simp
  · rfl
/-- A path's parts put together are parted again. -/
theorem parts_again (s : List UInt8) (h0 : s ≠ []) (h1 : baseS s [] ≠ [47]) :
    baseS (dirS s ++ 47 :: baseS s []) [] = baseS s [] ∧ dirS (dirS s ++ 47 :: baseS s []) = dirS s := by
  have hb : baseS s [] = behindL (cutE s) ∧ cutE s ≠ [] := by
    by_cases hc : cutE s = []
    · exact absurd (by rw [baseS, if_neg h0, if_pos hc]) h1
    · exact ⟨by rw [baseS, if_neg h0, if_neg hc, lessS_nil], hc⟩
  rw [hb.1]
  have hn := behindL_not (cutE s)
  have hne := behindL_ne (cutE_cutE s) hb.2
  generalize behindL (cutE s) = b at hn hne
  have hcut : cutE (dirS s ++ 47 :: b) = dirS s ++ 47 :: b := by
    have := cutE_app (dirS s ++ [47]) b hne hn
    simpa using this
  have hd : dirS s = [47] ∨ (cutE (dirS s) = dirS s ∧ dirS s ≠ []) := by
    unfold dirS
    rw [if_neg h0, if_neg hb.2]
    split
    · exact .inr ⟨by decide, by simp⟩
    · split
      · exact .inl rfl
      · rename_i h; exact .inr ⟨cutE_cutE _, h⟩
  have ht : dirS s ++ 47 :: b ≠ [] := by simp
  refine ⟨?_, ?_⟩
  · rw [baseS, if_neg ht, hcut, if_neg ht, lessS_nil, behindL_app _ _ hn]
  · conv => lhs; rw [dirS, if_neg ht, hcut, if_neg ht, aheadL_app _ _ hn]
    rcases hd with h | ⟨h, h2⟩
    · rw [h]; rfl
    · show (if cutE (dirS s) = [] then [47] else cutE (dirS s)) = dirS s
      rw [h]; exact if_neg h2
theorem parts_none (s : List UInt8) (h : baseS s [] = [47]) (h0 : s ≠ []) : dirS s = [47] := by
  by_cases hc : cutE s = []
  · rw [dirS, if_neg h0, if_pos hc]
  · rw [baseS, if_neg h0, if_neg hc, lessS_nil] at h
    have := behindL_not (cutE s) 47 (by rw [h]; simp)
    exact absurd rfl this

/- Numbers. -/
theorem sgn_dig : ∀ d : Fin 16, digV (sgn d.val) = some d.val := by decide
theorem digV_sgn {d : Nat} (h : d < 16) : digV (sgn d) = some d := sgn_dig ⟨d, h⟩
theorem natB_snoc (B : Nat) (c : UInt8) (d : Nat) (hc : digV c = some d) (hd : d < B) : ∀ (l : List UInt8) (k m : Nat), natB B k l = some m → natB B k (l ++ [c]) = some (m * B + d)
  | [], k, m, h => by
    simp only [natB, Option.some.injEq] at h
    subst h
    simp [natB, hc, hd]
  | x :: l, k, m, h => by
    rw [List.cons_append, natB]
    rw [natB] at h
    revert h
    cases digV x with
    | none => intro h; cases h
    | some y =>
      simp only
      split
      · exact natB_snoc B c d hc hd l _ m
      · intro h; cases h
theorem natB_dgB (B : Nat) (h2 : 2 ≤ B) (h16 : B ≤ 16) (n : Nat) : natB B 0 (dgB B n) = some n := by
  induction n using Nat.strongRecOn with
  | ind n ih =>
    by_cases h : n < B
    · rw [dgB_small h]
      simp [natB, digV_sgn (show n < 16 by omega), h]
    · have hm := Nat.mod_lt n (show B > 0 by omega)
      rw [dgB_step h2 (by omega), natB_snoc B _ (n % B) (digV_sgn (by omega)) hm _ _ _ (ih (n / B) (Nat.div_lt_self (by omega) (by omega)))]
      rw [Nat.div_add_mod']
theorem dgB_ne (B n : Nat) (h2 : 2 ≤ B) : dgB B n ≠ [] := by
  by_cases h : n < B
  · rw [dgB_small h]; simp
  · rw [dgB_step h2 (by omega)]; simp
/-- The first digit of a number above 0 is none of nought. -/
theorem dgB_head (B : Nat) (h2 : 2 ≤ B) (h16 : B ≤ 16) (n : Nat) (h0 : 0 < n) : ∃ d r, dgB B n = sgn d :: r ∧ 0 < d ∧ d < B := by
  induction n using Nat.strongRecOn with
  | ind n ih =>
    by_cases h : n < B
    · exact ⟨n, [], dgB_small h, h0, h⟩
    · have hd : 0 < n / B := Nat.div_pos (by omega) (by omega)
      obtain ⟨d, r, e, h1, h3⟩ := ih (n / B) (Nat.div_lt_self (by omega) (by omega)) hd
      exact ⟨d, r ++ [sgn (n % B)], by rw [dgB_step h2 (by omega), e]; rfl, h1, h3⟩
theorem sgn_ne : ∀ d : Fin 16, 0 < d.val → sgn d.val ≠ 48 := by decide
theorem sgn_ok : ∀ d : Fin 16, sgn d.val ≠ 39 ∧ sgn d.val ≠ 34 ∧ sgn d.val ≠ 45 ∧ sgn d.val ≠ 43 := by decide
theorem sgn_ten : ∀ d : Fin 10, isDig (sgn d.val) = true ∧ (sgn d.val).toNat - 48 = d.val := by decide
theorem baseOf_other {c : UInt8} {r : List UInt8} (h : c ≠ 48) : baseOf (c :: r) = (10, c :: r) := by
  unfold baseOf
  split
  · rename_i e; cases e; exact absurd rfl h
  · rfl
theorem value_cons {c : UInt8} {r : List UInt8} (h : ¬ (c = 39 ∨ c = 34)) : valueS (c :: r) = if c = 45 then wholeS true r else if c = 43 then wholeS false r else wholeS false (c :: r) := if_neg h
theorem value_ten (n : Nat) (h : n ≤ 9223372036854775807) : valueS (dgB 10 n) = some (n : Int) := by
  have hn := natB_dgB 10 (by omega) (by omega) n
  by_cases h0 : n = 0
  · subst h0; rfl
  · obtain ⟨d, r, e, hd, hd2⟩ := dgB_head 10 (by omega) (by omega) n (by omega)
    obtain ⟨a1, a2, a3, a4⟩ := sgn_ok ⟨d, by omega⟩
    have a5 := sgn_ne ⟨d, by omega⟩ hd
    rw [e] at hn ⊢
    simp only at a1 a2 a3 a4 a5
    rw [value_cons (by simp [a1, a2]), if_neg a3, if_neg a4]
    rw [wholeS, baseOf_other a5]
    simp [hn, h]
theorem value_hex (n : Nat) (h : n ≤ 9223372036854775807) : valueS (48 :: 120 :: dgB 16 n) = some (n : Int) := by
  have hn := natB_dgB 16 (by omega) (by omega) n
  have hne := dgB_ne 16 n (by omega)
  rw [value_cons (by decide), if_neg (by decide), if_neg (by decide)]
  have hb : baseOf (48 :: 120 :: dgB 16 n) = (16, dgB 16 n) := by
    rw [baseOf, if_pos ⟨.inl rfl, hne⟩]
  rw [wholeS, hb]
  simp [hn, h, hne]
theorem sgn8_not : ∀ d : Fin 8, sgn d.val ≠ 120 ∧ sgn d.val ≠ 88 := by decide
theorem value_oct (n : Nat) (h0 : 0 < n) (h : n ≤ 9223372036854775807) : valueS (48 :: dgB 8 n) = some (n : Int) := by
  have hn := natB_dgB 8 (by omega) (by omega) n
  obtain ⟨d, r, e, hd, hd2⟩ := dgB_head 8 (by omega) (by omega) n h0
  obtain ⟨x1, x2⟩ := sgn8_not ⟨d, hd2⟩
  rw [e] at hn ⊢
  simp only at x1 x2
  rw [value_cons (by decide), if_neg (by decide), if_neg (by decide)]
  have hb : baseOf (48 :: sgn d :: r) = (8, sgn d :: r) := by
    rw [baseOf, if_neg]
    rintro ⟨h1 | h1, _⟩
    · exact x1 h1
    · exact x2 h1
  rw [wholeS, hb]
  simp [hn, h]
/-- A number of digits to the base ten is read as a width. -/
theorem numS_snoc (l : List UInt8) (c : UInt8) : ∀ k, numS k (l ++ [c]) = 10 * numS k l + (c.toNat - 48) := by
  induction l with
  | nil => intro k; rfl
  | cons x l ih => intro k; exact ih _
theorem dgB_digs (n : Nat) : (∀ c ∈ dgB 10 n, isDig c = true) ∧ numS 0 (dgB 10 n) = n := by
  induction n using Nat.strongRecOn with
  | ind n ih =>
    by_cases h : n < 10
    · rw [dgB_small h]
      have := sgn_ten ⟨n, h⟩
      simp only at this
      refine ⟨by simpa using this.1, ?_⟩
      show 10 * 0 + ((sgn n).toNat - 48) = n
      omega
    · obtain ⟨h1, h2⟩ := ih (n / 10) (Nat.div_lt_self (by omega) (by omega))
      have := sgn_ten ⟨n % 10, Nat.mod_lt _ (by omega)⟩
      simp only at this
      rw [dgB_step (by omega) (by omega)]
      refine ⟨fun c hc => ?_, ?_⟩
      · rcases List.mem_append.1 hc with hc | hc
        · exact h1 c hc
        · obtain rfl := List.mem_singleton.1 hc; exact this.1
      · rw [numS_snoc, h2]; omega
theorem upTo_width (n : Nat) (h : n ≤ 1000) (c : UInt8) (r : List UInt8) (hc : isDig c = false) : upToS (dgB 10 n ++ c :: r) = some (n, c :: r) := by
  obtain ⟨h1, h2⟩ := dgB_digs n
  rw [upToS, takeWhile_app hc h1, dropWhile_app hc h1, h2, if_pos h]
end Go.Proofs.YteimilnecahifaaGreatDoor.Nm
