/- Plain mathematics of reading numbers: what the program's reader and the document's reader both compute; no program is named here. -/
import Derived.Below
namespace Go.Proofs.YtlekfdkahlobiaaGreat

/-- The number that digits to the base b say, at most so great: from n on. -/
def rd (b most : Int) : List UInt8 → Int → Int × Bool
  | [], n => (n, true)
  | c :: cs, n =>
    if (c.toNat : Int) < 48 ∨ b + 48 ≤ (c.toNat : Int) ∨ most < (c.toNat : Int) - 48 ∨ (most - ((c.toNat : Int) - 48)) / b < n then (0, false)
    else rd b most cs (n * b + ((c.toNat : Int) - 48))

/-- The whole reading: nothing is no number. -/
def rdAll (b most : Int) (s : List UInt8) : Int × Bool := if s.length = 0 then (0, false) else rd b most s 0

end Go.Proofs.YtlekfdkahlobiaaGreat

namespace Go.Proofs.YtlekfdkahlobiaaGreat.Op

abbrev Opts := List (UInt8 × ByteArray)

/-- Of a letter: 0 it is none, 1 alone, 2 with an argument. -/
def kindL (c : UInt8) : List UInt8 → Nat
  | [] => 0
  | x :: r => if x = c then (if r.head? = some 58 then 2 else 1) else kindL c r
def kindS (spec : ByteArray) (c : UInt8) : Nat := if c = 58 ∨ c = 45 then 0 else kindL c spec.data.toList

/-- A letter's argument is the next one. -/
def nextS (l : Opts) (c : UInt8) : List ByteArray → Option (Opts × List ByteArray)
  | [] => none
  | s :: rest => some (l ++ [(c, s)], rest)
/-- One argument's letters, and the arguments behind it. -/
def groupS (spec : ByteArray) : Opts → List UInt8 → List ByteArray → Option (Opts × List ByteArray)
  | l, [], rest => some (l, rest)
  | l, c :: r, rest =>
    if kindS spec c = 0 then none
    else if kindS spec c = 1 then groupS spec (l ++ [(c, ⟨#[]⟩)]) r rest
    else if r ≠ [] then some (l ++ [(c, ⟨r.toArray⟩)], rest)
    else nextS l c rest

def dashes : ByteArray := ⟨#[45, 45]⟩

/-- So many arguments at most. -/
def parseN (spec : ByteArray) : Nat → Opts → List ByteArray → Option (Opts × List ByteArray)
  | _, l, [] => some (l, [])
  | 0, _, _ :: _ => none
  | n + 1, l, a :: rest =>
    if a = dashes then some (l, rest)
    else if a.size < 2 ∨ a.data.toList.head? ≠ some 45 then some (l, a :: rest)
    else (groupS spec l (a.data.toList.drop 1) rest).bind fun p => parseN spec n p.1 p.2
def parseS (spec : ByteArray) (l : Opts) (args : List ByteArray) : Option (Opts × List ByteArray) := parseN spec args.length l args

/-- What is left to do within an argument. -/
def goS (spec : ByteArray) (l : Opts) (g : List UInt8) (rest : List ByteArray) : Option (Opts × List ByteArray) := (groupS spec l g rest).bind fun p => parseS spec p.1 p.2
theorem goS_0 {spec : ByteArray} {l : Opts} {c : UInt8} {r : List UInt8} {rest : List ByteArray} (h : kindS spec c = 0) : goS spec l (c :: r) rest = none := by rw [goS, groupS, if_pos h]; rfl
theorem goS_1 {spec : ByteArray} {l : Opts} {c : UInt8} {r : List UInt8} {rest : List ByteArray} (h : kindS spec c = 1) : goS spec l (c :: r) rest = goS spec (l ++ [(c, ⟨#[]⟩)]) r rest := by rw [goS, groupS, if_neg (by omega), if_pos h]; rfl
end Go.Proofs.YtlekfdkahlobiaaGreat.Op

namespace Go.Proofs.YtlekfdkahlobiaaGreat.Tr
open Go.Proofs.YtlekfdkahlobiaaGreat.Op

def isOct (c : UInt8) : Bool := decide (48 ≤ c.toNat ∧ c.toNat ≤ 55)
def isDec (c : UInt8) : Bool := decide (48 ≤ c.toNat ∧ c.toNat ≤ 57)
/-- Digits to the base eight, so many at most. -/
def octs : Nat → List UInt8 → List UInt8
  | 0, _ => []
  | _ + 1, [] => []
  | k + 1, c :: r => if isOct c = true then c :: octs k r else []
def octV (l : List UInt8) : Nat := l.foldl (fun n c => 8 * n + (c.toNat - 48)) 0
def codeS (c : UInt8) : UInt8 :=
  if c = 97 then 7 else if c = 98 then 8 else if c = 102 then 12 else if c = 110 then 10 else if c = 114 then 13 else if c = 116 then 9 else if c = 118 then 11 else c
/-- A sign: its byte, and how long it is. -/
def signS : List UInt8 → UInt8 × Nat
  | [] => (0, 0)
  | [c] => (c, 1)
  | c :: d :: r =>
    if c ≠ 92 then (c, 1)
    else if octs 3 (d :: r) = [] then (codeS d, 2)
    else (UInt8.ofNat (octV (octs 3 (d :: r))), (octs 3 (d :: r)).length + 1)

def within (a b c : Nat) : Bool := decide (a ≤ c ∧ c ≤ b)
def upperB (c : Nat) : Bool := within 65 90 c
def lowerB (c : Nat) : Bool := within 97 122 c
def digitB (c : Nat) : Bool := within 48 57 c
/-- A class, by its name. -/
def classP (name : List UInt8) : Option (Nat → Bool) :=
  if name = [97, 108, 112, 104, 97] then some fun c => upperB c || lowerB c
  else if name = [100, 105, 103, 105, 116] then some digitB
  else if name = [97, 108, 110, 117, 109] then some fun c => upperB c || lowerB c || digitB c
  else if name = [117, 112, 112, 101, 114] then some upperB
  else if name = [108, 111, 119, 101, 114] then some lowerB
  else if name = [98, 108, 97, 110, 107] then some fun c => c == 9 || c == 32
  else if name = [115, 112, 97, 99, 101] then some fun c => within 9 13 c || c == 32
  else if name = [99, 110, 116, 114, 108] then some fun c => decide (c < 32) || c == 127
  else if name = [112, 114, 105, 110, 116] then some fun c => within 32 126 c
  else if name = [103, 114, 97, 112, 104] then some fun c => within 33 126 c
  else if name = [112, 117, 110, 99, 116] then some fun c => within 33 126 c && !upperB c && !lowerB c && !digitB c
  else if name = [120, 100, 105, 103, 105, 116] then some fun c => digitB c || within 65 70 c || within 97 102 c
  else none
/-- The bytes below n of which something holds, rising. -/
def bytesOf (p : Nat → Bool) (n : Nat) : List UInt8 := ((List.range n).filter p).map UInt8.ofNat
def classL (name : List UInt8) : List UInt8 := match classP name with | some p => bytesOf p 256 | none => []

/-- A string that is being read. -/
structure St where
  out : List UInt8
  rest : Int
  bad : Bool
/-- Where a colon and a bracket first stand. -/
def shutS : List UInt8 → Option Nat
  | [] => none
  | [_] => none
  | a :: b :: r => if a = 58 ∧ b = 93 then some 0 else (shutS (b :: r)).map (· + 1)
def classS : List UInt8 → Option (Nat × (St → St))
  | a :: b :: t => if a = 91 ∧ b = 58 then (shutS t).map fun k => (k + 4, fun x => { x with out := x.out ++ classL (t.take k), bad := x.bad || (classP (t.take k)).isNone }) else none
  | _ => none
def addS (c : UInt8) (x : St) : St := { x with out := x.out ++ [c] }
def equalS : List UInt8 → Option (Nat × (St → St))
  | a :: b :: d :: t =>
    if a = 91 ∧ b = 61 ∧ ((d :: t).drop (signS (d :: t)).2)[0]? = some 61 ∧ ((d :: t).drop (signS (d :: t)).2)[1]? = some 93 then some ((signS (d :: t)).2 + 4, addS (signS (d :: t)).1) else none
  | _ => none
/-- How often. -/
def manyS (d : List UInt8) : Int × Bool :=
  if d = [] then (0, true) else if d.head? = some 48 then rdAll 8 2147483647 d else rdAll 10 2147483647 d
def timesX (c : UInt8) (q : Int × Bool) (x : St) : St :=
  if q.2 = false ∨ (q.1 = 0 ∧ 0 ≤ x.rest) then { x with bad := true }
  else if q.1 = 0 then { x with out := x.out ++ [c], rest := x.out.length }
  else { x with out := x.out ++ List.replicate (min q.1.toNat 65536) c }
def timesS : List UInt8 → Option (Nat × (St → St))
  | a :: b :: t =>
    if a = 91 ∧ ((b :: t).drop (signS (b :: t)).2)[0]? = some 42 then
      let u := (b :: t).drop ((signS (b :: t)).2 + 1)
      let d := u.takeWhile isDec
      if (u.drop d.length)[0]? = some 93 then some ((signS (b :: t)).2 + d.length + 3, timesX (signS (b :: t)).1 (manyS d)) else none
    else none
  | _ => none
def spanL (c d : UInt8) : List UInt8 := (List.range (d.toNat + 1 - c.toNat)).map fun i => UInt8.ofNat (c.toNat + i)
def plainS (s : List UInt8) : Nat × (St → St) :=
  let p := signS s
  let t := s.drop p.2
  if t[0]? = some 45 ∧ 2 ≤ t.length then
    let q := signS (t.drop 1)
    (p.2 + 1 + q.2, fun x => { x with out := x.out ++ spanL p.1 q.1, bad := x.bad || decide (q.1.toNat < p.1.toNat) })
  else (p.2, addS p.1)
def stepS (s : List UInt8) : Nat × (St → St) :=
  match classS s with
  | some r => r
  | none => match equalS s with
    | some r => r
    | none => match timesS s with
      | some r => r
      | none => plainS s
/-- Read on, so many signs at most. -/
def setN : Nat → List UInt8 → St → St
  | 0, _, x => x
  | _ + 1, [], x => x
  | n + 1, c :: r, x => setN n ((c :: r).drop (stepS (c :: r)).1) ((stepS (c :: r)).2 x)
/-- What a byte is translated to. -/
def lastAt : List UInt8 → UInt8 → Option Nat
  | [], _ => none
  | c :: r, b => match lastAt r b with
    | some i => some (i + 1)
    | none => if c = b then some 0 else none
def becomesS (one two : List UInt8) (b : UInt8) : UInt8 :=
  match lastAt one b with
  | none => b
  | some i => if i < two.length then two[i]?.getD b else two.getLast?.getD b
def squeezeS (p : UInt8 → Bool) : Option UInt8 → List UInt8 → List UInt8
  | _, [] => []
  | last, b :: r => if p b = true ∧ last = some b then squeezeS p last r else b :: squeezeS p (some b) r
/-- What becomes of bytes. -/
structure Tr where
  (del squeeze move : Bool)
  (one two : List UInt8)
def Tr.each (t : Tr) (b : UInt8) : List UInt8 :=
  if t.one.contains b = true then (if t.del = true then [] else if t.move = true then [becomesS t.one t.two b] else [b]) else [b]
def Tr.all (t : Tr) (l : List UInt8) : List UInt8 :=
  if t.squeeze = true then squeezeS t.two.contains none (l.flatMap t.each) else l.flatMap t.each
end Go.Proofs.YtlekfdkahlobiaaGreat.Tr

namespace Go.Proofs.YtlekfdkahlobiaaGreat

/-- A digit's sign. -/
def sgn (d : Nat) : UInt8 := if d < 10 then UInt8.ofNat (48 + d) else UInt8.ofNat (87 + d)

/-- A number's digits to a base, the greatest first, at most so many. -/
def dgF : Nat → Nat → Nat → List UInt8
  | 0, _, u => [sgn u]
  | f + 1, B, u => if u < B then [sgn u] else dgF f B (u / B) ++ [sgn (u % B)]

theorem dgF_enough (B : Nat) (hB : 2 ≤ B) : ∀ (f g u : Nat), u ≤ f → u ≤ g → dgF f B u = dgF g B u
  | 0, 0, _, _, _ => rfl
  | 0, g + 1, u, h, _ => by
    obtain rfl : u = 0 := by omega
    rw [dgF, dgF, if_pos (by omega)]
  | f + 1, 0, u, _, h => by
    obtain rfl : u = 0 := by omega
    rw [dgF, dgF, if_pos (by omega)]
  | f + 1, g + 1, u, h, h' => by
    rw [dgF, dgF]
    by_cases hu : u < B
    · rw [if_pos hu, if_pos hu]
    · have hd := Nat.div_lt_self (show 0 < u by omega) (show 1 < B by omega)
      rw [if_neg hu, if_neg hu, dgF_enough B hB f g (u / B) (by omega) (by omega)]

/-- A number's digits to a base, the greatest first. -/
def dgB (B u : Nat) : List UInt8 := dgF u B u

theorem dgB_small {B u : Nat} (h : u < B) : dgB B u = [sgn u] := by
  unfold dgB
  cases u with
  | zero => rfl
  | succ u => rw [dgF, if_pos h]
theorem dgB_step {B u : Nat} (hB : 2 ≤ B) (h : B ≤ u) : dgB B u = dgB B (u / B) ++ [sgn (u % B)] := by
  unfold dgB
  have hd := Nat.div_lt_self (show 0 < u by omega) (show 1 < B by omega)
  cases u with
  | zero => omega
  | succ u => rw [dgF, if_neg (by omega), dgF_enough B hB u ((u + 1) / B) ((u + 1) / B) (by omega) (Nat.le_refl _)]

/-- An int's digits, with its sign. -/
def digL (B : Nat) (n : Int) : List UInt8 := if n < 0 then 45 :: dgB B n.natAbs else dgB B n.natAbs

theorem dgB_length (B : Nat) (hB : 2 ≤ B) : ∀ (k u : Nat), u < 2 ^ (k + 1) → (dgB B u).length ≤ k + 1
  | 0, u, h => by
    rw [dgB_small (show u < B by simp at h; omega)]; simp
  | k + 1, u, h => by
    by_cases hu : u < B
    · rw [dgB_small hu]; simp
    · rw [dgB_step hB (by omega), List.length_append]
      have h2 : u / B < 2 ^ (k + 1) := by
        rw [Nat.div_lt_iff_lt_mul (by omega)]
        have e : 2 ^ (k + 1 + 1) = 2 ^ (k + 1) * 2 := Nat.pow_succ ..
        rw [e] at h
        exact Nat.lt_of_lt_of_le h (Nat.mul_le_mul_left _ hB)
      have := dgB_length B hB k (u / B) h2
      simp; omega

/-- Behind some rounds of the plain telling of digits: u is left, out is told. -/
def DigInv (B u0 u : Nat) (out : List UInt8) : Prop := (u = 0 ∧ out ≠ [] ∧ out = dgB B u0) ∨ ((u ≠ 0 ∨ out = []) ∧ dgB B u ++ out = dgB B u0)
theorem DigInv.start (B u0 : Nat) : DigInv B u0 u0 [] := .inr ⟨.inr rfl, List.append_nil _⟩
theorem DigInv.next {B u0 u : Nat} {out : List UInt8} (hB : 2 ≤ B) (h : DigInv B u0 u out) (hc : u ≠ 0 ∨ out = []) : DigInv B u0 (u / B) (sgn (u % B) :: out) := by
  have h' : dgB B u ++ out = dgB B u0 := by
    rcases h with ⟨h1, h2, _⟩ | ⟨_, h3⟩
    · exact absurd hc (by intro hc; rcases hc with hc | hc; exact hc h1; exact h2 hc)
    · exact h3
  by_cases hu : u < B
  · rw [dgB_small hu] at h'
    refine .inl ⟨Nat.div_eq_of_lt hu, by simp, ?_⟩
    rw [Nat.mod_eq_of_lt hu]; exact h'
  · rw [dgB_step hB (by omega), List.append_assoc] at h'
    refine .inr ⟨.inl ?_, h'⟩
    have := Nat.div_pos (show B ≤ u by omega) (by omega)
    omega
theorem DigInv.done {B u0 u : Nat} {out : List UInt8} (h : DigInv B u0 u out) (hc : u = 0 ∧ out ≠ []) : out = dgB B u0 := by
  rcases h with ⟨_, _, h3⟩ | ⟨h1, _⟩
  · exact h3
  · exact absurd h1 (by intro h1; rcases h1 with h1 | h1; exact h1 hc.1; exact hc.2 h1)
theorem DigInv.length {B u0 u : Nat} {out : List UInt8} (hB : 2 ≤ B) (hu : u0 < 2 ^ 64) (h : DigInv B u0 u out) : out.length ≤ 64 := by
  have hl := dgB_length B hB 63 u0 hu
  rcases h with ⟨_, _, h3⟩ | ⟨_, h3⟩
  · rw [h3]; exact hl
  · have := congrArg List.length h3
    rw [List.length_append] at this
    omega
end Go.Proofs.YtlekfdkahlobiaaGreat

namespace Go.Proofs.YtlekfdkahlobiaaGreat.Re
open Go.Proofs.YtlekfdkahlobiaaGreat.Tr

/-- A node. -/
structure Nd where
  kind : Nat
  has : UInt8 → Bool
  mn : Int
  mx : Int
  kids : List Nd
def noB : UInt8 → Bool := fun _ => false
def ndK (k : Nat) (l : List Nd) : Nd := ⟨k, noB, 0, 0, l⟩
def emptyN : Nd := ndK 0 []
def setN (p : UInt8 → Bool) : Nd := ⟨1, p, 0, 0, []⟩
def beginN : Nd := ndK 2 []
def endN : Nd := ndK 3 []
def repN (m n : Int) (x : Nd) : Nd := ⟨6, noB, m, n, [x]⟩
/-- Nodes one behind the other, or of which one is. -/
def joinN (k : Nat) : List Nd → Nd
  | [] => emptyN
  | [x] => x
  | x :: y :: l => ndK k (x :: y :: l)

def twoS (c : Nat) : List UInt8 := [sgn (c / 16), sgn (c % 16)]
/-- How far a range goes. -/
def runE (p : UInt8 → Bool) : Nat → Nat → Nat
  | 0, c => c
  | f + 1, c => if c < 255 ∧ p (UInt8.ofNat (c + 1)) = true then runE p f (c + 1) else c
def rangeS (c k : Nat) : List UInt8 := twoS c ++ if c < k then 45 :: twoS k else []
/-- The ranges from a byte on, with what stands ahead of the first one. -/
def rangesS (p : UInt8 → Bool) : Nat → Nat → List UInt8 → List UInt8
  | 0, _, _ => []
  | f + 1, c, sep =>
    if 256 ≤ c then [] else if p (UInt8.ofNat c) = true then sep ++ rangeS c (runE p 256 c) ++ rangesS p f (runE p 256 c + 1) [44]
    else rangesS p f (c + 1) sep
def setT (p : UInt8 → Bool) : List UInt8 := 60 :: (rangesS p 257 0 [] ++ [62])
/-- P15.6. -/
def Nd.text : Nd → List UInt8
  | ⟨k, p, m, n, l⟩ =>
    if k = 0 then [40, 41] else if k = 2 then [94] else if k = 3 then [36] else if k = 1 then setT p
    else if k = 6 then texts [] true l ++ 123 :: digL 10 m ++ 44 :: (if n < 0 then [] else digL 10 n) ++ [125]
    else 40 :: (texts (if k = 5 then [124] else []) true l ++ [41])
  where texts (sep : List UInt8) : Bool → List Nd → List UInt8
  | _, [] => []
  | first, x :: l => (if first = true then [] else sep) ++ (x.text ++ texts sep false l)
/-- P15.4: how great. -/
def Nd.size : Nd → Nat
  | ⟨k, _, m, n, l⟩ => if k = 6 then 1 + sizes l * max 1 (if n < 0 then m else n).toNat else 1 + sizes l
  where sizes : List Nd → Nat
  | [] => 0
  | x :: l => x.size + sizes l
def letterB (c : UInt8) : Bool := lowerB c.toNat || upperB c.toNat
def alnumB (c : UInt8) : Bool := letterB c || isDec c
/-- The same letter, great or small. -/
def otherC (c : UInt8) : UInt8 := if lowerB c.toNat = true then c - 32 else if upperB c.toNat = true then c + 32 else c
def foldP (fold : Bool) (p : UInt8 → Bool) : UInt8 → Bool := fun c => p c || (fold && p (otherC c))
def oneN (fold : Bool) (c : UInt8) : Nd := setN (foldP fold fun d => d == c)

/-- A byte within brackets of a kind. -/
def endS (k : UInt8) (s : List UInt8) : Option (UInt8 × List UInt8) :=
  if s[0]? = some 91 ∧ s[1]? = some k ∧ s[3]? = some k ∧ s[4]? = some 93 then some (s[2]?.getD 0, s.drop 5) else none
/-- A class's name. -/
def clsS (s : List UInt8) : Option (List UInt8 × List UInt8) :=
  if s[0]? = some 91 ∧ s[1]? = some 58 then (shutS (s.drop 2)).map fun k => ((s.drop 2).take k, s.drop (k + 4)) else none
/-- Where a range begins, or ends. -/
def fromS (s : List UInt8) : UInt8 × List UInt8 := (endS 46 s).getD (s.headD 0, s.drop 1)
def toS (s : List UInt8) : UInt8 × List UInt8 := fromS s
abbrev PartR := Option ((UInt8 → Bool) × List UInt8)
def spanS (c : UInt8) (r : List UInt8) : PartR :=
  if r[0]? = some 45 ∧ 2 ≤ r.length ∧ r[1]? ≠ some 93 then
    (if (toS (r.drop 1)).1 < c then none else some ((fun d => decide (c ≤ d ∧ d ≤ (toS (r.drop 1)).1)), (toS (r.drop 1)).2))
  else some ((fun d => d == c), r)
/-- One part of a bracket. -/
def partS (s : List UInt8) : PartR :=
  match clsS s with
  | some q => (classP q.1).map fun p => ((fun c => p c.toNat), q.2)
  | none => match endS 61 s with
    | some q => some ((fun d => d == q.1), q.2)
    | none => spanS (fromS s).1 (fromS s).2
/-- The parts, up to the bracket that closes. -/
def partsS : Nat → Bool → (UInt8 → Bool) → List UInt8 → PartR
  | 0, _, _, _ => none
  | _ + 1, _, _, [] => none
  | f + 1, first, p, c :: r =>
    if first = false ∧ c = 93 then some (p, r) else (partS (c :: r)).bind fun q => partsS f false (fun d => p d || q.1 d) q.2
def notS (s : List UInt8) : Bool := s[0]? == some 94
def behindNot (s : List UInt8) : List UInt8 := if notS s = true then s.drop 1 else s
abbrev R1 := Option (Nd × List UInt8)
/-- P15.1: behind the bracket that opens. -/
def bracketS (fold : Bool) (s : List UInt8) : R1 :=
  (partsS (s.length + 1) true noB (behindNot s)).map fun q => (setN fun c => foldP fold q.1 c != notS s, q.2)

abbrev Tm := Option (Int × Int × List UInt8)
def begins (t s : List UInt8) : Bool := t.isPrefixOf s
/-- Numbers in braces. -/
def brace2 (shut : List UInt8) (m : Int) (t : List UInt8) : Tm :=
  if begins shut t = true then some (m, -1, t.drop shut.length)
  else
    let e := t.takeWhile isDec
    let n := rdAll 10 255 e
    let u := t.drop e.length
    if n.2 = true ∧ m ≤ n.1 ∧ begins shut u = true then some (m, n.1, u.drop shut.length) else none
def braceS (shut : List UInt8) (s : List UInt8) : Tm :=
  let d := s.takeWhile isDec
  let r := s.drop d.length
  let m := rdAll 10 255 d
  if m.2 = false then none
  else if r[0]? = some 44 then brace2 shut m.1 (r.drop 1)
  else if begins shut r = true then some (m.1, m.1, r.drop shut.length) else none
/-- A repetition: none, one that may not be, or one. -/
def timesS (ext : Bool) (s : List UInt8) : Option Tm :=
  if s[0]? = some 42 then some (some (0, -1, s.drop 1))
  else if ext = true then
    (if s[0]? = some 43 then some (some (1, -1, s.drop 1))
    else if s[0]? = some 63 then some (some (0, 1, s.drop 1))
    else if s[0]? = some 123 then some (braceS [125] (s.drop 1)) else none)
  else if s[0]? = some 92 ∧ s[1]? = some 123 then some (braceS [92, 125] (s.drop 2)) else none
def repS (ext : Bool) (x : Nd) (s : List UInt8) : R1 :=
  match timesS ext s with
  | none => some (x, s)
  | some none => none
  | some (some q) => if (timesS ext q.2.2).isSome = true then none else some (repN q.1 q.2.1 x, q.2.2)

abbrev RL := Option (List Nd × List UInt8)
/-- What stands in parentheses, closed by some bytes; mk: what is made of it. -/
def closeS (mk : Nd → Nd) (k : Nat) (shut : List UInt8) (r : RL) : R1 :=
  r.bind fun q => if begins shut q.2 = true then some (mk (joinN k q.1), q.2.drop shut.length) else none
def quoteE (fold : Bool) : List UInt8 → R1
  | [] => none
  | d :: t => if alnumB d = true then none else some (oneN fold d, t)
def anyN : Nd := setN fun _ => true
/-- P15.2: an atom. -/
def atomE (mk : Nd → Nd) (fold : Bool) (G : Nat → List UInt8 → RL) (c : UInt8) (r : List UInt8) : R1 :=
  if c = 40 then closeS mk 5 [41] (G 0 r)
  else if c = 91 then bracketS fold r
  else if c = 46 then some (anyN, r)
  else if c = 94 then some (beginN, r)
  else if c = 36 then some (endN, r)
  else if c = 92 then quoteE fold r
  else if c = 42 ∨ c = 43 ∨ c = 63 ∨ c = 123 then none
  else some (oneN fold c, r)
def pieceE (mk : Nd → Nd) (fold : Bool) (G : Nat → List UInt8 → RL) (c : UInt8) (r : List UInt8) : R1 :=
  (atomE mk fold G c r).bind fun q =>
    if c = 94 ∨ c = 36 then (if (timesS true q.2).isSome = true then none else some q) else repS true q.1 q.2
def consR (x : Nd) (r : RL) : RL := r.map fun t => (x :: t.1, t.2)
/-- Branches. -/
def stepA (G : Nat → List UInt8 → RL) (q : List Nd × List UInt8) : RL :=
  if q.1 = [] then none
  else if q.2[0]? = some 124 then consR (joinN 4 q.1) (G 0 (q.2.drop 1)) else some ([joinN 4 q.1], q.2)
def stepE (mk : Nd → Nd) (fold : Bool) (G : Nat → List UInt8 → RL) : List UInt8 → RL
  | [] => some ([], [])
  | c :: r => if c = 124 ∨ c = 41 then some ([], c :: r) else (pieceE mk fold G c r).bind fun q => consR q.1 (G 1 q.2)
def quoteB (mk : Nd → Nd) (fold : Bool) (G : Nat → List UInt8 → RL) : List UInt8 → R1
  | [] => none
  | d :: t => if d = 40 then closeS mk 4 [92, 41] (G 2 t) else if alnumB d = true ∨ d = 41 ∨ d = 123 ∨ d = 125 then none else some (oneN fold d, t)
/-- P15.3: an atom that is no anchor. -/
def plainB (mk : Nd → Nd) (fold : Bool) (G : Nat → List UInt8 → RL) (c : UInt8) (r : List UInt8) : R1 :=
  if c = 91 then bracketS fold r
  else if c = 46 then some (anyN, r)
  else if c = 92 then quoteB mk fold G r
  else some (oneN fold c, r)
/-- Pieces of a basic one: 2: none is there yet, 3: just the beginning, 4: others. -/
def stepB (mk : Nd → Nd) (fold : Bool) (G : Nat → List UInt8 → RL) (m : Nat) : List UInt8 → RL
  | [] => some ([], [])
  | c :: r =>
    if c = 92 ∧ r[0]? = some 41 then some ([], c :: r)
    else if c = 94 ∧ m = 2 then consR beginN (G 3 r)
    else if c = 36 ∧ (r = [] ∨ r[0]? = some 92 ∧ r[1]? = some 41) then consR endN (G 4 r)
    else if c = 42 ∧ m = 4 then none
    else (plainB mk fold G c r).bind fun q => (repS false q.1 q.2).bind fun t => consR t.1 (G 4 t.2)
def step (mk : Nd → Nd) (fold : Bool) (G : Nat → List UInt8 → RL) (m : Nat) (s : List UInt8) : RL :=
  if m = 0 then (G 1 s).bind (stepA G) else if m = 1 then stepE mk fold G s else stepB mk fold G m s
def goN (mk : Nd → Nd) (fold : Bool) : Nat → Nat → List UInt8 → RL
  | 0, _, _ => none
  | n + 1, m, s => step mk fold (goN mk fold n) m s
def rank (m : Nat) (s : List UInt8) : Nat := 2 * s.length + if m = 0 then 2 else 1
def goS (mk : Nd → Nd) (fold : Bool) (m : Nat) (s : List UInt8) : RL := goN mk fold (rank m s) m s
/-- The whole text. -/
def readS (mk : Nd → Nd) (ext fold : Bool) (s : List UInt8) : Option Nd :=
  (goS mk fold (if ext = true then 0 else 2) s).bind fun q => if q.2 = [] then some (joinN (if ext = true then 5 else 4) q.1) else none
/-- P15.4: a node, or the error. -/
def parseS (ext fold : Bool) (s : List UInt8) : Except Nat Nd :=
  match readS id ext fold s with
  | none => .error 20
  | some x => if 10000 < x.size then .error 12 else .ok x
def literalS (fold : Bool) (s : List UInt8) : Nd := joinN 4 (s.map (oneN fold))
def anyS : List Nd → Nd
  | [] => setN noB
  | x :: l => joinN 5 (x :: l)
end Go.Proofs.YtlekfdkahlobiaaGreat.Re
