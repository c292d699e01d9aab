/- How lines are compared, by the document. -/
import Derived.Test.YtdgnbcbcfgfkmaaDoorOMath
namespace Go.Proofs.YtdgnbcbcfgfkmaaDoor

/-- Flags: b at the first place, at the second one; d, f, i, n, r. -/
structure Fg where
  (b e d f i n r : Bool)
def fg0 : Fg := ⟨false, false, false, false, false, false, false⟩
/-- A letter, at the second place or not. -/
def flagS (g : Fg) (c : UInt8) (second : Bool) : Option Fg :=
  if c = 98 then some (if second then { g with e := true } else { g with b := true })
  else if c = 100 then some { g with d := true }
  else if c = 102 then some { g with f := true }
  else if c = 105 then some { g with i := true }
  else if c = 110 then some { g with n := true }
  else if c = 114 then some { g with r := true }
  else none
def lettersS (second : Bool) : List UInt8 → Fg → Option Fg
  | [], g => some g
  | c :: r, g => (flagS g c second).bind (lettersS second r)
def isDg (c : UInt8) : Bool := decide (48 ≤ c.toNat ∧ c.toNat ≤ 57)
def dgs (s : List UInt8) : Nat := (s.takeWhile isDg).length
def numT (s : List UInt8) : Int × Bool := rdAll 10 2147483647 s
/-- What is behind the first number of a place: .C and letters. -/
def placeT (f : Int) (s : List UInt8) (g : Fg) (second : Bool) : Option (Int × Int × Nat × Fg) :=
  if s.head? = some 46 then
    let t := s.drop 1
    let q := numT (t.take (dgs t))
    if q.2 = false ∨ (q.1 < 1 ∧ second = false) then none
    else (lettersS second (t.drop (dgs t)) g).map fun g' => (f, q.1, (t.drop (dgs t)).length, g')
  else (lettersS second s g).map fun g' => (f, 0, s.length, g')
def placeS (s : List UInt8) (g : Fg) (second : Bool) : Option (Int × Int × Nat × Fg) :=
  if (numT (s.take (dgs s))).2 = false ∨ (numT (s.take (dgs s))).1 < 1 then none
  else placeT (numT (s.take (dgs s))).1 (s.drop (dgs s)) g second
/-- A key: from a place, to another one (0: none). -/
structure Ky where
  (f1 c1 f2 c2 : Int)
  fl : Fg
def notComma (c : UInt8) : Bool := decide (c ≠ 44)
def keyS (s : List UInt8) (whole : Fg) : Option Ky :=
  (placeS (s.takeWhile notComma) fg0 false).bind fun p =>
    if s.dropWhile notComma = [] then some ⟨p.1, p.2.1, 0, 0, if p.2.2.1 = 0 then whole else p.2.2.2⟩
    else (placeS ((s.dropWhile notComma).drop 1) p.2.2.2 true).map fun q => ⟨p.1, p.2.1, q.1, q.2.1, if p.2.2.1 + q.2.2.1 = 0 then whole else q.2.2.2⟩
def flag1 (g : Fg) (c : UInt8) : Fg := match flagS g c false with | some h => { h with e := h.b } | none => g
def flagsS : Opts → Fg → Fg
  | [], g => g
  | p :: l, g => flagsS l (flag1 g p.1)
def keysS (whole : Fg) : Opts → List Ky → Option (List Ky)
  | [], ks => some ks
  | p :: l, ks => if p.1 = 107 then (keyS p.2.data.toList whole).bind fun k => keysS whole l (ks ++ [k]) else keysS whole l ks
/-- How lines are compared: the flags of all, the byte between fields, the keys. -/
structure Od where
  fl : Fg
  sep : Option UInt8
  keys : List Ky
def oneKey (g : Fg) : Ky := ⟨1, 0, 0, 0, g⟩
def orOne (g : Fg) (ks : List Ky) : List Ky := if ks = [] then [oneKey g] else ks
def readS (l : Opts) : Option Od :=
  (keysS (flagsS l fg0) l []).bind fun ks =>
    match lastS l 116 with
    | none => some ⟨flagsS l fg0, none, orOne (flagsS l fg0) ks⟩
    | some a => if a.size = 1 then some ⟨flagsS l fg0, a.data.toList.head?, orOne (flagsS l fg0) ks⟩ else none

def isBl (c : UInt8) : Bool := decide (c = 32 ∨ c = 9)
def notBl (c : UInt8) : Bool := !isBl c
/-- Fields with a byte between them: where each begins and ends. -/
def fldsC (c : UInt8) : List UInt8 → Nat → Nat → List (Nat × Nat)
  | [], b, i => [(b, i)]
  | x :: r, b, i => if x = c then (b, i) :: fldsC c r (i + 1) (i + 1) else fldsC c r b (i + 1)
def skipB (s : List UInt8) : Nat := (s.takeWhile isBl).length
def skipN (s : List UInt8) : Nat := (s.takeWhile notBl).length
def fldLen (s : List UInt8) : Nat := skipB s + skipN (s.drop (skipB s))
def fldsB : Nat → List UInt8 → Nat → List (Nat × Nat)
  | 0, _, _ => []
  | _ + 1, [], _ => []
  | n + 1, x :: r, i => (i, i + fldLen (x :: r)) :: fldsB n ((x :: r).drop (fldLen (x :: r))) (i + fldLen (x :: r))
def fieldsS (sep : Option UInt8) (s : List UInt8) : List (Nat × Nat) :=
  match sep with
  | some c => fldsC c s 0 0
  | none => if s = [] then [(0, 0)] else fldsB s.length s 0
/-- A field's first byte that is no blank. -/
def innerS (s : List UInt8) (f : Nat × Nat) : Nat := f.1 + skipB ((s.take f.2).drop f.1)
def fromS (s : List UInt8) (k : Ky) (l : List (Nat × Nat)) : Nat :=
  match l[(k.f1 - 1).toNat]? with
  | none => s.length
  | some f => (if k.fl.b then innerS s f else f.1) + (k.c1 - 1).toNat
def toS (s : List UInt8) (k : Ky) (l : List (Nat × Nat)) : Nat :=
  if k.f2 < 1 then s.length
  else match l[(k.f2 - 1).toNat]? with
    | none => s.length
    | some f => if k.c2 < 1 then f.2 else (if k.fl.e then innerS s f else f.1) + k.c2.toNat
def pieceS (sep : Option UInt8) (s : List UInt8) (k : Ky) : List UInt8 := (s.take (toS s k (fieldsS sep s))).drop (fromS s k (fieldsS sep s))
def is0 (c : UInt8) : Bool := decide (c = 48)
def unminus (s : List UInt8) : List UInt8 := if s.head? = some 45 then s.drop 1 else s
/-- The digits of a number, without noughts ahead. -/
def numD (s : List UInt8) : List UInt8 := ((unminus (s.dropWhile isBl)).dropWhile is0).takeWhile isDg
def numN (s : List UInt8) : Bool := decide ((s.dropWhile isBl).head? = some 45) && !(numD s).isEmpty
def cmpL : List UInt8 → List UInt8 → Int
  | [], [] => 0
  | [], _ :: _ => -1
  | _ :: _, [] => 1
  | a :: s, b :: t => if a.toNat < b.toNat then -1 else if b.toNat < a.toNat then 1 else cmpL s t
def cmpD (c d : List UInt8) : Int := if c.length < d.length then -1 else if d.length < c.length then 1 else cmpL c d
def numsS (a b : List UInt8) : Int :=
  if numN a = numN b then (if numN a then -cmpD (numD a) (numD b) else cmpD (numD a) (numD b))
  else if numN a then -1 else 1
def isSm (c : UInt8) : Bool := decide (97 ≤ c.toNat ∧ c.toNat ≤ 122)
def isWd (c : UInt8) : Bool := isSm c || decide (65 ≤ c.toNat ∧ c.toNat ≤ 90) || isDg c || isBl c
def counts1 (g : Fg) (c : UInt8) : Bool := !(g.d && !isWd c || g.i && decide (c.toNat < 32 ∨ 126 < c.toNat))
def upS (g : Fg) (c : UInt8) : UInt8 := if g.f && isSm c then c - 32 else c
def keptS (g : Fg) (s : List UInt8) : List UInt8 := (s.filter (counts1 g)).map (upS g)
def flip1 (r : Bool) (n : Int) : Int := if r then -n else n
def keyCmp (sep : Option UInt8) (k : Ky) (a b : List UInt8) : Int :=
  flip1 k.fl.r (if k.fl.n then numsS (pieceS sep a k) (pieceS sep b k) else cmpL (keptS k.fl (pieceS sep a k)) (keptS k.fl (pieceS sep b k)))
def lexC {α : Type} (c d : α → α → Int) (a b : α) : Int := if c a b = 0 then d a b else c a b
def byKeys (sep : Option UInt8) : List Ky → List UInt8 → List UInt8 → Int
  | [] => fun _ _ => 0
  | k :: ks => lexC (keyCmp sep k) (byKeys sep ks)
def Od.keysC (o : Od) : List UInt8 → List UInt8 → Int := byKeys o.sep o.keys
def Od.cmp (o : Od) : List UInt8 → List UInt8 → Int := lexC o.keysC (fun a b => flip1 o.fl.r (cmpL a b))
end Go.Proofs.YtdgnbcbcfgfkmaaDoor
