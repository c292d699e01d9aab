/- Options by the document: what arguments come to. -/
import Derived.Below
import Derived.WalkKit
import Derived.WalkSpells
import Derived.Lib.Hide
import Derived.Deep.AppendLies
import Derived.Deep.RegionLaw
import Derived.Deep.QuietTactic
import Derived.BigQuiet
import Derived.Test.YteimilnecahifaaGreatDoorProg
import Derived.Maps.OwnSet
import Derived.Maps.Views
import Derived.Maps.OwnOps
import Derived.Lib.IfaceEq
import Derived.BigRegion
import Derived.Deep.RegionWith
import Derived.Deep.RegionHeld
namespace Go.Proofs.YteimilnecahifaaGreatDoor.Op

abbrev Opts := List (UInt8 × ByteArray)

/-- Of a letter: 0 it is none, 1 alone, 2 with an argument. -/
def kindL (c : UInt8) : List UInt8 → Nat
  | [] => 0
  | x :: r => if x = c then (if r.head? = some 58 then 2 else 1) else kindL c r
def kindS (spec : ByteArray) (c : UInt8) : Nat := if c = 58 ∨ c = 45 then 0 else kindL c spec.data.toList

/-- A letter's argument is the next one. -/
def nextS (l : Opts) (c : UInt8) : List ByteArray → Option (Opts × List ByteArray)
  | [] => none
  | s :: rest => some (l ++ [(c, s)], rest)
/-- One argument's letters, and the arguments behind it. -/
def groupS (spec : ByteArray) : Opts → List UInt8 → List ByteArray → Option (Opts × List ByteArray)
  | l, [], rest => some (l, rest)
  | l, c :: r, rest =>
    if kindS spec c = 0 then none
    else if kindS spec c = 1 then groupS spec (l ++ [(c, ⟨#[]⟩)]) r rest
    else if r ≠ [] then some (l ++ [(c, ⟨r.toArray⟩)], rest)
    else nextS l c rest

theorem groupS_le (spec : ByteArray) : ∀ (g : List UInt8) (l : Opts) (rest : List ByteArray) (p : Opts × List ByteArray), groupS spec l g rest = some p → p.2.length ≤ rest.length
  | [], l, rest, p, h => by simp only [groupS, Option.some.injEq] at h; rw [← h]; exact Nat.le_refl _
  | c :: r, l, rest, p, h => by
    rw [groupS] at h
    split at h
    · cases h
    split at h
    · exact groupS_le spec r _ rest p h
    split at h
    · simp only [Option.some.injEq] at h; rw [← h]; exact Nat.le_refl _
    · cases rest with
      | nil => cases h
      | cons s rest => simp only [nextS, Option.some.injEq] at h; rw [← h]; simp

def dashes : ByteArray := ⟨#[45, 45]⟩

/-- So many arguments at most. -/
def parseN (spec : ByteArray) : Nat → Opts → List ByteArray → Option (Opts × List ByteArray)
  | _, l, [] => some (l, [])
  | 0, _, _ :: _ => none
  | n + 1, l, a :: rest =>
    if a = dashes then some (l, rest)
    else if a.size < 2 ∨ a.data.toList.head? ≠ some 45 then some (l, a :: rest)
    else (groupS spec l (a.data.toList.drop 1) rest).bind fun p => parseN spec n p.1 p.2
theorem parseN_same (spec : ByteArray) : ∀ (n m : Nat) (l : Opts) (args : List ByteArray), args.length ≤ n → args.length ≤ m → parseN spec n l args = parseN spec m l args
  | n, m, l, [], _, _ => by rw [parseN, parseN]
  | 0, _, _, _ :: _, h, _ => absurd h (by simp)
  | _ + 1, 0, _, _ :: _, _, h => absurd h (by simp)
  | n + 1, m + 1, l, a :: rest, h1, h2 => by
    rw [parseN, parseN]
    cases hg : groupS spec l (a.data.toList.drop 1) rest with
    | none => rfl
    | some p =>
      have h3 := groupS_le _ _ _ _ _ hg
      simp only [Option.bind_some]
      rw [parseN_same spec n m p.1 p.2 (by simp at h1; omega) (by simp at h2; omega)]

def parseS (spec : ByteArray) (l : Opts) (args : List ByteArray) : Option (Opts × List ByteArray) := parseN spec args.length l args

def tot (l : List ByteArray) : Nat := (l.map ByteArray.size).sum
theorem tot_cons (a : ByteArray) (l : List ByteArray) : tot (a :: l) = a.size + tot l := rfl

theorem parseS_nil (spec : ByteArray) (l : Opts) : parseS spec l [] = some (l, []) := by rw [parseS, parseN]
theorem parseS_dd (spec : ByteArray) (l : Opts) (a : ByteArray) (rest : List ByteArray) (h : a = dashes) : parseS spec l (a :: rest) = some (l, rest) := by rw [parseS, List.length_cons, parseN, if_pos h]
theorem parseS_stop (spec : ByteArray) (l : Opts) (a : ByteArray) (rest : List ByteArray) (h : a ≠ dashes) (h2 : a.size < 2 ∨ a.data.toList.head? ≠ some 45) : parseS spec l (a :: rest) = some (l, a :: rest) := by rw [parseS, List.length_cons, parseN, if_neg h, if_pos h2]
theorem parseS_go (spec : ByteArray) (l : Opts) (a : ByteArray) (rest : List ByteArray) (h : a ≠ dashes) (h2 : ¬ (a.size < 2 ∨ a.data.toList.head? ≠ some 45)) : parseS spec l (a :: rest) = (groupS spec l (a.data.toList.drop 1) rest).bind fun p => parseS spec p.1 p.2 := by
  rw [parseS, List.length_cons, parseN, if_neg h, if_neg h2]
  cases hg : groupS spec l (a.data.toList.drop 1) rest with
  | none => rfl
  | some p => exact parseN_same spec _ _ p.1 p.2 (groupS_le _ _ _ _ _ hg) (Nat.le_refl _)

/-- What is left to do within an argument. -/
def goS (spec : ByteArray) (l : Opts) (g : List UInt8) (rest : List ByteArray) : Option (Opts × List ByteArray) := (groupS spec l g rest).bind fun p => parseS spec p.1 p.2
theorem goS_nil (spec : ByteArray) (l : Opts) (rest : List ByteArray) : goS spec l [] rest = parseS spec l rest := rfl
theorem goS_0 {spec : ByteArray} {l : Opts} {c : UInt8} {r : List UInt8} {rest : List ByteArray} (h : kindS spec c = 0) : goS spec l (c :: r) rest = none := by rw [goS, groupS, if_pos h]; rfl
theorem goS_1 {spec : ByteArray} {l : Opts} {c : UInt8} {r : List UInt8} {rest : List ByteArray} (h : kindS spec c = 1) : goS spec l (c :: r) rest = goS spec (l ++ [(c, ⟨#[]⟩)]) r rest := by rw [goS, groupS, if_neg (by omega), if_pos h]; rfl
theorem goS_2 {spec : ByteArray} {l : Opts} {c : UInt8} {r : List UInt8} {rest : List ByteArray} (h0 : kindS spec c ≠ 0) (h : kindS spec c ≠ 1) (hr : r ≠ []) : goS spec l (c :: r) rest = parseS spec (l ++ [(c, ⟨r.toArray⟩)]) rest := by rw [goS, groupS, if_neg h0, if_neg h, if_pos hr]; rfl
theorem goS_3 {spec : ByteArray} {l : Opts} {c : UInt8} (h0 : kindS spec c ≠ 0) (h : kindS spec c ≠ 1) : goS spec l [c] [] = none := by rw [goS, groupS, if_neg h0, if_neg h, if_neg (by simp)]; rfl
theorem goS_4 {spec : ByteArray} {l : Opts} {c : UInt8} {s : ByteArray} {rest : List ByteArray} (h0 : kindS spec c ≠ 0) (h : kindS spec c ≠ 1) : goS spec l [c] (s :: rest) = parseS spec (l ++ [(c, s)]) rest := by rw [goS, groupS, if_neg h0, if_neg h, if_neg (by simp)]; rfl

theorem kindL_le (c : UInt8) : ∀ l, kindL c l ≤ 2
  | [] => by simp [kindL]
  | x :: r => by rw [kindL]; split; (split <;> omega); exact kindL_le c r
theorem kindS_le (spec : ByteArray) (c : UInt8) : kindS spec c ≤ 2 := by unfold kindS; split; (· omega); exact kindL_le _ _

/-- The first place of a letter. -/
theorem kindL_at (c : UInt8) : ∀ (l : List UInt8) (k : Nat), (∀ j, j < k → l[j]? ≠ some c) → kindL c l = kindL c (l.drop k)
  | l, 0, _ => by rw [List.drop_zero]
  | [], k + 1, _ => by simp
  | x :: r, k + 1, h => by
    have h0 : x ≠ c := fun e => h 0 (by omega) (by simp [e])
    rw [kindL, if_neg h0, List.drop_succ_cons]
    exact kindL_at c r k fun j hj => by simpa using h (j + 1) (by omega)

theorem kindL_mem {c : UInt8} : ∀ {l : List UInt8}, c ∈ l → kindL c l ≠ 0
  | x :: r, h => by
    rw [kindL]
    split
    · split <;> omega
    · rename_i hx
      rcases List.mem_cons.1 h with h | h
      · exact absurd h.symm hx
      · exact kindL_mem h
theorem kindL_not {c : UInt8} : ∀ {l : List UInt8}, c ∉ l → kindL c l = 0
  | [], _ => rfl
  | x :: r, h => by
    rw [kindL, if_neg (fun e => h (by simp [e]))]
    exact kindL_not (fun hm => h (by simp [hm]))
end Go.Proofs.YteimilnecahifaaGreatDoor.Op

namespace Go.Proofs.YteimilnecahifaaGreatDoor.Op
open Go.RowKit

/-- The cells of an option. -/
def optCells (l : Opts) : List Value := l.flatMap fun p => [.int .u8 (p.1.toNat : Int), .string p.2]
theorem optCells_snoc (l : Opts) (p : UInt8 × ByteArray) : optCells (l ++ [p]) = optCells l ++ [.int .u8 (p.1.toNat : Int), .string p.2] := by simp [optCells]
def nth (l : List ByteArray) (j : Nat) : ByteArray := l[j]?.getD ⟨#[]⟩
theorem nth_drop (l : List ByteArray) (i j : Nat) : nth (l.drop i) j = nth l (i + j) := by simp [nth]
theorem drop_nth (l : List ByteArray) (i : Nat) (h : i < l.length) : l.drop i = nth l i :: l.drop (i + 1) := by
  rw [List.drop_eq_getElem_cons h]; simp [nth, h]

/-- A slice of strings. -/
def StrsAt (w : World) (v : Value) (ss : List ByteArray) : Prop :=
  (v = .slice none 0 0 ∧ ss = []) ∨ ∃ b off cap, v = .slice (some ⟨b, off, none⟩) ss.length cap ∧ (ss.length ≤ cap ∧ cap ≤ 9223372036854775807) ∧ b < w.heap.size ∧ ∀ j, j < ss.length → w.cell? ⟨b, off + j, none⟩ = some (.string (nth ss j))
theorem StrsAt.below {w w' : World} {v : Value} {ss : List ByteArray} (h : StrsAt w v ss) (hb : Below w.heap.size w w') : StrsAt w' v ss := by
  rcases h with h | ⟨b, off, cap, h1, h2, h3, h4⟩
  · exact .inl h
  · exact .inr ⟨b, off, cap, h1, h2, Nat.lt_of_lt_of_le h3 hb.size, fun j hj => (hb.cell (p := ⟨b, off + j, none⟩) h3).trans (h4 j hj)⟩
theorem StrsAt.drew {w : World} {v : Value} {ss : List ByteArray} (h : StrsAt w v ss) : StrsAt w.drew v ss := h

theorem own_ge2 {W : World} {base e s n : Nat} {v : Value} {xs : List Value} (h : W.ownsRow base e s v n xs) (j : Nat) (ej : v.ownBlock = some j) : base ≤ j := by
  rcases h.2 with ⟨rfl, _⟩ | ⟨g, cap, cur, rfl, hb, _⟩
  · cases ej
  · have : g = j := by simpa [Value.ownBlock] using ej
    omega
theorem own_slice2 {W : World} {base e s k : Nat} {v : Value} {xs : List Value} (h : W.ownsRow base e s v k xs) : ∃ a c, v = .slice a k c := by
  rcases h.2 with ⟨rfl, rfl⟩ | ⟨g, cap, cur, rfl, _⟩
  · exact ⟨none, 0, rfl⟩
  · exact ⟨_, cap, rfl⟩
theorem own_cell2 {W : World} {base e s n cap g : Nat} {xs : List Value} (h : W.ownsRow base e s (.slice (some ⟨g, 0, none⟩) n cap) n xs) (i : Nat) (hi : i < n * s) : W.cell? ⟨g, i, none⟩ = xs[i]? := by
  rcases h.2 with ⟨h, _⟩ | ⟨g', cap', cur, h1, _, hg, _, _, _, ht⟩
  · cases h
  · cases h1
    rw [← ht, List.getElem?_take, if_pos hi]
    simp [World.cell?, hg]
theorem info_opt : (Tryz.prog.info? 280).map (fun i => (i.zero, i.size, i.bytes)) = some (some (.agg #[.int .u8 0, .string ⟨#[]⟩]), 2, 24) := by kernel_rfl
theorem info_str : (Tryz.prog.info? 9).map (fun i => (i.zero, i.size, i.bytes)) = some (some (.string ⟨#[]⟩), 1, 16) := by kernel_rfl
theorem info_parts2 {P : Program} {t : Nat} {z : Option Value} {s b : Nat} (h : (P.info? t).map (fun i => (i.zero, i.size, i.bytes)) = some (z, s, b)) : ∃ i, P.info? t = some i ∧ i.zero = z ∧ i.size = s ∧ i.bytes = b := by
  cases hi : P.info? t with
  | none => rw [hi] at h; cases h
  | some i => rw [hi] at h; simp only [Option.map_some, Option.some.injEq, Prod.mk.injEq] at h; exact ⟨i, rfl, h.1, h.2.1, h.2.2⟩
end Go.Proofs.YteimilnecahifaaGreatDoor.Op

namespace Go.Proofs.YteimilnecahifaaGreatDoor
open Go.RowKit Go.Maps

theorem heap_al (w : World) (o : Obj) (k : Nat) : (w.alloc o).heap[k]? = if k = w.heap.size then some o else w.heap[k]? := by
  show (w.heap.push o)[k]? = _
  rw [Array.getElem?_push]

theorem al_new (w : World) (o : Obj) {k : Nat} (h : k = w.heap.size) : (w.alloc o).heap[k]? = some o := by rw [heap_al, if_pos h]
theorem al_old {w : World} (o : Obj) {k : Nat} {x : Obj} (h : w.heap[k]? = some x) : (w.alloc o).heap[k]? = some x := by
  rw [heap_al, if_neg (by have := (Array.getElem?_eq_some_iff.1 h).1; omega)]; exact h

/-- An element of a map is told as the value that it is. -/
def R (v : Value) : Option (DataW Value × List MemPlace) := some (.held v, [])
def look (D : DataW Value) (kl : Lit) : Value := match D.atKey kl (.held (.pointer none)) with | .held v => v | _ => .pointer none
abbrev ptr (b : Nat) : Value := .pointer (some ⟨b, 0, none⟩)
def isNil : Value → Bool | .pointer none => true | _ => false
def blk : Value → Nat | .pointer (some a) => a.block | _ => 0
abbrev sk (s : ByteArray) : Lit := .string s.data.toList
abbrev ik (i : Int) : Lit := .int .i64 i

theorem keyed9 : Keyed Tryz.prog 9 := string_keyed Tryz.underlying9
theorem keyed3 : Keyed Tryz.prog 3 := int_keyed Tryz.underlying3
theorem zero77 (w : World) : (zeroValue 156).run Tryz.prog w = .ok (.pointer none) w := by kernel_rfl
theorem under80 : Tryz.prog.underlying 160 = some (.map 9 156) := Tryz.underlying160
theorem look_empty (k : Lit) : look (.map []) k = .pointer none := rfl

/-- A map's look-up. -/
theorem lookS {w : World} {b n : Nat} {D : DataW Value} (h : w.ownsMap Tryz.prog 9 R b n D) {s : ByteArray} (hs : s.size ≤ maxLen) :
    (Instr.lookup 160 (.map (some b)) (.string s) false).run Tryz.prog w = .ok (look D (sk s)) w := by
  obtain ⟨v, ps, hr, hv⟩ := h.lookup keyed9 under80 (zero77 w) (zd := .held (.pointer none)) (zp := []) rfl (WideMaps.keyOf_string_mk Tryz.underlying9 hs)
  rw [hr]
  simp only [R, Option.some.injEq, Prod.mk.injEq] at hv
  rw [look, ← hv.1]
/-- A file or a directory as it lies in memory. -/
structure Nd where
  ino : Int
  mode : Int
  tick : Int
  dir : Bool
  above : Value
  ents : Value
  data : Value
  links : Int
  holds : Int
def Nd.arr (x : Nd) : Array Value := #[.int .i64 x.ino, .int .i64 x.mode, .int .i64 x.tick, .bool x.dir, x.above, x.ents, x.data, .int .i64 x.links, .int .i64 x.holds]
def NdAt (w : World) (b : Nat) (x : Nd) : Prop := w.heap[b]? = some (.cells x.arr 162)
section
variable {w : World} {b : Nat} {x : Nd}
theorem NdAt.c0 (h : NdAt w b x) : w.cell? ⟨b, 0, none⟩ = some (.int .i64 x.ino) := by simp [World.cell?, show w.heap[b]? = _ from h, Nd.arr]
theorem NdAt.c1 (h : NdAt w b x) : w.cell? ⟨b, 1, none⟩ = some (.int .i64 x.mode) := by simp [World.cell?, show w.heap[b]? = _ from h, Nd.arr]
theorem NdAt.c2 (h : NdAt w b x) : w.cell? ⟨b, 2, none⟩ = some (.int .i64 x.tick) := by simp [World.cell?, show w.heap[b]? = _ from h, Nd.arr]
theorem NdAt.c3 (h : NdAt w b x) : w.cell? ⟨b, 3, none⟩ = some (.bool x.dir) := by simp [World.cell?, show w.heap[b]? = _ from h, Nd.arr]
theorem NdAt.c4 (h : NdAt w b x) : w.cell? ⟨b, 4, none⟩ = some x.above := by simp [World.cell?, show w.heap[b]? = _ from h, Nd.arr]
theorem NdAt.c5 (h : NdAt w b x) : w.cell? ⟨b, 5, none⟩ = some x.ents := by simp [World.cell?, show w.heap[b]? = _ from h, Nd.arr]
theorem NdAt.c6 (h : NdAt w b x) : w.cell? ⟨b, 6, none⟩ = some x.data := by simp [World.cell?, show w.heap[b]? = _ from h, Nd.arr]
theorem NdAt.c7 (h : NdAt w b x) : w.cell? ⟨b, 7, none⟩ = some (.int .i64 x.links) := by simp [World.cell?, show w.heap[b]? = _ from h, Nd.arr]
theorem NdAt.c8 (h : NdAt w b x) : w.cell? ⟨b, 8, none⟩ = some (.int .i64 x.holds) := by simp [World.cell?, show w.heap[b]? = _ from h, Nd.arr]
theorem NdAt.fz (h : NdAt w b x) (i : Nat) : w.frozen? ⟨b, i, none⟩ = false := by simp [World.frozen?, show w.heap[b]? = _ from h]
theorem NdAt.lt (h : NdAt w b x) : b < w.heap.size := (Array.getElem?_eq_some_iff.1 (show w.heap[b]? = _ from h)).1
theorem NdAt.set (h : NdAt w b x) (i : Nat) (v : Value) {y : Nd} (e : x.arr.setIfInBounds i v = y.arr) : NdAt (w.setCell ⟨b, i, none⟩ v) b y := by
  show (w.setCell ⟨b, i, none⟩ v).heap[b]? = _
  simp [World.setCell, Array.getElem?_modify, show w.heap[b]? = _ from h, e]
theorem NdAt.below (h : NdAt w b x) {w' : World} {B : Nat} (hb : Below B w w') (hB : b < B) : NdAt w' b x := (hb.block b hB).trans h
end

/-- The tree's own cells. -/
def TrAt (w : World) (t : Nat) (root fm names last : Value) : Prop := w.heap[t]? = some (.cells #[root, fm, names, last] 159)
section
variable {w : World} {t : Nat} {r f n l : Value}
theorem TrAt.c0 (h : TrAt w t r f n l) : w.cell? ⟨t, 0, none⟩ = some r := by simp [World.cell?, show w.heap[t]? = _ from h]
theorem TrAt.c1 (h : TrAt w t r f n l) : w.cell? ⟨t, 1, none⟩ = some f := by simp [World.cell?, show w.heap[t]? = _ from h]
theorem TrAt.c2 (h : TrAt w t r f n l) : w.cell? ⟨t, 2, none⟩ = some n := by simp [World.cell?, show w.heap[t]? = _ from h]
theorem TrAt.c3 (h : TrAt w t r f n l) : w.cell? ⟨t, 3, none⟩ = some l := by simp [World.cell?, show w.heap[t]? = _ from h]
theorem TrAt.fz (h : TrAt w t r f n l) (i : Nat) : w.frozen? ⟨t, i, none⟩ = false := by simp [World.frozen?, show w.heap[t]? = _ from h]
theorem TrAt.lt (h : TrAt w t r f n l) : t < w.heap.size := (Array.getElem?_eq_some_iff.1 (show w.heap[t]? = _ from h)).1
theorem TrAt.set2 (h : TrAt w t r f n l) (v : Value) : TrAt (w.setCell ⟨t, 2, none⟩ v) t r f v l := by
  show (w.setCell ⟨t, 2, none⟩ v).heap[t]? = _
  simp [World.setCell, Array.getElem?_modify, show w.heap[t]? = _ from h]
theorem TrAt.below (h : TrAt w t r f n l) {w' : World} {B : Nat} (hb : Below B w w') (hB : t < B) : TrAt w' t r f n l := (hb.block t hB).trans h
end

/-- The nodes by their blocks, each with its entries. -/
abbrev Graph := Nat → Option (Nd × DataW Value)
def Gr (w : World) (g : Graph) : Prop := ∀ b x D, g b = some (x, D) → NdAt w b x ∧ (x.dir = true → ∃ mb n, x.ents = .map (some mb) ∧ w.ownsMap Tryz.prog 9 R mb n D)
/-- Wherever an entry or the way up leads, there is a node. -/
def Closed (g : Graph) : Prop := ∀ b x D, g b = some (x, D) → x.dir = true → (∃ u, x.above = ptr u ∧ (g u).isSome = true) ∧ ∀ s : ByteArray, look D (sk s) = .pointer none ∨ ∃ c, look D (sk s) = ptr c ∧ (g c).isSome = true

theorem Gr.below {w w' : World} {g : Graph} (h : Gr w g) (hb : Below w.heap.size w w') : Gr w' g := fun b x D e => by
  obtain ⟨h1, h2⟩ := h b x D e
  refine ⟨h1.below hb h1.lt, fun hd => ?_⟩
  obtain ⟨mb, n, e1, hm⟩ := h2 hd
  exact ⟨mb, n, e1, hm.kept (row := none) ⟨hb.os, hb.tape, hb.output, hb.size, fun k hk _ => hb.block k hk⟩ (by simp)⟩

/-- Is it a name? -/
def plainB (s : ByteArray) : Bool := s.data.toList.all fun c => c != 47 && c != 0
def isDot (s : ByteArray) : Bool := s.toList == [46] || s.toList == [46, 46]
def isNm (s : ByteArray) : Bool := !s.toList.isEmpty && decide (s.size ≤ 32) && !isDot s && plainB s

/-- One part of a path: on from a node, or the error's number. -/
def stepF (g : Graph) (at_ : Nat) (p : ByteArray) : Except Int Nat :=
  match g at_ with
  | none => .error 0
  | some (x, D) =>
    if x.dir = false then .error 3
    else if p = ⟨#[46]⟩ then .ok at_
    else if p = ⟨#[46, 46]⟩ then .ok (blk x.above)
    else if isNm p = false then .error 13
    else if isNil (look D (sk p)) = true then .error 1
    else .ok (blk (look D (sk p)))
def leadF (g : Graph) (at_ : Nat) : List ByteArray → Except Int Nat
  | [] => .ok at_
  | p :: r => match stepF g at_ p with | .ok b => leadF g b r | .error e => .error e

theorem leadF_append (g : Graph) : ∀ (l r : List ByteArray) (at_ : Nat), leadF g at_ (l ++ r) = match leadF g at_ l with | .ok b => leadF g b r | .error e => .error e
  | [], r, a => rfl
  | p :: l, r, a => by
    simp only [List.cons_append, leadF]
    cases stepF g a p with
    | error e => rfl
    | ok b => exact leadF_append g l r b
theorem leadF_snoc (g : Graph) (l : List ByteArray) (p : ByteArray) (a b : Nat) (h : leadF g a l = .ok b) : leadF g a (l ++ [p]) = stepF g b p := by
  rw [leadF_append, h]
  simp only [leadF]
  cases stepF g b p <;> rfl

theorem stepF_some {g : Graph} (hc : Closed g) {a b : Nat} {p : ByteArray} (ha : (g a).isSome = true) (h : stepF g a p = .ok b) : (g b).isSome = true := by
  unfold stepF at h
  cases hg : g a with
  | none => rw [hg] at ha; cases ha
  | some y =>
    obtain ⟨x, D⟩ := y
    rw [hg] at h
    simp only at h
    split at h
    · cases h
    · rename_i hd
      obtain ⟨⟨u, hu, hgu⟩, hl⟩ := hc a x D hg (by simpa using hd)
      split at h
      · cases h; exact ha
      · split at h
        · cases h; rw [hu]; exact hgu
        · split at h
          · cases h
          · split at h
            · cases h
            · rename_i hne
              rcases hl p with h0 | ⟨c, h0, hgc⟩
              · rw [h0] at hne; exact absurd rfl hne
              · cases h; rw [h0]; exact hgc
theorem leadF_some {g : Graph} (hc : Closed g) : ∀ (l : List ByteArray) {a b : Nat}, (g a).isSome = true → leadF g a l = .ok b → (g b).isSome = true
  | [], a, b, ha, h => by cases h; exact ha
  | p :: r, a, b, ha, h => by
    simp only [leadF] at h
    cases hs : stepF g a p with
    | error e => rw [hs] at h; cases h
    | ok c => rw [hs] at h; exact leadF_some hc r (stepF_some hc ha hs) h
end Go.Proofs.YteimilnecahifaaGreatDoor

namespace Go.Proofs.YteimilnecahifaaGreatDoor
open Go.RowKit Go.Maps

/-- Of what was there nothing has turned but the blocks of S. -/
structure Turn (S : List Nat) (w w' : World) : Prop where
  os : w'.os = w.os
  tape : w'.tape = w.tape
  output : w'.output = w.output
  size : w.heap.size ≤ w'.heap.size
  block : ∀ k, k < w.heap.size → k ∉ S → w'.heap[k]? = w.heap[k]?
theorem Turn.refl (S : List Nat) (w : World) : Turn S w w := ⟨rfl, rfl, rfl, Nat.le_refl _, fun _ _ _ => rfl⟩
theorem Turn.trans {S : List Nat} {a b c : World} (h : Turn S a b) (k : Turn S b c) : Turn S a c :=
  ⟨k.os.trans h.os, k.tape.trans h.tape, k.output.trans h.output, Nat.le_trans h.size k.size, fun i hi hs => (k.block i (Nat.lt_of_lt_of_le hi h.size) hs).trans (h.block i hi hs)⟩
theorem Turn.mono {S S' : List Nat} {w w' : World} (h : Turn S w w') (hs : ∀ k, k ∈ S → k ∈ S') : Turn S' w w' := ⟨h.os, h.tape, h.output, h.size, fun k hk hn => h.block k hk (fun e => hn (hs k e))⟩
theorem Turn.below {S : List Nat} {w w' : World} (h : Below w.heap.size w w') : Turn S w w' := ⟨h.os, h.tape, h.output, h.size, fun k hk _ => h.block k hk⟩
theorem Turn.grown {S : List Nat} {w w' : World} {b : Nat} (h : w.grownBy w' (some b)) (hb : b ∈ S) : Turn S w w' := ⟨h.os, h.tape, h.output, h.size, fun k hk hn => h.block k hk (fun e => by cases e; exact hn hb)⟩
theorem Turn.set {S : List Nat} (w : World) (b i : Nat) (v : Value) (hb : b ∈ S) : Turn S w (w.setCell ⟨b, i, none⟩ v) :=
  ⟨rfl, rfl, rfl, by simp [World.setCell], fun k hk hn => Below.heap_setCell _ _ _ _ (fun e => by simp at e; rw [e] at hn; exact hn hb)⟩
theorem Turn.alloc {S : List Nat} (w : World) (o : Obj) : Turn S w (w.alloc o) := Turn.below ((Below.refl _ w).alloc (Nat.le_refl _) _)
theorem Turn.drew {S : List Nat} {a w : World} (h : Turn S a w) : Turn S a w.drew := ⟨h.os, h.tape, h.output, h.size, h.block⟩
section
variable {S : List Nat} {w w' : World}
theorem Turn.nd (hu : Turn S w w') {b : Nat} {x : Nd} (h : NdAt w b x) (hb : b ∉ S) : NdAt w' b x := (hu.block b h.lt hb).trans h
theorem Turn.tr (hu : Turn S w w') {t : Nat} {r f n l : Value} (h : TrAt w t r f n l) (hb : t ∉ S) : TrAt w' t r f n l := (hu.block t h.lt hb).trans h
theorem Turn.cell (hu : Turn S w w') {a : Addr} {v : Value} (h : w.cell? a = some v) (hb : a.block ∉ S) : w'.cell? a = some v := (World.cell?_of_block (hu.block a.block (World.block_lt_of_cell? w a h) hb)).trans h
theorem Turn.map (hu : Turn S w w') {k b n : Nat} {D : DataW Value} (h : w.ownsMap Tryz.prog k R b n D) (hb : b ∉ S) : w'.ownsMap Tryz.prog k R b n D := by
  have hlt := h.lt
  obtain ⟨es, c, e, rest⟩ := h
  exact ⟨es, c, (hu.block b hlt hb).trans e, rest⟩
end
theorem nd_setCell {w : World} {b : Nat} {x : Nd} (h : NdAt w b x) {a : Addr} (v : Value) (hne : b ≠ a.block) : NdAt (w.setCell a v) b x := (Below.heap_setCell w a v b hne).trans h
theorem nd_alloc {w : World} {b : Nat} {x : Nd} (h : NdAt w b x) (o : Obj) : NdAt (w.alloc o) b x := al_old o h
theorem tr_alloc {w : World} {t : Nat} {r f n l : Value} (h : TrAt w t r f n l) (o : Obj) : TrAt (w.alloc o) t r f n l := al_old o h
theorem tr_setCell {w : World} {t : Nat} {r f n l : Value} (h : TrAt w t r f n l) {a : Addr} (v : Value) (hne : t ≠ a.block) : TrAt (w.setCell a v) t r f n l := (Below.heap_setCell w a v t hne).trans h

theorem Turn.drewN {S : List Nat} {a w : World} (h : Turn S a w) (n : Nat) : Turn S a (w.drewN n) := ⟨h.os, h.tape, h.output, h.size, h.block⟩
theorem below_undrew {n : Nat} {w w2 : World} (h : Below n w.drew w2) : Below n w w2 := ⟨h.os, h.tape, h.output, h.size, h.block⟩
end Go.Proofs.YteimilnecahifaaGreatDoor

namespace Go.Proofs.YteimilnecahifaaGreatDoor
open Go.RowKit Go.Maps

section
variable {w : World} {b T : Nat} {cs : Array Value}
theorem h_cell {fz : Nat × Nat} (h : w.heap[b]? = some (.cells cs T fz)) (i : Nat) {v : Value} (hi : cs[i]? = some v) : w.cell? ⟨b, i, none⟩ = some v := by simp [World.cell?, h, hi]
theorem h_fz (h : w.heap[b]? = some (.cells cs T)) (i : Nat) : w.frozen? ⟨b, i, none⟩ = false := by simp [World.frozen?, h]
theorem h_lt {o : Obj} (h : w.heap[b]? = some o) : b < w.heap.size := (Array.getElem?_eq_some_iff.1 h).1
theorem h_set (h : w.heap[b]? = some (.cells cs T)) (i : Nat) (v : Value) : (w.setCell ⟨b, i, none⟩ v).heap[b]? = some (.cells (cs.setIfInBounds i v) T) := by
  simp [World.setCell, Array.getElem?_modify, h]
theorem h_ne {b2 T2 : Nat} {cs2 : Array Value} {fz fz2 : Nat × Nat} (h : w.heap[b]? = some (.cells cs T fz)) (h2 : w.heap[b2]? = some (.cells cs2 T2 fz2)) (ht : T ≠ T2) : b ≠ b2 := fun e => by
  subst e; rw [h] at h2; cases h2; exact ht rfl
theorem h_ne_map {b2 : Nat} {es : Array MapEntry} {c : Nat} {fz : Nat × Nat} (h : w.heap[b]? = some (.cells cs T fz)) (h2 : w.heap[b2]? = some (.map es c)) : b ≠ b2 := fun e => by
  subst e; rw [h] at h2; cases h2
end
theorem Turn.ob {S : List Nat} {w w' : World} (hu : Turn S w w') {b : Nat} {o : Obj} (h : w.heap[b]? = some o) (hb : b ∉ S) : w'.heap[b]? = some o := (hu.block b (h_lt h) hb).trans h
theorem s_other {w : World} {b c i : Nat} {v : Value} {o : Obj} (h : w.heap[b]? = some o) (hne : b ≠ c) : (w.setCell ⟨c, i, none⟩ v).heap[b]? = some o := (Below.heap_setCell w ⟨c, i, none⟩ v b hne).trans h

theorem al_cell {w : World} {a : Addr} {v : Value} (o : Obj) (h : w.cell? a = some v) : (w.alloc o).cell? a = some v := (Turn.alloc (S := []) w o).cell h (by simp)
/-- The kernel's own cells. -/
abbrev KnAt (w : World) (k : Nat) (tr fs : Value) (used now : Int) (th : Nat) (last : Int) : Prop := w.heap[k]? = some (.cells #[tr, fs, .int .i64 used, .int .i64 now, .map (some th), .int .i64 last] 129)
/-- A table: its kernel, what its sixteen descriptors have. -/
abbrev TbAt (w : World) (t k : Nat) (hs : Array Value) : Prop := w.heap[t]? = some (.cells (#[ptr k] ++ hs) 146)
abbrev PpAt (w : World) (p : Nat) (data : Value) (re we : Nat) : Prop := w.heap[p]? = some (.cells #[data, ptr re, ptr we] 357)
abbrev ReAt (w : World) (e : Nat) (c : Int) (p : Nat) : Prop := w.heap[e]? = some (.cells #[.int .i64 c, ptr p] 361)
abbrev WeAt (w : World) (e : Nat) (c : Int) (p : Nat) : Prop := w.heap[e]? = some (.cells #[.int .i64 c, ptr p] 360)
abbrev SoAt (w : World) (e : Nat) (c : Int) (rest : Value) : Prop := w.heap[e]? = some (.cells #[.int .i64 c, rest] 138)
abbrev iSo (e : Nat) : Value := .iface 133 (ptr e)
theorem tb_cell {w : World} {t k : Nat} {hs : Array Value} (h : TbAt w t k hs) (i : Nat) {v : Value} (hi : hs[i]? = some v) : w.cell? ⟨t, 1 + i, none⟩ = some v := by
  refine h_cell h (1 + i) ?_
  rw [Array.getElem?_append_right (by simp)]
  simpa using hi
theorem tb_kern {w : World} {t k : Nat} {hs : Array Value} (h : TbAt w t k hs) : w.cell? ⟨t, 0, none⟩ = some (ptr k) := h_cell h 0 (by rw [Array.getElem?_append_left (by simp)]; rfl)
theorem tb_set {w : World} {t k : Nat} {hs : Array Value} (h : TbAt w t k hs) (i : Nat) (v : Value) : TbAt (w.setCell ⟨t, 1 + i, none⟩ v) t k (hs.setIfInBounds i v) := by
  have := h_set h (1 + i) v
  rw [show (#[ptr k] ++ hs).setIfInBounds (1 + i) v = #[ptr k] ++ hs.setIfInBounds i v from ?_] at this
  · exact this
  · rw [Array.setIfInBounds_append_right (by simp)]
    simp
theorem ta_so_fi (v : Value) (w : World) : (Instr.typeAssert (.iface 133 v) 143 226 true).run Tryz.prog w = .ok (.tuple #[.pointer none, .bool false]) w := by kernel_rfl
theorem ta_sk_we (v : Value) (w : World) : (Instr.typeAssert (.iface 139 v) 143 354 true).run Tryz.prog w = .ok (.tuple #[.pointer none, .bool false]) w := by kernel_rfl
theorem ta_sk_fi (v : Value) (w : World) : (Instr.typeAssert (.iface 139 v) 143 226 true).run Tryz.prog w = .ok (.tuple #[.pointer none, .bool false]) w := by kernel_rfl
theorem ta_sk_sk (v : Value) (w : World) : (Instr.typeAssert (.iface 139 v) 143 139 true).run Tryz.prog w = .ok (.tuple #[v, .bool true]) w := by kernel_rfl
theorem nil_eq (T : Nat) (v : Value) (w : World) : (binOp .eql 143 (.iface T v) .nilIface).run Tryz.prog w = .ok (.bool false) w := by kernel_rfl
theorem nil_nil (w : World) : (binOp .eql 143 .nilIface .nilIface).run Tryz.prog w = .ok (.bool true) w := by kernel_rfl
theorem nil_neq (T : Nat) (v : Value) (w : World) : (binOp .neq 143 (.iface T v) .nilIface).run Tryz.prog w = .ok (.bool true) w := by kernel_rfl
theorem nil_nnil (w : World) : (binOp .neq 143 .nilIface .nilIface).run Tryz.prog w = .ok (.bool false) w := by kernel_rfl
end Go.Proofs.YteimilnecahifaaGreatDoor

namespace Go.Proofs.YteimilnecahifaaGreatDoor
open Go.RowKit Go.Maps

/-- The faults as they lie in memory: kinds and numbers, one behind the other, in the block fb. -/
def Fl (w : World) (fv : Value) (fb : Nat) (l : List (Int × Int)) : Prop :=
  ∃ a cap, fv = .slice a l.length cap ∧ l.length ≤ cap ∧ l.length < 4611686018427387904 ∧ ((l.length = 0 ∧ a = none ∧ cap = 0) ∨ ∃ o, a = some ⟨fb, o, none⟩ ∧ ∀ j, j < l.length → w.cell? ⟨fb, o + j * 2, none⟩ = some (.int .i64 (l[j]?.getD (0, 0)).1) ∧ w.cell? ⟨fb, o + j * 2 + 1, none⟩ = some (.int .i64 (l[j]?.getD (0, 0)).2))
theorem Fl.keep {w w' : World} {fv : Value} {fb : Nat} {l : List (Int × Int)} (h : Fl w fv fb l) (hk : ∀ i v, w.cell? ⟨fb, i, none⟩ = some v → w'.cell? ⟨fb, i, none⟩ = some v) : Fl w' fv fb l := by
  obtain ⟨a, cap, hv, hc, hs, h0 | ⟨o, ha, hcell⟩⟩ := h
  · exact ⟨a, cap, hv, hc, hs, .inl h0⟩
  · exact ⟨a, cap, hv, hc, hs, .inr ⟨o, ha, fun j hj => ⟨hk _ _ (hcell j hj).1, hk _ _ (hcell j hj).2⟩⟩⟩
theorem Fl.turn {w w' : World} {fv : Value} {fb : Nat} {l : List (Int × Int)} {S : List Nat} (h : Fl w fv fb l) (hu : Turn S w w') (hs : fb ∉ S) : Fl w' fv fb l := h.keep fun _ _ e => hu.cell e hs

set_option maxRecDepth 100000 in
set_option maxHeartbeats 4000000 in
theorem befall_none (k fb th : Nat) (tr fv : Value) (l : List (Int × Int)) (now last most : Int) (isW : Bool) (w : World) (hK : KnAt w k tr fv l.length now th last) (hF : Fl w fv fb l) :
    Calls Tryz.prog 271 #[ptr k, .int .i64 most, .bool isW] w fun e w' => e = .returned (.tuple #[.int .i64 most, .int .i64 0]) ∧ ∃ n, w' = w.drewN n := by
  have c1 := h_cell hK 1 rfl
  have c2 := h_cell hK 2 rfl
  obtain ⟨a, cap, rfl, _⟩ := hF
  clear hK
  go_enter Tryz.func271, Tryz.ntmps271
  go_wp2_with fail
  go_quiet (fail)
  go_wp2
  refine bodyPost_ret (results_tmp2 rfl _ _ _) rfl ?_
  exact ⟨rfl, _, rfl⟩

set_option maxRecDepth 100000 in
set_option maxHeartbeats 4000000 in
theorem befall_short (k fb th u : Nat) (tr fv : Value) (l : List (Int × Int)) (now last most : Int) (isW : Bool) (w : World) (hK : KnAt w k tr fv u now th last) (hF : Fl w fv fb l) (hu : u < l.length) (hk : (l[u]?.getD (0, 0)).1 = 1) :
    Calls Tryz.prog 271 #[ptr k, .int .i64 most, .bool isW] w fun e w' => e = .returned (.tuple #[.int .i64 (min most (max (l[u]?.getD (0, 0)).2 1)), .int .i64 0]) ∧ KnAt w' k tr fv ((u : Int) + 1) now th last ∧ Turn [k] w w' := by
  have c1 := h_cell hK 1 rfl
  have c2 := h_cell hK 2 rfl
  obtain ⟨a, cap, rfl, hcap, hL, h0 | ⟨o, rfl, hcell⟩⟩ := hF
  · omega
  obtain ⟨q1, q2⟩ := hcell u hu
  rw [hk] at q1
  generalize (l[u]?.getD (0, 0)).2 = N at q2 ⊢
  generalize hLe : l.length = L at hu hcap hL c1
  have hb : 0 ≤ (u : Int) ∧ (u : Int) < (L : Int) := by omega
  have hne1 : ((u : Int) == (L : Int)) = false := by simp; omega
  have HF : ∀ n, Turn [k] w (w.drewN n) ∧ KnAt (w.drewN n) k tr (.slice (some ⟨fb, o, none⟩) L cap) u now th last ∧ (w.drewN n).cell? ⟨fb, o + u * 2, none⟩ = some (.int .i64 1) ∧ (w.drewN n).cell? ⟨fb, o + u * 2 + 1, none⟩ = some (.int .i64 N) := fun n => ⟨(Turn.refl _ w).drewN n, by rw [hLe] at hK; exact hK, q1, q2⟩
  clear hcell hk
  have hFF := Lib.hid HF
  clear hK HF q1 q2
  go_enter Tryz.func271, Tryz.ntmps271
  go_wp2_with fail
  go_quiet (fail)
  obtain ⟨hT1, hK1, q1, q2⟩ := hFF.out nq
  generalize w.drewN nq = w1 at hT1 hK1 q1 q2 ⊢
  clear hFF c1 c2
  have c1 := h_cell hK1 1 rfl
  have c2 := h_cell hK1 2 rfl
  have z2 := h_fz hK1 2
  have c1' := fun x => al_cell x c1
  have c2' := fun x => al_cell x c2
  have q1' := fun x => al_cell x q1
  have q2' := fun x => al_cell x q2
  have hk1 := h_lt hK1
  have HK := Lib.hid hK1
  have HT := Lib.hid hT1
  clear hK1 hT1
  go_wp2_with fail
  go_region
  all_goals go_wp2
  all_goals
    refine bodyPost_ret (results_tmp2 rfl _ _ _) rfl ?_
    refine ⟨by simp; omega, al_old _ (by simpa using h_set HK.out 2 (.int .i64 ((u : Int) + 1))), HT.out.trans ((Turn.set w1 k 2 _ (by simp)).trans (Turn.alloc _ _)).drew⟩

set_option maxRecDepth 100000 in
set_option maxHeartbeats 4000000 in
theorem befall_intr (k fb th u : Nat) (tr fv : Value) (l : List (Int × Int)) (now last most : Int) (isW : Bool) (w : World) (hK : KnAt w k tr fv u now th last) (hF : Fl w fv fb l) (hu : u < l.length) (hk : (l[u]?.getD (0, 0)).1 = 2) :
    Calls Tryz.prog 271 #[ptr k, .int .i64 most, .bool isW] w fun e w' => e = .returned (.tuple #[.int .i64 0, .int .i64 9]) ∧ KnAt w' k tr fv ((u : Int) + 1) now th last ∧ Turn [k] w w' := by
  have c1 := h_cell hK 1 rfl
  have c2 := h_cell hK 2 rfl
  obtain ⟨a, cap, rfl, hcap, hL, h0 | ⟨o, rfl, hcell⟩⟩ := hF
  · omega
  obtain ⟨q1, q2⟩ := hcell u hu
  rw [hk] at q1
  generalize (l[u]?.getD (0, 0)).2 = N at q2
  generalize hLe : l.length = L at hu hcap hL c1
  have hb : 0 ≤ (u : Int) ∧ (u : Int) < (L : Int) := by omega
  have hne1 : ((u : Int) == (L : Int)) = false := by simp; omega
  have HF : ∀ n, Turn [k] w (w.drewN n) ∧ KnAt (w.drewN n) k tr (.slice (some ⟨fb, o, none⟩) L cap) u now th last ∧ (w.drewN n).cell? ⟨fb, o + u * 2, none⟩ = some (.int .i64 2) ∧ (w.drewN n).cell? ⟨fb, o + u * 2 + 1, none⟩ = some (.int .i64 N) := fun n => ⟨(Turn.refl _ w).drewN n, by rw [hLe] at hK; exact hK, q1, q2⟩
  clear hcell hk
  have hFF := Lib.hid HF
  clear hK HF q1 q2
  go_enter Tryz.func271, Tryz.ntmps271
  go_wp2_with fail
  go_quiet (fail)
  obtain ⟨hT1, hK1, q1, q2⟩ := hFF.out nq
  generalize w.drewN nq = w1 at hT1 hK1 q1 q2 ⊢
  clear hFF c1 c2
  have c1 := h_cell hK1 1 rfl
  have c2 := h_cell hK1 2 rfl
  have z2 := h_fz hK1 2
  have c1' := fun x => al_cell x c1
  have c2' := fun x => al_cell x c2
  have q1' := fun x => al_cell x q1
  have q2' := fun x => al_cell x q2
  have hk1 := h_lt hK1
  have HK := Lib.hid hK1
  have HT := Lib.hid hT1
  clear hK1 hT1
  go_wp2_with fail
  go_region
  all_goals go_wp2
  all_goals
    refine bodyPost_ret (results_tmp2 rfl _ _ _) rfl ?_
    refine ⟨by rfl, al_old _ (by simpa using h_set HK.out 2 (.int .i64 ((u : Int) + 1))), HT.out.trans ((Turn.set w1 k 2 _ (by simp)).trans (Turn.alloc _ _)).drew⟩
end Go.Proofs.YteimilnecahifaaGreatDoor
