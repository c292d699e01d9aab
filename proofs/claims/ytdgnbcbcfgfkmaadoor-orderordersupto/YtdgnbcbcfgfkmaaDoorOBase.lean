/- How options and rows of strings lie in memory. -/
import Derived.WalkKit
import Derived.WalkSpells
import Derived.Lib.Hide
import Derived.Deep.AppendLies
import Derived.Deep.RegionLaw
import Derived.Deep.QuietTactic
import Derived.BigQuiet
import Derived.Test.YtdgnbcbcfgfkmaaDoorProg
import Derived.Test.YtdgnbcbcfgfkmaaDoorOMath
namespace Go.Proofs.YtdgnbcbcfgfkmaaDoor
open Go.RowKit

/-- The cells of an option. -/
def optCells (l : Opts) : List Value := l.flatMap fun p => [.int .u8 (p.1.toNat : Int), .string p.2]
theorem optCells_length (l : Opts) : (optCells l).length = l.length * 2 := by
  induction l with
  | nil => rfl
  | cons a l ih => rw [optCells, List.flatMap_cons, List.length_append]; have := ih; unfold optCells at this; rw [this]; simp; omega
theorem optCells_snoc (l : Opts) (p : UInt8 × ByteArray) : optCells (l ++ [p]) = optCells l ++ [.int .u8 (p.1.toNat : Int), .string p.2] := by simp [optCells]
theorem optCells_one (l : Opts) : ∀ u ∈ optCells l, u.oneCell' = true := by
  intro u hu
  simp only [optCells, List.mem_flatMap] at hu
  obtain ⟨p, _, hp⟩ := hu
  simp at hp
  rcases hp with rfl | rfl <;> rfl
def nthO (l : Opts) (j : Nat) : UInt8 × ByteArray := l[j]?.getD (0, ⟨#[]⟩)
theorem optCells_at (l : Opts) : ∀ (j : Nat), j < l.length → (optCells l)[j * 2]? = some (.int .u8 ((nthO l j).1.toNat : Int)) ∧ (optCells l)[j * 2 + 1]? = some (.string (nthO l j).2) := by
  induction l with
  | nil => intro j hj; simp at hj
  | cons p l ih =>
    intro j hj
    have e : optCells (p :: l) = [.int .u8 (p.1.toNat : Int), .string p.2] ++ optCells l := by simp [optCells]
    rw [e]
    cases j with
    | zero => simp [nthO]
    | succ j =>
      have := ih j (by simpa using hj)
      rw [List.getElem?_append_right (by simp; omega), List.getElem?_append_right (by simp; omega)]
      have e1 : (j + 1) * 2 - 2 = j * 2 := by omega
      have e2 : (j + 1) * 2 + 1 - 2 = j * 2 + 1 := by omega
      simp only [List.length_cons, List.length_nil, Nat.zero_add, Nat.reduceAdd, e1, e2]
      simpa [nthO] using this

def nth (l : List ByteArray) (j : Nat) : ByteArray := l[j]?.getD ⟨#[]⟩
theorem nth_drop (l : List ByteArray) (i j : Nat) : nth (l.drop i) j = nth l (i + j) := by simp [nth]
theorem drop_nth (l : List ByteArray) (i : Nat) (h : i < l.length) : l.drop i = nth l i :: l.drop (i + 1) := by
  rw [List.drop_eq_getElem_cons h]; simp [nth, h]

/-- A slice of strings. -/
def StrsAt (w : World) (v : Value) (ss : List ByteArray) : Prop :=
  (v = .slice none 0 0 ∧ ss = []) ∨ ∃ b off cap, v = .slice (some ⟨b, off, none⟩) ss.length cap ∧ (ss.length ≤ cap ∧ cap ≤ 9223372036854775807) ∧ b < w.heap.size ∧ ∀ j, j < ss.length → w.cell? ⟨b, off + j, none⟩ = some (.string (nth ss j))
theorem StrsAt.below {w w' : World} {v : Value} {ss : List ByteArray} (h : StrsAt w v ss) (hb : Below w.heap.size w w') : StrsAt w' v ss := by
  rcases h with h | ⟨b, off, cap, h1, h2, h3, h4⟩
  · exact .inl h
  · exact .inr ⟨b, off, cap, h1, h2, Nat.lt_of_lt_of_le h3 hb.size, fun j hj => (hb.cell (p := ⟨b, off + j, none⟩) h3).trans (h4 j hj)⟩
theorem StrsAt.drew {w : World} {v : Value} {ss : List ByteArray} (h : StrsAt w v ss) : StrsAt w.drew v ss := h

theorem own_ge2 {W : World} {base e s n : Nat} {v : Value} {xs : List Value} (h : W.ownsRow base e s v n xs) (j : Nat) (ej : v.ownBlock = some j) : base ≤ j := by
  rcases h.2 with ⟨rfl, _⟩ | ⟨g, cap, cur, rfl, hb, _⟩
  · cases ej
  · have : g = j := by simpa [Value.ownBlock] using ej
    omega
theorem own_slice2 {W : World} {base e s k : Nat} {v : Value} {xs : List Value} (h : W.ownsRow base e s v k xs) : ∃ a c, v = .slice a k c := by
  rcases h.2 with ⟨rfl, rfl⟩ | ⟨g, cap, cur, rfl, _⟩
  · exact ⟨none, 0, rfl⟩
  · exact ⟨_, cap, rfl⟩
theorem own_cell2 {W : World} {base e s n cap g : Nat} {xs : List Value} (h : W.ownsRow base e s (.slice (some ⟨g, 0, none⟩) n cap) n xs) (i : Nat) (hi : i < n * s) : W.cell? ⟨g, i, none⟩ = xs[i]? := by
  rcases h.2 with ⟨h, _⟩ | ⟨g', cap', cur, h1, _, hg, _, _, _, ht⟩
  · cases h
  · cases h1
    rw [← ht, List.getElem?_take, if_pos hi]
    simp [World.cell?, hg]
theorem own_some2 {W : World} {base e s n : Nat} {x : Option Addr} {cap : Nat} {xs : List Value} (h : W.ownsRow base e s (.slice x n cap) n xs) (hn : 0 < n) : ∃ g, x = some ⟨g, 0, none⟩ := by
  rcases h.2 with ⟨h, h0⟩ | ⟨g, _, _, h, _⟩
  · omega
  · cases h; exact ⟨g, rfl⟩

theorem info_opt : (Tryd.prog.info? 63).map (fun i => (i.zero, i.size, i.bytes)) = some (some (.agg #[.int .u8 0, .string ⟨#[]⟩]), 2, 24) := by kernel_rfl
theorem info_str : (Tryd.prog.info? 9).map (fun i => (i.zero, i.size, i.bytes)) = some (some (.string ⟨#[]⟩), 1, 16) := by kernel_rfl
theorem info_parts2 {P : Program} {t : Nat} {z : Option Value} {s b : Nat} (h : (P.info? t).map (fun i => (i.zero, i.size, i.bytes)) = some (z, s, b)) : ∃ i, P.info? t = some i ∧ i.zero = z ∧ i.size = s ∧ i.bytes = b := by
  cases hi : P.info? t with
  | none => rw [hi] at h; cases h
  | some i => rw [hi] at h; simp only [Option.map_some, Option.some.injEq, Prod.mk.injEq] at h; exact ⟨i, rfl, h.1, h.2.1, h.2.2⟩
end Go.Proofs.YtdgnbcbcfgfkmaaDoor
