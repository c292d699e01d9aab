/- Plain mathematics of cutting bytes into pieces; no program is named here. -/
namespace Go.Proofs.YtcpclpckjheadaaDoor

/-- Behind k bytes: where the open piece begins, and the pieces that have ended. -/
def cutTo (c : UInt8 → Bool) (l : List UInt8) : Nat → Nat × List (List UInt8)
  | 0 => (0, [])
  | k + 1 => if c (l[k]?.getD 0) = true then (k + 1, (cutTo c l k).2 ++ [(l.take k).drop (cutTo c l k).1]) else cutTo c l k

theorem cutTo_yes {c : UInt8 → Bool} {l : List UInt8} {k : Nat} (h : c (l[k]?.getD 0) = true) : cutTo c l (k + 1) = (k + 1, (cutTo c l k).2 ++ [(l.take k).drop (cutTo c l k).1]) := by rw [cutTo, if_pos h]
theorem cutTo_no {c : UInt8 → Bool} {l : List UInt8} {k : Nat} (h : c (l[k]?.getD 0) = false) : cutTo c l (k + 1) = cutTo c l k := by rw [cutTo, if_neg (by rw [h]; decide)]
theorem cutTo_le (c : UInt8 → Bool) (l : List UInt8) : ∀ k, (cutTo c l k).1 ≤ k
  | 0 => Nat.le_refl _
  | k + 1 => by
    have ih := cutTo_le c l k
    rw [cutTo]; split
    · exact Nat.le_refl _
    · omega
theorem cutTo_length (c : UInt8 → Bool) (l : List UInt8) : ∀ k, (cutTo c l k).2.length ≤ k
  | 0 => Nat.le_refl _
  | k + 1 => by
    have ih := cutTo_length c l k
    rw [cutTo]; split
    · simp; omega
    · omega

/-- All the pieces, each with whether a byte that is cut at ended it. -/
def pcs (c : UInt8 → Bool) (l : List UInt8) : List (List UInt8 × Bool) := (cutTo c l l.length).2.map (fun p => (p, true)) ++ [(l.drop (cutTo c l l.length).1, false)]

def feedB (x : UInt8) : Bool := (x.toNat : Int) == 10
def blankB (x : UInt8) : Bool := (x.toNat : Int) == 32 || (x.toNat : Int) == 9

/-- A piece between two places of a row of bytes. -/
theorem mid_length (l : List UInt8) (s k : Nat) (h : k ≤ l.length) : ((l.take k).drop s).length = k - s := by simp; omega
theorem mid_at (l : List UInt8) (s k j : Nat) (h : k ≤ l.length) (hj : j < ((l.take k).drop s).length) : ((l.take k).drop s)[j]?.getD 0 = l[s + j]?.getD 0 := by
  simp only [List.length_drop, List.length_take] at hj
  rw [List.getElem?_drop, List.getElem?_take, if_pos (by omega)]
theorem end_at (l : List UInt8) (s j : Nat) : (l.drop s)[j]?.getD 0 = l[s + j]?.getD 0 := by
  rw [List.getElem?_drop]
end Go.Proofs.YtcpclpckjheadaaDoor
