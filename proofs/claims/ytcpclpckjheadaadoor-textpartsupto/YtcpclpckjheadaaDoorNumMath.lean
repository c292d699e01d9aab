/- Plain mathematics of reading numbers: what the program's reader and the document's reader both compute; no program is named here. -/
namespace Go.Proofs.YtcpclpckjheadaaDoor

/-- The number that digits to the base b say, at most so great: from n on. -/
def rd (b most : Int) : List UInt8 → Int → Int × Bool
  | [], n => (n, true)
  | c :: cs, n =>
    if (c.toNat : Int) < 48 ∨ b + 48 ≤ (c.toNat : Int) ∨ most < (c.toNat : Int) - 48 ∨ (most - ((c.toNat : Int) - 48)) / b < n then (0, false)
    else rd b most cs (n * b + ((c.toNat : Int) - 48))

/-- The whole reading: nothing is no number. -/
def rdAll (b most : Int) (s : List UInt8) : Int × Bool := if s.length = 0 then (0, false) else rd b most s 0

theorem drop_cons (s : ByteArray) (k : Nat) (h : k < s.size) : s.data.toList.drop k = s[k] :: s.data.toList.drop (k + 1) := by
  rw [List.drop_eq_getElem_cons (by simpa using h)]; rfl

theorem rd_bad {b most : Int} {c : UInt8} {cs : List UInt8} {n : Int} {r : Int × Bool} (h : rd b most (c :: cs) n = r) (x : (c.toNat : Int) < 48 ∨ b + 48 ≤ (c.toNat : Int) ∨ most < (c.toNat : Int) - 48 ∨ (most - ((c.toNat : Int) - 48)) / b < n) : r = (0, false) := by
  rw [← h, rd, if_pos x]

theorem rd_go {b most : Int} {c : UInt8} {cs : List UInt8} {n : Int} {r : Int × Bool} (h : rd b most (c :: cs) n = r) (x : ¬ ((c.toNat : Int) < 48 ∨ b + 48 ≤ (c.toNat : Int) ∨ most < (c.toNat : Int) - 48 ∨ (most - ((c.toNat : Int) - 48)) / b < n)) : rd b most cs (n * b + ((c.toNat : Int) - 48)) = r := by
  rw [← h, rd, if_neg x]

theorem rd_end {b most n : Int} {s : List UInt8} {k : Nat} {r : Int × Bool} (h : rd b most (s.drop k) n = r) (x : s.length ≤ k) : r = (n, true) := by
  rw [← h, List.drop_of_length_le x, rd]

theorem rdAll_nil {b most : Int} {s : List UInt8} (h : s.length = 0) : rdAll b most s = (0, false) := by rw [rdAll, if_pos h]
theorem rdAll_go {b most : Int} {s : List UInt8} (h : ¬ s.length = 0) : rd b most s 0 = rdAll b most s := by rw [rdAll, if_neg h]

theorem tdiv_case (m b : Int) : (0 ≤ m ∧ m.tdiv b = m / b) ∨ (m < 0 ∧ m.tdiv b = -((-m) / b)) := by
  by_cases h : 0 ≤ m
  · exact .inl ⟨h, Int.tdiv_eq_ediv_of_nonneg h⟩
  · refine .inr ⟨by omega, ?_⟩
    have e : m.tdiv b = -((-m).tdiv b) := by rw [Int.neg_tdiv, Int.neg_neg]
    rw [e, Int.tdiv_eq_ediv_of_nonneg (by omega)]
end Go.Proofs.YtcpclpckjheadaaDoor
