/- Plain mathematics of fields: what stands between blanks, told from place to place. -/
import Derived.Test.YtcpclpckjheadaaDoorFields
namespace Go.Proofs.YtcpclpckjheadaaDoor

/-- The piece that is open behind k bytes. -/
def openP (l : List UInt8) (k : Nat) : List UInt8 := (l.take k).drop (cutTo blankB l k).1
/-- The fields that begin within the first k bytes, the last one up to there. -/
def fieldsTo (l : List UInt8) (k : Nat) : List (List UInt8) := ((cutTo blankB l k).2.filter fun p => decide (0 < p.length)) ++ (if (openP l k).length = 0 then [] else [openP l k])

theorem fieldsTo_zero (l : List UInt8) : fieldsTo l 0 = [] := by simp [fieldsTo, openP, cutTo]

theorem fieldsTo_blank {l : List UInt8} {k : Nat} (h : blankB (l[k]?.getD 0) = true) : fieldsTo l (k + 1) = fieldsTo l k := by
  unfold fieldsTo
  have e : (openP l (k + 1)).length = 0 := by unfold openP; rw [cutTo_yes h]; simp
  rw [if_pos e, cutTo_yes h, List.filter_append, List.append_nil]
  congr 1
  show List.filter _ [openP l k] = _
  by_cases h0 : (openP l k).length = 0
  · rw [if_pos h0, List.filter_cons_of_neg (by simp [h0])]; rfl
  · rw [if_neg h0, List.filter_cons_of_pos (by simpa using Nat.pos_of_ne_zero h0)]; rfl

theorem openP_nil {l : List UInt8} {k : Nat} (hk : k ≤ l.length) (h : (openP l k).length = 0) : (cutTo blankB l k).1 = k := by
  have := cutTo_le blankB l k
  unfold openP at h
  simp at h
  omega

theorem openP_blank_nil {l : List UInt8} {k : Nat} (h : blankB (l[k]?.getD 0) = true) : (openP l (k + 1)).length = 0 := by
  unfold openP; rw [cutTo_yes h]; simp

/-- A field from k up to m, none of whose bytes is a blank. -/
theorem fieldsTo_field {l : List UInt8} {k m : Nat} (hk : k < m) (hm : m ≤ l.length) (h0 : (openP l k).length = 0) (hc : cutTo blankB l m = cutTo blankB l k) : fieldsTo l m = fieldsTo l k ++ [(l.take m).drop k] := by
  have hb := openP_nil (by omega) h0
  have ho : openP l m = (l.take m).drop k := by unfold openP; rw [hc, hb]
  have hl : ¬ (openP l m).length = 0 := by rw [ho]; simp; omega
  unfold fieldsTo
  rw [if_neg hl, if_pos h0, hc, ho, List.append_nil]

theorem keptF_pcs (l : List UInt8) : keptF (pcs blankB l) = fieldsTo l l.length := by
  unfold keptF pcs fieldsTo openP
  rw [List.filter_append, List.map_append, List.take_length]
  congr 1
  · induction (cutTo blankB l l.length).2 with
    | nil => rfl
    | cons p ps ih =>
      rw [List.map_cons]
      by_cases h : 0 < p.length
      · rw [List.filter_cons_of_pos (by simpa using h), List.filter_cons_of_pos (by simpa using h), List.map_cons, ih]
      · rw [List.filter_cons_of_neg (by simpa using h), List.filter_cons_of_neg (by simpa using h), ih]
  · by_cases h : (l.drop (cutTo blankB l l.length).1).length = 0
    · rw [if_pos h, List.filter_cons_of_neg (by simp at h; simp; omega)]; rfl
    · rw [if_neg h, List.filter_cons_of_pos (by simp at h; simp; omega)]; rfl

theorem fieldsTo_length (l : List UInt8) (k : Nat) : (fieldsTo l k).length ≤ k + 1 := by
  unfold fieldsTo
  have h1 := cutTo_length blankB l k
  have h2 := List.length_filter_le (fun p : List UInt8 => decide (0 < p.length)) (cutTo blankB l k).2
  rw [List.length_append]
  split <;> simp <;> omega
end Go.Proofs.YtcpclpckjheadaaDoor
