/- Small graphs, and the words of the chapter's examples. -/
import Derived.Test.YtbbmihlabllliaaGreatDoorVacant
namespace Go.Proofs.YtbbmihlabllliaaGreatDoor
open Go.RowKit Go.Shelf Go.Maps

theorem sk_inj {a b : ByteArray} : sk a = sk b ↔ a = b := by
  constructor
  · intro h
    injection h with h
    cases a; cases b
    congr 1
    exact Array.toList_inj.1 h
  · rintro rfl; rfl
theorem isKey_s (s : ByteArray) : WideAt.IsKeyLit (sk s) := trivial
theorem isKey_i (i : Int) : WideAt.IsKeyLit (ik i) := trivial
theorem lookPut {D : DataW Value} (hD : IsMap D) (n s : ByteArray) (v : Value) : look (D.put (sk n) (.held v)) (sk s) = if s = n then v else look D (sk s) := by
  by_cases h : s = n
  · rw [if_pos h, h, look_put_same hD (isKey_s n)]
  · rw [if_neg h, look_put_other (fun e => h (sk_inj.1 e))]
theorem lookDel (D : DataW Value) (n s : ByteArray) : look (D.del (sk n)) (sk s) = if s = n then .pointer none else look D (sk s) := by
  by_cases h : s = n
  · rw [if_pos h, h, look_del_same]
  · rw [if_neg h, look_del_other (fun e => h (sk_inj.1 e))]
theorem put_del (k : Lit) (d : DataW Value) (hk : k.sameKey k = true) : ((DataW.map [] : DataW Value).put k d).del k = .map [] := by
  simp [DataW.put, DataW.del, DataW.insert, hk]
theorem same_s (s : ByteArray) : (sk s).sameKey (sk s) = true := by simp [Lit.sameKey]

/-- A graph that is told node by node. -/
def gOf (l : List (Nat × Nd × DataW Value)) : Graph := fun k => (l.find? fun p => p.1 == k).map (·.2)

/- The paths of the examples. -/
abbrev sE : ByteArray := ⟨#[]⟩
abbrev s_a : ByteArray := ⟨#[97]⟩
abbrev s_b : ByteArray := ⟨#[98]⟩
abbrev s_c : ByteArray := ⟨#[99]⟩
abbrev s_d : ByteArray := ⟨#[100]⟩
abbrev p_a : ByteArray := ⟨#[47, 97]⟩
abbrev p_ab : ByteArray := ⟨#[47, 97, 47, 98]⟩
abbrev p_adb : ByteArray := ⟨#[97, 47, 46, 47, 98]⟩
abbrev p_c : ByteArray := ⟨#[47, 99]⟩
abbrev p_ad : ByteArray := ⟨#[47, 97, 47, 100]⟩
abbrev p_r : ByteArray := ⟨#[47]⟩
abbrev p_cr : ByteArray := ⟨#[47, 99, 47]⟩
theorem pts_E : ptsOf sE = [] := by kernel_rfl
theorem pts_a : ptsOf p_a = [s_a] := by kernel_rfl
theorem pts_r : ptsOf p_r = [] := by kernel_rfl
theorem pts_ab : ptsOf p_ab = [s_a, s_b] := by kernel_rfl
theorem pts_adb : ptsOf p_adb = [s_a, ⟨#[46]⟩, s_b] := by kernel_rfl
theorem pts_ar : ptsOf ⟨#[47, 97, 47]⟩ = [s_a] := by kernel_rfl
theorem pts_cr : ptsOf p_cr = [s_c] := by kernel_rfl
theorem ah_a : aheadS p_a = p_r := by kernel_rfl
theorem la_a : lastS p_a = s_a := by kernel_rfl
theorem ah_b : aheadS s_b = sE := by kernel_rfl
theorem la_b : lastS s_b = s_b := by kernel_rfl
theorem ah_ab : aheadS p_ab = ⟨#[47, 97, 47]⟩ := by kernel_rfl
theorem la_ab : lastS p_ab = s_b := by kernel_rfl
theorem ah_c : aheadS p_c = p_r := by kernel_rfl
theorem la_c : lastS p_c = s_c := by kernel_rfl
theorem ah_ad : aheadS p_ad = ⟨#[47, 97, 47]⟩ := by kernel_rfl
theorem la_ad : lastS p_ad = s_d := by kernel_rfl
theorem ah_r : aheadS p_r = sE := by kernel_rfl
theorem la_r : lastS p_r = sE := by kernel_rfl
theorem nm_a : isNm s_a = true := by kernel_rfl
theorem nm_b : isNm s_b = true := by kernel_rfl
theorem nm_c : isNm s_c = true := by kernel_rfl
theorem nm_d : isNm s_d = true := by kernel_rfl
theorem ab_a : isAbs p_a = true ∧ isEnd p_a = false ∧ p_a.toList.isEmpty = false := ⟨by kernel_rfl, by kernel_rfl, by kernel_rfl⟩
theorem ab_b : isAbs s_b = false ∧ isEnd s_b = false ∧ s_b.toList.isEmpty = false := ⟨by kernel_rfl, by kernel_rfl, by kernel_rfl⟩
theorem ab_ab : isAbs p_ab = true ∧ isEnd p_ab = false ∧ p_ab.toList.isEmpty = false := ⟨by kernel_rfl, by kernel_rfl, by kernel_rfl⟩
theorem ab_adb : isAbs p_adb = false ∧ isEnd p_adb = false ∧ p_adb.toList.isEmpty = false := ⟨by kernel_rfl, by kernel_rfl, by kernel_rfl⟩
theorem ab_c : isAbs p_c = true ∧ isEnd p_c = false ∧ p_c.toList.isEmpty = false := ⟨by kernel_rfl, by kernel_rfl, by kernel_rfl⟩
theorem ab_ad : isAbs p_ad = true ∧ isEnd p_ad = false ∧ p_ad.toList.isEmpty = false := ⟨by kernel_rfl, by kernel_rfl, by kernel_rfl⟩
theorem ab_r : isAbs p_r = true ∧ isEnd p_r = true ∧ p_r.toList.isEmpty = false := ⟨by kernel_rfl, by kernel_rfl, by kernel_rfl⟩
theorem ab_cr : isAbs p_cr = true ∧ isEnd p_cr = true ∧ p_cr.toList.isEmpty = false := ⟨by kernel_rfl, by kernel_rfl, by kernel_rfl⟩
theorem dots_no : isDot s_a = false ∧ isDot s_b = false ∧ isDot s_c = false ∧ isDot s_d = false := ⟨by kernel_rfl, by kernel_rfl, by kernel_rfl, by kernel_rfl⟩
theorem empt_no : s_a.toList.isEmpty = false ∧ s_b.toList.isEmpty = false ∧ s_c.toList.isEmpty = false ∧ s_d.toList.isEmpty = false ∧ sE.toList.isEmpty = true := ⟨by kernel_rfl, by kernel_rfl, by kernel_rfl, by kernel_rfl, by kernel_rfl⟩
end Go.Proofs.YtbbmihlabllliaaGreatDoor
