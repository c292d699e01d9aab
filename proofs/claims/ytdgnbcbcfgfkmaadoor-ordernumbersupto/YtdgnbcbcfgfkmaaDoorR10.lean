/- The library's functions of strings that the landed code calls. -/
import Derived.Test.YtdgnbcbcfgfkmaaDoorR3
import Derived.Test.YtdgnbcbcfgfkmaaDoorR9m
import Derived.Deep.RegionWith
namespace Go.Proofs.YtdgnbcbcfgfkmaaDoor
open Go.RowKit Go.Shelf

theorem idxS_run {P : Program} (s : ByteArray) (c : UInt8) (w : World) : (Extern.BytealgIndexByte.indexByte #[.string s, .int .u8 (c.toNat : Int)]).run P w = .ok (.int .i64 (Lib.indexByte s.data.toList c)) w := by
  rw [Lib.run_indexByteString]
  simp
theorem liteIndexByte_c (s : ByteArray) (c : UInt8) (w : World) :
    Calls Tryd.prog 62 #[.string s, .int .u8 (c.toNat : Int)] w fun e w' => e = .returned (.int .i64 (Lib.indexByte s.data.toList c)) ∧ w' = w := by
  have hr := fun P => idxS_run (P := P) s c w
  go_enter Tryd.func62, Tryd.ntmps62
  go_wp2
  rw [run_callFunc_extern Tryd.func72 (by kernel_rfl) (by kernel_rfl) (by kernel_rfl) (e := Extern.BytealgIndexByte.indexByte) (by kernel_rfl), hr]
  simp only [Result.andThen]
  rw [Oper.upon_value]
  go_wp2
  go_ret
  exact ⟨rfl, rfl⟩
theorem strIndexByte_c (s : ByteArray) (c : UInt8) (w : World) :
    Calls Tryd.prog 49 #[.string s, .int .u8 (c.toNat : Int)] w fun e w' => e = .returned (.int .i64 (Lib.indexByte s.data.toList c)) ∧ w' = w := by
  have h := liteIndexByte_c s c w
  go_enter Tryd.func49, Tryd.ntmps49
  go_wp2_with (go_at_call 62; refine h.mono ?_; rintro e w' ⟨rfl, hw'⟩; rw [hw']; clear hw')
  go_ret
  exact ⟨rfl, rfl⟩
set_option maxHeartbeats 1000000 in
theorem liteIndex_c (s : ByteArray) (c : UInt8) (w : World) :
    Calls Tryd.prog 73 #[.string s, .string ⟨#[c]⟩] w fun e w' => e = .returned (.int .i64 (Lib.indexByte s.data.toList c)) ∧ w' = w := by
  have H := Lib.hid (liteIndexByte_c s c w)
  go_enter Tryd.func73, Tryd.ntmps73
  go_wp2_with (go_at_call 62; refine H.out.mono ?_; rintro e w' ⟨rfl, hw'⟩; rw [hw']; clear hw')
  · have h : ([c] == s.toList) = true := by assumption
    go_ret
    refine ⟨?_, rfl⟩
    have e : s.data.toList = [c] := by rw [← Lib.toList_data]; exact (beq_iff_eq.1 h).symm
    rw [e]
    simp [Lib.indexByte]
  · go_ret
    exact ⟨rfl, rfl⟩
def notC (c : UInt8) : UInt8 → Bool := fun x => decide (x ≠ c)
/-- A text parted at the first byte c. -/
def cutB (c : UInt8) (s : List UInt8) : List UInt8 := s.takeWhile (notC c)
def cutA (c : UInt8) (s : List UInt8) : List UInt8 := (s.dropWhile (notC c)).drop 1
def cutH (c : UInt8) (s : List UInt8) : Bool := !(s.dropWhile (notC c)).isEmpty
set_option maxHeartbeats 2000000 in
theorem liteCut_c (s : ByteArray) (c : UInt8) (w : World) (hs : s.size ≤ 2097152) :
    Calls Tryd.prog 63 #[.string s, .string ⟨#[c]⟩] w fun e w' => e = .returned (.tuple #[.string ⟨(cutB c s.data.toList).toArray⟩, .string ⟨(cutA c s.data.toList).toArray⟩, .bool (cutH c s.data.toList)]) ∧ Below w.heap.size w w' := by
  have h := liteIndex_c s c w
  have h2 := indexByte_tw s.data.toList c
  have hsz : (⟨#[c]⟩ : ByteArray).size = 1 := rfl
  have hlen : s.data.toList.length = s.size := rfl
  have hdw := drop_takeWhile (notC c) s.data.toList
  rcases h2 with ⟨e1, e2⟩ | ⟨e1, e2⟩
  · have hB : (⟨(cutB c s.data.toList).toArray⟩ : ByteArray) = s := by
      have : s.data.toList.takeWhile (notC c) = s.data.toList := by
        have hp := List.takeWhile_prefix (l := s.data.toList) (notC c)
        exact hp.eq_of_length e2
      unfold cutB; rw [this]
    have hD : s.data.toList.dropWhile (notC c) = [] := by
      rw [← hdw]; exact List.drop_eq_nil_of_le (by show _ ≤ (s.data.toList.takeWhile (fun x => decide (x ≠ c))).length; omega)
    have hA : (⟨(cutA c s.data.toList).toArray⟩ : ByteArray) = ⟨#[]⟩ := by unfold cutA; rw [hD]; rfl
    have hH : cutH c s.data.toList = false := by unfold cutH; rw [hD]; rfl
    rw [hB, hA, hH]
    rw [e1] at h
    clear hB hD hA hH hdw e1 e2
    go_enter Tryd.func63, Tryd.ntmps63
    go_wp2_with (go_at_call 73; refine h.mono ?_; rintro e w' ⟨rfl, hw'⟩; rw [hw']; clear hw')
    go_ret3
    exact ⟨rfl, Below.refl _ _⟩
  · obtain ⟨m, hm⟩ : ∃ m, (s.data.toList.takeWhile (fun x => decide (x ≠ c))).length = m := ⟨_, rfl⟩
    have hm2 : (s.data.toList.takeWhile (notC c)).length = m := hm
    rw [hm] at e1 e2
    have hB : (⟨(cutB c s.data.toList).toArray⟩ : ByteArray) = s.extract 0 m := by
      rw [ext_take]
      have hp := List.takeWhile_prefix (l := s.data.toList) (notC c)
      have := List.prefix_iff_eq_take.1 hp
      unfold cutB
      rw [hm2] at this
      rw [← this]
    have hD : s.data.toList.dropWhile (notC c) = s.data.toList.drop m := by rw [← hdw, hm2]
    have hA : (⟨(cutA c s.data.toList).toArray⟩ : ByteArray) = s.extract (m + 1) s.size := by
      rw [ext_drop]; unfold cutA; rw [hD, List.drop_drop]
    have hH : cutH c s.data.toList = true := by
      unfold cutH; rw [hD]
      have : 0 < (s.data.toList.drop m).length := by rw [List.length_drop]; omega
      cases hh : s.data.toList.drop m with
      | nil => rw [hh] at this; simp at this
      | cons a b => rfl
    rw [hB, hA, hH]
    rw [e1] at h
    rw [hlen] at e2
    clear hB hD hA hH hdw e1 hm hm2
    have hw1 : IntKind.i64.wrap ((m : Int) + 1) = (m : Int) + 1 := IntWalk.i64_in _ (by omega)
    have hs1 : (m : Int) + 1 ≤ (s.size : Int) := by omega
    go_enter Tryd.func63, Tryd.ntmps63
    go_wp2_with (go_at_call 73; refine h.mono ?_; rintro e w' ⟨rfl, hw'⟩; rw [hw']; clear hw')
    go_region
    all_goals
      go_wp2_with fail
      go_ret3
      exact ⟨by first | rfl | simp, (Below.refl _ _).drew⟩
theorem cut_c (s : ByteArray) (c : UInt8) (w : World) (hs : s.size ≤ 2097152) :
    Calls Tryd.prog 50 #[.string s, .string ⟨#[c]⟩] w fun e w' => e = .returned (.tuple #[.string ⟨(cutB c s.data.toList).toArray⟩, .string ⟨(cutA c s.data.toList).toArray⟩, .bool (cutH c s.data.toList)]) ∧ Below w.heap.size w w' := by
  have h := liteCut_c s c w hs
  go_enter Tryd.func50, Tryd.ntmps50
  go_wp2_with fail
  refine h.mono ?_
  rintro e w' ⟨rfl, hb⟩
  go_wp2_with fail
  go_ret3
  exact ⟨rfl, hb⟩
end Go.Proofs.YtdgnbcbcfgfkmaaDoor
