/- The contracts of what is said of errors, the program's and the document's. -/
import Derived.Test.YtcpclpckjheadaaDoorProg
import Derived.WalkKit
import Derived.WalkSpells
import Derived.Lib.Hide
import Derived.Lib.ConvBytes
import Derived.Lib.SmallJoins
namespace Go.Proofs.YtcpclpckjheadaaDoor
open Go.RowKit

set_option maxHeartbeats 400000 in
theorem word_in (wd : Nat → ByteArray) (e : Nat) (w : World) (hc : ∀ i, i < 27 → w.cell? ⟨0, i, none⟩ = some (.string (wd i))) (he : e < 27) :
    Calls Tryd.prog 19 #[.int .i64 e] w fun r w' => r = .returned (.string (wd e)) ∧ w' = w := by
  have h := hc e he
  clear hc
  go_enter Tryd.func19, Tryd.ntmps19
  go_wp2
  go_ret
  exact ⟨rfl, rfl⟩
set_option maxHeartbeats 400000 in
theorem word_out (wd : Nat → ByteArray) (e : Int) (w : World) (hc : ∀ i, i < 27 → w.cell? ⟨0, i, none⟩ = some (.string (wd i))) (he : e < 0 ∨ 27 ≤ e) :
    Calls Tryd.prog 19 #[.int .i64 e] w fun r w' => r = .returned (.string (wd 0)) ∧ w' = w := by
  have h := hc 0 (by omega)
  clear hc
  rcases he with he | he
  all_goals
    go_enter Tryd.func19, Tryd.ntmps19
    go_wp2
    go_ret
    exact ⟨rfl, rfl⟩
set_option maxHeartbeats 400000 in
theorem refWord_in (wd : Nat → ByteArray) (e : Nat) (w : World) (hc : ∀ i, i < 27 → w.cell? ⟨1, i, none⟩ = some (.string (wd i))) (h1 : 1 ≤ e) (he : e < 27) :
    Calls Tryd.prog 20 #[.int .i64 e] w fun r w' => r = .returned (.string (wd e)) ∧ w' = w := by
  have h := hc e he
  clear hc
  go_enter Tryd.func20, Tryd.ntmps20
  go_wp2
  go_ret
  exact ⟨rfl, rfl⟩
set_option maxHeartbeats 400000 in
theorem refWord_out (e : Int) (w : World) (he : e < 1 ∨ 27 ≤ e) :
    Calls Tryd.prog 20 #[.int .i64 e] w fun r w' => r = .returned (.string ⟨#[101, 114, 114, 111, 114]⟩) ∧ w' = w := by
  rcases he with he | he
  all_goals
    go_enter Tryd.func20, Tryd.ntmps20
    go_wp2
    go_ret
    exact ⟨rfl, rfl⟩

theorem sl_of {a : Option Addr} {n m c : Nat} (h : n = m) : Ending.returned (.slice a m c) = .returned (.slice a n c) := by rw [h]

/-- The line that says an error. -/
def diagL (tag op wd : List UInt8) : List UInt8 := tag ++ ([58, 32] ++ ((if op.isEmpty then [] else op ++ [58, 32]) ++ (wd ++ [10])))

theorem toList_append (a b : ByteArray) : (a ++ b).data.toList = a.data.toList ++ b.data.toList := by
  simp

theorem diagL_some (tag op wd : ByteArray) (h : op.toList.isEmpty = false) : (tag ++ ⟨#[58, 32]⟩ ++ (op ++ ⟨#[58, 32]⟩) ++ wd ++ ⟨#[10]⟩).data.toList = diagL tag.data.toList op.data.toList wd.data.toList := by
  rw [ByteArray.toList_eq] at h
  simp only [toList_append, diagL, h, List.append_assoc, Bool.false_eq_true, if_false]
theorem diagL_some' (tag op wd : ByteArray) (h : op.toList.isEmpty = false) : (tag ++ ⟨#[58, 32]⟩ ++ op ++ ⟨#[58, 32]⟩ ++ wd ++ ⟨#[10]⟩).data.toList = diagL tag.data.toList op.data.toList wd.data.toList := by
  rw [ByteArray.toList_eq] at h
  simp only [toList_append, diagL, h, List.append_assoc, Bool.false_eq_true, if_false]
theorem diagL_none (tag op wd : ByteArray) (h : op.toList.isEmpty = true) : (tag ++ ⟨#[58, 32]⟩ ++ wd ++ ⟨#[10]⟩).data.toList = diagL tag.data.toList op.data.toList wd.data.toList := by
  rw [ByteArray.toList_eq] at h
  simp only [toList_append, diagL, h, List.append_assoc, if_true, List.nil_append]

theorem conv922 (s : ByteArray) (w : World) : (convert 9 22 (.string s)).run Tryd.prog w = .ok (.slice (some ⟨w.heap.size, 0, none⟩) s.size (grownCap w s.size 0 5)) (Lib.bytesWorld w 5 s) :=
  Lib.run_convert_string_bytes w 9 22 5 s Tryd.underlying9 Tryd.underlying22 Tryd.underlying5

set_option maxHeartbeats 400000 in
theorem diag_any (wd : ByteArray) (tag op : ByteArray) (e : Int) (w : World) (hw : Calls Tryd.prog 19 #[.int .i64 e] w fun r w' => r = .returned (.string wd) ∧ w' = w)
   (ht : tag.size ≤ 140737488355328) (ho : op.size ≤ 140737488355328) (hwd : wd.size ≤ 32) :
    Calls Tryd.prog 21 #[.string tag, .string op, .int .i64 e] w fun r w' => ∃ (s : ByteArray) (cap : Nat), r = .returned (.slice (some ⟨w.heap.size, 0, none⟩) s.size cap) ∧ w' = Lib.bytesWorld w 5 s ∧ s.data.toList = diagL tag.data.toList op.data.toList wd.data.toList := by
  have HW := Lib.hid hw
  have hcv := conv922
  clear hw
  by_cases hop : op.toList.isEmpty = true
  · have HD := Lib.hid (diagL_none tag op wd hop)
    go_enter Tryd.func21, Tryd.ntmps21
    go_wp2_with (go_at_call 19; refine HW.out.mono ?_; rintro e w' ⟨rfl, rfl⟩)
    go_ret
    exact ⟨_, _, sl_of (by simp only [ByteArray.size_append]; rfl), rfl, HD.out⟩
  · have hop' : op.toList.isEmpty = false := by simpa using hop
    clear hop
    have HD := Lib.hid (diagL_some tag op wd hop')
    go_enter Tryd.func21, Tryd.ntmps21
    go_wp2_with (go_at_call 19; refine HW.out.mono ?_; rintro e w' ⟨rfl, rfl⟩)
    go_ret
    exact ⟨_, _, sl_of (by simp only [ByteArray.size_append]; rfl), rfl, HD.out⟩
set_option maxHeartbeats 400000 in
theorem refDiag_any (wd : ByteArray) (tag op : ByteArray) (e : Int) (w : World) (hw : Calls Tryd.prog 20 #[.int .i64 e] w fun r w' => r = .returned (.string wd) ∧ w' = w)
   (ht : tag.size ≤ 140737488355328) (ho : op.size ≤ 140737488355328) (hwd : wd.size ≤ 32) :
    Calls Tryd.prog 22 #[.string tag, .string op, .int .i64 e] w fun r w' => ∃ (s : ByteArray) (cap : Nat), r = .returned (.slice (some ⟨w.heap.size, 0, none⟩) s.size cap) ∧ w' = Lib.bytesWorld w 5 s ∧ s.data.toList = diagL tag.data.toList op.data.toList wd.data.toList := by
  have HW := Lib.hid hw
  have hcv := conv922
  clear hw
  by_cases hop : op.toList.isEmpty = true
  · have HD := Lib.hid (diagL_none tag op wd hop)
    go_enter Tryd.func22, Tryd.ntmps22
    go_wp2_with (go_at_call 20; refine HW.out.mono ?_; rintro e w' ⟨rfl, rfl⟩)
    go_ret
    exact ⟨_, _, sl_of (by simp only [ByteArray.size_append]; rfl), rfl, HD.out⟩
  · have hop' : op.toList.isEmpty = false := by simpa using hop
    clear hop
    have HD := Lib.hid (diagL_some' tag op wd hop')
    go_enter Tryd.func22, Tryd.ntmps22
    go_wp2_with (go_at_call 20; refine HW.out.mono ?_; rintro e w' ⟨rfl, rfl⟩)
    go_ret
    exact ⟨_, _, sl_of (by simp only [ByteArray.size_append]; rfl), rfl, HD.out⟩
end Go.Proofs.YtcpclpckjheadaaDoor
