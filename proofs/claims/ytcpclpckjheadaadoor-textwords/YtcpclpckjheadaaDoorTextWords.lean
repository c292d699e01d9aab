/- The walk of the law on what is said of errors. -/
import Derived.Test.YtcpclpckjheadaaDoorAwake
import Derived.Deep.RegionWith
namespace Go.Proofs.YtcpclpckjheadaaDoor
open Go.RowKit

/-- In every later world the slice is turned into this string. -/
def Tells (v : Value) (s : ByteArray) (W : World) : Prop := ∀ W', Below W.heap.size W W' → (convert 22 9 v).run Tryd.prog W' = .ok (.string s) W'

theorem tells_bytesWorld (w : World) (s : ByteArray) (cap : Nat) : Tells (.slice (some ⟨w.heap.size, 0, none⟩) s.size cap) s (Lib.bytesWorld w 5 s) := fun W' hb => by
  have h := run_convert_bytes_back (P := Tryd.prog) W' 22 9 5 ⟨w.heap.size, 0, none⟩ cap s.data.toList Tryd.underlying22 Tryd.underlying5 Tryd.underlying9 (fun j hj => by
    have hj' : j < s.size := hj
    rw [Lib.add_plain, Nat.zero_add, hb.cell (p := ⟨w.heap.size, j, none⟩) (by rw [Lib.bytesWorld_size]; simp), Lib.bytesWorld_cell w 5 s j hj']
    simp [List.getD, hj'])
  exact h

theorem wdB0 : wdB 0 = ⟨#[101, 114, 114, 111, 114]⟩ := by kernel_rfl
theorem refWord_any (e : Int) (w : World) (hL : ∀ i, i < 27 → w.cell? ⟨1, i, none⟩ = some (.string (wdB i))) :
    Calls Tryd.prog 20 #[.int .i64 e] w fun r w' => r = .returned (.string (wordOf e)) ∧ w' = w := by
  by_cases h : 1 ≤ e ∧ e < 27
  · obtain ⟨u, rfl⟩ : ∃ u : Nat, e = u := ⟨e.toNat, by omega⟩
    have := refWord_in wdB u w hL (by omega) (by omega)
    rw [wordOf, if_pos (by omega), Int.toNat_natCast]
    exact this
  · have e0 : wordOf e = ⟨#[101, 114, 114, 111, 114]⟩ := by
      rw [wordOf]
      split
      · have : e = 0 := by omega
        subst this
        exact wdB0
      · exact wdB0
    rw [e0]
    exact refWord_out e w (by omega)

theorem ba_ext {a b : ByteArray} (h : a.data.toList = b.data.toList) : a = b := by
  cases a with | mk d => cases b with | mk d' => cases d with | mk l => cases d' with | mk l' => cases h; rfl

/-- The line of an error as a string. -/
def diagB (tag op : ByteArray) (e : Int) : ByteArray := ⟨(diagL tag.data.toList op.data.toList (wordOf e).data.toList).toArray⟩

theorem diagC (tag op : ByteArray) (e : Int) (w : World) (hL : ∀ i, i < 27 → w.cell? ⟨0, i, none⟩ = some (.string (wdB i))) (ht : tag.size ≤ 140737488355328) (ho : op.size ≤ 140737488355328) :
    Calls Tryd.prog 21 #[.string tag, .string op, .int .i64 e] w fun r w' => ∃ n cap, r = .returned (.slice (some ⟨w.heap.size, 0, none⟩) n cap) ∧ Below w.heap.size w w' ∧ Tells (.slice (some ⟨w.heap.size, 0, none⟩) n cap) (diagB tag op e) w' := by
  refine (diag_any (wordOf e) tag op e w (word_any e w hL) ht ho (wordOf_size e)).mono ?_
  rintro r w' ⟨s, cap, rfl, rfl, hs⟩
  obtain rfl : s = diagB tag op e := ba_ext hs
  exact ⟨_, cap, rfl, Joins.below_bytesWorld _ _ _ _ (Nat.le_refl _), tells_bytesWorld _ _ _⟩
theorem refDiagC (tag op : ByteArray) (e : Int) (w : World) (hL : ∀ i, i < 27 → w.cell? ⟨1, i, none⟩ = some (.string (wdB i))) (ht : tag.size ≤ 140737488355328) (ho : op.size ≤ 140737488355328) :
    Calls Tryd.prog 22 #[.string tag, .string op, .int .i64 e] w fun r w' => ∃ n cap, r = .returned (.slice (some ⟨w.heap.size, 0, none⟩) n cap) ∧ Below w.heap.size w w' ∧ Tells (.slice (some ⟨w.heap.size, 0, none⟩) n cap) (diagB tag op e) w' := by
  refine (refDiag_any (wordOf e) tag op e w (refWord_any e w hL) ht ho (wordOf_size e)).mono ?_
  rintro r w' ⟨s, cap, rfl, rfl, hs⟩
  obtain rfl : s = diagB tag op e := ba_ext hs
  exact ⟨_, cap, rfl, Joins.below_bytesWorld _ _ _ _ (Nat.le_refl _), tells_bytesWorld _ _ _⟩

set_option maxHeartbeats 16000000 in
set_option maxRecDepth 100000 in
theorem textWords_any (tag op : ByteArray) (e : Int) (w : World) (hL : Laid w) (hR : ∀ i, i < 27 → w.cell? ⟨1, i, none⟩ = some (.string (wdB i))) (ht : tag.size ≤ 140737488355328) (ho : op.size ≤ 140737488355328) :
    Calls Tryd.prog 5 #[.string tag, .string op, .int .i64 e] w fun r w' => r = .returned (.bool true) ∧ Below w.heap.size w w' := by
  have HL := Lib.hid hL
  have HR := Lib.hid hR
  clear hL hR
  go_enter Tryd.func5, Tryd.ntmps5
  go_wp2_with fail
  refine (awake_any _ HL.out).mono ?_
  rintro r W ⟨rfl, hb⟩
  have hsz := HL.out.size
  have hzW : 5 ≤ W.heap.size := Nat.le_trans hsz hb.size
  have HL1 := Lib.hid (HL.out.below hb hsz)
  have HR1 : Hid (∀ i, i < 27 → W.cell? ⟨1, i, none⟩ = some (.string (wdB i))) := fun i hi => (hb.cell (p := ⟨1, i, none⟩) (show 1 < w.heap.size by omega)).trans (HR.out i hi)
  clear HL HR
  go_wp2_with fail
  go_region_with (first
    | (go_at_call 19; refine (word_any e _ (by exact HL1.out.wd)).mono ?_; rintro r W' ⟨rfl, rfl⟩)
    | (go_at_call 20; refine (refWord_any e _ (by exact HR1.out)).mono ?_; rintro r W' ⟨rfl, rfl⟩)
    | (go_at_call 21; refine (diagC tag op e _ (by exact HL1.out.wd) ht ho).mono ?_; rintro r W2 ⟨n2, c2, rfl, hb2, ht2⟩; have hcv2 : (convert 22 9 (.slice (some ⟨W.heap.size, 0, none⟩) n2 c2)).run Tryd.prog W2 = .ok (.string (diagB tag op e)) W2 := ht2 W2 (Below.refl _ _); have HT2 := Lib.hid ht2; clear ht2)
    | (go_at_call 22; refine (refDiagC tag op e _ (by exact fun i hi => (hb2.cell (p := ⟨1, i, none⟩) (show 1 < W.heap.size by omega)).trans (HR1.out i hi)) ht ho).mono ?_; rintro r W3 ⟨n3, c3, rfl, hb3, ht3⟩; have hcv3 := ht3 W3 (Below.refl _ _); have hcv3' : (convert 22 9 (.slice (some ⟨W.heap.size, 0, none⟩) n2 c2)).run Tryd.prog W3 = .ok (.string (diagB tag op e)) W3 := HT2.out W3 hb3; clear ht3))
  all_goals go_wp2
  all_goals go_ret
  all_goals exact ⟨rfl, hb.trans (((Below.refl _ _).drew.trans (hb2.mono hb.size)).trans (hb3.mono (Nat.le_trans hb.size hb2.size)))⟩
end Go.Proofs.YtcpclpckjheadaaDoor
