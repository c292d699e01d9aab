/- A file is opened that is not there: of the chapter's examples. -/
import Derived.Deep.CutRange
import Derived.Deep.DeepCutAuto
import Derived.Test.YtblaikdpnngkhaaGreatDoorKOpen
namespace Go.Proofs.YtblaikdpnngkhaaGreatDoor
open Go.RowKit Go.Shelf Go.Maps

set_option maxRecDepth 100000 in
set_option maxHeartbeats 2000000 in
theorem reach_f (k th w0 t rt rm fm : Nat) (fs : Value) (used now last m : Int) (w : World) (hm : w.cell? ⟨0, 0, none⟩ = some (.int .i64 m)) (h : Tr0 w0 w t rt rm fm) (hK : KnAt w k (ptr t) fs used now th last) :
    Calls Tryz.prog 107 #[ptr k, .string sE, .string p_f, .int .i64 2] w fun r w' => ∃ n md, r = .returned (.tuple #[st2, .int .i64 0]) ∧ Mf w w' t rt fm n md now ∧ Turn [t, fm, rm] w w' := by
  obtain ⟨w1, hw1⟩ : ∃ w1, w1 = w.alloc (.cells #[.int .i64 0, .bool false, .int .i64 0, .int .i64 0, .int .i64 0, .int .i64 0] 60) := ⟨_, rfl⟩
  have hU1 : Turn [] w w1 := by rw [hw1]; exact Turn.alloc w _
  have hP1 : StAt w1 w.heap.size (.int .i64 0) (.bool false) (.int .i64 0) (.int .i64 0) (.int .i64 0) (.int .i64 0) := by rw [hw1]; exact al_new _ _ rfl
  have hK1 : KnAt w1 k (ptr t) fs used now th last := hU1.ob hK (by simp)
  have hT1 := h.turn hU1 (by simp)
  have hm1 := hU1.cell hm (by simp)
  have hz1 : w1.heap.size = w.heap.size + 1 := by rw [hw1]; simp
  have hlts : t < w.heap.size ∧ fm < w.heap.size ∧ rm < w.heap.size := ⟨h.hT.lt, h.hF.lt, h.hM.lt⟩
  have c0 := h_cell hK1 0 rfl
  have hst := stat_f w0 t rt rm fm m w1 hm1 hT1
  have H1 := Lib.hid (And.intro hU1 (And.intro hP1 (And.intro hK1 (And.intro hT1 hm1))))
  clear hU1 hP1 hK1 hT1 hm1 hm h hK
  go_enter Tryz.func107, Tryz.ntmps107
  go_upto_region 1 with fail
  rw [← hw1]
  clear hw1
  go_wp2_with fail
  refine hst.mono ?_
  rintro r w2 ⟨rfl, hB2⟩
  obtain ⟨hU1, hP1, hK1, hT1, hm1⟩ := H1.out
  obtain ⟨w3, hw3⟩ : ∃ w3, w3 = w2.alloc (.cells #[.int .i64 0, .bool false, .int .i64 0, .int .i64 0, .int .i64 0, .int .i64 0] 60) := ⟨_, rfl⟩
  have hU13 : Turn [] w1 w3 := by rw [hw3]; exact (Turn.below hB2).trans (Turn.alloc w2 _)
  have hmk := makeFile_f k th w0 t rt rm fm fs used now last m w3 (hU13.cell hm1 (by simp)) (hT1.turn hU13 (by simp)) (hU13.ob hK1 (by simp))
  have H3 := Lib.hid (And.intro (hU1.trans hU13) (hU13.ob hP1 (by simp)))
  have hz3 : w1.heap.size ≤ w3.heap.size := hU13.size
  clear H1 hU1 hP1 hK1 hT1 hm1 hU13 hst hB2 c0
  go_upto_region 4 with fail
  rw [← hw3]
  clear hw3
  go_wp2_with fail
  refine hmk.mono ?_
  rintro r w4 ⟨n, md, rfl, hMf, hU4⟩
  obtain ⟨hUw, hP3⟩ := H3.out
  have hP2 : StAt w4 w.heap.size _ _ _ _ _ _ := hU4.ob hP3 (by simp; omega)
  have s0 : w4.cell? ⟨w.heap.size, 0, none⟩ = some (.int .i64 0) := by simpa using hP2.c 0
  have s1 : w4.cell? ⟨w.heap.size, 1, none⟩ = some (.bool false) := by simpa using hP2.c 1
  have s2 : w4.cell? ⟨w.heap.size, 2, none⟩ = some (.int .i64 0) := by simpa using hP2.c 2
  have s3 : w4.cell? ⟨w.heap.size, 3, none⟩ = some (.int .i64 0) := by simpa using hP2.c 3
  have s4 : w4.cell? ⟨w.heap.size, 4, none⟩ = some (.int .i64 0) := by simpa using hP2.c 4
  have s5 : w4.cell? ⟨w.heap.size, 5, none⟩ = some (.int .i64 0) := by simpa using hP2.c 5
  have z0 := hP2.fz 0
  have z1 := hP2.fz 1
  have z2 := hP2.fz 2
  have z3 := hP2.fz 3
  have z4 := hP2.fz 4
  have z5 := hP2.fz 5
  have HX := Lib.hid (And.intro hMf (And.intro hU4 hUw))
  clear hMf hU4 hUw hP3 H3 hmk
  go_wp2_with fail
  refine bodyPost_ret (results_s rfl rfl (hP2.set _ _ _ _ _ _) rfl) rfl ?_
  obtain ⟨hMf, hU4, hUw⟩ := HX.out
  obtain ⟨w5, hU5, hw5⟩ := st_turn (S := [w.heap.size]) w4 w.heap.size (.int .i64 2) (.bool false) (.int .i64 0) (.int .i64 0) (.int .i64 0) (.int .i64 0) (by simp)
  rw [← hw5]
  have hn0 := hMf.n0
  have hM2 : Mf w w4 t rt fm n md now := ⟨by omega, hMf.hn, hMf.hF, hMf.hT⟩
  refine ⟨n, md, rfl, hM2.turn hU5 (by simp; omega), ?_⟩
  exact ⟨hU5.os.trans (hU4.os.trans hUw.os), hU5.tape.trans (hU4.tape.trans hUw.tape), hU5.output.trans (hU4.output.trans hUw.output), Nat.le_trans hUw.size (Nat.le_trans hU4.size hU5.size), fun x hx hs => (hU5.block x (Nat.lt_of_lt_of_le hx (Nat.le_trans hUw.size hU4.size)) (by simp; omega)).trans ((hU4.block x (Nat.lt_of_lt_of_le hx hUw.size) hs).trans (hUw.block x hx (by simp)))⟩
end Go.Proofs.YtblaikdpnngkhaaGreatDoor
