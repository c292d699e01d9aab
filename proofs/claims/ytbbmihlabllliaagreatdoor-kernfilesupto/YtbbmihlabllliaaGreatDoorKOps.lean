/- A pipe is made; things are put; transfers by a table. -/
import Derived.Test.YtbbmihlabllliaaGreatDoorKAdd
namespace Go.Proofs.YtbbmihlabllliaaGreatDoor
open Go.RowKit Go.Shelf Go.Maps

set_option maxRecDepth 100000 in
set_option maxHeartbeats 2000000 in
theorem pipe_c (k th N : Nat) (tr fs : Value) (used now last : Int) (D : DataW Value) (w : World) (hK : KnAt w k tr fs used now th last) (hM : w.ownsMap Tryz.prog 3 R th N D) (hN : N < 999999) (h0 : 0 ≤ last) (h1 : last < 4611686018427387903) :
    Calls Tryz.prog 11 #[ptr k] w fun r w' => ∃ p re we, r = .returned (.tuple #[.int .i64 (last + 1), .int .i64 (last + 1 + 1)]) ∧ w.heap.size ≤ p ∧ w.heap.size ≤ re ∧ w.heap.size ≤ we ∧ PpAt w' p (.slice none 0 0) re we ∧ ReAt w' re 0 p ∧ WeAt w' we 0 p ∧
      KnAt w' k tr fs used now th (last + 1 + 1) ∧ w'.ownsMap Tryz.prog 3 R th (N + 1 + 1) ((D.put (ik (last + 1)) (.held (iRe re))).put (ik (last + 1 + 1)) (.held (iWe we))) ∧ Turn [k, th] w w' := by
  have hkl := h_lt hK
  have hml := hM.lt
  obtain ⟨w3, hw3⟩ : ∃ w3, w3 = ((w.alloc (.cells #[.slice none 0 0, ptr (w.heap.size + 1), ptr (w.heap.size + 1 + 1)] 99)).alloc (.cells #[.int .i64 0, ptr w.heap.size] 103)).alloc (.cells #[.int .i64 0, ptr w.heap.size] 104) := ⟨_, rfl⟩
  have hK3 : KnAt w3 k tr fs used now th last := by rw [hw3]; exact al_old _ (al_old _ (al_old _ hK))
  have hM3 : w3.ownsMap Tryz.prog 3 R th N D := by rw [hw3]; exact ((hM.alloc _).alloc _).alloc _
  have hP3 : PpAt w3 w.heap.size (.slice none 0 0) (w.heap.size + 1) (w.heap.size + 1 + 1) := by rw [hw3]; exact al_old _ (al_old _ (al_new _ _ rfl))
  have hR3 : ReAt w3 (w.heap.size + 1) 0 w.heap.size := by rw [hw3]; exact al_old _ (al_new _ _ (by simp))
  have hW3 : WeAt w3 (w.heap.size + 1 + 1) 0 w.heap.size := by rw [hw3]; exact al_new _ _ (by simp)
  have hU3 : Turn [k, th] w w3 := by rw [hw3]; exact ((Turn.alloc _ _).trans (Turn.alloc _ _)).trans (Turn.alloc _ _)
  have hz3 := hU3.size
  have A1 := Lib.hid (add_c k th N tr fs (iRe (w.heap.size + 1)) used now last D w3 hK3 hM3 (by omega) h0 (by omega))
  have p13 := h_cell hP3 1 rfl
  have HH : Hid (∀ w4, Turn [k, th] w3 w4 → PpAt w4 w.heap.size (.slice none 0 0) (w.heap.size + 1) (w.heap.size + 1 + 1) ∧ ReAt w4 (w.heap.size + 1) 0 w.heap.size ∧ WeAt w4 (w.heap.size + 1 + 1) 0 w.heap.size) := fun w4 hU => ⟨hU.ob hP3 (by simp; omega), hU.ob hR3 (by simp; omega), hU.ob hW3 (by simp; omega)⟩
  have HU3 := Lib.hid hU3
  clear hK3 hM3 hP3 hR3 hW3 hU3 hK hM
  rw [hw3] at A1 p13
  go_enter Tryz.func11, Tryz.ntmps11
  go_wp2_with fail
  rw [hw3] at HU3 HH
  refine A1.out.mono ?_
  rintro r w4 ⟨rfl, hK4, hM4, hU4⟩
  obtain ⟨hP4, hR4, hW4⟩ := HH.out w4 hU4
  have p24 := h_cell hP4 2 rfl
  have A2 := Lib.hid (add_c k th (N + 1) tr fs (iWe (w.heap.size + 1 + 1)) used now (last + 1) _ w4 hK4 hM4 (by omega) (by omega) (by omega))
  clear hw3 A1 p13 hK4 hM4
  go_wp2_with fail
  refine A2.out.mono ?_
  rintro r w5 ⟨rfl, hK5, hM5, hU5⟩
  clear A2 p24
  go_wp2_with fail
  refine bodyPost_ret (results_tmp2 rfl _ _ _) rfl ?_
  exact ⟨w.heap.size, w.heap.size + 1, w.heap.size + 1 + 1, rfl, Nat.le_refl _, by omega, by omega, hU5.ob hP4 (by simp; omega), hU5.ob hR4 (by simp; omega), hU5.ob hW4 (by simp; omega), hK5, hM5, (HU3.out.trans hU4).trans hU5⟩

set_option maxRecDepth 100000 in
set_option maxHeartbeats 2000000 in
theorem put_any (t k fd th N : Nat) (hs : Array Value) (T : Nat) (e : Nat) (tr fs : Value) (used now last n : Int) (D : DataW Value) (Q : World → Prop) (w : World) (hT : TbAt w t k hs) (hK : KnAt w k tr fs used now th last) (hM : w.ownsMap Tryz.prog 3 R th N D) (hfd : fd < 16) (hn : (Lit.int .i64 n).wf = true)
    (hlk : lookT D (ik n) = .iface T (ptr e)) (hset : Calls Tryz.prog 49 #[ptr t, .int .i64 fd, .iface T (ptr e)] w fun r w' => (∃ v, r = .returned v) ∧ Q w') :
    Calls Tryz.prog 12 #[ptr t, .int .i64 fd, .int .i64 n] w fun r w' => r = .returned (.int .i64 0) ∧ Q w' := by
  have q0 := tb_kern hT
  have q4 := h_cell hK 4 rfl
  have hl := lookTI hM hn
  rw [hlk] at hl
  have h1 : (0 : Int) ≤ (fd : Int) := by omega
  have h2 : (fd : Int) < 16 := by omega
  have hne := nil_eq
  clear hT hK hM
  go_enter Tryz.func12, Tryz.ntmps12
  go_wp2_with (first
    | (go_at_call 48; go_in)
    | (go_at_call 49; refine hset.mono ?_; rintro r w2 ⟨⟨v, rfl⟩, hQ⟩))
  go_ret
  exact ⟨rfl, hQ⟩

set_option maxRecDepth 100000 in
set_option maxHeartbeats 2000000 in
theorem tread_c (t k fd : Nat) (hs : Array Value) (T e : Nat) (m : Int) (Q : Ending → World → Prop) (w : World) (hT : TbAt w t k hs) (hfd : fd < 16) (hx : hs[fd]? = some (.iface T (ptr e)))
    (hr : Calls Tryz.prog 52 #[ptr k, .iface T (ptr e), .int .i64 m] w fun r w' => ∃ v1 h, r = .returned (.tuple #[v1, .int .i64 h]) ∧ Q r w') :
    Calls Tryz.prog 14 #[ptr t, .int .i64 fd, .int .i64 m] w Q := by
  have q0 := tb_kern hT
  have ha := at_c t k fd hs _ w hT hfd hx
  have hne := nil_eq
  clear hT
  go_enter Tryz.func14, Tryz.ntmps14
  go_wp2_with (first
    | (go_at_call 50; refine ha.mono ?_; rintro r w2 ⟨rfl, hw2⟩; rw [hw2]; clear hw2)
    | (go_at_call 52; refine hr.mono ?_; rintro r w3 ⟨v1, h, rfl, hQ⟩))
  exact hQ

set_option maxRecDepth 100000 in
set_option maxHeartbeats 2000000 in
theorem twrite_c (t k fd : Nat) (hs : Array Value) (T e : Nat) (b : Value) (Q : Ending → World → Prop) (w : World) (hT : TbAt w t k hs) (hfd : fd < 16) (hx : hs[fd]? = some (.iface T (ptr e)))
    (hr : Calls Tryz.prog 51 #[ptr k, .iface T (ptr e), b] w fun r w' => ∃ (v1 h : Int), r = .returned (.tuple #[.int .i64 v1, .int .i64 h]) ∧ Q r w') :
    Calls Tryz.prog 13 #[ptr t, .int .i64 fd, b] w Q := by
  have q0 := tb_kern hT
  have ha := at_c t k fd hs _ w hT hfd hx
  have hne := nil_eq
  clear hT
  go_enter Tryz.func13, Tryz.ntmps13
  go_wp2_with (first
    | (go_at_call 50; refine ha.mono ?_; rintro r w2 ⟨rfl, hw2⟩; rw [hw2]; clear hw2)
    | (go_at_call 51; refine hr.mono ?_; rintro r w3 ⟨v1, h, rfl, hQ⟩))
  exact hQ

set_option maxRecDepth 100000 in
set_option maxHeartbeats 2000000 in
/-- The end to write to is closed by the one who has it. -/
theorem leave_we (k e : Nat) (c : Int) (w : World) (hc : w.cell? ⟨e, 0, none⟩ = some (.int .i64 c)) (hz : w.frozen? ⟨e, 0, none⟩ = false) (h0 : 0 ≤ c) (h1 : c < 4611686018427387904) :
    Calls Tryz.prog 100 #[ptr k, iWe e] w fun r w' => (∃ v, r = .returned v) ∧ w' = w.setCell ⟨e, 0, none⟩ (.int .i64 (c - 1)) := by
  have hn := nil_eq
  have hl := lose_c e c w hc hz h0 h1
  have hm := m_lose_we
  have ht := ta_we_fi
  by_cases hc1 : (c - 1 == 0) = true
  · rw [hc1] at hl
    go_enter Tryz.func100, Tryz.ntmps100
    go_wp2_with (go_at_call 235; refine hl.mono ?_; rintro r w2 ⟨rfl, hw2⟩; rw [hw2]; clear hw2)
    go_end0
    exact ⟨⟨_, rfl⟩, rfl⟩
  · have hc2 : (c - 1 == 0) = false := by simpa using hc1
    rw [hc2] at hl
    go_enter Tryz.func100, Tryz.ntmps100
    go_wp2_with (go_at_call 235; refine hl.mono ?_; rintro r w2 ⟨rfl, hw2⟩; rw [hw2]; clear hw2)
    refine bodyPost_ret (results_none rfl _ _ _) rfl ?_
    exact ⟨⟨_, rfl⟩, rfl⟩

set_option maxRecDepth 100000 in
set_option maxHeartbeats 2000000 in
theorem close_any (t k fd : Nat) (hs : Array Value) (T e : Nat) (Q : World → Prop) (w : World) (hT : TbAt w t k hs) (hfd : fd < 16) (hx : hs[fd]? = some (.iface T (ptr e)))
    (hl : Calls Tryz.prog 100 #[ptr k, .iface T (ptr e)] (w.setCell ⟨t, 1 + fd, none⟩ .nilIface) fun r w' => (∃ v, r = .returned v) ∧ Q w') :
    Calls Tryz.prog 15 #[ptr t, .int .i64 fd] w fun r w' => r = .returned (.int .i64 0) ∧ Q w' := by
  have hT2 := tb_set hT fd .nilIface
  have q0 := tb_kern hT2
  have q1 := tb_cell hT fd hx
  have z1 := h_fz hT (1 + fd)
  have q3 : 0 ≤ (fd : Int) ∧ (fd : Int) < 16 := by omega
  have ha := at_c t k fd hs _ w hT hfd hx
  have hne := nil_eq
  clear hT hT2
  go_enter Tryz.func15, Tryz.ntmps15
  go_wp2_with (first
    | (go_at_call 50; refine ha.mono ?_; rintro r w2 ⟨rfl, hw2⟩; rw [hw2]; clear hw2)
    | (go_at_call 53; go_in)
    | (go_at_call 100; refine hl.mono ?_; rintro r w3 ⟨⟨v, rfl⟩, hQ⟩))
  go_end0
  go_wp2
  go_ret
  exact ⟨rfl, hQ⟩
end Go.Proofs.YtbbmihlabllliaaGreatDoor
