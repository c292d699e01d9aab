/- Tables: what a descriptor has, and what it is given. -/
import Derived.Test.YtbbmihlabllliaaGreatDoorKPipe
namespace Go.Proofs.YtbbmihlabllliaaGreatDoor
open Go.RowKit Go.Shelf Go.Maps

set_option maxHeartbeats 1000000 in
theorem at_c (t k fd : Nat) (hs : Array Value) (x : Value) (w : World) (hT : TbAt w t k hs) (hfd : fd < 16) (hx : hs[fd]? = some x) :
    Calls Tryz.prog 50 #[ptr t, .int .i64 fd] w fun e w' => e = .returned x ∧ w' = w := by
  have c := tb_cell hT fd hx
  have h1 : (0 : Int) ≤ (fd : Int) := by omega
  have h2 : (fd : Int) < 16 := by omega
  have h3 : 0 ≤ (fd : Int) ∧ (fd : Int) < 16 := ⟨h1, h2⟩
  clear hT
  go_enter Tryz.func50, Tryz.ntmps50
  go_wp2
  go_ret
  exact ⟨rfl, rfl⟩

set_option maxHeartbeats 1000000 in
theorem gain_c (e : Nat) (c : Int) (w : World) (hc : w.cell? ⟨e, 0, none⟩ = some (.int .i64 c)) (hz : w.frozen? ⟨e, 0, none⟩ = false) (h0 : 0 ≤ c) (h1 : c < 4611686018427387904) :
    Calls Tryz.prog 234 #[ptr e] w fun r w' => (∃ v, r = .returned v) ∧ w' = w.setCell ⟨e, 0, none⟩ (.int .i64 (c + 1)) := by
  go_enter Tryz.func234, Tryz.ntmps234
  go_wp2
  go_end0
  exact ⟨⟨_, rfl⟩, rfl⟩
set_option maxHeartbeats 1000000 in
theorem lose_c (e : Nat) (c : Int) (w : World) (hc : w.cell? ⟨e, 0, none⟩ = some (.int .i64 c)) (hz : w.frozen? ⟨e, 0, none⟩ = false) (h0 : 0 ≤ c) (h1 : c < 4611686018427387904) :
    Calls Tryz.prog 235 #[ptr e] w fun r w' => r = .returned (.bool (c - 1 == 0)) ∧ w' = w.setCell ⟨e, 0, none⟩ (.int .i64 (c - 1)) := by
  go_enter Tryz.func235, Tryz.ntmps235
  go_wp2
  go_ret
  exact ⟨rfl, rfl⟩

theorem m_gain_re (e : Nat) (w : World) : (method 404 96 (ptr e) "toolchest/kern.gain").run Tryz.prog w = .ok (234, ptr e) w := by kernel_rfl
theorem m_lose_re (e : Nat) (w : World) : (method 404 96 (ptr e) "toolchest/kern.lose").run Tryz.prog w = .ok (235, ptr e) w := by kernel_rfl
theorem m_gain_we (e : Nat) (w : World) : (method 404 97 (ptr e) "toolchest/kern.gain").run Tryz.prog w = .ok (234, ptr e) w := by kernel_rfl
theorem m_lose_we (e : Nat) (w : World) : (method 404 97 (ptr e) "toolchest/kern.lose").run Tryz.prog w = .ok (235, ptr e) w := by kernel_rfl
theorem m_gain_so (e : Nat) (w : World) : (method 404 135 (ptr e) "toolchest/kern.gain").run Tryz.prog w = .ok (234, ptr e) w := by kernel_rfl
theorem m_lose_so (e : Nat) (w : World) : (method 404 135 (ptr e) "toolchest/kern.lose").run Tryz.prog w = .ok (235, ptr e) w := by kernel_rfl
theorem m_gain_fi (e : Nat) (w : World) : (method 404 191 (ptr e) "toolchest/kern.gain").run Tryz.prog w = .ok (234, ptr e) w := by kernel_rfl
theorem m_lose_fi (e : Nat) (w : World) : (method 404 191 (ptr e) "toolchest/kern.lose").run Tryz.prog w = .ok (235, ptr e) w := by kernel_rfl

set_option maxHeartbeats 1000000 in
theorem leave_nil (k : Nat) (w : World) : Calls Tryz.prog 100 #[ptr k, .nilIface] w fun r w' => (∃ v, r = .returned v) ∧ w' = w := by
  have hn := nil_nil
  go_enter Tryz.func100, Tryz.ntmps100
  go_wp2
  refine bodyPost_ret (results_none rfl _ _ _) rfl ?_
  exact ⟨⟨_, rfl⟩, rfl⟩

set_option maxRecDepth 100000 in
set_option maxHeartbeats 1000000 in
theorem set_re (t k fd e : Nat) (c : Int) (hs : Array Value) (w : World) (hT : TbAt w t k hs) (hfd : fd < 16) (hx : hs[fd]? = some .nilIface) (hc : w.cell? ⟨e, 0, none⟩ = some (.int .i64 c)) (hz : w.frozen? ⟨e, 0, none⟩ = false) (h0 : 0 ≤ c) (h1 : c < 4611686018427387904) (hne : t ≠ e) :
    Calls Tryz.prog 49 #[ptr t, .int .i64 fd, iRe e] w fun r w' => (∃ v, r = .returned v) ∧ w' = (w.setCell ⟨e, 0, none⟩ (.int .i64 (c + 1))).setCell ⟨t, 1 + fd, none⟩ (iRe e) := by
  have q1 := tb_cell hT fd hx
  have q3 : 0 ≤ (fd : Int) ∧ (fd : Int) < 16 := by omega
  have hT2 : TbAt (w.setCell ⟨e, 0, none⟩ (.int .i64 (c + 1))) t k hs := s_other hT hne
  have q4 := tb_cell hT2 fd hx
  have q5 := h_fz hT2 (1 + fd)
  have hT3 := tb_set hT2 fd (iRe e)
  have q6 := tb_kern hT3
  have hg := gain_c e c w hc hz h0 h1
  have hmm := m_gain_re
  clear hT hT2 hT3
  go_enter Tryz.func49, Tryz.ntmps49
  go_wp2_with (first
    | (go_at_call 234; refine hg.mono ?_; rintro r w2 ⟨⟨v, rfl⟩, hw2⟩; rw [hw2]; clear hw2)
    | (go_at_call 100; refine (leave_nil k _).mono ?_; rintro r w3 ⟨⟨v, rfl⟩, hw3⟩; rw [hw3]; clear hw3))
  go_end0
  exact ⟨⟨_, rfl⟩, rfl⟩

set_option maxRecDepth 100000 in
set_option maxHeartbeats 1000000 in
theorem set_we (t k fd e : Nat) (c : Int) (hs : Array Value) (w : World) (hT : TbAt w t k hs) (hfd : fd < 16) (hx : hs[fd]? = some .nilIface) (hc : w.cell? ⟨e, 0, none⟩ = some (.int .i64 c)) (hz : w.frozen? ⟨e, 0, none⟩ = false) (h0 : 0 ≤ c) (h1 : c < 4611686018427387904) (hne : t ≠ e) :
    Calls Tryz.prog 49 #[ptr t, .int .i64 fd, iWe e] w fun r w' => (∃ v, r = .returned v) ∧ w' = (w.setCell ⟨e, 0, none⟩ (.int .i64 (c + 1))).setCell ⟨t, 1 + fd, none⟩ (iWe e) := by
  have q1 := tb_cell hT fd hx
  have q3 : 0 ≤ (fd : Int) ∧ (fd : Int) < 16 := by omega
  have hT2 : TbAt (w.setCell ⟨e, 0, none⟩ (.int .i64 (c + 1))) t k hs := s_other hT hne
  have q4 := tb_cell hT2 fd hx
  have q5 := h_fz hT2 (1 + fd)
  have hT3 := tb_set hT2 fd (iWe e)
  have q6 := tb_kern hT3
  have hg := gain_c e c w hc hz h0 h1
  have hmm := m_gain_we
  clear hT hT2 hT3
  go_enter Tryz.func49, Tryz.ntmps49
  go_wp2_with (first
    | (go_at_call 234; refine hg.mono ?_; rintro r w2 ⟨⟨v, rfl⟩, hw2⟩; rw [hw2]; clear hw2)
    | (go_at_call 100; refine (leave_nil k _).mono ?_; rintro r w3 ⟨⟨v, rfl⟩, hw3⟩; rw [hw3]; clear hw3))
  go_end0
  exact ⟨⟨_, rfl⟩, rfl⟩

set_option maxRecDepth 100000 in
set_option maxHeartbeats 1000000 in
theorem set_so (t k fd e : Nat) (c : Int) (hs : Array Value) (w : World) (hT : TbAt w t k hs) (hfd : fd < 16) (hx : hs[fd]? = some .nilIface) (hc : w.cell? ⟨e, 0, none⟩ = some (.int .i64 c)) (hz : w.frozen? ⟨e, 0, none⟩ = false) (h0 : 0 ≤ c) (h1 : c < 4611686018427387904) (hne : t ≠ e) :
    Calls Tryz.prog 49 #[ptr t, .int .i64 fd, iSo e] w fun r w' => (∃ v, r = .returned v) ∧ w' = (w.setCell ⟨e, 0, none⟩ (.int .i64 (c + 1))).setCell ⟨t, 1 + fd, none⟩ (iSo e) := by
  have q1 := tb_cell hT fd hx
  have q3 : 0 ≤ (fd : Int) ∧ (fd : Int) < 16 := by omega
  have hT2 : TbAt (w.setCell ⟨e, 0, none⟩ (.int .i64 (c + 1))) t k hs := s_other hT hne
  have q4 := tb_cell hT2 fd hx
  have q5 := h_fz hT2 (1 + fd)
  have hT3 := tb_set hT2 fd (iSo e)
  have q6 := tb_kern hT3
  have hg := gain_c e c w hc hz h0 h1
  have hmm := m_gain_so
  clear hT hT2 hT3
  go_enter Tryz.func49, Tryz.ntmps49
  go_wp2_with (first
    | (go_at_call 234; refine hg.mono ?_; rintro r w2 ⟨⟨v, rfl⟩, hw2⟩; rw [hw2]; clear hw2)
    | (go_at_call 100; refine (leave_nil k _).mono ?_; rintro r w3 ⟨⟨v, rfl⟩, hw3⟩; rw [hw3]; clear hw3))
  go_end0
  exact ⟨⟨_, rfl⟩, rfl⟩

set_option maxRecDepth 100000 in
set_option maxHeartbeats 1000000 in
theorem set_fi (t k fd e : Nat) (c : Int) (hs : Array Value) (w : World) (hT : TbAt w t k hs) (hfd : fd < 16) (hx : hs[fd]? = some .nilIface) (hc : w.cell? ⟨e, 0, none⟩ = some (.int .i64 c)) (hz : w.frozen? ⟨e, 0, none⟩ = false) (h0 : 0 ≤ c) (h1 : c < 4611686018427387904) (hne : t ≠ e) :
    Calls Tryz.prog 49 #[ptr t, .int .i64 fd, iFi e] w fun r w' => (∃ v, r = .returned v) ∧ w' = (w.setCell ⟨e, 0, none⟩ (.int .i64 (c + 1))).setCell ⟨t, 1 + fd, none⟩ (iFi e) := by
  have q1 := tb_cell hT fd hx
  have q3 : 0 ≤ (fd : Int) ∧ (fd : Int) < 16 := by omega
  have hT2 : TbAt (w.setCell ⟨e, 0, none⟩ (.int .i64 (c + 1))) t k hs := s_other hT hne
  have q4 := tb_cell hT2 fd hx
  have q5 := h_fz hT2 (1 + fd)
  have hT3 := tb_set hT2 fd (iFi e)
  have q6 := tb_kern hT3
  have hg := gain_c e c w hc hz h0 h1
  have hmm := m_gain_fi
  clear hT hT2 hT3
  go_enter Tryz.func49, Tryz.ntmps49
  go_wp2_with (first
    | (go_at_call 234; refine hg.mono ?_; rintro r w2 ⟨⟨v, rfl⟩, hw2⟩; rw [hw2]; clear hw2)
    | (go_at_call 100; refine (leave_nil k _).mono ?_; rintro r w3 ⟨⟨v, rfl⟩, hw3⟩; rw [hw3]; clear hw3))
  go_end0
  exact ⟨⟨_, rfl⟩, rfl⟩
end Go.Proofs.YtbbmihlabllliaaGreatDoor
