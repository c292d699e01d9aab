/- What keeps a transfer from being attempted. -/
import Derived.Test.YtbbmihlabllliaaGreatDoorKBefall
namespace Go.Proofs.YtbbmihlabllliaaGreatDoor
open Go.RowKit Go.Maps

set_option maxRecDepth 100000 in
set_option maxHeartbeats 4000000 in
theorem mayRead_again (re we p : Nat) (a : Option Addr) (cap : Nat) (rc wc most : Int) (w : World) (hR : ReAt w re rc p) (hP : PpAt w p (.slice a 0 cap) re we) (hW : WeAt w we wc p) (hm : 1 ≤ most) (hc : 0 < wc) :
    Calls Tryz.prog 105 #[iRe re, .int .i64 most] w fun e w' => e = .returned (.int .i64 10) ∧ w' = w := by
  have r1 := h_cell hR 1 rfl
  have p0 := h_cell hP 0 rfl
  have p2 := h_cell hP 2 rfl
  have w0 := h_cell hW 0 rfl
  have hm' : ¬ most < 1 := by omega
  clear hR hP hW
  have t1 := ta_re_sk; have t2 := ta_re_we; have t3 := ta_re_fi; have t4 := ta_re_di; have t5 := ta_re_re
  go_enter Tryz.func105, Tryz.ntmps105
  go_wp2
  go_ret
  exact ⟨rfl, rfl⟩
set_option maxRecDepth 100000 in
set_option maxHeartbeats 4000000 in
theorem mayRead_data (re p we : Nat) (a : Option Addr) (L cap : Nat) (rc most : Int) (w : World) (hR : ReAt w re rc p) (hP : PpAt w p (.slice a L cap) re we) (hm : 1 ≤ most) (hL : 0 < L) :
    Calls Tryz.prog 105 #[iRe re, .int .i64 most] w fun e w' => e = .returned (.int .i64 0) ∧ w' = w := by
  have r1 := h_cell hR 1 rfl
  have p0 := h_cell hP 0 rfl
  have hm' : ¬ most < 1 := by omega
  have hL' : ((L : Int) == 0) = false := by simp; omega
  clear hR hP
  have t1 := ta_re_sk; have t2 := ta_re_we; have t3 := ta_re_fi; have t4 := ta_re_di; have t5 := ta_re_re
  go_enter Tryz.func105, Tryz.ntmps105
  go_wp2
  go_ret
  exact ⟨rfl, rfl⟩
set_option maxRecDepth 100000 in
set_option maxHeartbeats 4000000 in
theorem mayRead_end (re we p : Nat) (a : Option Addr) (cap : Nat) (rc most : Int) (w : World) (hR : ReAt w re rc p) (hP : PpAt w p (.slice a 0 cap) re we) (hW : WeAt w we 0 p) (hm : 1 ≤ most) :
    Calls Tryz.prog 105 #[iRe re, .int .i64 most] w fun e w' => e = .returned (.int .i64 0) ∧ w' = w := by
  have r1 := h_cell hR 1 rfl
  have p0 := h_cell hP 0 rfl
  have p2 := h_cell hP 2 rfl
  have w0 := h_cell hW 0 rfl
  have hm' : ¬ most < 1 := by omega
  clear hR hP hW
  have t1 := ta_re_sk; have t2 := ta_re_we; have t3 := ta_re_fi; have t4 := ta_re_di; have t5 := ta_re_re
  go_enter Tryz.func105, Tryz.ntmps105
  go_wp2
  go_ret
  exact ⟨rfl, rfl⟩
set_option maxRecDepth 100000 in
set_option maxHeartbeats 4000000 in
theorem mayRead_so (so : Nat) (most : Int) (w : World) (hm : 1 ≤ most) :
    Calls Tryz.prog 105 #[iSo so, .int .i64 most] w fun e w' => e = .returned (.int .i64 0) ∧ w' = w := by
  have hm' : ¬ most < 1 := by omega
  have t1 := ta_so_sk; have t2 := ta_so_we; have t3 := ta_so_fi; have t4 := ta_so_di; have t5 := ta_so_re
  go_enter Tryz.func105, Tryz.ntmps105
  go_wp2
  go_ret
  exact ⟨rfl, rfl⟩
set_option maxRecDepth 100000 in
set_option maxHeartbeats 4000000 in
theorem mayRead_fi (fi : Nat) (c num ino how place most : Int) (w : World) (hF : FiAt w fi c num ino how place) (hm : 1 ≤ most) (h2 : (how == 2) = false) (h3 : (how == 3) = false) :
    Calls Tryz.prog 105 #[iFi fi, .int .i64 most] w fun e w' => e = .returned (.int .i64 0) ∧ w' = w := by
  have c3 := h_cell hF 3 rfl
  have hm' : ¬ most < 1 := by omega
  have t1 := ta_fi_sk; have t2 := ta_fi_we; have t3 := ta_fi_fi
  clear hF
  go_enter Tryz.func105, Tryz.ntmps105
  go_wp2
  go_ret
  exact ⟨rfl, rfl⟩
set_option maxRecDepth 100000 in
set_option maxHeartbeats 4000000 in
theorem isW_we (e : Nat) (w : World) : Calls Tryz.prog 101 #[iWe e] w fun r w' => r = .returned (.bool true) ∧ w' = w := by
  have t1 := ta_we_sk; have t2 := ta_we_we
  go_enter Tryz.func101, Tryz.ntmps101
  go_wp2
  go_ret
  exact ⟨rfl, rfl⟩
set_option maxRecDepth 100000 in
set_option maxHeartbeats 4000000 in
theorem isW_fi (fi : Nat) (c num ino how place : Int) (w : World) (hF : FiAt w fi c num ino how place) (h1 : (how != 1) = true) : Calls Tryz.prog 101 #[iFi fi] w fun r w' => r = .returned (.bool true) ∧ w' = w := by
  have c3 := h_cell hF 3 rfl
  have t1 := ta_fi_sk; have t2 := ta_fi_we; have t3 := ta_fi_fi
  clear hF
  go_enter Tryz.func101, Tryz.ntmps101
  go_wp2
  go_ret
  exact ⟨rfl, rfl⟩
set_option maxRecDepth 100000 in
set_option maxHeartbeats 4000000 in
theorem room_ok (k we p re : Nat) (a : Option Addr) (L cap : Nat) (rc wc : Int) (w : World) (hW : WeAt w we wc p) (hP : PpAt w p (.slice a L cap) re we) (hR : ReAt w re rc p) (hrc : (rc == 0) = false) (hL : L < 64) :
    Calls Tryz.prog 102 #[ptr k, iWe we] w fun r w' => r = .returned (.tuple #[.int .i64 (64 - (L : Int)), .int .i64 0]) ∧ w' = w := by
  have w1 := h_cell hW 1 rfl
  have p0 := h_cell hP 0 rfl
  have p1 := h_cell hP 1 rfl
  have r0 := h_cell hR 0 rfl
  have hL' : ¬ (64 : Int) ≤ (L : Int) := by omega
  have t2 := ta_we_we
  clear hW hP hR
  go_enter Tryz.func102, Tryz.ntmps102
  go_wp2
  refine bodyPost_ret (results_tmp2 rfl _ _ _) rfl ?_
  exact ⟨by simp, rfl⟩
set_option maxRecDepth 100000 in
set_option maxHeartbeats 4000000 in
theorem room_full (k we p re : Nat) (a : Option Addr) (L cap : Nat) (rc wc : Int) (w : World) (hW : WeAt w we wc p) (hP : PpAt w p (.slice a L cap) re we) (hR : ReAt w re rc p) (hrc : (rc == 0) = false) (hL : 64 ≤ L) :
    Calls Tryz.prog 102 #[ptr k, iWe we] w fun r w' => r = .returned (.tuple #[.int .i64 0, .int .i64 10]) ∧ w' = w := by
  have w1 := h_cell hW 1 rfl
  have p0 := h_cell hP 0 rfl
  have p1 := h_cell hP 1 rfl
  have r0 := h_cell hR 0 rfl
  have hL' : (64 : Int) ≤ (L : Int) := by omega
  have t2 := ta_we_we
  clear hW hP hR
  go_enter Tryz.func102, Tryz.ntmps102
  go_wp2
  refine bodyPost_ret (results_tmp2 rfl _ _ _) rfl ?_
  exact ⟨rfl, rfl⟩
end Go.Proofs.YtbbmihlabllliaaGreatDoor
