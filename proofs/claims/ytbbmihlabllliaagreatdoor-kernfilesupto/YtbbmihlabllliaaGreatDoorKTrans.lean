/- A transfer, of its parts: whatever the thing is. -/
import Derived.Test.YtbbmihlabllliaaGreatDoorKGive
namespace Go.Proofs.YtbbmihlabllliaaGreatDoor
open Go.RowKit Go.Shelf Go.Maps

set_option maxRecDepth 100000 in
set_option maxHeartbeats 1000000 in
theorem read_no (k : Nat) (x : Value) (m e : Int) (w : World) (he : (e != 0) = true) (h1 : Calls Tryz.prog 105 #[x, .int .i64 m] w fun r w' => r = .returned (.int .i64 e) ∧ w' = w) :
    Calls Tryz.prog 52 #[ptr k, x, .int .i64 m] w fun r w' => r = .returned (.tuple #[.slice none 0 0, .int .i64 e]) ∧ w' = w := by
  go_enter Tryz.func52, Tryz.ntmps52
  go_wp2_with (go_at_call 105; refine h1.mono ?_; rintro r w2 ⟨rfl, hw2⟩; rw [hw2]; clear hw2)
  refine bodyPost_ret (results_tmp2 rfl _ _ _) rfl ?_
  exact ⟨rfl, rfl⟩

set_option maxRecDepth 100000 in
set_option maxHeartbeats 1000000 in
theorem read_err (k : Nat) (x : Value) (m n e : Int) (Q : World → Prop) (w : World) (he : (e != 0) = true) (h1 : Calls Tryz.prog 105 #[x, .int .i64 m] w fun r w' => r = .returned (.int .i64 0) ∧ w' = w)
    (h2 : Calls Tryz.prog 103 #[ptr k, .int .i64 m, .bool false] w fun r w' => r = .returned (.tuple #[.int .i64 n, .int .i64 e]) ∧ Q w') :
    Calls Tryz.prog 52 #[ptr k, x, .int .i64 m] w fun r w' => r = .returned (.tuple #[.slice none 0 0, .int .i64 e]) ∧ Q w' := by
  go_enter Tryz.func52, Tryz.ntmps52
  go_wp2_with (first
    | (go_at_call 105; refine h1.mono ?_; rintro r w2 ⟨rfl, hw2⟩; rw [hw2]; clear hw2)
    | (go_at_call 103; refine h2.mono ?_; rintro r w3 ⟨rfl, hQ⟩))
  refine bodyPost_ret (results_tmp2 rfl _ _ _) rfl ?_
  exact ⟨rfl, hQ⟩

set_option maxRecDepth 100000 in
set_option maxHeartbeats 1000000 in
theorem read_ok (k : Nat) (x : Value) (m n : Int) (Q : World → Prop) (Q2 : Value → World → Prop) (w : World) (h1 : Calls Tryz.prog 105 #[x, .int .i64 m] w fun r w' => r = .returned (.int .i64 0) ∧ w' = w)
    (h2 : Calls Tryz.prog 103 #[ptr k, .int .i64 m, .bool false] w fun r w' => r = .returned (.tuple #[.int .i64 n, .int .i64 0]) ∧ Q w')
    (h3 : ∀ w1, Q w1 → Calls Tryz.prog 106 #[ptr k, x, .int .i64 n] w1 fun r w' => ∃ v, r = .returned v ∧ Q2 v w') :
    Calls Tryz.prog 52 #[ptr k, x, .int .i64 m] w fun r w' => ∃ v, r = .returned (.tuple #[v, .int .i64 0]) ∧ Q2 v w' := by
  have H3 := Lib.hid h3
  clear h3
  go_enter Tryz.func52, Tryz.ntmps52
  go_wp2_with (first
    | (go_at_call 105; refine h1.mono ?_; rintro r w2 ⟨rfl, hw2⟩; rw [hw2]; clear hw2)
    | (go_at_call 103; refine h2.mono ?_; rintro r w3 ⟨rfl, hQ⟩; have h4 := H3.out w3 hQ)
    | (go_at_call 106; refine h4.mono ?_; rintro r w4 ⟨v, rfl, hQ2⟩))
  refine bodyPost_ret (results_tmp2 rfl _ _ _) rfl ?_
  exact ⟨v, rfl, hQ2⟩

set_option maxRecDepth 100000 in
set_option maxHeartbeats 1000000 in
theorem write_empty (k : Nat) (x : Value) (a : Option Addr) (c : Nat) (w : World) (h1 : Calls Tryz.prog 101 #[x] w fun r w' => r = .returned (.bool true) ∧ w' = w) :
    Calls Tryz.prog 51 #[ptr k, x, .slice a 0 c] w fun r w' => r = .returned (.tuple #[.int .i64 0, .int .i64 0]) ∧ w' = w := by
  go_enter Tryz.func51, Tryz.ntmps51
  go_wp2_with (go_at_call 101; refine h1.mono ?_; rintro r w2 ⟨rfl, hw2⟩; rw [hw2]; clear hw2)
  refine bodyPost_ret (results_tmp2 rfl _ _ _) rfl ?_
  exact ⟨rfl, rfl⟩

set_option maxRecDepth 100000 in
set_option maxHeartbeats 1000000 in
theorem write_no (k : Nat) (x : Value) (a : Option Addr) (L c : Nat) (e : Int) (w : World) (hL : 0 < L) (he : (e != 0) = true) (h1 : Calls Tryz.prog 101 #[x] w fun r w' => r = .returned (.bool true) ∧ w' = w)
    (h2 : Calls Tryz.prog 102 #[ptr k, x] w fun r w' => r = .returned (.tuple #[.int .i64 0, .int .i64 e]) ∧ w' = w) :
    Calls Tryz.prog 51 #[ptr k, x, .slice a L c] w fun r w' => r = .returned (.tuple #[.int .i64 0, .int .i64 e]) ∧ w' = w := by
  have hL' : ((L : Int) == 0) = false := by simp; omega
  go_enter Tryz.func51, Tryz.ntmps51
  go_wp2_with (first
    | (go_at_call 101; refine h1.mono ?_; rintro r w2 ⟨rfl, hw2⟩; rw [hw2]; clear hw2)
    | (go_at_call 102; refine h2.mono ?_; rintro r w2 ⟨rfl, hw2⟩; rw [hw2]; clear hw2))
  refine bodyPost_ret (results_tmp2 rfl _ _ _) rfl ?_
  exact ⟨rfl, rfl⟩

set_option maxRecDepth 100000 in
set_option maxHeartbeats 1000000 in
theorem write_err (k : Nat) (x : Value) (a : Option Addr) (L c room : Nat) (n e : Int) (Q : World → Prop) (w : World) (hL : 0 < L) (he : (e != 0) = true) (h1 : Calls Tryz.prog 101 #[x] w fun r w' => r = .returned (.bool true) ∧ w' = w)
    (h2 : Calls Tryz.prog 102 #[ptr k, x] w fun r w' => r = .returned (.tuple #[.int .i64 room, .int .i64 0]) ∧ ∃ q, w' = w.drewN q)
    (h3 : ∀ q, Calls Tryz.prog 103 #[ptr k, .int .i64 (min L room : Nat), .bool true] (w.drewN q) fun r w' => r = .returned (.tuple #[.int .i64 n, .int .i64 e]) ∧ Q w') :
    Calls Tryz.prog 51 #[ptr k, x, .slice a L c] w fun r w' => r = .returned (.tuple #[.int .i64 0, .int .i64 e]) ∧ Q w' := by
  have hL' : ((L : Int) == 0) = false := by simp; omega
  obtain ⟨mn, hmn⟩ : ∃ mn, mn = min L room := ⟨_, rfl⟩
  have hmin : min (L : Int) (room : Int) = (mn : Int) := by omega
  rw [← hmn] at h3
  have H3 := Lib.hid h3
  clear h3 hmn
  go_enter Tryz.func51, Tryz.ntmps51
  go_wp2_with (first
    | (go_at_call 101; refine h1.mono ?_; rintro r w2 ⟨rfl, hw2⟩; rw [hw2]; clear hw2)
    | (go_at_call 102; refine h2.mono ?_; rintro r w2 ⟨rfl, q, hw2⟩; have h4 := H3.out q; rw [← hw2] at h4; clear hw2)
    | (go_at_call 103; refine h4.mono ?_; rintro r w3 ⟨rfl, hQ⟩))
  refine bodyPost_ret (results_tmp2 rfl _ _ _) rfl ?_
  exact ⟨rfl, hQ⟩

set_option maxRecDepth 100000 in
set_option maxHeartbeats 1000000 in
theorem write_ok (k : Nat) (x : Value) (a : Addr) (L c room n : Nat) (Q Q2 : World → Prop) (w : World) (hL : 0 < L) (hc : L ≤ c) (hn : n ≤ L) (h1 : Calls Tryz.prog 101 #[x] w fun r w' => r = .returned (.bool true) ∧ w' = w)
    (h2 : Calls Tryz.prog 102 #[ptr k, x] w fun r w' => r = .returned (.tuple #[.int .i64 room, .int .i64 0]) ∧ ∃ q, w' = w.drewN q)
    (h3 : ∀ q, Calls Tryz.prog 103 #[ptr k, .int .i64 (min L room : Nat), .bool true] (w.drewN q) fun r w' => r = .returned (.tuple #[.int .i64 n, .int .i64 0]) ∧ Q w')
    (h4 : ∀ w1, Q w1 → Calls Tryz.prog 104 #[ptr k, x, .slice (some a) n c] w1 fun r w' => (∃ v, r = .returned v) ∧ Q2 w') :
    Calls Tryz.prog 51 #[ptr k, x, .slice (some a) L c] w fun r w' => r = .returned (.tuple #[.int .i64 n, .int .i64 0]) ∧ Q2 w' := by
  have hL' : ((L : Int) == 0) = false := by simp; omega
  obtain ⟨mn, hmn⟩ : ∃ mn, mn = min L room := ⟨_, rfl⟩
  have hmin : min (L : Int) (room : Int) = (mn : Int) := by omega
  rw [← hmn] at h3
  have H3 := Lib.hid h3
  have H4 := Lib.hid h4
  have hnc : ¬ (c : Int) < (n : Int) := by omega
  clear h3 hmn h4
  go_enter Tryz.func51, Tryz.ntmps51
  go_wp2_with (first
    | (go_at_call 101; refine h1.mono ?_; rintro r w2 ⟨rfl, hw2⟩; rw [hw2]; clear hw2)
    | (go_at_call 102; refine h2.mono ?_; rintro r w2 ⟨rfl, q, hw2⟩; have h5 := H3.out q; rw [← hw2] at h5; clear hw2)
    | (go_at_call 103; refine h5.mono ?_; rintro r w3 ⟨rfl, hQ⟩; have h6 := H4.out w3 hQ)
    | (go_at_call 104; refine h6.mono ?_; rintro r w4 ⟨⟨v, rfl⟩, hQ2⟩))
  refine bodyPost_ret (results_tmp2 rfl _ _ _) rfl ?_
  exact ⟨rfl, hQ2⟩
end Go.Proofs.YtbbmihlabllliaaGreatDoor
