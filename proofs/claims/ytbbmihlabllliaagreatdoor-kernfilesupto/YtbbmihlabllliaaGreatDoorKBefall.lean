/- What befalls a transfer. -/
import Derived.Test.YtbbmihlabllliaaGreatDoorKBase
namespace Go.Proofs.YtbbmihlabllliaaGreatDoor
open Go.RowKit Go.Maps

/-- The faults as they lie in memory: kinds and numbers, one behind the other, in the block fb. -/
def Fl (w : World) (fv : Value) (fb : Nat) (l : List (Int × Int)) : Prop :=
  ∃ a cap, fv = .slice a l.length cap ∧ l.length ≤ cap ∧ l.length < 4611686018427387904 ∧ ((l.length = 0 ∧ a = none ∧ cap = 0) ∨ ∃ o, a = some ⟨fb, o, none⟩ ∧ ∀ j, j < l.length → w.cell? ⟨fb, o + j * 2, none⟩ = some (.int .i64 (l[j]?.getD (0, 0)).1) ∧ w.cell? ⟨fb, o + j * 2 + 1, none⟩ = some (.int .i64 (l[j]?.getD (0, 0)).2))
theorem Fl.keep {w w' : World} {fv : Value} {fb : Nat} {l : List (Int × Int)} (h : Fl w fv fb l) (hk : ∀ i v, w.cell? ⟨fb, i, none⟩ = some v → w'.cell? ⟨fb, i, none⟩ = some v) : Fl w' fv fb l := by
  obtain ⟨a, cap, hv, hc, hs, h0 | ⟨o, ha, hcell⟩⟩ := h
  · exact ⟨a, cap, hv, hc, hs, .inl h0⟩
  · exact ⟨a, cap, hv, hc, hs, .inr ⟨o, ha, fun j hj => ⟨hk _ _ (hcell j hj).1, hk _ _ (hcell j hj).2⟩⟩⟩
theorem Fl.turn {w w' : World} {fv : Value} {fb : Nat} {l : List (Int × Int)} {S : List Nat} (h : Fl w fv fb l) (hu : Turn S w w') (hs : fb ∉ S) : Fl w' fv fb l := h.keep fun _ _ e => hu.cell e hs

theorem min_law (a b : Int) : (if b < a then b else a) = min a b := by
  by_cases h : b < a
  · rw [if_pos h, Int.min_eq_right (by omega)]
  · rw [if_neg h, Int.min_eq_left (by omega)]
theorem max_law (a b : Int) : (if b > a then b else a) = max a b := by
  by_cases h : b > a
  · rw [if_pos h, Int.max_eq_right (by omega)]
  · rw [if_neg h, Int.max_eq_left (by omega)]

set_option maxRecDepth 100000 in
set_option maxHeartbeats 4000000 in
theorem befall_none (k fb th : Nat) (tr fv : Value) (l : List (Int × Int)) (now last most : Int) (isW : Bool) (w : World) (hK : KnAt w k tr fv l.length now th last) (hF : Fl w fv fb l) :
    Calls Tryz.prog 103 #[ptr k, .int .i64 most, .bool isW] w fun e w' => e = .returned (.tuple #[.int .i64 most, .int .i64 0]) ∧ ∃ n, w' = w.drewN n := by
  have c1 := h_cell hK 1 rfl
  have c2 := h_cell hK 2 rfl
  obtain ⟨a, cap, rfl, _⟩ := hF
  clear hK
  go_enter Tryz.func103, Tryz.ntmps103
  go_wp2_with fail
  go_quiet (fail)
  go_wp2
  refine bodyPost_ret (results_tmp2 rfl _ _ _) rfl ?_
  exact ⟨rfl, _, rfl⟩

set_option maxRecDepth 100000 in
set_option maxHeartbeats 4000000 in
theorem befall_short (k fb th u : Nat) (tr fv : Value) (l : List (Int × Int)) (now last most : Int) (isW : Bool) (w : World) (hK : KnAt w k tr fv u now th last) (hF : Fl w fv fb l) (hu : u < l.length) (hk : (l[u]?.getD (0, 0)).1 = 1) :
    Calls Tryz.prog 103 #[ptr k, .int .i64 most, .bool isW] w fun e w' => e = .returned (.tuple #[.int .i64 (min most (max (l[u]?.getD (0, 0)).2 1)), .int .i64 0]) ∧ KnAt w' k tr fv ((u : Int) + 1) now th last ∧ Turn [k] w w' := by
  have c1 := h_cell hK 1 rfl
  have c2 := h_cell hK 2 rfl
  obtain ⟨a, cap, rfl, hcap, hL, h0 | ⟨o, rfl, hcell⟩⟩ := hF
  · omega
  obtain ⟨q1, q2⟩ := hcell u hu
  rw [hk] at q1
  generalize (l[u]?.getD (0, 0)).2 = N at q2 ⊢
  generalize hLe : l.length = L at hu hcap hL c1
  have hb : 0 ≤ (u : Int) ∧ (u : Int) < (L : Int) := by omega
  have hne1 : ((u : Int) == (L : Int)) = false := by simp; omega
  have HF : ∀ n, Turn [k] w (w.drewN n) ∧ KnAt (w.drewN n) k tr (.slice (some ⟨fb, o, none⟩) L cap) u now th last ∧ (w.drewN n).cell? ⟨fb, o + u * 2, none⟩ = some (.int .i64 1) ∧ (w.drewN n).cell? ⟨fb, o + u * 2 + 1, none⟩ = some (.int .i64 N) := fun n => ⟨(Turn.refl _ w).drewN n, by rw [hLe] at hK; exact hK, q1, q2⟩
  clear hcell hk
  have hFF := Lib.hid HF
  clear hK HF q1 q2
  go_enter Tryz.func103, Tryz.ntmps103
  go_wp2_with fail
  go_quiet (fail)
  obtain ⟨hT1, hK1, q1, q2⟩ := hFF.out nq
  generalize w.drewN nq = w1 at hT1 hK1 q1 q2 ⊢
  clear hFF c1 c2
  have c1 := h_cell hK1 1 rfl
  have c2 := h_cell hK1 2 rfl
  have z2 := h_fz hK1 2
  have c1' := fun x => al_cell x c1
  have c2' := fun x => al_cell x c2
  have q1' := fun x => al_cell x q1
  have q2' := fun x => al_cell x q2
  have hk1 := h_lt hK1
  have HK := Lib.hid hK1
  have HT := Lib.hid hT1
  clear hK1 hT1
  go_wp2_with fail
  go_region
  all_goals go_wp2
  all_goals
    refine bodyPost_ret (results_tmp2 rfl _ _ _) rfl ?_
    refine ⟨by simp; omega, al_old _ (by simpa using h_set HK.out 2 (.int .i64 ((u : Int) + 1))), HT.out.trans ((Turn.set w1 k 2 _ (by simp)).trans (Turn.alloc _ _)).drew⟩

set_option maxRecDepth 100000 in
set_option maxHeartbeats 4000000 in
theorem befall_intr (k fb th u : Nat) (tr fv : Value) (l : List (Int × Int)) (now last most : Int) (isW : Bool) (w : World) (hK : KnAt w k tr fv u now th last) (hF : Fl w fv fb l) (hu : u < l.length) (hk : (l[u]?.getD (0, 0)).1 = 2) :
    Calls Tryz.prog 103 #[ptr k, .int .i64 most, .bool isW] w fun e w' => e = .returned (.tuple #[.int .i64 0, .int .i64 9]) ∧ KnAt w' k tr fv ((u : Int) + 1) now th last ∧ Turn [k] w w' := by
  have c1 := h_cell hK 1 rfl
  have c2 := h_cell hK 2 rfl
  obtain ⟨a, cap, rfl, hcap, hL, h0 | ⟨o, rfl, hcell⟩⟩ := hF
  · omega
  obtain ⟨q1, q2⟩ := hcell u hu
  rw [hk] at q1
  generalize (l[u]?.getD (0, 0)).2 = N at q2
  generalize hLe : l.length = L at hu hcap hL c1
  have hb : 0 ≤ (u : Int) ∧ (u : Int) < (L : Int) := by omega
  have hne1 : ((u : Int) == (L : Int)) = false := by simp; omega
  have HF : ∀ n, Turn [k] w (w.drewN n) ∧ KnAt (w.drewN n) k tr (.slice (some ⟨fb, o, none⟩) L cap) u now th last ∧ (w.drewN n).cell? ⟨fb, o + u * 2, none⟩ = some (.int .i64 2) ∧ (w.drewN n).cell? ⟨fb, o + u * 2 + 1, none⟩ = some (.int .i64 N) := fun n => ⟨(Turn.refl _ w).drewN n, by rw [hLe] at hK; exact hK, q1, q2⟩
  clear hcell hk
  have hFF := Lib.hid HF
  clear hK HF q1 q2
  go_enter Tryz.func103, Tryz.ntmps103
  go_wp2_with fail
  go_quiet (fail)
  obtain ⟨hT1, hK1, q1, q2⟩ := hFF.out nq
  generalize w.drewN nq = w1 at hT1 hK1 q1 q2 ⊢
  clear hFF c1 c2
  have c1 := h_cell hK1 1 rfl
  have c2 := h_cell hK1 2 rfl
  have z2 := h_fz hK1 2
  have c1' := fun x => al_cell x c1
  have c2' := fun x => al_cell x c2
  have q1' := fun x => al_cell x q1
  have q2' := fun x => al_cell x q2
  have hk1 := h_lt hK1
  have HK := Lib.hid hK1
  have HT := Lib.hid hT1
  clear hK1 hT1
  go_wp2_with fail
  go_region
  all_goals go_wp2
  all_goals
    refine bodyPost_ret (results_tmp2 rfl _ _ _) rfl ?_
    refine ⟨by rfl, al_old _ (by simpa using h_set HK.out 2 (.int .i64 ((u : Int) + 1))), HT.out.trans ((Turn.set w1 k 2 _ (by simp)).trans (Turn.alloc _ _)).drew⟩
end Go.Proofs.YtbbmihlabllliaaGreatDoor
