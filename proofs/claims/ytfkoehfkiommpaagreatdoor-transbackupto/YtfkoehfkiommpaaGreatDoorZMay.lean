/- Which limits may be, by the reference. -/
import Derived.Test.YtfkoehfkiommpaaGreatDoorZCoded
namespace Go.Proofs.YtfkoehfkiommpaaGreatDoor.Tr
open Go.Proofs.YtfkoehfkiommpaaGreatDoor.Op
open Go.RowKit

/-- The reference's tree without entries. -/
structure T0 (w : World) (tb : Nat) : Prop where
  ex : ∃ lb ib, w.heap[tb]? = some (.cells #[.slice (some ⟨lb, 0, none⟩) 1 1, .int .i64 2] 83) ∧ w.heap[lb]? = some (.cells #[ptr ib] 62) ∧ w.heap[ib]? = some (.cells #[.int .i64 1, .bool true, .int .i64 493, .int .i64 0, .slice none 0 0, .slice none 0 0, .int .i64 1, .int .i64 0] 61)
theorem T0.below {w w' : World} {tb : Nat} (h : T0 w tb) (hB : Below w.heap.size w w') : T0 w' tb := by
  obtain ⟨lb, ib, h1, h2, h3⟩ := h.ex
  exact ⟨lb, ib, (hB.block tb (h_lt h1)).trans h1, (hB.block lb (h_lt h2)).trans h2, (hB.block ib (h_lt h3)).trans h3⟩
theorem al_new (w : World) (o : Obj) : (w.alloc o).heap[w.heap.size]? = some o := by show (w.heap.push _)[w.heap.size]? = _; simp
theorem al_old {w : World} {k : Nat} {x : Obj} (o : Obj) (h : w.heap[k]? = some x) : (w.alloc o).heap[k]? = some x := (heap_alloc_old w o (h_lt h)).trans h

set_option maxRecDepth 100000 in
theorem new_c (w : World) : Calls Tryz.prog 32 #[] w fun e w' => ∃ tb, e = .returned (ptr tb) ∧ T0 w' tb ∧ Below w.heap.size w w' := by
  go_enter Tryz.func32, Tryz.ntmps32
  go_wp2_with fail
  go_ret
  refine ⟨_, rfl, ⟨w.heap.size + 1, w.heap.size, ?_, ?_, ?_⟩, ((((Below.refl _ w).alloc (Nat.le_refl _) _).alloc (by simp) _).alloc (by simp; omega) _)⟩
  · have := al_new ((w.alloc (.cells #[.int .i64 1, .bool true, .int .i64 493, .int .i64 0, .slice none 0 0, .slice none 0 0, .int .i64 1, .int .i64 0] 61)).alloc (.cells #[ptr w.heap.size] 62)) (.cells #[.slice (some ⟨w.heap.size + 1, 0, none⟩) 1 1, .int .i64 2] 83)
    simpa using this
  · have := al_old (.cells #[.slice (some ⟨w.heap.size + 1, 0, none⟩) 1 1, .int .i64 2] 83) (al_new (w.alloc (.cells #[.int .i64 1, .bool true, .int .i64 493, .int .i64 0, .slice none 0 0, .slice none 0 0, .int .i64 1, .int .i64 0] 61)) (.cells #[ptr w.heap.size] 62))
    simpa using this
  · exact al_old _ (al_old _ (al_new w _))
set_option maxRecDepth 100000 in
theorem load_c (w : World) : Calls Tryz.prog 19 #[.slice none 0 0] w fun e w' => ∃ tb, e = .returned (.tuple #[ptr tb, .int .i64 0]) ∧ T0 w' tb ∧ Below w.heap.size w w' := by
  go_enter Tryz.func19, Tryz.ntmps19
  go_wp2_with (go_at_call 32; refine (new_c w).mono ?_; rintro e w1 ⟨tb, rfl, hT, hB⟩)
  go_loop [5] (fun i => i = .int .i64 0) (fun _ => 0)
  case atStart => rfl
  case round =>
    subst hrel
    go_wp2_with fail
    go_ret2
    exact ⟨tb, rfl, hT, hB⟩
set_option maxRecDepth 100000 in
theorem item_c (w : World) (tb : Nat) (hT : T0 w tb) : Calls Tryz.prog 21 #[ptr tb, .int .i64 1] w fun e w' => (∃ ib, e = .returned (ptr ib) ∧ w.cell? ⟨ib, 1, none⟩ = some (.bool true)) ∧ w' = w := by
  obtain ⟨lb, ib, h1, h2, h3⟩ := hT.ex
  have c0 : w.cell? ⟨tb, 0, none⟩ = some (.slice (some ⟨lb, 0, none⟩) 1 1) := h_cell h1 0 rfl
  have c1 : w.cell? ⟨lb, 0, none⟩ = some (ptr ib) := h_cell h2 0 rfl
  have c2 : w.cell? ⟨ib, 0, none⟩ = some (.int .i64 1) := h_cell h3 0 rfl
  have c3 : w.cell? ⟨ib, 1, none⟩ = some (.bool true) := h_cell h3 1 rfl
  clear h1 h2 h3 hT
  go_enter Tryz.func21, Tryz.ntmps21
  go_wp2_with fail
  go_loop [5] (fun i => i = .int .i64 0) (fun _ => 0)
  case atStart => rfl
  case round =>
    subst hrel
    go_wp2_with fail
    go_ret
    exact ⟨⟨ib, rfl, c3⟩, rfl⟩
set_option maxRecDepth 100000 in
theorem leads_c (w : World) (tb : Nat) : Calls Tryz.prog 38 #[ptr tb, .int .i64 1, .slice none 0 0] w fun e w' => e = .returned (.tuple #[.int .i64 1, .int .i64 0]) ∧ w' = w := by
  go_enter Tryz.func38, Tryz.ntmps38
  go_wp2_with fail
  go_loop [1, 8] (fun n i => n = .int .i64 1 ∧ i = .int .i64 0) (fun _ _ => 0)
  case atStart => exact ⟨rfl, rfl⟩
  case round =>
    obtain ⟨rfl, rfl⟩ := hrel
    go_wp2_with fail
    go_ret2
    exact ⟨rfl, rfl⟩
set_option maxRecDepth 100000 in
theorem parts_0 (w : World) : Calls Tryz.prog 39 #[.string ⟨#[]⟩] w fun e w' => e = .returned (.slice none 0 0) ∧ w' = w := by
  go_enter Tryz.func39, Tryz.ntmps39
  go_wp2_with fail
  go_loop [3, 4, 5] (fun o f i => o = .slice none 0 0 ∧ ∃ k : Nat, k ≤ 1 ∧ f = .int .i64 k ∧ i = .int .i64 k) (fun _ _ i => 1 - (intOf i).toNat)
  case atStart => exact ⟨rfl, 0, by omega, rfl, rfl⟩
  case round =>
    obtain ⟨rfl, k, hk, rfl, rfl⟩ := hrel
    have : k = 0 ∨ k = 1 := by omega
    rcases this with rfl | rfl
    · go_wp2_with fail
      exact ⟨⟨rfl, 1, by omega, by go_num, by go_num⟩, by simp [intOf]⟩
    · go_wp2_with fail
      go_ret
      exact ⟨rfl, rfl⟩
set_option maxRecDepth 100000 in
theorem parts_1 (w : World) : Calls Tryz.prog 39 #[.string ⟨#[47]⟩] w fun e w' => e = .returned (.slice none 0 0) ∧ w' = w := by
  go_enter Tryz.func39, Tryz.ntmps39
  go_wp2_with fail
  go_loop [3, 4, 5] (fun o f i => o = .slice none 0 0 ∧ ∃ k : Nat, k ≤ 2 ∧ f = .int .i64 k ∧ i = .int .i64 k) (fun _ _ i => 2 - (intOf i).toNat)
  case atStart => exact ⟨rfl, 0, by omega, rfl, rfl⟩
  case round =>
    obtain ⟨rfl, k, hk, rfl, rfl⟩ := hrel
    have : k = 0 ∨ k = 1 ∨ k = 2 := by omega
    have e0 : ((((⟨#[47]⟩ : ByteArray)[0]'(by decide)).toNat : Int) == 47) = true := rfl
    rcases this with rfl | rfl | rfl
    · go_wp2_with fail
      exact ⟨⟨rfl, 1, by omega, by go_num, by go_num⟩, by simp [intOf]⟩
    · go_wp2_with fail
      exact ⟨⟨rfl, 2, by omega, by go_num, by go_num⟩, by simp [intOf]⟩
    · go_wp2_with fail
      go_ret
      exact ⟨rfl, rfl⟩
set_option maxRecDepth 100000 in
set_option maxHeartbeats 1000000 in
theorem from_c (w : World) (tb : Nat) (hT : T0 w tb) : Calls Tryz.prog 37 #[ptr tb, .string ⟨#[]⟩, .string ⟨#[47]⟩] w fun e w' => e = .returned (.tuple #[.int .i64 1, .int .i64 0]) ∧ w' = w := by
  have hi := item_c w tb hT
  have hp := parts_0 w
  have hl := leads_c w tb
  have e0 : ((((⟨#[47]⟩ : ByteArray)[0]'(by decide)).toNat : Int) == 47) = true := rfl
  clear hT
  go_enter Tryz.func37, Tryz.ntmps37
  go_wp2_with (first
    | (go_at_call 39; refine hp.mono ?_; rintro e w ⟨rfl, rfl⟩)
    | (go_at_call 38; refine hl.mono ?_; rintro e w ⟨rfl, rfl⟩)
    | (go_at_call 21; refine hi.mono ?_; rintro e w ⟨⟨ib, rfl, hib⟩, rfl⟩))
  go_ret2
  exact ⟨rfl, rfl⟩
set_option maxRecDepth 100000 in
theorem slash_c (w : World) : Calls Tryz.prog 40 #[.string ⟨#[47]⟩] w fun e w' => e = .returned (.bool true) ∧ w' = w := by
  have e0 : ((((⟨#[47]⟩ : ByteArray)[0]'(by decide)).toNat : Int) == 47) = true := rfl
  go_enter Tryz.func40, Tryz.ntmps40
  go_wp2_with fail
  go_ret
  exact ⟨rfl, rfl⟩
set_option maxRecDepth 100000 in
set_option maxHeartbeats 1000000 in
theorem find_c (w : World) (tb : Nat) (hT : T0 w tb) : Calls Tryz.prog 20 #[ptr tb, .string ⟨#[]⟩, .string ⟨#[47]⟩] w fun e w' => e = .returned (.tuple #[.int .i64 1, .int .i64 0]) ∧ w' = w := by
  have hi := item_c w tb hT
  have hf := from_c w tb hT
  have hp := parts_1 w
  have hl := leads_c w tb
  have hs := slash_c w
  clear hT
  go_enter Tryz.func20, Tryz.ntmps20
  go_wp2_with (first
    | (go_at_call 37; refine hf.mono ?_; rintro e w ⟨rfl, rfl⟩)
    | (go_at_call 39; refine hp.mono ?_; rintro e w ⟨rfl, rfl⟩)
    | (go_at_call 38; refine hl.mono ?_; rintro e w ⟨rfl, rfl⟩)
    | (go_at_call 40; refine hs.mono ?_; rintro e w ⟨rfl, rfl⟩)
    | (go_at_call 21; refine hi.mono ?_; rintro e w ⟨⟨ib, rfl, hib⟩, rfl⟩))
  go_ret2
  exact ⟨rfl, rfl⟩

/-- May the limits be? -/
def limB (l1 l2 l3 : Int) : Bool := decide (1 ≤ l1 ∧ 1 ≤ l2 ∧ l2 ≤ l3 ∧ l1 ≤ 1099511627776 ∧ l3 ≤ 1099511627776)
theorem limB_ok {l1 l2 l3 : Int} (h : limB l1 l2 l3 = true) : LimOk l1 l2 l3 := by
  have := of_decide_eq_true h
  unfold LimOk
  omega
set_option maxRecDepth 100000 in
set_option maxHeartbeats 4000000 in
theorem may_c (w : World) (a : Option Addr) (c : Nat) (l1 l2 l3 : Int) : Calls Tryz.prog 10 #[jobT (.slice a 1 c) (.slice none 0 0) l1 l2 l3] w fun e w' => e = .returned (.bool (limB l1 l2 l3)) ∧ Below w.heap.size w w' := by
  have hj := al_new w (.cells #[.slice a 1 c, .slice none 0 0, .string ⟨#[]⟩, .slice none 0 0, .slice none 0 0, .int .i64 l1, .int .i64 l2, .int .i64 l3, .slice none 0 0, .int .i64 0, .slice none 0 0] 36)
  have hB0 : Below w.heap.size w (w.alloc (.cells #[.slice a 1 c, .slice none 0 0, .string ⟨#[]⟩, .slice none 0 0, .slice none 0 0, .int .i64 l1, .int .i64 l2, .int .i64 l3, .slice none 0 0, .int .i64 0, .slice none 0 0] 36)) := (Below.refl _ w).alloc (Nat.le_refl _) _
  go_enter Tryz.func10, Tryz.ntmps10
  go_wp2_with fail
  refine (load_c _).mono ?_
  rintro e w1 ⟨tb, rfl, hT, hB1⟩
  have hj1 := (hB1.block w.heap.size (h_lt hj)).trans hj
  have hB := hB0.trans (hB1.mono hB0.size)
  have j0 : w1.cell? ⟨w.heap.size, 0, none⟩ = some (.slice a 1 c) := h_cell hj1 0 rfl
  have j2 : w1.cell? ⟨w.heap.size, 2, none⟩ = some (.string ⟨#[]⟩) := h_cell hj1 2 rfl
  have j5 : w1.cell? ⟨w.heap.size, 5, none⟩ = some (.int .i64 l1) := h_cell hj1 5 rfl
  have j6 : w1.cell? ⟨w.heap.size, 6, none⟩ = some (.int .i64 l2) := h_cell hj1 6 rfl
  have j7 : w1.cell? ⟨w.heap.size, 7, none⟩ = some (.int .i64 l3) := h_cell hj1 7 rfl
  have j9 : w1.cell? ⟨w.heap.size, 9, none⟩ = some (.int .i64 0) := h_cell hj1 9 rfl
  clear hj hB0 hB1 hj1
  by_cases c1 : l1 < 1
  · have HF : Hid (limB l1 l2 l3 = false) := (show _ = _ from decide_eq_false (by omega))
    go_wp2_with fail
    go_ret
    exact ⟨by rw [HF.out]; rfl, hB⟩
  · by_cases c2 : l2 < 1
    · have HF : Hid (limB l1 l2 l3 = false) := (show _ = _ from decide_eq_false (by omega))
      go_wp2_with fail
      go_ret
      exact ⟨by rw [HF.out]; rfl, hB⟩
    · by_cases c3 : l3 < l2
      · have HF : Hid (limB l1 l2 l3 = false) := (show _ = _ from decide_eq_false (by omega))
        go_wp2_with fail
        go_ret
        exact ⟨by rw [HF.out]; rfl, hB⟩
      · by_cases c4 : 1099511627776 < l1
        · have HF : Hid (limB l1 l2 l3 = false) := (show _ = _ from decide_eq_false (by omega))
          go_wp2_with fail
          go_ret
          exact ⟨by rw [HF.out]; rfl, hB⟩
        · by_cases c5 : 1099511627776 < l3
          · have HF : Hid (limB l1 l2 l3 = false) := (show _ = _ from decide_eq_false (by omega))
            go_wp2_with fail
            go_ret
            exact ⟨by rw [HF.out]; rfl, hB⟩
          · have HF : Hid (limB l1 l2 l3 = true) := (show _ = _ from decide_eq_true (by omega))
            have hf := find_c w1 tb hT
            have hi := item_c w1 tb hT
            go_wp2_with (first
              | (go_at_call 20; refine hf.mono ?_; rintro e w1 ⟨rfl, rfl⟩)
              | (go_at_call 21; refine hi.mono ?_; rintro e w1 ⟨⟨ib, rfl, hib⟩, rfl⟩))
            go_ret
            exact ⟨by rw [HF.out]; rfl, hB⟩
end Go.Proofs.YtfkoehfkiommpaaGreatDoor.Tr
