/- The builder: what came of the text. -/
import Derived.Test.YtlekfdkahlobiaaGreatDoorHSt5
namespace Go.Proofs.YtlekfdkahlobiaaGreatDoor.Re
open Go.Proofs.YtlekfdkahlobiaaGreatDoor.Tr
open Go.RowKit

theorem res_re2 {fn : Func} {p u : Tmp} (h : fn.results = #[.cell p 48, .tmp u]) {tmps : Array Value} {w : World} {b : Nat} {v : Value} {z : Int} {x : Value} (hp : tmps.getD p undef = .pointer (some ⟨b, 0, none⟩)) (hg : ReB w b v z) (hx : tmps.getD u undef = x) : (results fn tmps).run Tryz.prog w = .ok (.tuple #[.agg #[v, .int .i64 z], x]) w := by
  rw [results_cell_tmp h, hp, hx]
  simp [asAddr, Result.andThen, run_loadVar_row w b 48 48 #[v, .int .i64 z] (0, 0) _ hg Tryz.underlying48 rfl infoRe]
/-- What whole answers. -/
def WhO (x : Nd) (w : World) (e : Ending) (w' : World) : Prop := Below w.heap.size w w' ∧ if 10000 < x.size then e = .returned (.tuple #[.agg #[.pointer none, .int .i64 0], .bool false]) else ∃ v, e = .returned (.tuple #[reV v x, .bool true]) ∧ NodeP w' v x
theorem szI_gt (x : Nd) : (10000 : Int) < szI x ↔ 10000 < x.size := by unfold szI; split <;> omega
section
variable {w : World} {rb : Nat} {l : List UInt8} {ext fold cl : Bool} {pv ov : Value} {last depth made : Int}
set_option maxHeartbeats 1000000 in
set_option maxRecDepth 100000 in
theorem whole_c {x : Nd} (h : Rd w rb l ext fold last depth cl pv ov made) (hb : BdX w rb pv ov made [x] []) : Calls Tryz.prog 39 #[bldP rb] w (WhO x w) := by
  have hf : ∀ o, Calls Tryz.prog 59 #[bldP rb] (w.alloc o) fun e w' => e = .returned (.bool (decide (10000 < made))) ∧ w' = w.alloc o := fun o => isFull_c (h.keep ((Below.refl _ w).alloc (Nat.le_refl _) o))
  have hB : ∀ o, Below w.heap.size w (w.alloc o) := fun o => (Below.refl _ w).alloc (Nat.le_refl _) o
  have hwt := hb.wt
  rw [sizes_one] at hwt
  by_cases hm : 10000 < made
  · rw [decide_eq_true hm] at hf
    have HX : Hid (10000 < x.size) := (show 10000 < x.size by omega)
    clear h hb hwt
    go_enter Tryz.func39, Tryz.ntmps39
    go_wp2_with (go_at_call 59; refine (hf _).mono ?_; rintro e w1 ⟨rfl, hw⟩; rw [hw]; clear hw w1)
    refine bodyPost_ret (res_re2 rfl (b := w.heap.size) (v := .pointer none) (z := 0) rfl (al_new _ _) rfl) rfl ?_
    exact ⟨hB _, by rw [if_pos HX.out]; rfl⟩
  · rw [decide_eq_false hm] at hf
    obtain ⟨L, r1, r2, r3⟩ := (hb.row (by omega)).row
    obtain ⟨v, rfl⟩ : ∃ v, L = [(v, x)] := by
      match L, r2 with
      | [p], r2 =>
        have : p.2 = x := by simpa using r2
        exact ⟨p.1, by rw [← this]⟩
      | [], r2 => simp at r2
      | _ :: _ :: _, r2 => simp at r2
    obtain ⟨g, cap, rfl, hg0, hgl, hle, hcap, hRI⟩ := row_from r1 r3 (by simp)
    have hR0 := hRI 0
    have d0 := cell_al (hR0.at0 0 (v, x) rfl)
    have d1 := cell_al (hR0.at1 0 (v, x) rfl)
    simp only [Nat.zero_mul, Nat.zero_add] at d0 d1
    have hnx := hR0.nd 0 (v, x) rfl
    obtain ⟨pb, rfl, hpl⟩ := hnx.ptr
    have HN := Lib.hid hnx
    have c6 := cell_al (h_cell h 6 rfl)
    clear h hb hwt r1 r2 r3 hRI hR0 hnx
    by_cases hx : 10000 < x.size
    · have g1 : (10000 : Int) < szI x := (szI_gt x).2 hx
      go_enter Tryz.func39, Tryz.ntmps39
      go_wp2_with (go_at_call 59; refine (hf _).mono ?_; rintro e w1 ⟨rfl, hw⟩; rw [hw]; clear hw w1)
      refine bodyPost_ret (res_re2 rfl (b := w.heap.size) (v := .pointer none) (z := 0) rfl (al_new _ _) rfl) rfl ?_
      exact ⟨hB _, by rw [if_pos hx]; rfl⟩
    · have g1 : ¬ (10000 : Int) < szI x := fun e => hx ((szI_gt x).1 e)
      go_enter Tryz.func39, Tryz.ntmps39
      go_wp2_with (go_at_call 59; refine (hf _).mono ?_; rintro e w1 ⟨rfl, hw⟩; rw [hw]; clear hw w1)
      refine bodyPost_ret (res_re2 rfl (b := w.heap.size) (v := ptr pb) (z := szI x) rfl (al_new _ _) rfl) rfl ?_
      exact ⟨hB _, by rw [if_neg hx]; exact ⟨ptr pb, rfl, HN.out.keep (NKeep.of (hB _))⟩⟩
end
end Go.Proofs.YtlekfdkahlobiaaGreatDoor.Re
