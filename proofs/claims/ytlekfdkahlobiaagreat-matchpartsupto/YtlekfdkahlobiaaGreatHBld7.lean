/- The builder: a branch ends: the walk. -/
import Derived.Deep.RegionHeld3
import Derived.Test.YtlekfdkahlobiaaGreatHBld6
namespace Go.Proofs.YtlekfdkahlobiaaGreat.Re
open Go.RowKit

section
variable {w : World} {rb : Nat} {l : List UInt8} {ext fold cl : Bool} {last depth made : Int} {pv ov : Value}
set_option maxHeartbeats 1000000 in
theorem ebr_full (h : Rd w rb l ext fold last depth cl pv ov made) (hm : 10000 < made) :
    Calls Tryz.prog 69 #[bldP rb] w fun e w' => e = .returned (.tuple #[]) ∧ w' = w := by
  have hf := isFull_c h
  rw [decide_eq_true hm] at hf
  clear h
  go_enter Tryz.func69, Tryz.ntmps69
  go_wp2_with (go_at_call 60; refine hf.mono ?_; rintro e w1 ⟨rfl, hw⟩; rw [hw]; clear hw w1)
  refine bodyPost_ret (results_none rfl _ _ _) rfl ?_
  exact ⟨rfl, rfl⟩
set_option maxHeartbeats 40000000 in
set_option maxRecDepth 100000 in
theorem ebr_b {fs : List Fr} {br pc : List Nd} (hpc : pc ≠ []) (h : Rd w rb l ext fold last depth cl pv ov made) (hb : BdR w rb pv ov made ((br, pc) :: fs)) (hm : made ≤ 10000) (hfs : fs.length ≤ 2097152) :
    Calls Tryz.prog 69 #[bldP rb] w (BlO rb l ext fold last depth cl w (EbP rb br (joinN 4 pc) fs made)) := by
  have hf := isFull_c h
  rw [decide_eq_false (by omega)] at hf
  obtain ⟨L, g, cap, P, gs, caps, E⟩ := eb_prep h hb hpc
  obtain ⟨pve, ove, pl, lc, cm, ll, cs, gb, sb, s1, cat, own, kr, ks, fin⟩ := E
  subst pve ove
  have HE := Lib.hid (And.intro own (And.intro kr (And.intro ks fin)))
  have c6 := h_cell h 6 rfl
  have c7 := h_cell h 7 rfl
  have hrb := h_lt h
  obtain ⟨i0, hi, hz0, hz1, hz2⟩ := p_info info_re
  have q1 : IntKind.i64.wrap ((fs.length : Int) + 1 - 1) = (fs.length : Int) := by rw [show (fs.length : Int) + 1 - 1 = (fs.length : Int) by omega]; exact IntWalk.i64_in _ (by omega)
  have q2 : ((fs.length : Int)).toNat = fs.length := by omega
  have q3 : (P : Int) ≤ (cap : Int) := by omega
  have q4 : (P : Int) ≤ (L.length : Int) := by omega
  have q6 : ¬ cap = P := by omega
  have q7 : ((L.length : Int) == (P : Int)) = false := by rw [beq_eq_false_iff_ne]; omega
  have q8 : IntKind.i64.wrap ((P : Int) + 1) = (P : Int) + 1 := IntWalk.i64_in _ (by omega)
  clear h hb own kr ks fin
  go_enter Tryz.func69, Tryz.ntmps69
  go_upto_region 1 with (go_at_call 60; refine hf.mono ?_; rintro e w1 ⟨rfl, hw⟩; rw [hw]; clear hw w1)
  go_quiet (fail)
  have hB1 : Below w.heap.size w (w.drewN nq) := below_drewN
  have c6a : (w.drewN nq).cell? ⟨rb, 6, none⟩ = _ := c6
  have s1a : (w.drewN nq).cell? ⟨gs, fs.length * 2 + 1, none⟩ = _ := s1
  generalize w.drewN nq = W1 at hB1 c6a s1a ⊢
  go_upto_region 2 with fail
  go_quiet (fail)
  have hB2 : Below w.heap.size w (W1.drewN nq) := hB1.trans below_drewN
  have c6b : (W1.drewN nq).cell? ⟨rb, 6, none⟩ = _ := c6a
  have s1b : (W1.drewN nq).cell? ⟨gs, fs.length * 2 + 1, none⟩ = _ := s1a
  generalize W1.drewN nq = W at hB2 c6b s1b ⊢
  have hBD : Below w.heap.size w W.drew := hB2.drew
  generalize joinN 4 pc = J at *
  clear c6a s1a hB1 hB2 hf
  go_upto_region 4 with fail
  go_region_law (first
    | (refine step_append_lies _ rfl _ _ 35 rfl (rb + 1) 38 i0 (.agg #[.pointer none, .int .i64 0]) 2 16 Tryz.underlying35 hi hz0 hz1 hz2 rfl (by decide) (.slice (some ⟨g, 0, none⟩) P cap) P (reCells (L.take P)) (by first | rfl | simp [Act.eval, Act.put]) (HE.out.1 w1 _ HW.out.2) ⟨w1.heap.size, 0, none⟩ 1 1 [ptr pb, .int .i64 (szI J)] (by first | rfl | simp [Act.eval, Act.put]) rfl (cell_two w1 _ _ _) (by simp [Value.oneCell']) (by decide) (by unfold maxLen; omega) (by omega) (by simp; omega) _ rfl ?_; intro gg cap2 w2 hown2 hgrow2 hat hlt2; have hR2 := HE.out.2.1 w1 _ w2 HW.out.2 hgrow2; have hk6 := h_cell hR2 6 rfl; have hz6 := h_fz hR2 6; have hS2 := HE.out.2.2.1 w1 _ w2 (.slice (some ⟨gg, 0, none⟩) (P + 1) cap2) HW.out.2 hgrow2; obtain ⟨hks, hzs, hkw⟩ := hS2; have H2 := Lib.hid (And.intro hown2 hgrow2); clear hown2 hgrow2 hat hlt2 hR2)
    | (go_simp; go_at_call 14; refine (cat _ hBD).mono ?_; rintro e w1 ⟨v1, rfl, hn1, hB1⟩; obtain ⟨pb, rfl, hpb⟩ := hn1.ptr; have hB2 := hBD.trans (hB1.mono hBD.size); have e6 := cell_below hB2 c6; have e6a := cell_al e6; have es := cell_below hB2 s1; have esa := cell_al es; have hs1 := hB2.size; have HW := Lib.hid (And.intro hn1 hB2); clear hn1 hB1 hB2))
  all_goals
    go_wp2_with fail
    go_end0
    exact HE.out.2.2.2 w1 _ _ w2 _ _ HW.out.1 HW.out.2 H2.out.1 H2.out.2
end
end Go.Proofs.YtlekfdkahlobiaaGreat.Re
