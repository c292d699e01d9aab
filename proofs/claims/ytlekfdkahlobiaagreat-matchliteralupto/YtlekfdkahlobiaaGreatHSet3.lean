/- The program's sets of one byte. -/
import Derived.Deep.DeepCutAuto
import Derived.Deep.CutBlock
import Derived.Test.YtlekfdkahlobiaaGreatHSet2
namespace Go.Proofs.YtlekfdkahlobiaaGreat.Re
open Go.Proofs.YtlekfdkahlobiaaGreat.Tr
open Go.RowKit

theorem set_eq (c : UInt8) : hsetP noB c.toNat true = fun d => d == c := by
  funext d
  unfold hsetP noB
  by_cases h : d.toNat = c.toNat
  · rw [if_pos h, UInt8.toNat_inj.1 h]; simp
  · rw [if_neg h]
    symm
    rw [beq_eq_false_iff_ne]
    exact fun e => h (by rw [e])
theorem two_bl (w : World) : Hid (BlP ((w.alloc (.cells Tryz.zeroCells40 40)).alloc (.cells Tryz.zeroCells40 40)) w.heap.size noB ∧ BlP ((w.alloc (.cells Tryz.zeroCells40 40)).alloc (.cells Tryz.zeroCells40 40)) (w.heap.size + 1) noB ∧ Below w.heap.size w ((w.alloc (.cells Tryz.zeroCells40 40)).alloc (.cells Tryz.zeroCells40 40))) := by
  have h := box_bl w noB
  rw [← bl_zero] at h
  exact h
set_option maxHeartbeats 2000000 in
set_option maxRecDepth 100000 in
theorem only_c (c : UInt8) (fold : Bool) (w : World) : Calls Tryz.prog 13 #[.int .u8 (c.toNat : Int), .bool fold] w fun e w' => e = .returned (bl (foldP fold fun d => d == c)) ∧ Below w.heap.size w w' := by
  have HB0 := two_bl w
  have hc := c.toNat_lt
  have hc2 : (c.toNat : Int) < 256 := by omega
  have hcT : ((c.toNat : Int)).toNat = c.toNat := by omega
  go_enter Tryz.func13, Tryz.ntmps13
  go_upto_region 2 with fail
  generalize (w.alloc (.cells Tryz.zeroCells40 40)).alloc (.cells Tryz.zeroCells40 40) = W at HB0 ⊢
  have c5 := h_cell HB0.out.2.1 c.toNat (bl_at _ _ hc)
  have z5 := h_fz HB0.out.2.1 c.toNat
  have HB1 : Hid (BlP (W.setCell ⟨w.heap.size + 1, c.toNat, none⟩ (.bool true)) w.heap.size noB ∧ BlP (W.setCell ⟨w.heap.size + 1, c.toNat, none⟩ (.bool true)) (w.heap.size + 1) (fun d => d == c) ∧ Below w.heap.size w (W.setCell ⟨w.heap.size + 1, c.toNat, none⟩ (.bool true))) := by
    refine ⟨(Below.heap_setCell _ _ _ _ (by simp)).trans HB0.out.1, ?_, HB0.out.2.2.setCell (p := ⟨w.heap.size + 1, c.toNat, none⟩) (by show w.heap.size ≤ w.heap.size + 1; omega) _⟩
    have := bl_set HB0.out.2.1 c.toNat true
    rw [set_eq] at this
    exact this
  clear HB0
  have hfo := folded_c (fun d => d == c) (W.setCell ⟨w.heap.size + 1, c.toNat, none⟩ (.bool true))
  unfold bl at hfo
  have hz0 := bl_size (fun d => d == c)
  have h1 := HB1.out.2.1
  unfold BlP at h1
  generalize hds0 : (boolsL fun d => d == c).toArray = d0 at hfo hz0 h1
  have HD0 := Lib.hid hds0
  clear hds0
  have H1 := Lib.hid h1
  clear h1
  cases fold with
  | false =>
    obtain ⟨f1, f2, f3⟩ := fin_bl (p := fun d => d == c) HB1.out.1 HB1.out.2.2 (Nat.le_refl _)
    unfold BlP at f2
    rw [HD0.out] at f1 f2 f3
    have HF := Lib.hid (And.intro f2 f3)
    clear f2 f3 hfo
    go_wp2_with fail
    refine wp_load_arr 40 (.tmp 5) rfl (w.heap.size + 1) d0 rfl 40 H1.out Tryz.underlying40 rfl (by rw [hz0]; exact info256) ?_
    go_wp2_with fail
    refine bodyPost_ret (results_cell_row rfl _ _ w.heap.size 40 d0 (0, 0) _ rfl HF.out.1 Tryz.underlying40 rfl (by rw [hz0]; exact info256)) rfl ?_
    exact ⟨by unfold bl; rw [hfoldP_false, HD0.out], HF.out.2⟩
  | true =>
    have hz1 := bl_size (foldP true fun d => d == c)
    have HS : Hid (∀ u, Below (W.setCell ⟨w.heap.size + 1, c.toNat, none⟩ (.bool true)).heap.size (W.setCell ⟨w.heap.size + 1, c.toNat, none⟩ (.bool true)) u → _) := fun u hu => fin_bl (p := foldP true fun d => d == c) (w := w) (W := u) (b := w.heap.size) (q := noB) ((hu.block _ (h_lt HB1.out.1)).trans HB1.out.1) (HB1.out.2.2.trans (hu.mono HB1.out.2.2.size)) (Nat.le_refl _)
    unfold BlP at HS
    generalize hds1 : (boolsL (foldP true fun d => d == c)).toArray = d1 at hfo hz1 HS
    have HD1 := Lib.hid hds1
    clear hds1
    go_wp2_with fail
    refine wp_load_arr 40 (.tmp 5) rfl (w.heap.size + 1) d0 rfl 40 H1.out Tryz.underlying40 rfl (by rw [hz0]; exact info256) ?_
    go_wp2_with (go_at_call 21; refine hfo.mono ?_; rintro e w1 ⟨rfl, hB1⟩; obtain ⟨f1, f2, f3⟩ := HS.out w1 hB1; have HF := Lib.hid (And.intro f2 f3); clear f2 f3)
    refine bodyPost_ret (results_cell_row rfl _ _ w.heap.size 40 d1 (0, 0) _ rfl HF.out.1 Tryz.underlying40 rfl (by rw [hz1]; exact info256)) rfl ?_
    exact ⟨by unfold bl; rw [HD1.out], HF.out.2⟩
end Go.Proofs.YtlekfdkahlobiaaGreat.Re
