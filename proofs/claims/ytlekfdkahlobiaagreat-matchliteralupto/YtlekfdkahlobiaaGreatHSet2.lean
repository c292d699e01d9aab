/- The program's sets: turned, folded, of one byte. -/
import Derived.Test.YtlekfdkahlobiaaGreatHSet
namespace Go.Proofs.YtlekfdkahlobiaaGreat.Re
open Go.Proofs.YtlekfdkahlobiaaGreat.Tr
open Go.RowKit

theorem box_blH (w : World) (p : UInt8 → Bool) : ∃ cs : Array Value, (boolsL p).toArray = cs ∧ cs.size = 256 ∧ Hid (BlP ((w.alloc (.cells cs 40)).alloc (.cells Tryz.zeroCells40 40)) w.heap.size p ∧ BlP ((w.alloc (.cells cs 40)).alloc (.cells Tryz.zeroCells40 40)) (w.heap.size + 1) noB ∧ Below w.heap.size w ((w.alloc (.cells cs 40)).alloc (.cells Tryz.zeroCells40 40))) := ⟨_, rfl, bl_size p, Lib.hid (box_bl w p)⟩
def turnU (p : UInt8 → Bool) (k : Nat) : UInt8 → Bool := fun c => if c.toNat < k then !p c else p c
theorem turnU_next {p : UInt8 → Bool} {k : Nat} : hsetP (turnU p k) k (!(p (UInt8.ofNat k))) = turnU p (k + 1) := by
  funext c
  unfold hsetP turnU
  by_cases e : c.toNat = k
  · rw [if_pos e, if_pos (by omega), ← hof_toNat e]
  · rw [if_neg e]
    by_cases h2 : c.toNat < k
    · rw [if_pos h2, if_pos (by omega)]
    · rw [if_neg h2, if_neg (by omega)]
theorem turnU_end (p : UInt8 → Bool) : turnU p 256 = fun c => !p c := by
  funext c
  unfold turnU
  rw [if_pos c.toNat_lt]
theorem turnU_at {p : UInt8 → Bool} {k : Nat} (h : k < 256) : turnU p k (UInt8.ofNat k) = p (UInt8.ofNat k) := by
  unfold turnU
  rw [if_neg (by rw [hofNat_toNat h]; omega)]
/-- The end of a function that answers a set. -/
theorem fin_bl {w W : World} {b : Nat} {p q : UInt8 → Bool} (h1 : BlP W b q) (hB : Below w.heap.size w W) (hb : w.heap.size ≤ b) : (storeCells ⟨b, 0, none⟩ (boolsL p).toArray.toList).run Tryz.prog W = .ok () (W.setRow b (boolsL p).toArray) ∧ BlP (W.setRow b (boolsL p).toArray) b p ∧ Below w.heap.size w (W.setRow b (boolsL p).toArray) := by
  refine ⟨store_arr h1 (by rw [bl_size, bl_size]) (bl_one p), setRow_heap _ _ _ _ _ _ h1, below_setRow hB hb _⟩
set_option maxHeartbeats 2000000 in
set_option maxRecDepth 100000 in
theorem turned_c (p : UInt8 → Bool) (w : World) : Calls Tryz.prog 66 #[bl p] w fun e w' => e = .returned (bl fun c => !p c) ∧ Below w.heap.size w w' := by
  obtain ⟨cs, hcs, hsz, HB0⟩ := box_blH w p
  unfold bl
  rw [hcs]
  clear hcs
  go_enter Tryz.func66, Tryz.ntmps66
  go_wp2_with fail
  generalize (w.alloc (.cells cs 40)).alloc (.cells Tryz.zeroCells40 40) = W at HB0 ⊢
  go_loopw [4] (fun v4 wr => ∃ k : Nat, k ≤ 256 ∧ v4 = .int .i64 (k : Int) ∧ Hid (BlP wr w.heap.size (turnU p k) ∧ BlP wr (w.heap.size + 1) noB ∧ Below w.heap.size w wr)) (fun v4 _ => 256 - (intOf v4).toNat)
  case atStart => exact ⟨0, by omega, rfl, (show _ ∧ _ ∧ _ from ⟨HB0.out.1, HB0.out.2⟩)⟩
  case round =>
    obtain ⟨k, hk, rfl, HI⟩ := hrel
    clear HB0
    by_cases hlt : k < 256
    · have n1 : (k : Int) < 256 := by omega
      have c0 := h_cell HI.out.1 k (bl_at _ k hlt)
      rw [turnU_at hlt] at c0
      have z0 := h_fz HI.out.1 k
      have HN : Hid (BlP (wr.setCell ⟨w.heap.size, k, none⟩ (.bool (!p (UInt8.ofNat k)))) w.heap.size (turnU p (k + 1)) ∧ BlP (wr.setCell ⟨w.heap.size, k, none⟩ (.bool (!p (UInt8.ofNat k)))) (w.heap.size + 1) noB ∧ Below w.heap.size w (wr.setCell ⟨w.heap.size, k, none⟩ (.bool (!p (UInt8.ofNat k))))) := by
        refine ⟨?_, (Below.heap_setCell _ _ _ _ (by simp)).trans HI.out.2.1, HI.out.2.2.setCell (p := ⟨w.heap.size, k, none⟩) (Nat.le_refl _) _⟩
        have := bl_set HI.out.1 k (!p (UInt8.ofNat k))
        rw [turnU_next] at this
        exact this
      clear HI
      go_wp2_with fail
      exact ⟨⟨k + 1, by omega, by go_num, HN⟩, by simp [intOf]; omega⟩
    · obtain rfl : k = 256 := by omega
      rw [turnU_end] at HI
      obtain ⟨f1, f2, f3⟩ := fin_bl (p := fun c => !p c) HI.out.2.1 HI.out.2.2 (by omega)
      have h0 := HI.out.1
      have hz := bl_size (fun c => !p c)
      unfold BlP at h0 f2
      generalize hds : (boolsL fun c => !p c).toArray = ds at h0 f1 f2 f3 hz
      have HD := Lib.hid hds
      clear hds
      have HF := Lib.hid (And.intro h0 (And.intro f2 f3))
      clear h0 f2 f3 HI
      go_wp2_with fail
      refine wp_load_arr 40 (.tmp 1) rfl w.heap.size ds rfl 40 HF.out.1 Tryz.underlying40 rfl (by rw [hz]; exact info256) ?_
      go_wp2_with fail
      refine bodyPost_ret (results_cell_row rfl _ _ (w.heap.size + 1) 40 ds (0, 0) _ rfl HF.out.2.1 Tryz.underlying40 rfl (by rw [hz]; exact info256)) rfl ?_
      exact ⟨by rw [HD.out], HF.out.2.2⟩
set_option maxHeartbeats 2000000 in
set_option maxRecDepth 100000 in
theorem folded_c (p : UInt8 → Bool) (w : World) : Calls Tryz.prog 21 #[bl p] w fun e w' => e = .returned (bl (foldP true p)) ∧ Below w.heap.size w w' := by
  obtain ⟨cs, hcs, hsz, HB0⟩ := box_blH w p
  unfold bl
  rw [hcs]
  clear hcs
  go_enter Tryz.func21, Tryz.ntmps21
  go_wp2_with fail
  generalize (w.alloc (.cells cs 40)).alloc (.cells Tryz.zeroCells40 40) = W at HB0 ⊢
  go_loopw [3] (fun v3 wr => ∃ k : Nat, 65 ≤ k ∧ k ≤ 91 ∧ v3 = .int .u8 (k : Int) ∧ Hid (BlP wr w.heap.size (hfoldU p k) ∧ BlP wr (w.heap.size + 1) noB ∧ Below w.heap.size w wr)) (fun v3 _ => 91 - (intOf v3).toNat)
  case atStart => exact ⟨65, by omega, by omega, rfl, (show _ ∧ _ ∧ _ from ⟨by rw [hfoldU_0]; exact HB0.out.1, HB0.out.2⟩)⟩
  case round =>
    obtain ⟨k, hk0, hk, rfl, HI⟩ := hrel
    clear HB0
    by_cases hlt : k ≤ 90
    · have n1 : (k : Int) ≤ 90 := by omega
      have w1 : IntKind.u8.wrap ((k : Int) - 65) = (k : Int) - 65 := IntWalk.u8_in _ (by omega)
      have w2 : IntKind.u8.wrap ((k : Int) - 65 + 97) = ((k + 32 : Nat) : Int) := by rw [show (k : Int) - 65 + 97 = ((k + 32 : Nat) : Int) by omega]; exact IntWalk.u8_in _ (by omega)
      have w3 : IntKind.u8.wrap ((k : Int) + 1) = (k : Int) + 1 := IntWalk.u8_in _ (by omega)
      have cA := h_cell HI.out.1 k (bl_at _ k (by omega))
      have cB := h_cell HI.out.1 (k + 32) (bl_at _ (k + 32) (by omega))
      have zA := h_fz HI.out.1 k
      have nx : ∀ v : Bool, v = (hfoldU p k (UInt8.ofNat k) || hfoldU p k (UInt8.ofNat (k + 32))) → Hid (BlP ((wr.setCell ⟨w.heap.size, k, none⟩ (.bool v)).setCell ⟨w.heap.size, k + 32, none⟩ (.bool v)) w.heap.size (hfoldU p (k + 1)) ∧ BlP ((wr.setCell ⟨w.heap.size, k, none⟩ (.bool v)).setCell ⟨w.heap.size, k + 32, none⟩ (.bool v)) (w.heap.size + 1) noB ∧ Below w.heap.size w ((wr.setCell ⟨w.heap.size, k, none⟩ (.bool v)).setCell ⟨w.heap.size, k + 32, none⟩ (.bool v))) ∧ (wr.setCell ⟨w.heap.size, k, none⟩ (.bool v)).cell? ⟨w.heap.size, k + 32, none⟩ = some (.bool (hsetP (hfoldU p k) k v (UInt8.ofNat (k + 32)))) ∧ (wr.setCell ⟨w.heap.size, k, none⟩ (.bool v)).frozen? ⟨w.heap.size, k + 32, none⟩ = false := fun v hv => by
        have h2 := bl_set HI.out.1 k v
        refine ⟨Lib.hid ⟨?_, (Below.heap_setCell _ _ _ _ (by simp)).trans ((Below.heap_setCell _ _ _ _ (by simp)).trans HI.out.2.1), (HI.out.2.2.setCell (p := ⟨w.heap.size, k, none⟩) (Nat.le_refl _) _).setCell (p := ⟨w.heap.size, k + 32, none⟩) (Nat.le_refl _) _⟩, h_cell h2 _ (bl_at _ (k + 32) (by omega)), h_fz h2 _⟩
        have := bl_set h2 (k + 32) v
        rw [hfoldU_next hk0 hlt v hv] at this
        exact this
      have HX : Hid (∀ v : Bool, v = (hfoldU p k (UInt8.ofNat k) || hfoldU p k (UInt8.ofNat (k + 32))) → _) := nx
      clear nx HI
      cases hv : hfoldU p k (UInt8.ofNat k) with
      | true =>
        rw [hv] at cA
        obtain ⟨HN, dB, yB⟩ := HX.out true (by rw [hv]; rfl)
        clear HX hv
        go_wp2_with fail
        exact ⟨⟨k + 1, by omega, by omega, by go_num, HN⟩, by simp [intOf]; omega⟩
      | false =>
        rw [hv] at cA
        cases hu : hfoldU p k (UInt8.ofNat (k + 32)) with
        | true =>
          rw [hu] at cB
          obtain ⟨HN, dB, yB⟩ := HX.out true (by rw [hv, hu]; rfl)
          clear HX hv hu
          go_wp2_with fail
          exact ⟨⟨k + 1, by omega, by omega, by go_num, HN⟩, by simp [intOf]; omega⟩
        | false =>
          rw [hu] at cB
          obtain ⟨HN, dB, yB⟩ := HX.out false (by rw [hv, hu]; rfl)
          clear HX hv hu
          go_wp2_with fail
          exact ⟨⟨k + 1, by omega, by omega, by go_num, HN⟩, by simp [intOf]; omega⟩
    · obtain rfl : k = 91 := by omega
      rw [hfoldU_end] at HI
      obtain ⟨f1, f2, f3⟩ := fin_bl (p := (foldP true p)) HI.out.2.1 HI.out.2.2 (by omega)
      have h0 := HI.out.1
      have hz := bl_size ((foldP true p))
      unfold BlP at h0 f2
      generalize hds : (boolsL (foldP true p)).toArray = ds at h0 f1 f2 f3 hz
      have HD := Lib.hid hds
      clear hds
      have HF := Lib.hid (And.intro h0 (And.intro f2 f3))
      clear h0 f2 f3 HI
      go_wp2_with fail
      refine wp_load_arr 40 (.tmp 1) rfl w.heap.size ds rfl 40 HF.out.1 Tryz.underlying40 rfl (by rw [hz]; exact info256) ?_
      go_wp2_with fail
      refine bodyPost_ret (results_cell_row rfl _ _ (w.heap.size + 1) 40 ds (0, 0) _ rfl HF.out.2.1 Tryz.underlying40 rfl (by rw [hz]; exact info256)) rfl ?_
      exact ⟨by rw [HD.out], HF.out.2.2⟩
end Go.Proofs.YtlekfdkahlobiaaGreat.Re
