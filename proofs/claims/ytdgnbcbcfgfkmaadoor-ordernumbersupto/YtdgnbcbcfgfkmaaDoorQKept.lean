/- The bytes that count, by the reference. -/
import Derived.Test.YtdgnbcbcfgfkmaaDoorQRef2
namespace Go.Proofs.YtdgnbcbcfgfkmaaDoor
open Go.RowKit

theorem isSm_nat (c : UInt8) : isSm c = decide (97 ≤ c.toNat ∧ c.toNat ≤ 122) := rfl
theorem u8_nat (c : UInt8) (n : Nat) (h : n < 256) : c = UInt8.ofNat n ↔ c.toNat = n := by
  rw [← UInt8.toNat_inj, show (UInt8.ofNat n).toNat = n by simp; omega]
theorem isWd_nat (c : UInt8) : isWd c = decide ((97 ≤ c.toNat ∧ c.toNat ≤ 122) ∨ (65 ≤ c.toNat ∧ c.toNat ≤ 90) ∨ (48 ≤ c.toNat ∧ c.toNat ≤ 57) ∨ c.toNat = 32 ∨ c.toNat = 9) := by
  have e1 : c = 32 ↔ c.toNat = 32 := u8_nat c 32 (by omega)
  have e2 : c = 9 ↔ c.toNat = 9 := u8_nat c 9 (by omega)
  unfold isWd isSm isDg isBl
  rw [Bool.eq_iff_iff]
  simp only [Bool.or_eq_true, decide_eq_true_eq, e1, e2]
  omega
theorem up_nat (c : UInt8) (h : isSm c = true) : ((c - 32).toNat : Int) = (c.toNat : Int) - 32 := by
  simp only [isSm, decide_eq_true_eq] at h
  rw [UInt8.toNat_sub_of_le _ _ (by rw [UInt8.le_iff_toNat_le]; simp; omega)]
  simp; omega
theorem u8_wrap (n : Int) (h : 0 ≤ n ∧ n ≤ 255) : IntKind.u8.wrap n = n := by
  simp only [IntKind.wrap, IntKind.signed, IntKind.bits]
  simp
  omega
set_option maxHeartbeats 4000000 in
set_option maxRecDepth 100000 in
theorem kept_c (v : Value) (d : List UInt8) (g : Fg) (w : World) (hd : d.length ≤ 2097152) (hB : ByAt w v d) :
    Calls Tryd.prog 28 #[v, g.val] w fun e w' => e = .returned (.string ⟨(keptS g d).toArray⟩) ∧ Below w.heap.size w w' := by
  obtain ⟨i0, hi, hz0, hz1, hz2⟩ := info_parts2 info_u8
  obtain ⟨x, cp, rfl⟩ := hB.shape
  have HB := Lib.hid hB
  clear hB
  unfold Fg.val
  generalize hn : d.length = n at hd ⊢
  have HN := Lib.hid hn
  clear hn
  simp only [Fg.cells]
  go_enter Tryd.func28, Tryd.ntmps28
  go_wp2_with fail
  generalize Value.agg #[.bool g.b, .bool g.e, .bool g.d, .bool g.f, .bool g.i, .bool g.n, .bool g.r] = AG
  go_loopw [5, 6] (fun ov iv wr => ∃ (k : Nat) (q : List UInt8), k ≤ n ∧ iv = .int .i64 k ∧ q.length ≤ k ∧ Hid (q = keptS g (d.take k)) ∧ Hid (wr.ownsRow (w.heap.size + 1) 5 1 ov q.length (u8s q)) ∧ Below (w.heap.size + 1) (w.alloc (.cells #[.bool g.b, .bool g.e, .bool g.d, .bool g.f, .bool g.i, .bool g.n, .bool g.r] 58)) wr) (fun _ iv _ => n - (intOf iv).toNat)
  case atStart => exact ⟨0, [], by omega, rfl, by simp, (show _ = _ from rfl), World.ownsRow_nil _ _ _ _, Below.refl _ _⟩
  case round =>
    obtain ⟨k, q, hk, rfl, hqk, HQ, HO, hbl⟩ := hrel
    by_cases hlt : k < n
    · obtain ⟨b, off, rfl, _, hcap, hb, hc⟩ := HB.out.some (by rw [HN.out]; omega)
      have hkd : k < d.length := by rw [HN.out]; exact hlt
      have hcx : wr.cell? ⟨b, off + k, none⟩ = some (.int .u8 ((d[k]).toNat : Int)) := by
        have h1 : (w.alloc (.cells #[.bool g.b, .bool g.e, .bool g.d, .bool g.f, .bool g.i, .bool g.n, .bool g.r] 58)).cell? ⟨b, off + k, none⟩ = some (.int .u8 ((d[k]).toNat : Int)) :=
          (((Below.refl w.heap.size w).alloc (Nat.le_refl _) _).cell (p := ⟨b, off + k, none⟩) hb).trans (hc k hkd)
        exact (hbl.cell (p := ⟨b, off + k, none⟩) (by show b < w.heap.size + 1; omega)).trans h1
      have hfl : wr.heap[w.heap.size]? = some (.cells #[.bool g.b, .bool g.e, .bool g.d, .bool g.f, .bool g.i, .bool g.n, .bool g.r] 58) := by
        rw [hbl.block w.heap.size (by omega)]; show (w.heap.push _)[w.heap.size]? = _; simp
      have g2 : wr.cell? ⟨w.heap.size, 2, none⟩ = some (.bool g.d) := by simp [World.cell?, hfl]
      have g3 : wr.cell? ⟨w.heap.size, 3, none⟩ = some (.bool g.f) := by simp [World.cell?, hfl]
      have g4 : wr.cell? ⟨w.heap.size, 4, none⟩ = some (.bool g.i) := by simp [World.cell?, hfl]
      have HQ' := Lib.hid (keptS_snoc g d k hkd)
      rw [← HQ.out] at HQ'
      clear hc hfl hcap HQ
      generalize d[k] = c at hcx HQ'
      clear hkd
      have hcn := c.toNat_lt
      go_upto_region 6 with fail
      go_cut [8] (fun v wx => v = .bool (isSm c) ∧ wx = wr)
      case first =>
        by_cases h1 : 97 ≤ c.toNat
        · by_cases h2 : c.toNat ≤ 122
          · (go_wp2_with fail; go_meet; (case rel => exact ⟨congrArg Value.bool (by rw [isSm_nat, Bool.eq_iff_iff]; simp <;> omega), rfl⟩))
          · (go_wp2_with fail; go_meet; (case rel => exact ⟨congrArg Value.bool (by rw [isSm_nat, Bool.eq_iff_iff]; simp <;> omega), rfl⟩))
        · (go_wp2_with fail; go_meet; (case rel => exact ⟨congrArg Value.bool (by rw [isSm_nat, Bool.eq_iff_iff]; simp <;> omega), rfl⟩))
      case rest =>
        obtain ⟨rfl, rfl⟩ := hcut
        go_upto_region 7 with fail
        go_cut [7, 8, 9] (fun x s v wx => x = .int .u8 (c.toNat : Int) ∧ s = .bool (isSm c) ∧ v = .bool (isWd c) ∧ wx = wc)
        case first =>
          have hsn := isSm_nat c
          cases hs : isSm c with
          | true =>
            rw [hs] at hsn
            have hsm : 97 ≤ c.toNat ∧ c.toNat ≤ 122 := of_decide_eq_true hsn.symm
            have HSM := Lib.hid hsm
            clear hsn hsm
            (go_wp2_with fail; go_meet; (case rel => exact ⟨by first | rfl | (rw [H3.out]; rfl) | (rw [H4.out]; rfl), by simp [hs], congrArg Value.bool (by have := HSM.out; rw [isWd_nat, Bool.eq_iff_iff]; simp <;> omega), rfl⟩))
          | false =>
            rw [hs] at hsn
            have hsm : ¬ (97 ≤ c.toNat ∧ c.toNat ≤ 122) := of_decide_eq_false hsn.symm
            have HSM := Lib.hid hsm
            clear hsn hsm
            by_cases h1 : 65 ≤ c.toNat
            · by_cases h2 : c.toNat ≤ 90
              · (go_wp2_with fail; go_meet; (case rel => exact ⟨by first | rfl | (rw [H3.out]; rfl) | (rw [H4.out]; rfl), by simp [hs], congrArg Value.bool (by have := HSM.out; rw [isWd_nat, Bool.eq_iff_iff]; simp <;> omega), rfl⟩))
              · have h3 : ¬ c.toNat ≤ 57 := by omega
                have e1 := u8_no (a := c) 32 (by omega) (by rintro rfl; simp at h1)
                have e2 := u8_no (a := c) 9 (by omega) (by rintro rfl; simp at h1)
                have e3 : ¬ c = 32 := by rintro rfl; simp at h1
                have e4 : ¬ c = 9 := by rintro rfl; simp at h1
                (go_wp2_with fail; go_meet; (case rel => exact ⟨by first | rfl | (rw [H3.out]; rfl) | (rw [H4.out]; rfl), by simp [hs], congrArg Value.bool (by have := HSM.out; rw [isWd_nat, Bool.eq_iff_iff]; simp <;> omega), rfl⟩))
            · by_cases h2 : 48 ≤ c.toNat
              · by_cases h3 : c.toNat ≤ 57
                · (go_wp2_with fail; go_meet; (case rel => exact ⟨by first | rfl | (rw [H3.out]; rfl) | (rw [H4.out]; rfl), by simp [hs], congrArg Value.bool (by have := HSM.out; rw [isWd_nat, Bool.eq_iff_iff]; simp <;> omega), rfl⟩))
                · have e1 := u8_no (a := c) 32 (by omega) (by rintro rfl; simp at h2)
                  have e2 := u8_no (a := c) 9 (by omega) (by rintro rfl; simp at h2)
                  have e3 : ¬ c = 32 := by rintro rfl; simp at h2
                  have e4 : ¬ c = 9 := by rintro rfl; simp at h2
                  (go_wp2_with fail; go_meet; (case rel => exact ⟨by first | rfl | (rw [H3.out]; rfl) | (rw [H4.out]; rfl), by simp [hs], congrArg Value.bool (by have := HSM.out; rw [isWd_nat, Bool.eq_iff_iff]; simp <;> omega), rfl⟩))
              · by_cases h3 : c = 32
                · have e1 := u8_yes (a := c) 32 (by omega) h3
                  have n1 : c.toNat = 32 := by rw [h3]; rfl
                  have H3 := Lib.hid h3
                  clear h3
                  (go_wp2_with fail; go_meet; (case rel => exact ⟨by first | rfl | (rw [H3.out]; rfl) | (rw [H4.out]; rfl), by simp [hs], congrArg Value.bool (by have := HSM.out; rw [isWd_nat, Bool.eq_iff_iff]; simp <;> omega), rfl⟩))
                · have e1 := u8_no (a := c) 32 (by omega) h3
                  have n1 : ¬ c.toNat = 32 := fun e => h3 (UInt8.toNat_inj.1 (by rw [e]; rfl))
                  by_cases h4 : c = 9
                  · have e2 := u8_yes (a := c) 9 (by omega) h4
                    have n2 : c.toNat = 9 := by rw [h4]; rfl
                    have H4 := Lib.hid h4
                    clear h4
                    (go_wp2_with fail; go_meet; (case rel => exact ⟨by first | rfl | (rw [H3.out]; rfl) | (rw [H4.out]; rfl), by simp [hs], congrArg Value.bool (by have := HSM.out; rw [isWd_nat, Bool.eq_iff_iff]; simp <;> omega), rfl⟩))
                  · have e2 := u8_no (a := c) 9 (by omega) h4
                    have n2 : ¬ c.toNat = 9 := fun e => h4 (UInt8.toNat_inj.1 (by rw [e]; rfl))
                    (go_wp2_with fail; go_meet; (case rel => exact ⟨by first | rfl | (rw [H3.out]; rfl) | (rw [H4.out]; rfl), by simp [hs], congrArg Value.bool (by have := HSM.out; rw [isWd_nat, Bool.eq_iff_iff]; simp <;> omega), rfl⟩))
        case rest =>
          obtain ⟨rfl, rfl, rfl, rfl⟩ := hcut
          go_upto_region 8 with fail
          go_cut [9, 68] (fun s v wx => s = .bool (isWd c) ∧ v = .bool (!counts1 g c) ∧ wx = wc)
          case first =>
            have h3 : c.toNat < 32 ∨ (¬ c.toNat < 32 ∧ 126 < c.toNat) ∨ (¬ c.toNat < 32 ∧ ¬ 126 < c.toNat) := by omega
            cases hgd : g.d <;> cases hgi : g.i <;> cases hw : isWd c <;> rcases h3 with h3 | ⟨h3, h4⟩ | ⟨h3, h4⟩ <;> (go_wp2_with fail; go_meet; (case rel => exact ⟨by rw [hw], congrArg Value.bool (by unfold counts1; rw [hgd, hgi, hw, Bool.eq_iff_iff]; simp <;> omega), rfl⟩))
          case rest =>
            obtain ⟨rfl, rfl, rfl⟩ := hcut
            cases hct : counts1 g c with
            | false =>
              rw [if_neg (by rw [hct]; simp), List.append_nil] at HQ'
              go_wp2_with fail
              exact ⟨⟨k + 1, q, by omega, by go_num, by omega, HQ'.out.symm, HO, hbl⟩, by simp [intOf]; omega⟩
            | true =>
              rw [if_pos hct] at HQ'
              cases hup : (g.f && isSm c) with
              | true =>
                have hsm : isSm c = true := by simp at hup; exact hup.2
                have hgf : g.f = true := by simp at hup; exact hup.1
                have hu : upS g c = c - 32 := by unfold upS; rw [if_pos hup]
                have hnn := up_nat c hsm
                rw [hu] at HQ'
                have hsm2 := hsm
                simp only [isSm, decide_eq_true_eq] at hsm2
                go_wp2_with (first | (at_builtin; refine wpList_append_own _ rfl _ _ 23 rfl (w.heap.size + 1) 5 i0 (.int .u8 0) 1 1 Tryd.underlying23 hi hz0 hz1 hz2 rfl (by decide) _ _ _ rfl (HO.out.alloc _) ⟨wc.heap.size, 0, none⟩ 1 1 [.int .u8 ((c.toNat : Int) - 32)] rfl rfl (cell_one_new _ _ _) (by simp [Value.oneCell']) (by unfold maxLen; omega) (by omega) (by have := hbl.size; simp at this; simp; omega) ?_; intro v2 w2 hown2 hgrow2 _))
                rw [← hnn] at hown2
                refine ⟨⟨k + 1, q ++ [c - 32], by omega, by go_num, by simp; omega, HQ'.out.symm, ?_, ?_⟩, by simp [intOf]; omega⟩
                · show w2.ownsRow _ _ _ _ _ _
                  rw [show (q ++ [c - 32]).length = q.length + 1 by simp, show u8s (q ++ [c - 32]) = u8s q ++ [.int .u8 ((c - 32).toNat : Int)] by simp [u8s]]
                  exact hown2
                · exact (hbl.alloc (by have := hbl.size; simp at this; omega) _).grown hgrow2 (by have := hbl.size; simp at this; simp; omega) (fun j ej => own_ge2 HO.out j ej)
              | false =>
                have hu : upS g c = c := by unfold upS; rw [if_neg (by rw [hup]; simp)]
                rw [hu] at HQ'
                cases hgf : g.f with
                | false =>
                  go_wp2_with (first | (at_builtin; refine wpList_append_own _ rfl _ _ 23 rfl (w.heap.size + 1) 5 i0 (.int .u8 0) 1 1 Tryd.underlying23 hi hz0 hz1 hz2 rfl (by decide) _ _ _ rfl (HO.out.alloc _) ⟨wc.heap.size, 0, none⟩ 1 1 [.int .u8 (c.toNat : Int)] rfl rfl (cell_one_new _ _ _) (by simp [Value.oneCell']) (by unfold maxLen; omega) (by omega) (by have := hbl.size; simp at this; simp; omega) ?_; intro v2 w2 hown2 hgrow2 _))
                  refine ⟨⟨k + 1, q ++ [c], by omega, by go_num, by simp; omega, HQ'.out.symm, ?_, ?_⟩, by simp [intOf]; omega⟩
                  · show w2.ownsRow _ _ _ _ _ _
                    rw [show (q ++ [c]).length = q.length + 1 by simp, show u8s (q ++ [c]) = u8s q ++ [.int .u8 (c.toNat : Int)] by simp [u8s]]
                    exact hown2
                  · exact (hbl.alloc (by have := hbl.size; simp at this; omega) _).grown hgrow2 (by have := hbl.size; simp at this; simp; omega) (fun j ej => own_ge2 HO.out j ej)
                | true =>
                  have hsm : isSm c = false := by rw [hgf] at hup; simpa using hup
                  go_wp2_with (first | (at_builtin; refine wpList_append_own _ rfl _ _ 23 rfl (w.heap.size + 1) 5 i0 (.int .u8 0) 1 1 Tryd.underlying23 hi hz0 hz1 hz2 rfl (by decide) _ _ _ rfl (HO.out.alloc _) ⟨wc.heap.size, 0, none⟩ 1 1 [.int .u8 (c.toNat : Int)] rfl rfl (cell_one_new _ _ _) (by simp [Value.oneCell']) (by unfold maxLen; omega) (by omega) (by have := hbl.size; simp at this; simp; omega) ?_; intro v2 w2 hown2 hgrow2 _))
                  refine ⟨⟨k + 1, q ++ [c], by omega, by go_num, by simp; omega, HQ'.out.symm, ?_, ?_⟩, by simp [intOf]; omega⟩
                  · show w2.ownsRow _ _ _ _ _ _
                    rw [show (q ++ [c]).length = q.length + 1 by simp, show u8s (q ++ [c]) = u8s q ++ [.int .u8 (c.toNat : Int)] by simp [u8s]]
                    exact hown2
                  · exact (hbl.alloc (by have := hbl.size; simp at this; omega) _).grown hgrow2 (by have := hbl.size; simp at this; simp; omega) (fun j ej => own_ge2 HO.out j ej)
    · have HR : Hid (q = keptS g d) := by
        have := HQ.out
        rw [List.take_of_length_le (by rw [HN.out]; omega)] at this
        exact this
      clear HQ
      have hcv := str_of (by_own HO.out rfl)
      go_wp2_with fail
      go_ret
      refine ⟨?_, ?_⟩
      · rw [HR.out]; rfl
      · exact below_new (o := .cells #[.bool g.b, .bool g.e, .bool g.d, .bool g.f, .bool g.i, .bool g.n, .bool g.r] 58) (by simpa using hbl)
end Go.Proofs.YtdgnbcbcfgfkmaaDoor
