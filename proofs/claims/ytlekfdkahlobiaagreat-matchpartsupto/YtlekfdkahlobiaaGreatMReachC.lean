/- All states that can be come to at a place: reach. -/
import Derived.Test.YtlekfdkahlobiaaGreatMWalkC
namespace Go.Proofs.YtlekfdkahlobiaaGreat.Re
open Go.Proofs.YtlekfdkahlobiaaGreat.Tr
open Go.RowKit Go.Maps

/-- The states in memory. -/
def StR (w : World) (sb : Nat) (B : Bst) : Prop :=
  ∀ (q : Nat) (s : Stt), B.sts[q]? = some s → w.cell? ⟨sb, q * 4, none⟩ = some (.int .i64 (s.kind : Int)) ∧ w.cell? ⟨sb, q * 4 + 1, none⟩ = some (.int .i64 (s.set : Int)) ∧ w.cell? ⟨sb, q * 4 + 2, none⟩ = some (.int .i64 (s.next : Int)) ∧ w.cell? ⟨sb, q * 4 + 3, none⟩ = some (.int .i64 (s.other : Int))
theorem StR.below {w w' : World} {n0 sb : Nat} {B : Bst} (h : StR w sb B) (hs : sb < n0) (hb : Below n0 w w') : StR w' sb B := fun q s hq => by
  obtain ⟨h1, h2, h3, h4⟩ := h q s hq
  exact ⟨(hb.cell hs).trans h1, (hb.cell hs).trans h2, (hb.cell hs).trans h3, (hb.cell hs).trans h4⟩
section
variable {w : World} {n0 wb rb rcap n : Nat} {sb sc : Nat} {tv rv lv : Value} {tr rm : List (Nat × Nat)} {rch : List Nat} {B : Bst}
/-- What reach leaves. -/
def ReachO (w : World) (n0 wb rb rcap n sb sc : Nat) (rv : Value) (tr rm : List (Nat × Nat)) (B : Bst) (a i q0 : Nat) (e : Ending) (w' : World) : Prop :=
  e = .returned (.tuple #[]) ∧ ∃ tv' lv' rch' tr', WM w' n0 wb rb rcap (.slice (some ⟨sb, 0, none⟩) B.sts.length sc) n tv' rv lv' tr' rm rch' [] ∧ RcO n B a i q0 tr rch' tr' ∧ Below n0 w w'
/-- Between two rounds. -/
structure RhI (w : World) (n0 wb rb rcap n sb sc : Nat) (rv : Value) (rm : List (Nat × Nat)) (B : Bst) (a i q0 : Nat) (rch0 : List Nat) (tr0 : List (Nat × Nat)) (wr : World) (tv lv : Value) (tr : List (Nat × Nat)) (rch l : List Nat) (gk : Nat) : Prop where
  wm : WM wr n0 wb rb rcap (.slice (some ⟨sb, 0, none⟩) B.sts.length sc) n tv rv lv tr rm rch l
  rc : RcI n B a i q0 rch0 tr0 rch tr l
  bel : Below n0 w wr
  ms : 2 * unm a rch + l.length ≤ gk
set_option maxHeartbeats 8000000 in
set_option maxRecDepth 100000 in
theorem reach_c {a i q0 : Nat} (hW : WM w n0 wb rb rcap (.slice (some ⟨sb, 0, none⟩) B.sts.length sc) n tv rv lv tr rm rch []) (hB : Okb B) (hK : WkI n B a rch tr []) (hS : StR w sb B) (hsb : sb < n0) (hN : B.sts.length ≤ 50000) (hq : q0 < B.sts.length) (ha : a ≤ 2000000) :
    Calls Tryz.prog 18 #[ptr wb, .int .i64 (q0 : Int), .int .i64 (i : Int), .int .i64 (a : Int)] w (ReachO w n0 wb rb rcap n sb sc rv tr rm B a i q0) := by
  have HW := Lib.hid hW
  have HS := Lib.hid hS
  have HB := Lib.hid hB
  obtain ⟨la, lc, rfl⟩ := own_sh hW.lf
  have hwl := h_lt hW.wk
  have hgw := hW.gw
  obtain ⟨_, _, _, _, _, c5⟩ := hW.cells
  have c5 : w.cell? ⟨wb, 5, none⟩ = some (.slice la 0 lc) := c5
  obtain ⟨i0, hi0, hz0, hz1, hz2⟩ := p_info info_int
  obtain ⟨j0, hj0, hy0, hy1, hy2⟩ := p_info info_tr
  have hrow := hW.lf
  have HR0 : Hid (RcI n B a i q0 rch tr rch tr [q0]) := Lib.hid (RcI.start hK hq)
  clear hW hS hB hK
  go_enter Tryz.func18, Tryz.ntmps18
  go_wp2_with (at_builtin; go_loud (refine wpList_append_lies _ rfl _ _ 76 rfl n0 3 i0 (.int .i64 0) 1 8 Tryz.underlying76 hi0 hz0 hz1 hz2 rfl (by decide) (.slice la 0 lc) 0 (inCells []) rfl (row_alloc hrow _) ⟨w.heap.size, 0, none⟩ 1 1 [.int .i64 (q0 : Int)] rfl rfl (cell_one' w _ _) (by simp [Value.oneCell']) (by decide) (by decide) (by decide) (by rw [al_size]; omega) _ rfl ?_; intro gg cap2 w2 hown2 hgrow2 hat hlt2; obtain ⟨k5, z5, hW2, hB2⟩ := HW.out.pushL (news := [q0]) rfl hown2 hgrow2 hat; have HI0 : Hid (RhI w n0 wb rb rcap n sb sc rv rm B a i q0 rch tr (w2.setCell ⟨wb, 5, none⟩ (.slice (some ⟨gg, 0, none⟩) (0 + 1) cap2)) tv (.slice (some ⟨gg, 0, none⟩) (0 + 1) cap2) tr rch [q0] (2 * B.sts.length + 1)) := Lib.hid ⟨hW2, HR0.out, hB2, HR0.out.room⟩; clear hown2 hgrow2 hat hlt2 hW2 hB2))
  clear HW HR0 hrow c5 k5 z5
  go_loopg [] (2 * B.sts.length + 1) (fun gk wr => ∃ (tv' lv' : Value) (tr' : List (Nat × Nat)) (rch' l : List Nat), Hid (RhI w n0 wb rb rcap n sb sc rv rm B a i q0 rch tr wr tv' lv' tr' rch' l gk))
  case atStart => exact ⟨_, _, _, _, [q0], HI0⟩
  case round =>
    obtain ⟨tv', lv', tr', rch', l, HI⟩ := hrel
    clear HI0
    obtain ⟨la, lc, rfl⟩ := own_sh HI.out.wm.lf
    obtain ⟨ta, tc, rfl⟩ := own_sh HI.out.wm.tr
    obtain ⟨_, _, _, _, _, c5⟩ := HI.out.wm.cells
    rcases List.eq_nil_or_concat l with rfl | ⟨l', q, e⟩
    · have HF : Hid (ReachO w n0 wb rb rcap n sb sc rv tr rm B a i q0 (.returned (.tuple #[])) wr) := Lib.hid ⟨rfl, _, _, rch', tr', HI.out.wm, HI.out.rc.fin, HI.out.bel⟩
      clear HI
      have c5 : wr.cell? ⟨wb, 5, none⟩ = some (.slice la 0 lc) := c5
      go_wp2_with fail
      go_end0
      exact HF.out
    · rw [List.concat_eq_append] at e
      subst e
      obtain ⟨g, cap, e, hle, hcap, cq, hW1, hB1⟩ := HI.out.wm.popL
      rw [List.length_append, List.length_cons, List.length_nil, Nat.zero_add] at e c5
      injection e with e1 _ e3
      subst e1; subst e3
      have z5 := h_fz HI.out.wm.wk 5
      have hql := HI.out.rc.wk.lt q (by simp)
      have hrl := HI.out.rc.wk.len
      obtain ⟨v, hv⟩ : ∃ v, rch'[q]? = some v := ⟨_, List.getElem?_eq_getElem (by omega)⟩
      obtain ⟨s, hs⟩ : ∃ s, B.sts[q]? = some s := ⟨_, List.getElem?_eq_getElem hql⟩
      have hroom := HI.out.rc.room
      have htl := HI.out.rc.wk.cnt
      rw [List.length_append, List.length_cons, List.length_nil, Nat.zero_add] at hroom
      have hlq : l'.length ≤ 100001 := by omega
      have htq : tr'.length ≤ 50000 := by omega
      have n1 : (0 : Int) < (l'.length : Int) + 1 := by omega
      have n2 : (l'.length : Int) ≤ (lc : Int) := by omega
      obtain ⟨d4, dz, hqr, hrc1, hrc2, hW2, hB2⟩ := hW1.mark hv (a + 1)
      rw [show (((a + 1 : Nat)) : Int) = (a : Int) + 1 by omega] at hW2 hB2
      obtain ⟨x0, x1, x2, _, x4, x5⟩ := hW1.cells
      have hvle := HI.out.rc.wk.le q v hv
      have n3 : (q : Int) < (rch'.length : Int) := by omega
      have n4 : (q : Int) < (B.sts.length : Int) := by omega
      have hms := HI.out.ms
      rw [List.length_append, List.length_cons, List.length_nil, Nat.zero_add] at hms
      obtain ⟨gk, rfl⟩ : ∃ k, gk = k + 1 := ⟨gk - 1, by omega⟩
      by_cases hva : v = a + 1
      · subst hva
        have HN : Hid (RhI w n0 wb rb rcap n sb sc rv rm B a i q0 rch tr (wr.setCell ⟨wb, 5, none⟩ (.slice (some ⟨g, 0, none⟩) l'.length lc)) (.slice ta tr'.length tc) (.slice (some ⟨g, 0, none⟩) l'.length lc) tr' rch' l' gk) := Lib.hid ⟨hW1, HI.out.rc.skip hv, HI.out.bel.trans hB1, by omega⟩
        have d4 : (wr.setCell ⟨wb, 5, none⟩ (.slice (some ⟨g, 0, none⟩) l'.length lc)).cell? ⟨rb, q, none⟩ = some (.int .i64 ((a : Int) + 1)) := by rw [show (a : Int) + 1 = ((a + 1 : Nat) : Int) by omega]; exact d4
        clear HI hW1 hB1 hW2 hB2 hms hv
        go_wp2_with fail
        go_roundg gk
        case measure => omega
        case rel => exact ⟨_, _, _, _, _, HN⟩
      · have HM := Lib.hid (HI.out.rc.mark HB.out hv hva hs)
        have hun := unm_set hv hva
        have n5 : ((v : Int) == (a : Int) + 1) = false := by rw [beq_eq_false_iff_ne]; omega
        have HS2 := Lib.hid (HS.out.below hsb ((HI.out.bel.trans hB1).trans hB2))
        obtain ⟨y0, y1, y2, _, y4, y5⟩ := hW2.cells
        have yk := HB.out.kind q s hs
        obtain ⟨s0, s1, s2, s3⟩ := HS2.out q s hs
        have HW2 := Lib.hid hW2
        have HB2 := Lib.hid ((HI.out.bel.trans hB1).trans hB2)
        have hbw := h_lt hW2.wk
        have yz5 := h_fz hW2.wk 5
        have yz2 := h_fz hW2.wk 2
        have hsq : q * 4 ≤ 200000 := by omega
        have hmq : 2 * unm a (rch'.set q (a + 1)) + (l'.length + 2) ≤ gk := by omega
        clear HI hW1 hB1 hW2 hB2 hv HS2 hms hroom htl hun
        go_upto_region 8 with fail
        clear d4 dz x0 x1 x2 x4 x5 c5 z5 cq
        generalize (wr.setCell ⟨wb, 5, none⟩ (.slice (some ⟨g, 0, none⟩) l'.length lc)).setCell ⟨rb, q, none⟩ (.int .i64 ((a : Int) + 1)) = V at HW2 HB2 y0 y1 y2 y4 y5 s0 s1 s2 s3 hbw yz5 yz2 ⊢
        obtain ⟨k, st, nx, ot⟩ := s
        have hgV : n0 ≤ V.heap.size := by omega
        rcases (show k = 0 ∨ k = 1 ∨ k = 2 ∨ k = 3 ∨ k = 4 by have : k ≤ 4 := yk; omega) with rfl | rfl | rfl | rfl | rfl
        · have e1 : outs n ⟨0, st, nx, ot⟩ a = [] := rfl
          have e2 : trsS ⟨0, st, nx, ot⟩ i q = [(i, q)] := rfl
          have hm := HM.out
          rw [e1, e2, List.append_nil] at hm
          have HM2 := Lib.hid hm
          clear hm HM
          go_wp2_with (at_builtin; go_loud (refine wpList_append_lies _ rfl _ _ 52 rfl n0 55 j0 (.agg #[.int .i64 0, .int .i64 0]) 2 16 Tryz.underlying52 hj0 hy0 hy1 hy2 rfl (by decide) (.slice ta tr'.length tc) tr'.length (trCells tr') rfl (row_alloc HW2.out.tr _) ⟨V.heap.size, 0, none⟩ 1 1 [.int .i64 (i : Int), .int .i64 (q : Int)] rfl rfl (cell_two V _ _ _) (by simp [Value.oneCell']) (by decide) (by unfold maxLen; omega) (by omega) (by rw [al_size]; omega) _ rfl ?_; intro gg3 cap3 w3 hown3 hgrow3 hat3 hlt3; obtain ⟨k2, z2, hW3, hB3⟩ := HW2.out.pushT (t := (i, q)) hown3 hgrow3 hat3; have HN : Hid (RhI w n0 wb rb rcap n sb sc rv rm B a i q0 rch tr (w3.setCell ⟨wb, 2, none⟩ (.slice (some ⟨gg3, 0, none⟩) (tr'.length + 1) cap3)) (.slice (some ⟨gg3, 0, none⟩) (tr'.length + 1) cap3) (.slice (some ⟨g, 0, none⟩) l'.length lc) (tr' ++ [(i, q)]) (rch'.set q (a + 1)) l' gk) := Lib.hid ⟨hW3, HM2.out, HB2.out.trans hB3, by omega⟩; clear hown3 hgrow3 hat3 hlt3 hW3 hB3))
          go_roundg gk
          case measure => omega
          case rel => exact ⟨_, _, _, _, _, HN⟩
        · have e1 : outs n ⟨1, st, nx, ot⟩ a = [] := rfl
          have e2 : trsS ⟨1, st, nx, ot⟩ i q = [(i, q)] := rfl
          have hm := HM.out
          rw [e1, e2, List.append_nil] at hm
          have HM2 := Lib.hid hm
          clear hm HM
          go_wp2_with (at_builtin; go_loud (refine wpList_append_lies _ rfl _ _ 52 rfl n0 55 j0 (.agg #[.int .i64 0, .int .i64 0]) 2 16 Tryz.underlying52 hj0 hy0 hy1 hy2 rfl (by decide) (.slice ta tr'.length tc) tr'.length (trCells tr') rfl (row_alloc HW2.out.tr _) ⟨V.heap.size, 0, none⟩ 1 1 [.int .i64 (i : Int), .int .i64 (q : Int)] rfl rfl (cell_two V _ _ _) (by simp [Value.oneCell']) (by decide) (by unfold maxLen; omega) (by omega) (by rw [al_size]; omega) _ rfl ?_; intro gg3 cap3 w3 hown3 hgrow3 hat3 hlt3; obtain ⟨k2, z2, hW3, hB3⟩ := HW2.out.pushT (t := (i, q)) hown3 hgrow3 hat3; have HN : Hid (RhI w n0 wb rb rcap n sb sc rv rm B a i q0 rch tr (w3.setCell ⟨wb, 2, none⟩ (.slice (some ⟨gg3, 0, none⟩) (tr'.length + 1) cap3)) (.slice (some ⟨gg3, 0, none⟩) (tr'.length + 1) cap3) (.slice (some ⟨g, 0, none⟩) l'.length lc) (tr' ++ [(i, q)]) (rch'.set q (a + 1)) l' gk) := Lib.hid ⟨hW3, HM2.out, HB2.out.trans hB3, by omega⟩; clear hown3 hgrow3 hat3 hlt3 hW3 hB3))
          go_roundg gk
          case measure => omega
          case rel => exact ⟨_, _, _, _, _, HN⟩
        · by_cases ha0 : a = 0
          · have e1 : outs n ⟨2, st, nx, ot⟩ a = [nx] := by unfold outs; rw [if_pos rfl, if_pos ha0]
            have e2 : trsS ⟨2, st, nx, ot⟩ i q = [] := rfl
            have hm := HM.out
            rw [e1, e2, List.append_nil] at hm
            have HM2 := Lib.hid hm
            clear hm HM
            have n6 : ((a : Int) == 0) = true := by rw [beq_iff_eq]; omega
            clear ha0
            go_upto_region 12 with fail
            have hBa : Below V.heap.size V (V.drew.alloc (.cells #[.int .i64 (nx : Int)] 3)) := (Below.refl _ V).drew.alloc (Nat.le_refl _) _
            have b5 := cell_below hBa y5
            have b22 := cell_below hBa s2
            refine wp_region_tail 13 (fun u => u.cell? ⟨wb, 5, none⟩ = some (.slice (some ⟨g, 0, none⟩) l'.length lc) ∧ u.cell? ⟨sb, q * 4 + 2, none⟩ = some (.int .i64 (nx : Int))) (by kernel_rfl) ⟨y5, s2⟩ (fun hHeld => ?_)
            repeat
              first
                | (refine wpAnyT_take (i := 0) (v := ?_) 9 rfl (by decide +kernel) (fun _ _ _ h => h) (Or.inl ⟨by rfl, fun u hu => ?_⟩) (by assumption) ?_; rotate_left; focus ((try dsimp only at hu); go_simp; try with_reducible rfl))
                | (refine wpAnyT_take (i := 1) (v := ?_) 9 rfl (by decide +kernel) (fun _ _ _ h => h) (Or.inl ⟨by rfl, fun u hu => ?_⟩) (by assumption) ?_; rotate_left; focus ((try dsimp only at hu); go_simp; try with_reducible rfl))
                | (refine wpAnyT_take (i := 2) (v := ?_) 9 rfl (by decide +kernel) (fun _ _ _ h => h) (Or.inl ⟨by rfl, fun u hu => ?_⟩) (by assumption) ?_; rotate_left; focus ((try dsimp only at hu); go_simp; try with_reducible rfl))
                | (refine wpAnyT_take (i := 3) (v := ?_) 9 rfl (by decide +kernel) (fun _ _ _ h => h) (Or.inl ⟨by rfl, fun u hu => ?_⟩) (by assumption) ?_; rotate_left; focus ((try dsimp only at hu); go_simp; try with_reducible rfl))
                | (refine wpAnyT_take (i := 4) (v := ?_) 9 rfl (by decide +kernel) (fun _ _ _ h => h) (Or.inl ⟨by rfl, fun u hu => ?_⟩) (by assumption) ?_; rotate_left; focus ((try dsimp only at hu); go_simp; try with_reducible rfl))
                | (refine wpAnyT_take (i := 5) (v := ?_) 9 rfl (by decide +kernel) (fun _ _ _ h => h) (Or.inl ⟨by rfl, fun u hu => ?_⟩) (by assumption) ?_; rotate_left; focus ((try dsimp only at hu); go_simp; try with_reducible rfl))
                | (refine wpAnyT_take (i := 6) (v := ?_) 9 rfl (by decide +kernel) (fun _ _ _ h => h) (Or.inl ⟨by rfl, fun u hu => ?_⟩) (by assumption) ?_; rotate_left; focus ((try dsimp only at hu); go_simp; try with_reducible rfl))
                | (refine wpAnyT_take (i := 7) (v := ?_) 9 rfl (by decide +kernel) (fun _ _ _ h => h) (Or.inl ⟨by rfl, fun u hu => ?_⟩) (by assumption) ?_; rotate_left; focus ((try dsimp only at hu); go_simp; try with_reducible rfl))
                | (refine wpAnyT_take (i := 8) (v := ?_) 9 rfl (by decide +kernel) (fun _ _ _ h => h) (Or.inl ⟨by rfl, fun u hu => ?_⟩) (by assumption) ?_; rotate_left; focus ((try dsimp only at hu); go_simp; try with_reducible rfl))
              simp only [Act.put, List.setIfInBounds_toArray, List.set_cons_zero, List.set_cons_succ]
            refine wpAnyT_one (i := 9) rfl (by kernel_rfl) (fun K hK => ?_)
            go_simp
            refine hK.out _ _ (fun _ => ?_) ?_
            · exact ⟨b5, b22⟩
            clear hK K
            refine wpAnyT_one (i := 10) rfl (by kernel_rfl) (fun K hK => ?_)
            refine step_append_lies _ rfl _ _ 76 rfl n0 3 i0 (.int .i64 0) 1 8 Tryz.underlying76 hi0 hz0 hz1 hz2 rfl (by decide) (.slice (some ⟨g, 0, none⟩) l'.length lc) l'.length (inCells l') (by simp [Act.eval]) (row_alloc HW2.out.drew.lf _) ⟨V.heap.size, 0, none⟩ 1 1 [.int .i64 (nx : Int)] (by simp [Act.eval]) rfl (cell_one' V.drew _ _) (by simp [Value.oneCell']) (by decide) (by unfold maxLen; omega) (by omega) (show n0 ≤ (V.drew.alloc _).heap.size by rw [al_size]; exact Nat.le_succ_of_le hgV) _ rfl ?_
            intro gg3 cap3 w3 hown3 hgrow3 hat3 hlt3
            obtain ⟨k5, z5, hW3, hB3⟩ := HW2.out.drew.pushL (news := [nx]) rfl hown3 hgrow3 hat3
            have hBw := below_grown (w := V.drew) HW2.out.drew.lf hgV _ hgrow3
            have k22 := (hBw.cell hsb).trans (show V.drew.cell? ⟨sb, q * 4 + 2, none⟩ = _ from s2)
            have HN : Hid (RhI w n0 wb rb rcap n sb sc rv rm B a i q0 rch tr (w3.setCell ⟨wb, 5, none⟩ (.slice (some ⟨gg3, 0, none⟩) (l'.length + 1) cap3)) (.slice ta tr'.length tc) (.slice (some ⟨gg3, 0, none⟩) (l'.length + 1) cap3) tr' (rch'.set q (a + 1)) (l' ++ [nx]) gk) := Lib.hid ⟨hW3, HM2.out, HB2.out.trans ((Below.refl _ V).drew.trans hB3), by simp only [List.length_append, List.length_cons, List.length_nil]; omega⟩
            clear hown3 hgrow3 hat3 hlt3 hW3 hB3 hBw
            refine hK.out _ _ (fun _ => ?_) ?_
            · exact ⟨k5, k22⟩
            clear hK K
            simp only [Act.put, List.setIfInBounds_toArray, List.set_cons_zero, List.set_cons_succ]
            refine wpAnyT_one (i := 11) rfl (by kernel_rfl) (fun K hK => ?_)
            go_simp
            refine hK.out _ _ (fun _ => ?_) ?_
            · exact ⟨k5, k22⟩
            clear hK K
            refine wpAnyT_one (i := 12) rfl (by kernel_rfl) (fun K hK => ?_)
            go_simp
            refine hK.out _ _ (fun _ => ?_) ?_
            · exact ⟨k5, k22⟩
            clear hK K
            refine wpAnyT_one (i := 13) rfl (by kernel_rfl) (fun K hK => ?_)
            go_simp
            refine hK.out _ _ (fun hne => ?_) ?_
            · exact absurd rfl hne
            clear hK K
            refine wpAnyT_done (by kernel_rfl) ?_ _
            go_wp2_with fail
            go_roundg gk
            case measure => omega
            case rel => exact ⟨_, _, _, _, _, HN⟩
          · have e1 : outs n ⟨2, st, nx, ot⟩ a = [] := by unfold outs; rw [if_pos rfl, if_neg ha0]
            have e2 : trsS ⟨2, st, nx, ot⟩ i q = [] := rfl
            have hm := HM.out
            rw [e1, e2, List.append_nil, List.append_nil] at hm
            have HN : Hid (RhI w n0 wb rb rcap n sb sc rv rm B a i q0 rch tr V (.slice ta tr'.length tc) (.slice (some ⟨g, 0, none⟩) l'.length lc) tr' (rch'.set q (a + 1)) l' gk) := Lib.hid ⟨HW2.out, hm, HB2.out, by omega⟩
            clear hm HM
            have n6 : ((a : Int) == 0) = false := by rw [beq_eq_false_iff_ne]; omega
            clear ha0
            go_wp2_with fail
            go_roundg gk
            case measure => omega
            case rel => exact ⟨_, _, _, _, _, HN⟩
        · by_cases ha0 : a = n
          · have e1 : outs n ⟨3, st, nx, ot⟩ a = [nx] := by unfold outs; rw [if_neg (by show ¬ (3 : Nat) = 2; decide), if_pos rfl, if_pos ha0]
            have e2 : trsS ⟨3, st, nx, ot⟩ i q = [] := rfl
            have hm := HM.out
            rw [e1, e2, List.append_nil] at hm
            have HM2 := Lib.hid hm
            clear hm HM
            have n6 : ((a : Int) == (n : Int)) = true := by rw [beq_iff_eq]; omega
            clear ha0
            go_upto_region 15 with fail
            have hBa : Below V.heap.size V (V.drew.alloc (.cells #[.int .i64 (nx : Int)] 3)) := (Below.refl _ V).drew.alloc (Nat.le_refl _) _
            have b5 := cell_below hBa y5
            have b22 := cell_below hBa s2
            refine wp_region_tail 13 (fun u => u.cell? ⟨wb, 5, none⟩ = some (.slice (some ⟨g, 0, none⟩) l'.length lc) ∧ u.cell? ⟨sb, q * 4 + 2, none⟩ = some (.int .i64 (nx : Int))) (by kernel_rfl) ⟨y5, s2⟩ (fun hHeld => ?_)
            repeat
              first
                | (refine wpAnyT_take (i := 0) (v := ?_) 9 rfl (by decide +kernel) (fun _ _ _ h => h) (Or.inl ⟨by rfl, fun u hu => ?_⟩) (by assumption) ?_; rotate_left; focus ((try dsimp only at hu); go_simp; try with_reducible rfl))
                | (refine wpAnyT_take (i := 1) (v := ?_) 9 rfl (by decide +kernel) (fun _ _ _ h => h) (Or.inl ⟨by rfl, fun u hu => ?_⟩) (by assumption) ?_; rotate_left; focus ((try dsimp only at hu); go_simp; try with_reducible rfl))
                | (refine wpAnyT_take (i := 2) (v := ?_) 9 rfl (by decide +kernel) (fun _ _ _ h => h) (Or.inl ⟨by rfl, fun u hu => ?_⟩) (by assumption) ?_; rotate_left; focus ((try dsimp only at hu); go_simp; try with_reducible rfl))
                | (refine wpAnyT_take (i := 3) (v := ?_) 9 rfl (by decide +kernel) (fun _ _ _ h => h) (Or.inl ⟨by rfl, fun u hu => ?_⟩) (by assumption) ?_; rotate_left; focus ((try dsimp only at hu); go_simp; try with_reducible rfl))
                | (refine wpAnyT_take (i := 4) (v := ?_) 9 rfl (by decide +kernel) (fun _ _ _ h => h) (Or.inl ⟨by rfl, fun u hu => ?_⟩) (by assumption) ?_; rotate_left; focus ((try dsimp only at hu); go_simp; try with_reducible rfl))
                | (refine wpAnyT_take (i := 5) (v := ?_) 9 rfl (by decide +kernel) (fun _ _ _ h => h) (Or.inl ⟨by rfl, fun u hu => ?_⟩) (by assumption) ?_; rotate_left; focus ((try dsimp only at hu); go_simp; try with_reducible rfl))
                | (refine wpAnyT_take (i := 6) (v := ?_) 9 rfl (by decide +kernel) (fun _ _ _ h => h) (Or.inl ⟨by rfl, fun u hu => ?_⟩) (by assumption) ?_; rotate_left; focus ((try dsimp only at hu); go_simp; try with_reducible rfl))
                | (refine wpAnyT_take (i := 7) (v := ?_) 9 rfl (by decide +kernel) (fun _ _ _ h => h) (Or.inl ⟨by rfl, fun u hu => ?_⟩) (by assumption) ?_; rotate_left; focus ((try dsimp only at hu); go_simp; try with_reducible rfl))
                | (refine wpAnyT_take (i := 8) (v := ?_) 9 rfl (by decide +kernel) (fun _ _ _ h => h) (Or.inl ⟨by rfl, fun u hu => ?_⟩) (by assumption) ?_; rotate_left; focus ((try dsimp only at hu); go_simp; try with_reducible rfl))
              simp only [Act.put, List.setIfInBounds_toArray, List.set_cons_zero, List.set_cons_succ]
            refine wpAnyT_one (i := 9) rfl (by kernel_rfl) (fun K hK => ?_)
            go_simp
            refine hK.out _ _ (fun _ => ?_) ?_
            · exact ⟨b5, b22⟩
            clear hK K
            refine wpAnyT_one (i := 10) rfl (by kernel_rfl) (fun K hK => ?_)
            refine step_append_lies _ rfl _ _ 76 rfl n0 3 i0 (.int .i64 0) 1 8 Tryz.underlying76 hi0 hz0 hz1 hz2 rfl (by decide) (.slice (some ⟨g, 0, none⟩) l'.length lc) l'.length (inCells l') (by simp [Act.eval]) (row_alloc HW2.out.drew.lf _) ⟨V.heap.size, 0, none⟩ 1 1 [.int .i64 (nx : Int)] (by simp [Act.eval]) rfl (cell_one' V.drew _ _) (by simp [Value.oneCell']) (by decide) (by unfold maxLen; omega) (by omega) (show n0 ≤ (V.drew.alloc _).heap.size by rw [al_size]; exact Nat.le_succ_of_le hgV) _ rfl ?_
            intro gg3 cap3 w3 hown3 hgrow3 hat3 hlt3
            obtain ⟨k5, z5, hW3, hB3⟩ := HW2.out.drew.pushL (news := [nx]) rfl hown3 hgrow3 hat3
            have hBw := below_grown (w := V.drew) HW2.out.drew.lf hgV _ hgrow3
            have k22 := (hBw.cell hsb).trans (show V.drew.cell? ⟨sb, q * 4 + 2, none⟩ = _ from s2)
            have HN : Hid (RhI w n0 wb rb rcap n sb sc rv rm B a i q0 rch tr (w3.setCell ⟨wb, 5, none⟩ (.slice (some ⟨gg3, 0, none⟩) (l'.length + 1) cap3)) (.slice ta tr'.length tc) (.slice (some ⟨gg3, 0, none⟩) (l'.length + 1) cap3) tr' (rch'.set q (a + 1)) (l' ++ [nx]) gk) := Lib.hid ⟨hW3, HM2.out, HB2.out.trans ((Below.refl _ V).drew.trans hB3), by simp only [List.length_append, List.length_cons, List.length_nil]; omega⟩
            clear hown3 hgrow3 hat3 hlt3 hW3 hB3 hBw
            refine hK.out _ _ (fun _ => ?_) ?_
            · exact ⟨k5, k22⟩
            clear hK K
            simp only [Act.put, List.setIfInBounds_toArray, List.set_cons_zero, List.set_cons_succ]
            refine wpAnyT_one (i := 11) rfl (by kernel_rfl) (fun K hK => ?_)
            go_simp
            refine hK.out _ _ (fun _ => ?_) ?_
            · exact ⟨k5, k22⟩
            clear hK K
            refine wpAnyT_one (i := 12) rfl (by kernel_rfl) (fun K hK => ?_)
            go_simp
            refine hK.out _ _ (fun _ => ?_) ?_
            · exact ⟨k5, k22⟩
            clear hK K
            refine wpAnyT_one (i := 13) rfl (by kernel_rfl) (fun K hK => ?_)
            go_simp
            refine hK.out _ _ (fun hne => ?_) ?_
            · exact absurd rfl hne
            clear hK K
            refine wpAnyT_done (by kernel_rfl) ?_ _
            go_wp2_with fail
            go_roundg gk
            case measure => omega
            case rel => exact ⟨_, _, _, _, _, HN⟩
          · have e1 : outs n ⟨3, st, nx, ot⟩ a = [] := by unfold outs; rw [if_neg (by show ¬ (3 : Nat) = 2; decide), if_pos rfl, if_neg ha0]
            have e2 : trsS ⟨3, st, nx, ot⟩ i q = [] := rfl
            have hm := HM.out
            rw [e1, e2, List.append_nil, List.append_nil] at hm
            have HN : Hid (RhI w n0 wb rb rcap n sb sc rv rm B a i q0 rch tr V (.slice ta tr'.length tc) (.slice (some ⟨g, 0, none⟩) l'.length lc) tr' (rch'.set q (a + 1)) l' gk) := Lib.hid ⟨HW2.out, hm, HB2.out, by omega⟩
            clear hm HM
            have n6 : ((a : Int) == (n : Int)) = false := by rw [beq_eq_false_iff_ne]; omega
            clear ha0
            go_wp2_with fail
            go_roundg gk
            case measure => omega
            case rel => exact ⟨_, _, _, _, _, HN⟩
        · have e1 : outs n ⟨4, st, nx, ot⟩ a = [ot, nx] := rfl
          have e2 : trsS ⟨4, st, nx, ot⟩ i q = [] := rfl
          have hm := HM.out
          rw [e1, e2, List.append_nil] at hm
          have HM2 := Lib.hid hm
          clear hm HM
          go_upto_region 17 with fail
          have hBa : Below V.heap.size V (V.drew.alloc (.cells #[.int .i64 (ot : Int), .int .i64 (nx : Int)] 3)) := (Below.refl _ V).drew.alloc (Nat.le_refl _) _
          have b5 := cell_below hBa y5
          have b33 := cell_below hBa s3
          have b22 := cell_below hBa s2
          refine wp_region_tail 17 (fun u => u.cell? ⟨wb, 5, none⟩ = some (.slice (some ⟨g, 0, none⟩) l'.length lc) ∧ u.cell? ⟨sb, q * 4 + 3, none⟩ = some (.int .i64 (ot : Int)) ∧ u.cell? ⟨sb, q * 4 + 2, none⟩ = some (.int .i64 (nx : Int))) (by kernel_rfl) ⟨y5, s3, s2⟩ (fun hHeld => ?_)
          repeat
            first
              | (refine wpAnyT_take (i := 0) (v := ?_) 9 rfl (by decide +kernel) (fun _ _ _ h => h) (Or.inl ⟨by rfl, fun u hu => ?_⟩) (by assumption) ?_; rotate_left; focus ((try dsimp only at hu); go_simp; try with_reducible rfl))
              | (refine wpAnyT_take (i := 1) (v := ?_) 9 rfl (by decide +kernel) (fun _ _ _ h => h) (Or.inl ⟨by rfl, fun u hu => ?_⟩) (by assumption) ?_; rotate_left; focus ((try dsimp only at hu); go_simp; try with_reducible rfl))
              | (refine wpAnyT_take (i := 2) (v := ?_) 9 rfl (by decide +kernel) (fun _ _ _ h => h) (Or.inl ⟨by rfl, fun u hu => ?_⟩) (by assumption) ?_; rotate_left; focus ((try dsimp only at hu); go_simp; try with_reducible rfl))
              | (refine wpAnyT_take (i := 3) (v := ?_) 9 rfl (by decide +kernel) (fun _ _ _ h => h) (Or.inl ⟨by rfl, fun u hu => ?_⟩) (by assumption) ?_; rotate_left; focus ((try dsimp only at hu); go_simp; try with_reducible rfl))
              | (refine wpAnyT_take (i := 4) (v := ?_) 9 rfl (by decide +kernel) (fun _ _ _ h => h) (Or.inl ⟨by rfl, fun u hu => ?_⟩) (by assumption) ?_; rotate_left; focus ((try dsimp only at hu); go_simp; try with_reducible rfl))
              | (refine wpAnyT_take (i := 5) (v := ?_) 9 rfl (by decide +kernel) (fun _ _ _ h => h) (Or.inl ⟨by rfl, fun u hu => ?_⟩) (by assumption) ?_; rotate_left; focus ((try dsimp only at hu); go_simp; try with_reducible rfl))
              | (refine wpAnyT_take (i := 6) (v := ?_) 9 rfl (by decide +kernel) (fun _ _ _ h => h) (Or.inl ⟨by rfl, fun u hu => ?_⟩) (by assumption) ?_; rotate_left; focus ((try dsimp only at hu); go_simp; try with_reducible rfl))
              | (refine wpAnyT_take (i := 7) (v := ?_) 9 rfl (by decide +kernel) (fun _ _ _ h => h) (Or.inl ⟨by rfl, fun u hu => ?_⟩) (by assumption) ?_; rotate_left; focus ((try dsimp only at hu); go_simp; try with_reducible rfl))
              | (refine wpAnyT_take (i := 8) (v := ?_) 9 rfl (by decide +kernel) (fun _ _ _ h => h) (Or.inl ⟨by rfl, fun u hu => ?_⟩) (by assumption) ?_; rotate_left; focus ((try dsimp only at hu); go_simp; try with_reducible rfl))
              | (refine wpAnyT_take (i := 9) (v := ?_) 9 rfl (by decide +kernel) (fun _ _ _ h => h) (Or.inl ⟨by rfl, fun u hu => ?_⟩) (by assumption) ?_; rotate_left; focus ((try dsimp only at hu); go_simp; try with_reducible rfl))
              | (refine wpAnyT_take (i := 10) (v := ?_) 9 rfl (by decide +kernel) (fun _ _ _ h => h) (Or.inl ⟨by rfl, fun u hu => ?_⟩) (by assumption) ?_; rotate_left; focus ((try dsimp only at hu); go_simp; try with_reducible rfl))
              | (refine wpAnyT_take (i := 11) (v := ?_) 9 rfl (by decide +kernel) (fun _ _ _ h => h) (Or.inl ⟨by rfl, fun u hu => ?_⟩) (by assumption) ?_; rotate_left; focus ((try dsimp only at hu); go_simp; try with_reducible rfl))
              | (refine wpAnyT_take (i := 12) (v := ?_) 9 rfl (by decide +kernel) (fun _ _ _ h => h) (Or.inl ⟨by rfl, fun u hu => ?_⟩) (by assumption) ?_; rotate_left; focus ((try dsimp only at hu); go_simp; try with_reducible rfl))
            simp only [Act.put, List.setIfInBounds_toArray, List.set_cons_zero, List.set_cons_succ]
          refine wpAnyT_one (i := 13) rfl (by kernel_rfl) (fun K hK => ?_)
          go_simp
          refine hK.out _ _ (fun _ => ?_) ?_
          · exact ⟨b5, b33, b22⟩
          clear hK K
          refine wpAnyT_one (i := 14) rfl (by kernel_rfl) (fun K hK => ?_)
          refine step_append_lies _ rfl _ _ 76 rfl n0 3 i0 (.int .i64 0) 1 8 Tryz.underlying76 hi0 hz0 hz1 hz2 rfl (by decide) (.slice (some ⟨g, 0, none⟩) l'.length lc) l'.length (inCells l') (by simp [Act.eval]) (row_alloc HW2.out.drew.lf _) ⟨V.heap.size, 0, none⟩ 2 2 [.int .i64 (ot : Int), .int .i64 (nx : Int)] (by simp [Act.eval]) rfl (cell_two V.drew _ _ _) (by simp [Value.oneCell']) (by decide) (by unfold maxLen; omega) (by omega) (show n0 ≤ (V.drew.alloc _).heap.size by rw [al_size]; exact Nat.le_succ_of_le hgV) _ rfl ?_
          intro gg3 cap3 w3 hown3 hgrow3 hat3 hlt3
          obtain ⟨k5, z5, hW3, hB3⟩ := HW2.out.drew.pushL (news := [ot, nx]) rfl hown3 hgrow3 hat3
          have hBw := below_grown (w := V.drew) HW2.out.drew.lf hgV _ hgrow3
          have k33 := (hBw.cell hsb).trans (show V.drew.cell? ⟨sb, q * 4 + 3, none⟩ = _ from s3)
          have k22 := (hBw.cell hsb).trans (show V.drew.cell? ⟨sb, q * 4 + 2, none⟩ = _ from s2)
          have HN : Hid (RhI w n0 wb rb rcap n sb sc rv rm B a i q0 rch tr (w3.setCell ⟨wb, 5, none⟩ (.slice (some ⟨gg3, 0, none⟩) (l'.length + 2) cap3)) (.slice ta tr'.length tc) (.slice (some ⟨gg3, 0, none⟩) (l'.length + 2) cap3) tr' (rch'.set q (a + 1)) (l' ++ [ot, nx]) gk) := Lib.hid ⟨hW3, HM2.out, HB2.out.trans ((Below.refl _ V).drew.trans hB3), by simp only [List.length_append, List.length_cons, List.length_nil]; omega⟩
          clear hown3 hgrow3 hat3 hlt3 hW3 hB3 hBw
          refine hK.out _ _ (fun _ => ?_) ?_
          · exact ⟨k5, k33, k22⟩
          clear hK K
          simp only [Act.put, List.setIfInBounds_toArray, List.set_cons_zero, List.set_cons_succ]
          refine wpAnyT_one (i := 15) rfl (by kernel_rfl) (fun K hK => ?_)
          go_simp
          refine hK.out _ _ (fun _ => ?_) ?_
          · exact ⟨k5, k33, k22⟩
          clear hK K
          refine wpAnyT_one (i := 16) rfl (by kernel_rfl) (fun K hK => ?_)
          go_simp
          refine hK.out _ _ (fun _ => ?_) ?_
          · exact ⟨k5, k33, k22⟩
          clear hK K
          refine wpAnyT_one (i := 17) rfl (by kernel_rfl) (fun K hK => ?_)
          go_simp
          refine hK.out _ _ (fun hne => ?_) ?_
          · exact absurd rfl hne
          clear hK K
          refine wpAnyT_done (by kernel_rfl) ?_ _
          go_wp2_with fail
          go_roundg gk
          case measure => omega
          case rel => exact ⟨_, _, _, _, _, HN⟩
end
end Go.Proofs.YtlekfdkahlobiaaGreat.Re
