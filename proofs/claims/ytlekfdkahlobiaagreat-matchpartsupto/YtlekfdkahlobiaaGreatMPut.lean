/- A state is put ahead. -/
import Derived.Test.YtlekfdkahlobiaaGreatMState
namespace Go.Proofs.YtlekfdkahlobiaaGreat.Re
open Go.Proofs.YtlekfdkahlobiaaGreat.Tr
open Go.RowKit Go.Maps

section
variable {w : World} {n0 bb pg mb : Nat} {sv tv lv : Value} {fs : List Value} {B : Bst}
/-- What a step leaves that puts states. -/
def PutO (w : World) (n0 bb pg mb : Nat) (tv lv : Value) (fs : List Value) (B : Bst) (e : Ending) (w' : World) : Prop :=
  e = .returned (.tuple #[]) ∧ ∃ sv', BM w' n0 bb pg mb sv' tv lv fs B ∧ Only [51, 58] w w' ∧ Below n0 w w'
set_option maxHeartbeats 40000000 in
set_option maxRecDepth 100000 in
theorem put_c {s : Stt} (h : BM w n0 bb pg mb sv tv lv fs B) (hn : B.sts.length ≤ 1099511627776) :
    Calls Tryz.prog 24 #[bbP bb, stV s.kind s.set s.next s.other] w (PutO w n0 bb pg mb tv lv fs (B.put s)) := by
  have HD := Lib.hid h
  obtain ⟨pa, pc, rfl⟩ := own_sh h.st
  have hb0 := h.bd
  have hp0 := h.pr
  have hbl := h_lt hb0
  have hpl := h_lt hp0
  obtain ⟨i0, hi, hz0, hz1, hz2⟩ := p_info info_st
  have hb1 : ∀ o, (w.alloc o).heap[bb]? = some (.cells #[ptr pg, .map (some mb), lv] 72) := fun o => (al_old w o hbl).trans hb0
  have hp1 : ∀ o, (w.alloc o).heap[pg]? = some (.cells #[.slice pa B.sts.length pc, tv, .int .i64 (B.first : Int)] 51) := fun o => (al_old w o hpl).trans hp0
  clear h
  go_enter Tryz.func24, Tryz.ntmps24
  go_upto_region 1 with fail
  have hO0 : Only [51] w (w.alloc (.cells #[.int .i64 (s.kind : Int), .int .i64 (s.set : Int), .int .i64 (s.next : Int), .int .i64 (s.other : Int)] 58)) := Only.of ((Below.refl _ w).alloc (Nat.le_refl _) _)
  have hB0 : Below n0 w (w.alloc (.cells #[.int .i64 (s.kind : Int), .int .i64 (s.set : Int), .int .i64 (s.next : Int), .int .i64 (s.other : Int)] 58)) := (Below.refl _ w).alloc (Nat.le_trans HD.out.gb (Nat.le_of_lt hbl)) _
  have hn0 := al_new w (.cells #[.int .i64 (s.kind : Int), .int .i64 (s.set : Int), .int .i64 (s.next : Int), .int .i64 (s.other : Int)] 58)
  have hb2 := hb1 (.cells #[.int .i64 (s.kind : Int), .int .i64 (s.set : Int), .int .i64 (s.next : Int), .int .i64 (s.other : Int)] 58)
  have hp2 := hp1 (.cells #[.int .i64 (s.kind : Int), .int .i64 (s.set : Int), .int .i64 (s.next : Int), .int .i64 (s.other : Int)] 58)
  have c0 := h_cell hb2 0 rfl
  have d0 := h_cell hp2 0 rfl
  have d2 := h_cell hp2 2 rfl
  have z2 := h_fz hp2 2
  clear hb1 hp1
  have hOS := hO0.trans (Only.set hp2 (by decide) 2 (.int .i64 (B.sts.length : Int)))
  have hO2 : Only [51] (w.alloc (.cells #[.int .i64 (s.kind : Int), .int .i64 (s.set : Int), .int .i64 (s.next : Int), .int .i64 (s.other : Int)] 58)) _ := Only.set hp2 (by decide) 2 (.int .i64 (B.sts.length : Int))
  generalize hW : w.alloc (.cells #[.int .i64 (s.kind : Int), .int .i64 (s.set : Int), .int .i64 (s.next : Int), .int .i64 (s.other : Int)] 58) = W at *
  have HN : Hid ((W.setCell ⟨pg, 2, none⟩ (.int .i64 (B.sts.length : Int))).drew.heap[bb]? = some (.cells #[ptr pg, .map (some mb), lv] 72) ∧ (W.setCell ⟨pg, 2, none⟩ (.int .i64 (B.sts.length : Int))).drew.heap[pg]? = some (.cells #[.slice pa B.sts.length pc, tv, .int .i64 (B.sts.length : Int)] 51) ∧ (W.setCell ⟨pg, 2, none⟩ (.int .i64 (B.sts.length : Int))).drew.heap[w.heap.size]? = some (.cells #[.int .i64 (s.kind : Int), .int .i64 (s.set : Int), .int .i64 (s.next : Int), .int .i64 (s.other : Int)] 58) ∧ Only [51] w (W.setCell ⟨pg, 2, none⟩ (.int .i64 (B.sts.length : Int))).drew ∧ Below n0 w (W.setCell ⟨pg, 2, none⟩ (.int .i64 (B.sts.length : Int))).drew) :=
    Lib.hid ⟨hO2.cells hb2 (by decide), (show (W.setCell ⟨pg, 2, none⟩ (.int .i64 (B.sts.length : Int))).heap[pg]? = _ by simpa using h_set hp2 2 (.int .i64 (B.sts.length : Int))), hO2.cells hn0 (by decide), ⟨hOS.size, hOS.blk⟩, below_drew (hB0.setCell (p := ⟨pg, 2, none⟩) HD.out.gp _)⟩
  clear hO0 hB0 hn0 hb2 hp2 hW hOS hO2 hb0 hp0 hbl hpl
  go_region_law (fail)
  all_goals
    have HX := Lib.hid HN.out
    clear HN c0 d0 d2 z2
    generalize (W.setCell ⟨pg, 2, none⟩ (.int .i64 (B.sts.length : Int))).drew = U at HX ⊢
    clear W
    have hbU := HX.out.1
    have hpU := HX.out.2.1
    have hnU := HX.out.2.2.1
    have hOU := HX.out.2.2.2.1
    have hBU := HX.out.2.2.2.2
    have hbl := h_lt hbU
    have hpl := h_lt hpU
    have hnl := h_lt hnU
    have e0 := h_cell hbU 0 rfl
    have f0 := h_cell hpU 0 rfl
    have g0 := h_cell hnU 0 rfl
    have g1 := h_cell hnU 1 rfl
    have g2 := h_cell hnU 2 rfl
    have g3 := h_cell hnU 3 rfl
    have hgp := HD.out.gp
    have HL : Hid (∀ o w2, (U.drew.alloc o).grownBy w2 (Value.slice pa B.sts.length pc).ownBlock → w2.heap[bb]? = some (.cells #[ptr pg, .map (some mb), lv] 72)) := fun o w2 hg => grown_other ((show U.drew.ownsRow _ _ _ _ _ _ from (hOU.row HD.out.st (by decide))).alloc o) hg (by decide) ((al_old U.drew o hbl).trans hbU)
    have HO := Lib.hid (hOU.row HD.out.st (by decide))
    have HK : Hid (∀ o w2, (U.drew.alloc o).grownBy w2 (Value.slice pa B.sts.length pc).ownBlock → w2.heap[pg]? = some (.cells #[.slice pa B.sts.length pc, tv, .int .i64 (B.sts.length : Int)] 51)) := fun o w2 hg => grown_other ((show U.drew.ownsRow _ _ _ _ _ _ from HO.out).alloc o) hg (by decide) ((al_old U.drew o hpl).trans hpU)
    have HF : Hid (∀ o w2 gg cap2, w2.ownsRow n0 58 4 (.slice (some ⟨gg, 0, none⟩) (B.sts.length + 1) cap2) (B.sts.length + 1) (stCells B.sts ++ [.int .i64 (s.kind : Int), .int .i64 (s.set : Int), .int .i64 (s.next : Int), .int .i64 (s.other : Int)]) → (U.drew.alloc o).grownBy w2 (Value.slice pa B.sts.length pc).ownBlock → PutO w n0 bb pg mb tv lv fs (B.put s) (.returned (.tuple #[])) (w2.setCell ⟨pg, 0, none⟩ (.slice (some ⟨gg, 0, none⟩) (B.sts.length + 1) cap2))) := fun o w2 gg cap2 ho hg => by
      have hrow := (show U.drew.ownsRow _ _ _ _ _ _ from HO.out).alloc o
      have hp3 := HK.out o w2 hg
      have hx1 : Only [51, 58] U (U.drew.alloc o) := Only.of ((Below.refl _ U).drew.alloc (Nat.le_refl _) o)
      have hx2 : Only [51, 58] (U.drew.alloc o) w2 := Only.grown hrow hg (by decide)
      have hx3 : Only [51] w2 (w2.setCell ⟨pg, 0, none⟩ (.slice (some ⟨gg, 0, none⟩) (B.sts.length + 1) cap2)) := Only.set hp3 (by decide) _ _
      have hxx := (((hOU.more (by decide)).trans hx1).trans hx2).trans (hx3.more (S' := [51, 58]) (by decide))
      have hy1 : Below n0 U (U.drew.alloc o) := (Below.refl _ U).drew.alloc (Nat.le_trans hgp (Nat.le_of_lt hpl)) o
      have hy2 : Below n0 (U.drew.alloc o) w2 := ⟨hg.os, hg.tape, hg.output, hg.size, fun j hj => hg.block j (by rw [al_size]; show j < U.heap.size + 1; omega) (fun e => by
        have := HO.out.lt j e.symm
        omega)⟩
      refine ⟨rfl, _, HD.out.snoc hxx ?_ (by rw [stCells_one]; exact ho) hx3, hxx, ((hBU.trans hy1).trans hy2).setCell (p := ⟨pg, 0, none⟩) hgp _⟩
      simpa using h_set hp3 0 (.slice (some ⟨gg, 0, none⟩) (B.sts.length + 1) cap2)
    have hus : n0 ≤ U.heap.size := by omega
    clear hbU hpU hnU hOU hBU HX
    go_upto_region 2 with fail
    go_region_law (refine step_append_lies _ rfl _ _ 48 rfl n0 58 i0 (.agg #[.int .i64 0, .int .i64 0, .int .i64 0, .int .i64 0]) 4 32 Tryz.underlying48 hi hz0 hz1 hz2 rfl (by decide) (.slice pa B.sts.length pc) B.sts.length (stCells B.sts) (by simp [Act.eval]) ((show U.drew.ownsRow _ _ _ _ _ _ from HO.out).alloc _) ⟨U.heap.size, 0, none⟩ 1 1 [.int .i64 (s.kind : Int), .int .i64 (s.set : Int), .int .i64 (s.next : Int), .int .i64 (s.other : Int)] (by simp [Act.eval]) rfl (cell_four U.drew _ _ _ _ _) (by simp [Value.oneCell']) (by decide) (by unfold maxLen; omega) (by omega) (by simp; omega) _ rfl ?_; intro gg cap2 w2 hown2 hgrow2 hat hlt2; have hR2 := HK.out _ w2 hgrow2; have hk6 := h_cell hR2 0 rfl; have hz6 := h_fz hR2 0; have hk0 := h_cell (HL.out _ w2 hgrow2) 0 rfl; have H2 := Lib.hid (And.intro hown2 hgrow2); clear hown2 hgrow2 hat hlt2 hR2)
    all_goals
      go_wp2_with fail
      go_end0
      exact HF.out _ w2 _ _ H2.out.1 H2.out.2
end
end Go.Proofs.YtlekfdkahlobiaaGreat.Re
