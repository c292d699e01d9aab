/- The builder: a branch without pieces ends. -/
import Derived.Test.YtlekfdkahlobiaaGreatHBld7
namespace Go.Proofs.YtlekfdkahlobiaaGreat.Re
open Go.RowKit

section
variable {w : World} {rb : Nat} {l : List UInt8} {ext fold cl : Bool} {last depth made : Int} {pv ov : Value}
set_option maxHeartbeats 40000000 in
set_option maxRecDepth 100000 in
theorem ebr_e {fs : List Fr} {br : List Nd} (h : Rd w rb l ext fold last depth cl pv ov made) (hb : BdR w rb pv ov made ((br, []) :: fs)) (hm : made ≤ 10000) (hfs : fs.length ≤ 2097152) :
    Calls Tryz.prog 69 #[bldP rb] w (BlO rb l ext fold last depth cl w (EbP rb br emptyN fs (made + 1))) := by
  have hf := isFull_c h
  rw [decide_eq_false (by omega)] at hf
  obtain ⟨L0, r1, r2, r3⟩ := hb.row
  have hL0 : L0.length = (flat fs).length + br.length := by
    rw [← List.length_map (f := Prod.snd), r2]
    simp [flat]
  obtain ⟨pa, pcap, rfl⟩ := own_sh r1
  have hsp : spansF ((br, []) :: fs) = spansF fs ++ [((flat fs).length, (flat fs).length + br.length)] := rfl
  have hop2 : w.ownsRow (rb + 1) 111 2 ov (spansF fs ++ [((flat fs).length, (flat fs).length + br.length)]).length (spCells (spansF fs ++ [((flat fs).length, (flat fs).length + br.length)])) := by
    rw [← hsp, spansF_len]; exact hb.opn
  obtain ⟨gs, caps, rfl, hgs0, hcs1, hcs2, s0, s1, sz, scur, hscur⟩ := sp_last (spansF_len fs) hop2
  rw [← hL0] at s1
  have HP : Hid (∀ u v x, Below w.heap.size w u → NodeP u v x → Calls Tryz.prog 62 #[bldP rb, reV v x] u (BlO rb l ext fold last depth cl u fun w' pv' ov' made' => BdR w' rb pv' ov' made' (pieceF x ((br, []) :: fs)) ∧ made' = made + 1 ∧ ov' = .slice (some ⟨gs, 0, none⟩) (fs.length + 1) caps)) := fun u v x hB hx => piece_c hx (h.keep hB) (hb.keep (AKeep.of hB)) hm
  have HL : Hid (∀ u, Calls Tryz.prog 22 #[.int .i64 0] u (MkO emptyN u)) := fun u => leaf_c 0 (by omega) u
  have c6 := h_cell h 6 rfl
  have c7 := h_cell h 7 rfl
  have hrb := h_lt h
  obtain ⟨i0, hi, hz0, hz1, hz2⟩ := p_info info_re
  have q1 : IntKind.i64.wrap ((fs.length : Int) + 1 - 1) = (fs.length : Int) := by rw [show (fs.length : Int) + 1 - 1 = (fs.length : Int) by omega]; exact IntWalk.i64_in _ (by omega)
  have q2 : ((fs.length : Int)).toNat = fs.length := by omega
  clear h hb r1 r2 r3 hL0 hsp hop2 s0 sz hscur
  go_enter Tryz.func69, Tryz.ntmps69
  go_upto_region 1 with (go_at_call 60; refine hf.mono ?_; rintro e w1 ⟨rfl, hw⟩; rw [hw]; clear hw w1)
  go_quiet (fail)
  have hB1 : Below w.heap.size w (w.drewN nq) := below_drewN
  have c6a : (w.drewN nq).cell? ⟨rb, 6, none⟩ = _ := c6
  have s1a : (w.drewN nq).cell? ⟨gs, fs.length * 2 + 1, none⟩ = _ := s1
  generalize w.drewN nq = W1 at hB1 c6a s1a ⊢
  go_upto_region 2 with fail
  go_quiet (fail)
  have hB2 : Below w.heap.size w (W1.drewN nq) := hB1.trans below_drewN
  generalize W1.drewN nq = W2 at hB2 ⊢
  clear c6a s1a hB1 hf c6 c7 s1
  go_upto_region 4 with (first
    | (go_at_call 22; refine (HL.out _).mono ?_; rintro e wl ⟨vl, rfl, hnl, hBl⟩; have hB3 := hB2.trans (hBl.mono hB2.size); have hpc := HP.out wl vl emptyN hB3 hnl)
    | (go_at_call 62; refine hpc.mono ?_; rintro e wp ⟨rfl, pvp, ovp, mdp, hRp, ⟨hbp, rfl, rfl⟩, hNp, hBp⟩))
  have hx0 : pieceF emptyN ((br, []) :: fs) = (br, [emptyN]) :: fs := rfl
  rw [hx0] at hbp
  obtain ⟨L, g, cap, P, gs', caps', E⟩ := eb_prep hRp hbp (by simp)
  obtain ⟨pve, ove, pl, lc, cm, ll, cs, gb, sb, s1, cat, own, kr, ks, fin⟩ := E
  have ove2 : gs = gs' ∧ caps = caps' := by simpa using ove
  obtain ⟨rfl, rfl⟩ := ove2
  subst pve
  have HBp : Hid (NKeep w wp ∧ Below rb w wp) := ⟨((NKeep.of hB3).trans hNp), (hB3.mono (Nat.le_of_lt hrb)).trans hBp⟩
  have HE0 := Lib.hid (And.intro own (And.intro kr (And.intro ks fin)))
  have c6 := h_cell hRp 6 rfl
  have c7 := h_cell hRp 7 rfl
  have hrbp := h_lt hRp
  have q3 : (P : Int) ≤ (cap : Int) := by omega
  have q4 : (P : Int) ≤ (L.length : Int) := by omega
  have q6 : ¬ cap = P := by omega
  have q8 : IntKind.i64.wrap ((P : Int) + 1) = (P : Int) + 1 := IntWalk.i64_in _ (by omega)
  have HE : Hid (_ ∧ _ ∧ _ ∧ ∀ w1 v1 o w2 gg cap2, NodeP w1 v1 (joinN 4 [emptyN]) → Below wp.heap.size wp w1 → w2.ownsRow (rb + 1) 38 2 (.slice (some ⟨gg, 0, none⟩) (P + 1) cap2) (P + 1) (reCells (L.take P) ++ [v1, .int .i64 (szI (joinN 4 [emptyN]))]) → (w1.alloc o).grownBy w2 (some g) → BlO rb l ext fold last depth cl w (EbP rb br emptyN fs (made + 1)) (.returned (.tuple #[])) ((w2.setCell ⟨rb, 6, none⟩ (.slice (some ⟨gg, 0, none⟩) (P + 1) cap2)).setCell ⟨gs, fs.length * 2 + 1, none⟩ (.int .i64 ((P : Int) + 1)))) := ⟨HE0.out.1, HE0.out.2.1, HE0.out.2.2.1, fun w1 v1 o w2 gg cap2 a1 a2 a3 a4 => by
    obtain ⟨x1, pv, ov, mm, x2, x3, x4, x5⟩ := HE0.out.2.2.2 w1 v1 o w2 gg cap2 a1 a2 a3 a4
    exact ⟨x1, pv, ov, mm, x2, x3, HBp.out.1.trans x4, HBp.out.2.trans x5⟩⟩
  have hBD : Below wp.heap.size wp wp.drew := (Below.refl _ wp).drew
  have s1b := s1
  clear own kr ks fin ove hRp hbp hNp hBp hB3 hnl hBl hpc HP HL HE0 HBp hB2 hx0
  generalize joinN 4 [emptyN] = J at *
  go_region_law (first
    | (refine step_append_lies _ rfl _ _ 35 rfl (rb + 1) 38 i0 (.agg #[.pointer none, .int .i64 0]) 2 16 Tryz.underlying35 hi hz0 hz1 hz2 rfl (by decide) (.slice (some ⟨g, 0, none⟩) P cap) P (reCells (L.take P)) (by first | rfl | simp [Act.eval, Act.put]) (HE.out.1 w1 _ HW.out.2) ⟨w1.heap.size, 0, none⟩ 1 1 [ptr pb, .int .i64 (szI J)] (by first | rfl | simp [Act.eval, Act.put]) rfl (cell_two w1 _ _ _) (by simp [Value.oneCell']) (by decide) (by unfold maxLen; omega) (by omega) (by simp; omega) _ rfl ?_; intro gg cap2 w2 hown2 hgrow2 hat hlt2; have hR2 := HE.out.2.1 w1 _ w2 HW.out.2 hgrow2; have hk6 := h_cell hR2 6 rfl; have hz6 := h_fz hR2 6; have hS2 := HE.out.2.2.1 w1 _ w2 (.slice (some ⟨gg, 0, none⟩) (P + 1) cap2) HW.out.2 hgrow2; obtain ⟨hks, hzs, hkw⟩ := hS2; have H2 := Lib.hid (And.intro hown2 hgrow2); clear hown2 hgrow2 hat hlt2 hR2)
    | (go_simp; go_at_call 14; refine (cat _ hBD).mono ?_; rintro e w1 ⟨v1, rfl, hn1, hB1⟩; obtain ⟨pb, rfl, hpb⟩ := hn1.ptr; have hB2 := hBD.trans (hB1.mono hBD.size); have e6 := cell_below hB2 c6; have e6a := cell_al e6; have es := cell_below hB2 s1; have esa := cell_al es; have hs1 := hB2.size; have HW := Lib.hid (And.intro hn1 hB2); clear hn1 hB1 hB2))
  all_goals
    go_wp2_with fail
    go_end0
    exact HE.out.2.2.2 w1 _ _ w2 _ _ HW.out.1 HW.out.2 H2.out.1 H2.out.2
end
end Go.Proofs.YtlekfdkahlobiaaGreat.Re
