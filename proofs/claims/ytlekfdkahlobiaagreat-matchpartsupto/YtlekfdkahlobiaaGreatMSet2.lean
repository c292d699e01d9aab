/- A set that is new. -/
import Derived.Test.YtlekfdkahlobiaaGreatMTail
import Derived.Great.BuildSlice
import Derived.Great.FillDense
namespace Go.Proofs.YtlekfdkahlobiaaGreat.Re
open Go.Proofs.YtlekfdkahlobiaaGreat.Tr
open Go.RowKit Go.Maps

section
variable {w0 w : World} {bb pg mb : Nat} {B : Bst} {U : List Tsk}
theorem Bu.row (h : Bu w0 w bb pg mb B U) : ∃ pa pc, w.cell? ⟨pg, 1, none⟩ = some (.slice pa B.sets.length pc) := by
  obtain ⟨sv, tv, lv, fs, h1, _, _⟩ := h
  obtain ⟨pa, pc, rfl⟩ := own_sh h1.se
  exact ⟨pa, pc, h_cell h1.pr 1 rfl⟩
theorem info_bs : (Tryz.prog.info? 40).map (fun i => (i.zero, i.size, i.bytes)) = some (some (.agg (boolsL noB).toArray), 256, 256) := by kernel_rfl
theorem bs_one {P : Program} (w : World) {t e : TypeId} {ie : TypeInfo} {L Z : List Value} (hu : P.underlying t = some (.slice e)) (hie : P.info? e = some ie) (hz : ie.zero = some (.agg Z.toArray)) (hs : ie.size = L.length) (hL : 0 < L.length) (hL2 : L.length ≤ 1000) :
    (Instr.buildSlice t 1 #[(0, .agg L.toArray)]).run P w = .ok (.slice (some ⟨w.heap.size, 0, none⟩) 1 1) (w.alloc (.cells L.toArray e)) := by
  refine run_buildSlice w t e 1 _ L.toArray ie (.agg Z.toArray) hu hie hz (by rw [hs]; omega) (by rw [hs]; omega) ?_
  have := Go.Great.fill_whole (s := ie.size) (by omega) [.agg L.toArray] ((Array.range (1 * ie.size)).map ((Value.agg Z.toArray).cells[· % (Value.agg Z.toArray).cells.size]!)) (by intro v hv; simp at hv; subst hv; simp [Value.cells, hs]) (by simp)
  simpa [Value.cells] using this
set_option maxHeartbeats 8000000 in
set_option maxRecDepth 100000 in
theorem set_new {p : UInt8 → Bool} (h : Bu w0 w bb pg mb B U) {f : (UInt8 → Bool) → Option Value} (hm : MapB w mb B.sets.length f) (hf : f p = none) (hN : NumS B.sets f) (hn : B.sets.length ≤ 1099511627) :
    Calls Tryz.prog 30 #[bbP bb, bl p] w (SetO w0 w bb pg mb p B U) := by
  obtain ⟨sv, tv, lv, fs, x1, x2, x3⟩ := h
  obtain ⟨pa, pc, rfl⟩ := own_sh x1.se
  have hO1 : Only bTys w (w.alloc (.cells (boolsL p).toArray 40)) := Only.of ((Below.refl _ w).alloc (Nat.le_refl _) _)
  have hO0 : Only [] w (w.alloc (.cells (boolsL p).toArray 40)) := Only.of ((Below.refl _ w).alloc (Nat.le_refl _) _)
  have hB1 : Below w0.heap.size w0 (w.alloc (.cells (boolsL p).toArray 40)) := x3.alloc x3.size _
  have hbx := al_new w (.cells (boolsL p).toArray 40)
  have hm1 := hO1.map hm
  have y1 := x1.only hO0 (by decide)
  have y2 := TasksV.keep hO1 x2
  have hz : ∀ u : World, (zeroValue 3).run Tryz.prog u = .ok (.int .i64 0) u := fun u => rfl
  have c1 := h_cell y1.bd 1 rfl
  have c3 := h_cell y1.pr 1 rfl
  have e0 := h_cell y1.bd 0 rfl
  have hlen := boolsL_len p
  have hsz1 : (w.alloc (.cells (boolsL p).toArray 40)).heap.size = w.heap.size + 1 := by simp
  generalize hV : w.alloc (.cells (boolsL p).toArray 40) = V at *
  have hlk : (Instr.lookup 69 (.map (some mb)) (.agg (boolsL p).toArray) true).run Tryz.prog V.drew = .ok (.tuple #[.int .i64 0, .bool false]) V.drew := by
    have := (Only.map (S := []) (w' := V.drew) ⟨Nat.le_refl _, fun _ _ h _ => h⟩ hm1).look (t := 69) (e := 3) Tryz.underlying69 (hz _) p
    rw [hf] at this
    exact this
  obtain ⟨w2, hup, ⟨g, hg1, hg2, hg3⟩, hgr⟩ := (Only.map (S := []) (w' := V.drew.drew) ⟨Nat.le_refl _, fun _ _ h _ => h⟩ hm1).put (t := 69) (e := 3) Tryz.underlying69 (by unfold maxLen; omega) p (.int .i64 (B.sets.length : Int))
  have hKm : ∀ (b : Nat) (o : Obj), V.heap[b]? = some o → b ≠ mb → w2.heap[b]? = some o := fun b o hb hne => (hgr.block b (h_lt hb) (fun e => hne (Option.some.inj e))).trans hb
  have hmbV : ∃ es cl, V.heap[mb]? = some (.map es cl) := let ⟨_, ⟨es, cl, h1, _⟩, _⟩ := hm1; ⟨es, cl, h1⟩
  have hne : ∀ (b : Nat) (cs : Array Value) (T : Nat), V.heap[b]? = some (.cells cs T) → b ≠ mb := fun b cs T hb e => by
    obtain ⟨es, cl, h1⟩ := hmbV
    rw [e, h1] at hb
    cases hb
  have hC2 : ∀ (b : Nat) (cs : Array Value) (T : Nat), V.heap[b]? = some (.cells cs T) → w2.heap[b]? = some (.cells cs T) := fun b cs T hb => hKm b _ hb (hne b cs T hb)
  have hbx2 := hC2 _ _ _ hbx
  have hbd2 := hC2 _ _ _ y1.bd
  have hpr2 := hC2 _ _ _ y1.pr
  have hse2 : w2.ownsRow w0.heap.size 40 256 (.slice pa B.sets.length pc) B.sets.length (bsCells B.sets) := row_keep y1.se fun g cur hg => hC2 g cur _ hg
  have hst2 : w2.ownsRow w0.heap.size 58 4 sv B.sts.length (stCells B.sts) := row_keep y1.st fun g cur hg => hC2 g cur _ hg
  have hlf2 : w2.ownsRow w0.heap.size 1 1 lv fs.length fs := row_keep y1.lf fun g cur hg => hC2 g cur _ hg
  have hBe2 : Below w0.heap.size w0 w2 := hB1.trans ⟨hgr.os, hgr.tape, hgr.output, hgr.size, fun j hj => hgr.block j (Nat.lt_of_lt_of_le hj hB1.size) (fun e => by
    have := x1.gm
    have := Option.some.inj e
    omega)⟩
  have hOc2 : OnlyC bTys w w2 := hO1.c.trans ⟨hgr.size, fun hb _ => hC2 _ _ _ hb⟩
  have hown : ∀ j, (Value.slice pa B.sets.length pc).ownBlock = some j → j < w.heap.size := fun j e => (x1.se.lt j e).2
  have hsz2 : w.heap.size < w2.heap.size := h_lt hbx2
  have hNum : NumS (B.sets ++ [p]) g := fun d v hd => by
    by_cases e : d = p
    · subst e
      rw [hg2] at hd
      cases hd
      exact ⟨B.sets.length, rfl, by simp⟩
    · rw [hg3 d e] at hd
      obtain ⟨i, e1, e2⟩ := hN d v hd
      exact ⟨i, e1, by rw [List.getElem?_append_left (List.getElem?_eq_some_iff.1 e2).1]; exact e2⟩
  have y3 := TasksV.keepC (⟨hgr.size, fun hb _ => hC2 _ _ _ hb⟩ : OnlyC bTys V w2) y2
  have HK : Hid (∀ o w3, (w2.drew.alloc o).grownBy w3 (Value.slice pa B.sets.length pc).ownBlock → w3.heap[w.heap.size]? = some (.cells (boolsL p).toArray 40) ∧ w3.heap[bb]? = some (.cells #[ptr pg, .map (some mb), lv] 72) ∧ w3.heap[pg]? = some (.cells #[sv, .slice pa B.sets.length pc, .int .i64 (B.first : Int)] 51)) := Lib.hid fun o w3 hg => by
    have hrow := (show w2.drew.ownsRow _ _ _ _ _ _ from hse2).alloc o
    exact ⟨(hg.block _ (by rw [al_size]; show _ < w2.heap.size + 1; omega) (fun e => by have := hown _ e.symm; omega)).trans ((al_old w2.drew o (h_lt hbx2)).trans hbx2), grown_other hrow hg (by decide) ((al_old w2.drew o (h_lt hbd2)).trans hbd2), grown_other hrow hg (by decide) ((al_old w2.drew o (h_lt hpr2)).trans hpr2)⟩
  have HF : Hid (∀ o w3 gg cap2, w3.ownsRow w0.heap.size 40 256 (.slice (some ⟨gg, 0, none⟩) (B.sets.length + 1) cap2) (B.sets.length + 1) (bsCells B.sets ++ boolsL p) → (w2.drew.alloc o).grownBy w3 (Value.slice pa B.sets.length pc).ownBlock → SetO w0 w bb pg mb p B U (.returned (.int .i64 (B.sets.length : Int))) (w3.setCell ⟨pg, 1, none⟩ (.slice (some ⟨gg, 0, none⟩) (B.sets.length + 1) cap2))) := Lib.hid fun o w3 gg cap2 ho hg => by
    have hrow := (show w2.drew.ownsRow _ _ _ _ _ _ from hse2).alloc o
    obtain ⟨k1, k2, k3⟩ := HK.out o w3 hg
    have t1 : Only [40, 51] w2 (w2.drew.alloc o) := Only.of ((Below.refl _ w2).drew.alloc (Nat.le_refl _) o)
    have t2 : Only [40, 51] (w2.drew.alloc o) w3 := Only.grown hrow hg (by decide)
    have t3 : Only [51] w3 (w3.setCell ⟨pg, 1, none⟩ (.slice (some ⟨gg, 0, none⟩) (B.sets.length + 1) cap2)) := Only.set k3 (by decide) _ _
    have tt := (t1.trans t2).trans (t3.more (S' := [40, 51]) (by decide))
    have tb := tt.more (S' := bTys) (by decide)
    refine ⟨B.sets.length, B.addSet p, rfl, .inr rfl, by simp [Bst.addSet], ⟨sv, .slice (some ⟨gg, 0, none⟩) (B.sets.length + 1) cap2, lv, fs, ⟨tt.cells hbd2 (by decide), ?_, tt.row hst2 (by decide), ?_, ⟨g, ?_, hNum⟩, tt.row hlf2 (by decide), x1.gb, x1.gp, x1.gm⟩, TasksV.keep tb y3, ?_⟩, hOc2.trans tb.c⟩
    · show _ = some (Obj.cells #[sv, .slice (some ⟨gg, 0, none⟩) (B.sets.length + 1) cap2, .int .i64 (B.first : Int)] 51)
      simpa using h_set k3 1 (.slice (some ⟨gg, 0, none⟩) (B.sets.length + 1) cap2)
    · have := t3.row ho (by decide)
      rw [← bsCells_one p, ← bsCells_app] at this
      show World.ownsRow _ _ _ _ _ (B.sets ++ [p]).length _
      rw [List.length_append]
      exact this
    · show MapB _ mb (B.sets ++ [p]).length g
      rw [List.length_append]
      exact tt.map hg1
    · have b1 : Below w0.heap.size w2 (w2.drew.alloc o) := (Below.refl _ w2).drew.alloc hBe2.size o
      have b2 : Below w0.heap.size (w2.drew.alloc o) w3 := ⟨hg.os, hg.tape, hg.output, hg.size, fun j hj => hg.block j (by have := hBe2.size; rw [al_size]; show j < w2.heap.size + 1; omega) (fun e => by
        have := (hse2.lt j e.symm).1
        omega)⟩
      exact ((hBe2.trans b1).trans b2).setCell (p := ⟨pg, 1, none⟩) x1.gp _
  have HSE := Lib.hid (And.intro hse2 hBe2.size)
  have c12 := h_cell hbd2 1 rfl
  have f0 := h_cell hbd2 0 rfl
  have f1 := h_cell hpr2 1 rfl
  have fz1 := h_fz hpr2 1
  have FZ : Hid (∀ L : List Value, (w2.drew.alloc (.cells L.toArray 40)).frozen? ⟨pg, 1, none⟩ = false) := Lib.hid fun L => h_fz ((al_old w2.drew _ (h_lt hpr2)).trans hpr2) 1
  obtain ⟨i0, hi, hz0, hz1, hz2⟩ := p_info info_bs
  have hone : ∀ v ∈ boolsL p, v.oneCell' = true := fun v hv => (Array.all_eq_true_iff_forall_mem.1 (bl_one p)) v (by simpa using hv)
  clear hm hf hN x1 x2 x3 hO1 hO0 hB1 hm1 y1 y2 hz hsz1 hKm hmbV hne hC2 hbd2 hpr2 hse2 hst2 hlf2 hBe2 hOc2 hown hNum y3 hg1 hg2 hg3 hgr
  unfold bl
  unfold blV at hup
  subst hV
  generalize boolsL p = L at hlk hup hbx hbx2 hlen c1 c3 e0 HK HF hone ⊢
  have hu : Tryz.prog.underlying 40 = _ := Tryz.underlying40
  have hinf : (Tryz.prog.info? 40).map (·.size) = some L.length := by rw [hlen]; exact info256
  have HR : Hid (∀ u : World, u.heap[w.heap.size]? = some (.cells L.toArray 40) → u.rangeAt w.heap.size 0 L) := Lib.hid fun u hb j v hv => by
    rw [Nat.zero_add]
    exact h_cell hb j (by simpa using hv)
  have r0 := HR.out _ hbx
  have r2 := HR.out _ hbx2
  have hszz : L.toArray.size = 256 := by simp [hlen]
  have hlt2 := h_lt hbx2
  have hb3 := hbx2
  have fz3 : (w2.drew.alloc (.cells L.toArray 40)).frozen? ⟨pg, 1, none⟩ = false := FZ.out L
  clear hbx hbx2
  go_enter Tryz.func30, Tryz.ntmps30
  go_upto_region 1 with fail
  go_region_held3 (fun w' => w'.rangeAt w.heap.size 0 L ∧ w'.cell? ⟨bb, 1, none⟩ = some (.map (some mb))) (first | exact ⟨r0, c1⟩ | exact ⟨(World.rangeAt_drew _ _ _ _).2 r0, c1⟩) (first | fail)
  have c1a : (w.alloc (.cells L.toArray 40)).drew.cell? ⟨bb, 1, none⟩ = some (.map (some mb)) := c1
  have c3a : (w.alloc (.cells L.toArray 40)).drew.cell? ⟨pg, 1, none⟩ = some (.slice pa B.sets.length pc) := c3
  have e0a : (w.alloc (.cells L.toArray 40)).drew.cell? ⟨bb, 0, none⟩ = some (ptr pg) := e0
  have r1 := (World.rangeAt_drew _ _ _ _).2 r0
  go_upto_region 4 with fail
  go_region_held3 (fun w' => w'.rangeAt w.heap.size 0 L ∧ w'.cell? ⟨bb, 1, none⟩ = some (.map (some mb))) (first | exact ⟨r1, c1a⟩ | exact ⟨(World.rangeAt_drew _ _ _ _).2 r1, c1a⟩ | exact ⟨r2, c12⟩) (first | fail)
  clear r0 r1 c1a c3a e0a c1 c3 e0 hlk hup c12
  go_upto_region 5 with fail
  have hbs : (Instr.buildSlice 49 1 #[(0, .agg L.toArray)]).run Tryz.prog w2.drew = .ok (.slice (some ⟨w2.heap.size, 0, none⟩) 1 1) (w2.drew.alloc (.cells L.toArray 40)) := bs_one w2.drew Tryz.underlying49 hi hz0 (by rw [hz1, hlen]) (by omega) (by omega)
  have hcl : ∀ j u, L[j]? = some u → (w2.drew.alloc (.cells L.toArray 40)).cell? ((⟨w2.heap.size, 0, none⟩ : Addr).add j) = some u := fun j u h => by
    rw [Addr.add_lit]
    exact h_cell (al_new w2.drew _) _ (by rw [Nat.zero_add]; simpa using h)
  have r3 : (w2.drew.alloc (.cells L.toArray 40)).rangeAt w.heap.size 0 L := HR.out _ ((al_old w2.drew _ hlt2).trans hb3)
  have a0 : (w2.drew.alloc (.cells L.toArray 40)).cell? ⟨bb, 0, none⟩ = some (ptr pg) := cell_below (((Below.refl _ w2).drew).alloc (Nat.le_refl _) _) f0
  have a1 : (w2.drew.alloc (.cells L.toArray 40)).cell? ⟨pg, 1, none⟩ = some (.slice pa B.sets.length pc) := cell_below (((Below.refl _ w2).drew).alloc (Nat.le_refl _) _) f1
  refine wp_region_tail 16 (fun u => u.rangeAt w.heap.size 0 L ∧ u.cell? ⟨bb, 0, none⟩ = some (ptr pg) ∧ u.cell? ⟨pg, 1, none⟩ = some (.slice pa B.sets.length pc)) (by kernel_rfl) ⟨(World.rangeAt_drew _ _ _ _).2 r2, f0, f1⟩ (fun hHeld => ?_)
  repeat
    first
      | (refine wpAnyT_take (i := 0) (v := ?_) 9 rfl (by decide +kernel) (fun _ _ _ h => h) (Or.inl ⟨by rfl, fun u hu => ?_⟩) (by assumption) ?_; rotate_left; focus ((try dsimp only at hu); go_simp; try with_reducible rfl))
      | (refine wpAnyT_take (i := 1) (v := ?_) 9 rfl (by decide +kernel) (fun _ _ _ h => h) (Or.inl ⟨by rfl, fun u hu => ?_⟩) (by assumption) ?_; rotate_left; focus ((try dsimp only at hu); go_simp; try with_reducible rfl))
      | (refine wpAnyT_take (i := 2) (v := ?_) 9 rfl (by decide +kernel) (fun _ _ _ h => h) (Or.inl ⟨by rfl, fun u hu => ?_⟩) (by assumption) ?_; rotate_left; focus ((try dsimp only at hu); go_simp; try with_reducible rfl))
      | (refine wpAnyT_take (i := 3) (v := ?_) 9 rfl (by decide +kernel) (fun _ _ _ h => h) (Or.inl ⟨by rfl, fun u hu => ?_⟩) (by assumption) ?_; rotate_left; focus ((try dsimp only at hu); go_simp; try with_reducible rfl))
      | (refine wpAnyT_take (i := 4) (v := ?_) 9 rfl (by decide +kernel) (fun _ _ _ h => h) (Or.inl ⟨by rfl, fun u hu => ?_⟩) (by assumption) ?_; rotate_left; focus ((try dsimp only at hu); go_simp; try with_reducible rfl))
      | (refine wpAnyT_take (i := 5) (v := ?_) 9 rfl (by decide +kernel) (fun _ _ _ h => h) (Or.inl ⟨by rfl, fun u hu => ?_⟩) (by assumption) ?_; rotate_left; focus ((try dsimp only at hu); go_simp; try with_reducible rfl))
      | (refine wpAnyT_take (i := 6) (v := ?_) 9 rfl (by decide +kernel) (fun _ _ _ h => h) (Or.inl ⟨by rfl, fun u hu => ?_⟩) (by assumption) ?_; rotate_left; focus ((try dsimp only at hu); go_simp; try with_reducible rfl))
      | (refine wpAnyT_take (i := 7) (v := ?_) 9 rfl (by decide +kernel) (fun _ _ _ h => h) (Or.inl ⟨by rfl, fun u hu => ?_⟩) (by assumption) ?_; rotate_left; focus ((try dsimp only at hu); go_simp; try with_reducible rfl))
      | (refine wpAnyT_take (i := 8) (v := ?_) 9 rfl (by decide +kernel) (fun _ _ _ h => h) (Or.inl ⟨by rfl, fun u hu => ?_⟩) (by assumption) ?_; rotate_left; focus ((try dsimp only at hu); go_simp; try with_reducible rfl))
      | (refine wpAnyT_take (i := 9) (v := ?_) 9 rfl (by decide +kernel) (fun _ _ _ h => h) (Or.inl ⟨by rfl, fun u hu => ?_⟩) (by assumption) ?_; rotate_left; focus ((try dsimp only at hu); go_simp; try with_reducible rfl))
      | (refine wpAnyT_take (i := 10) (v := ?_) 9 rfl (by decide +kernel) (fun _ _ _ h => h) (Or.inl ⟨by rfl, fun u hu => ?_⟩) (by assumption) ?_; rotate_left; focus ((try dsimp only at hu); go_simp; try with_reducible rfl))
    simp only [Act.put, List.setIfInBounds_toArray, List.set_cons_zero, List.set_cons_succ]
  refine wpAnyT_take (i := 11) (v := .agg L.toArray) 9 rfl (by kernel_rfl) (fun _ _ _ h => h) ?_ (by assumption) ?_
  · exact yieldsIf_load_mid (by rfl) 40 (.tmp 3) rfl w.heap.size 0 (by simp [Act.eval]) L _ (fun u hu => hu.1) Tryz.underlying40 rfl hinf
  simp only [Act.put, List.setIfInBounds_toArray, List.set_cons_zero, List.set_cons_succ]
  refine wpAnyT_one (i := 12) rfl (by kernel_rfl) (fun K hK => ?_)
  refine step_build1 rfl _ _ rfl (by simp [Act.eval]) hbs ?_
  refine hK.out _ _ (fun _ => ?_) ?_
  · exact ⟨r3, a0, a1⟩
  clear hK K
  simp only [Act.put, List.setIfInBounds_toArray, List.set_cons_zero, List.set_cons_succ]
  refine wpAnyT_one (i := 13) rfl (by kernel_rfl) (fun K hK => ?_)
  refine step_append_lies _ rfl _ _ 49 rfl w0.heap.size 40 i0 (.agg (boolsL noB).toArray) 256 256 Tryz.underlying49 hi hz0 hz1 hz2 (by kernel_rfl) (by decide) (.slice pa B.sets.length pc) B.sets.length (bsCells B.sets) (by simp [Act.eval]) ((show w2.drew.ownsRow _ _ _ _ _ _ from HSE.out.1).alloc _) ⟨w2.heap.size, 0, none⟩ 1 1 L (by simp [Act.eval]) (by omega) hcl hone (by decide) (by unfold maxLen; omega) (by omega) (by have := HSE.out.2; simp; omega) _ rfl ?_
  intro gg cap2 w3 hown3 hgrow3 hat3 hlt3
  obtain ⟨k1, k2, k3⟩ := HK.out _ w3 hgrow3
  have b1 : w3.cell? ⟨bb, 0, none⟩ = some (ptr pg) := h_cell k2 0 rfl
  have b2 : w3.cell? ⟨pg, 1, none⟩ = some (.slice pa B.sets.length pc) := h_cell k3 1 rfl
  have b3 := h_fz k3 1
  have H3 := Lib.hid (And.intro hown3 hgrow3)
  clear hown3 hgrow3 hat3 hlt3
  refine hK.out _ _ (fun _ => ?_) ?_
  · exact ⟨HR.out _ k1, b1, b2⟩
  clear hK K
  simp only [Act.put, List.setIfInBounds_toArray, List.set_cons_zero, List.set_cons_succ]
  refine wpAnyT_one (i := 14) rfl (by kernel_rfl) (fun K hK => ?_)
  go_simp
  refine hK.out _ _ (fun _ => ?_) ?_
  · exact ⟨HR.out _ k1, b1, b2⟩
  clear hK K
  refine wpAnyT_one (i := 15) rfl (by kernel_rfl) (fun K hK => ?_)
  go_simp
  refine hK.out _ _ (fun _ => ?_) ?_
  · exact ⟨HR.out _ k1, b1, b2⟩
  clear hK K
  refine wpAnyT_one (i := 16) rfl (by kernel_rfl) (fun K hK => ?_)
  go_simp
  refine hK.out _ _ (fun hne => ?_) ?_
  · exact absurd rfl hne
  clear hK K
  refine wpAnyT_done (by kernel_rfl) ?_ _
  go_wp2_with fail
  go_ret
  exact HF.out _ w3 _ _ H3.out.1 H3.out.2
end
end Go.Proofs.YtlekfdkahlobiaaGreat.Re
