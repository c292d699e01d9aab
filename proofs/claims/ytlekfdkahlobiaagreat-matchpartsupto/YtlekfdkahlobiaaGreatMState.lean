/- The builder: a piece more. -/
import Derived.Test.YtlekfdkahlobiaaGreatMNfa
import Derived.Test.YtlekfdkahlobiaaGreatMTask
namespace Go.Proofs.YtlekfdkahlobiaaGreat.Re
open Go.RowKit

theorem sizes_app : ∀ a b : List Nd, Nd.size.sizes (a ++ b) = Nd.size.sizes a + Nd.size.sizes b
  | [], b => by rw [List.nil_append, Nd.size.sizes]; omega
  | x :: a, b => by rw [List.cons_append, Nd.size.sizes, Nd.size.sizes, sizes_app a b]; omega
theorem flat_piece (x : Nd) (f : Fr) (fs : List Fr) : flat (pieceF x (f :: fs)) = flat (f :: fs) ++ [x] := by simp [pieceF, flat]
theorem spans_piece (x : Nd) (f : Fr) (fs : List Fr) : spansF (pieceF x (f :: fs)) = spansF (f :: fs) := rfl
theorem cell_two (W : World) (a b : Value) (T : Nat) : ∀ j u, [a, b][j]? = some u → (W.alloc (.cells #[a, b] T)).cell? ((⟨W.heap.size, 0, none⟩ : Addr).add j) = some u := by
  intro j u h
  have hn := al_new W (.cells #[a, b] T)
  rcases j with _ | _ | j
  · cases h
    rw [Addr.add_lit]
    exact h_cell hn 0 rfl
  · cases h
    rw [Addr.add_lit]
    exact h_cell hn 1 rfl
  · simp at h
/-- A row more. -/
theorem BdR.snoc {w w2 : World} {rb : Nat} {pv pv2 ov : Value} {made : Int} {fs : List Fr} {f : Fr} {v : Value} {x : Nd} {l : List (Value × Nd)} (h : BdR w rb pv ov made (f :: fs)) (hm : made ≤ 10000) (hx : NodeP w v x) (h1 : w.ownsRow (rb + 1) 38 2 pv l.length (reCells l)) (h2 : l.map Prod.snd = flat (f :: fs)) (h3 : ∀ (i : Nat) (p : Value × Nd), l[i]? = some p → NodeP w p.1 p.2)
    (ho : w2.ownsRow (rb + 1) 38 2 pv2 (l.length + 1) (reCells l ++ [v, .int .i64 (szI x)])) (hg : w.grownBy w2 pv.ownBlock) : BdR w2 rb pv2 ov (made + 1) (pieceF x (f :: fs)) := by
  have hk : NKeep w w2 := ⟨hg.size, fun b cs T hT hb => grown_other h1 hg (by rcases hT with rfl | rfl | rfl <;> decide) hb⟩
  have m0 := h.m0
  have wt := h.wt
  have cnt := h.cnt
  have hs := size_pos x
  refine ⟨by omega, by omega, ?_, ?_, ⟨l ++ [(v, x)], ?_, ?_, ?_⟩, ?_⟩
  · rw [flat_piece, sizes_app, Nd.size.sizes, Nd.size.sizes]; omega
  · rw [flat_piece, List.length_append]; simp; omega
  · rw [List.length_append, reCells_app]; exact ho
  · rw [List.map_append, h2, flat_piece]; rfl
  · intro i p hp
    by_cases hi : i < l.length
    · rw [List.getElem?_append_left hi] at hp
      exact (h3 i p hp).keep hk
    · rw [List.getElem?_append_right (by omega)] at hp
      rcases hj : i - l.length with _ | j
      · rw [hj] at hp; cases hp; exact hx.keep hk
      · rw [hj] at hp; simp at hp
  · rw [spans_piece]
    exact row_keep h.opn fun g cur hc => grown_other h1 hg (by decide) hc
section
variable {w : World} {rb : Nat} {l : List UInt8} {ext fold cl : Bool} {last depth made : Int} {pv ov : Value}
abbrev bldP (rb : Nat) : Value := .pointer (some ⟨rb, 6, none⟩)
set_option maxHeartbeats 1000000 in
theorem isFull_c (h : Rd w rb l ext fold last depth cl pv ov made) : Calls Tryz.prog 60 #[bldP rb] w fun e w' => e = .returned (.bool (decide (10000 < made))) ∧ w' = w := by
  have c8 := h_cell h 8 rfl
  clear h
  go_enter Tryz.func60, Tryz.ntmps60
  go_wp2_with fail
  go_ret
  exact ⟨rfl, rfl⟩
theorem Rd.setMade (h : Rd w rb l ext fold last depth cl pv ov made) (m : Int) : Rd (w.setCell ⟨rb, 8, none⟩ (.int .i64 m)) rb l ext fold last depth cl pv ov m := by simpa using h_set h 8 (.int .i64 m)
theorem Rd.setParts (h : Rd w rb l ext fold last depth cl pv ov made) (v : Value) : Rd (w.setCell ⟨rb, 6, none⟩ v) rb l ext fold last depth cl v ov made := by simpa using h_set h 6 v
theorem Rd.setOpens (h : Rd w rb l ext fold last depth cl pv ov made) (v : Value) : Rd (w.setCell ⟨rb, 7, none⟩ v) rb l ext fold last depth cl pv v made := by simpa using h_set h 7 v
/-- What a builder's step leaves. -/
def BlO (rb : Nat) (l : List UInt8) (ext fold : Bool) (last depth : Int) (cl : Bool) (w : World) (P : World → Value → Value → Int → Prop) (e : Ending) (w' : World) : Prop :=
  e = .returned (.tuple #[]) ∧ ∃ pv ov made, Rd w' rb l ext fold last depth cl pv ov made ∧ P w' pv ov made ∧ NKeep w w' ∧ Below rb w w'
set_option maxHeartbeats 1000000 in
set_option maxRecDepth 100000 in
theorem piece_c {v : Value} {x : Nd} {fs : List Fr} {f : Fr} (hx : NodeP w v x) (h : Rd w rb l ext fold last depth cl pv ov made) (hb : BdR w rb pv ov made (f :: fs)) (hm : made ≤ 10000) :
    Calls Tryz.prog 62 #[bldP rb, reV v x] w (BlO rb l ext fold last depth cl w fun w' pv' ov' made' => BdR w' rb pv' ov' made' (pieceF x (f :: fs)) ∧ made' = made + 1 ∧ ov' = ov) := by
  obtain ⟨pb, rfl, hpl⟩ := hx.ptr
  have hf : ∀ o, Calls Tryz.prog 60 #[bldP rb] (w.alloc o) fun e w' => e = .returned (.bool false) ∧ w' = w.alloc o := fun o => by
    have := isFull_c (h.keep ((Below.refl _ w).alloc (Nat.le_refl _) o))
    rw [decide_eq_false (by omega)] at this
    exact this
  have HR := Lib.hid h
  have HB := Lib.hid hb
  have HX := Lib.hid hx
  have m0 := hb.m0
  have c8 := cell_al (h_cell h 8 rfl)
  have z8 : ∀ o, (w.alloc o).frozen? ⟨rb, 8, none⟩ = false := fun o => h_fz ((al_old w o (h_lt h)).trans h) 8
  have w1 : IntKind.i64.wrap (made + 1) = made + 1 := IntWalk.i64_in _ (by omega)
  obtain ⟨i0, hi, hz0, hz1, hz2⟩ := p_info info_re
  clear h hb hx
  go_enter Tryz.func62, Tryz.ntmps62
  go_upto_region 3 with (go_at_call 60; refine (hf _).mono ?_; rintro e w1 ⟨rfl, hw⟩; rw [hw]; clear hw w1)
  have hAl : Below w.heap.size w (w.alloc (.cells #[ptr pb, .int .i64 (szI x)] 38)) := (Below.refl _ w).alloc (Nat.le_refl _) _
  have hR1 := (HR.out.keep hAl).setMade (made + 1)
  have hA : AKeep w ((w.alloc (.cells #[ptr pb, .int .i64 (szI x)] 38)).setCell ⟨rb, 8, none⟩ (.int .i64 (made + 1))) := (AKeep.of hAl).trans (AKeep.bar (Bar.set _ _ _ _) (HR.out.keep hAl))
  have hre : ReB ((w.alloc (.cells #[ptr pb, .int .i64 (szI x)] 38)).setCell ⟨rb, 8, none⟩ (.int .i64 (made + 1))) w.heap.size (ptr pb) (szI x) := (Below.heap_setCell _ _ _ _ (by have := h_lt HR.out; simp; omega)).trans (al_new _ _)
  have hBl : Below rb w ((w.alloc (.cells #[ptr pb, .int .i64 (szI x)] 38)).setCell ⟨rb, 8, none⟩ (.int .i64 (made + 1))) := (hAl.mono (Nat.le_of_lt (h_lt HR.out))).setCell (p := ⟨rb, 8, none⟩) (Nat.le_refl _) _
  generalize (w.alloc (.cells #[ptr pb, .int .i64 (szI x)] 38)).setCell ⟨rb, 8, none⟩ (.int .i64 (made + 1)) = W at *
  have c6 : W.cell? ⟨rb, 6, none⟩ = some pv := h_cell hR1 6 rfl
  have d0 := h_cell hre 0 rfl
  have d1 := h_cell hre 1 rfl
  have hBW := HB.out.keep hA
  obtain ⟨L, r1, r2, r3⟩ := hBW.row
  have hL : (L.length : Int) ≤ 10000 := by
    have := hBW.cnt
    rw [← r2, List.length_map] at this
    omega
  have hrb := h_lt hR1
  have HD := Lib.hid (And.intro hR1 (And.intro hBW (And.intro (And.intro r2 r3) (And.intro hA.nkeep hBl))))
  have HX2 := Lib.hid (HX.out.keep hA.nkeep)
  have HO := Lib.hid r1
  have HK : Hid (∀ o w2, (W.drew.alloc o).grownBy w2 pv.ownBlock → Rd w2 rb l ext fold last depth cl pv ov (made + 1)) := fun o w2 hg => grown_other ((show W.drew.ownsRow _ _ _ _ _ _ from HO.out).alloc o) hg (by decide) ((al_old W.drew o hrb).trans HD.out.1)
  have HF : Hid (∀ o w2 gg cap2, w2.ownsRow (rb + 1) 38 2 (.slice (some ⟨gg, 0, none⟩) (L.length + 1) cap2) (L.length + 1) (reCells L ++ [ptr pb, .int .i64 (szI x)]) → (W.drew.alloc o).grownBy w2 pv.ownBlock → BlO rb l ext fold last depth cl w (fun w' pv' ov' made' => BdR w' rb pv' ov' made' (pieceF x (f :: fs)) ∧ made' = made + 1 ∧ ov' = ov) (.returned (.tuple #[])) (w2.setCell ⟨rb, 6, none⟩ (.slice (some ⟨gg, 0, none⟩) (L.length + 1) cap2))) := fun o w2 gg cap2 ho hg => by
    have hR2 := HK.out o w2 hg
    have hA1 : AKeep W (W.drew.alloc o) := AKeep.of ((Below.refl _ W).drew.alloc (Nat.le_refl _) o)
    have hg1 : Below rb W (W.drew.alloc o) := (Below.refl _ W).drew.alloc (Nat.le_of_lt hrb) o
    have hg2 : Below rb (W.drew.alloc o) w2 := ⟨hg.os, hg.tape, hg.output, hg.size, fun j hj => hg.block j (by rw [al_size]; show j < W.heap.size + 1; omega) (fun e => by
      have := HO.out.lt j e.symm
      omega)⟩
    have hB2 := (HD.out.2.1.keep hA1).snoc hm (HX2.out.keep hA1.nkeep) ((show W.drew.ownsRow _ _ _ _ _ _ from HO.out).alloc o) HD.out.2.2.1.1 (fun i p hp => (HD.out.2.2.1.2 i p hp).keep hA1.nkeep) ho hg
    have hA3 : AKeep w2 (w2.setCell ⟨rb, 6, none⟩ (.slice (some ⟨gg, 0, none⟩) (L.length + 1) cap2)) := AKeep.bar (Bar.set _ _ _ _) hR2
    have hN2 : NKeep (W.drew.alloc o) w2 := ⟨hg.size, fun b cs T hT hb => grown_other ((show W.drew.ownsRow _ _ _ _ _ _ from HO.out).alloc o) hg (by rcases hT with rfl | rfl | rfl <;> decide) hb⟩
    exact ⟨rfl, _, ov, made + 1, hR2.setParts _, ⟨hB2.keep hA3, rfl, rfl⟩, ((HD.out.2.2.2.1.trans hA1.nkeep).trans hN2).trans hA3.nkeep, ((HD.out.2.2.2.2.trans hg1).trans hg2).setCell (p := ⟨rb, 6, none⟩) (Nat.le_refl _) _⟩
  clear hR1 hA hre hBl hBW r1 r2 r3 HR HB HX hf c8 z8 hAl
  go_region_law (refine step_append_lies _ rfl _ _ 35 rfl (rb + 1) 38 i0 (.agg #[.pointer none, .int .i64 0]) 2 16 Tryz.underlying35 hi hz0 hz1 hz2 rfl (by decide) pv L.length (reCells L) (by simp [Act.eval]) ((show W.drew.ownsRow _ _ _ _ _ _ from HO.out).alloc _) ⟨W.heap.size, 0, none⟩ 1 1 [ptr pb, .int .i64 (szI x)] (by simp [Act.eval]) rfl (cell_two W.drew _ _ _) (by simp [Value.oneCell']) (by decide) (by unfold maxLen; omega) (by omega) (by simp; omega) _ rfl ?_; intro gg cap2 w2 hown2 hgrow2 hat hlt2; have hR2 := HK.out _ w2 hgrow2; have hk6 := h_cell hR2 6 rfl; have hz6 := h_fz hR2 6; have H2 := Lib.hid (And.intro hown2 (And.intro hgrow2 hR2)); clear hown2 hgrow2 hat hlt2 hR2)
  all_goals
    go_wp2_with fail
    go_end0
    exact HF.out _ w2 _ _ H2.out.1 H2.out.2.1
end
end Go.Proofs.YtlekfdkahlobiaaGreat.Re

namespace Go.Proofs.YtlekfdkahlobiaaGreat.Re
open Go.RowKit

theorem own_sh {W : World} {base e s k : Nat} {v : Value} {xs : List Value} (h : W.ownsRow base e s v k xs) : ∃ a c, v = .slice a k c := by
  rcases h.2 with ⟨rfl, rfl⟩ | ⟨g, cap, cur, rfl, _⟩
  · exact ⟨none, 0, rfl⟩
  · exact ⟨_, cap, rfl⟩
theorem info_sp : (Tryz.prog.info? 111).map (fun i => (i.zero, i.size, i.bytes)) = some (some (.agg #[.int .i64 0, .int .i64 0]), 2, 16) := by kernel_rfl
theorem flat_begin (fs : List Fr) : flat (([], []) :: fs) = flat fs := by simp [flat]
theorem spans_begin (fs : List Fr) : spansF (([], []) :: fs) = spansF fs ++ [((flat fs).length, (flat fs).length)] := rfl
section
variable {w : World} {rb : Nat} {l : List UInt8} {ext fold cl : Bool} {last depth made : Int} {pv ov : Value}
set_option maxHeartbeats 1000000 in
theorem begin_full (h : Rd w rb l ext fold last depth cl pv ov made) (hm : 10000 < made) :
    Calls Tryz.prog 58 #[bldP rb] w fun e w' => e = .returned (.tuple #[]) ∧ w' = w := by
  have hf := isFull_c h
  rw [decide_eq_true hm] at hf
  clear h
  go_enter Tryz.func58, Tryz.ntmps58
  go_wp2_with (go_at_call 60; refine hf.mono ?_; rintro e w1 ⟨rfl, hw⟩; rw [hw]; clear hw w1)
  go_end0
  exact ⟨rfl, rfl⟩
set_option maxHeartbeats 1000000 in
set_option maxRecDepth 100000 in
theorem begin_b {fs : List Fr} (h : Rd w rb l ext fold last depth cl pv ov made) (hb : BdR w rb pv ov made fs) (hm : made ≤ 10000) (hfs : fs.length ≤ 2097152) :
    Calls Tryz.prog 58 #[bldP rb] w (BlO rb l ext fold last depth cl w fun w' pv' ov' made' => BdR w' rb pv' ov' made' (([], []) :: fs) ∧ made' = made) := by
  have hf := isFull_c h
  rw [decide_eq_false (by omega)] at hf
  obtain ⟨L, r1, r2, r3⟩ := hb.row
  have hL : L.length = (flat fs).length := by rw [← r2, List.length_map]
  obtain ⟨pa, pc, rfl⟩ := own_sh r1
  have c6 := h_cell h 6 rfl
  have c7 := h_cell h 7 rfl
  have hrb := h_lt h
  obtain ⟨i0, hi, hz0, hz1, hz2⟩ := p_info info_sp
  have HD := Lib.hid (And.intro h (And.intro hb (And.intro r1 (And.intro r2 r3))))
  have HO := Lib.hid hb.opn
  have HK : Hid (∀ o w2, (w.drew.alloc o).grownBy w2 ov.ownBlock → Rd w2 rb l ext fold last depth cl (.slice pa L.length pc) ov made) := fun o w2 hg => grown_other ((show w.drew.ownsRow _ _ _ _ _ _ from HO.out).alloc o) hg (by decide) ((al_old w.drew o hrb).trans HD.out.1)
  have HF : Hid (∀ o w2 gg cap2, w2.ownsRow (rb + 1) 111 2 (.slice (some ⟨gg, 0, none⟩) (fs.length + 1) cap2) (fs.length + 1) (spCells (spansF fs) ++ [.int .i64 (L.length : Int), .int .i64 (L.length : Int)]) → (w.drew.alloc o).grownBy w2 ov.ownBlock → BlO rb l ext fold last depth cl w (fun w' pv' ov' made' => BdR w' rb pv' ov' made' (([], []) :: fs) ∧ made' = made) (.returned (.tuple #[])) (w2.setCell ⟨rb, 7, none⟩ (.slice (some ⟨gg, 0, none⟩) (fs.length + 1) cap2))) := fun o w2 gg cap2 ho hg => by
    have hR2 := HK.out o w2 hg
    have hA1 : AKeep w (w.drew.alloc o) := AKeep.of ((Below.refl _ w).drew.alloc (Nat.le_refl _) o)
    have hg1 : Below rb w (w.drew.alloc o) := (Below.refl _ w).drew.alloc (Nat.le_of_lt hrb) o
    have hg2 : Below rb (w.drew.alloc o) w2 := ⟨hg.os, hg.tape, hg.output, hg.size, fun j hj => hg.block j (by rw [al_size]; show j < w.heap.size + 1; omega) (fun e => by
      have := HO.out.lt j e.symm
      omega)⟩
    have hrow := (show w.drew.ownsRow _ _ _ _ _ _ from HO.out).alloc o
    have hN2 : NKeep (w.drew.alloc o) w2 := ⟨hg.size, fun b cs T hT hb => grown_other hrow hg (by rcases hT with rfl | rfl | rfl <;> decide) hb⟩
    have hA3 : AKeep w2 (w2.setCell ⟨rb, 7, none⟩ (.slice (some ⟨gg, 0, none⟩) (fs.length + 1) cap2)) := AKeep.bar (Bar.set _ _ _ _) hR2
    have hb0 := HD.out.2.1
    have hB2 : BdR w2 rb (.slice pa L.length pc) (.slice (some ⟨gg, 0, none⟩) (fs.length + 1) cap2) made (([], []) :: fs) := by
      refine ⟨hb0.m0, hb0.m1, by rw [flat_begin]; exact hb0.wt, by rw [flat_begin]; exact hb0.cnt, ⟨L, ?_, by rw [flat_begin]; exact HD.out.2.2.2.1, fun i p hp => (HD.out.2.2.2.2 i p hp).keep (hA1.nkeep.trans hN2)⟩, ?_⟩
      · exact row_keep HD.out.2.2.1 fun g cur hc => grown_other hrow hg (by decide) (hA1.blk g cur _ (by decide) hc)
      · rw [spans_begin, spCells_app, ← hL]; exact ho
    exact ⟨rfl, _, _, made, hR2.setOpens _, ⟨hB2.keep hA3, rfl⟩, (hA1.nkeep.trans hN2).trans hA3.nkeep, (hg1.trans hg2).setCell (p := ⟨rb, 7, none⟩) (Nat.le_refl _) _⟩
  clear h hb r1 r2 r3 hL
  go_enter Tryz.func58, Tryz.ntmps58
  go_upto_region 1 with (go_at_call 60; refine hf.mono ?_; rintro e w1 ⟨rfl, hw⟩; rw [hw]; clear hw w1)
  go_region_law (refine step_append_lies _ rfl _ _ 86 rfl (rb + 1) 111 i0 (.agg #[.int .i64 0, .int .i64 0]) 2 16 Tryz.underlying86 hi hz0 hz1 hz2 rfl (by decide) ov fs.length (spCells (spansF fs)) (by simp [Act.eval]) ((show w.drew.ownsRow _ _ _ _ _ _ from HO.out).alloc _) ⟨w.heap.size, 0, none⟩ 1 1 [.int .i64 (L.length : Int), .int .i64 (L.length : Int)] (by simp [Act.eval]) rfl (cell_two w.drew _ _ _) (by simp [Value.oneCell']) (by decide) (by unfold maxLen; omega) (by omega) (by simp; omega) _ rfl ?_; intro gg cap2 w2 hown2 hgrow2 hat hlt2; have hR2 := HK.out _ w2 hgrow2; have hk7 := h_cell hR2 7 rfl; have hz7 := h_fz hR2 7; have H2 := Lib.hid (And.intro hown2 hgrow2); clear hown2 hgrow2 hat hlt2 hR2)
  all_goals
    go_wp2_with fail
    go_end0
    exact HF.out _ w2 _ _ H2.out.1 H2.out.2
end
end Go.Proofs.YtlekfdkahlobiaaGreat.Re

namespace Go.Proofs.YtlekfdkahlobiaaGreat.Re
open Go.Proofs.YtlekfdkahlobiaaGreat.Tr
open Go.RowKit Go.Maps

def stCells (l : List Stt) : List Value := l.flatMap fun s => [.int .i64 (s.kind : Int), .int .i64 (s.set : Int), .int .i64 (s.next : Int), .int .i64 (s.other : Int)]
theorem stCells_app (a b : List Stt) : stCells (a ++ b) = stCells a ++ stCells b := by simp [stCells]
theorem stCells_one (s : Stt) : stCells [s] = [.int .i64 (s.kind : Int), .int .i64 (s.set : Int), .int .i64 (s.next : Int), .int .i64 (s.other : Int)] := by simp [stCells]
def bsCells (l : List (UInt8 → Bool)) : List Value := l.flatMap boolsL
theorem bsCells_app (a b : List (UInt8 → Bool)) : bsCells (a ++ b) = bsCells a ++ bsCells b := by simp [bsCells]
theorem bsCells_one (p : UInt8 → Bool) : bsCells [p] = boolsL p := by simp [bsCells]
/-- Only blocks of these types are turned; new ones may be. -/
structure Only (S : List Nat) (w w' : World) : Prop where
  size : w.heap.size ≤ w'.heap.size
  blk : ∀ (b : Nat) (o : Obj), w.heap[b]? = some o → (∀ cs T, o = .cells cs T → T ∉ S) → w'.heap[b]? = some o
theorem Only.refl (S : List Nat) (w : World) : Only S w w := ⟨Nat.le_refl _, fun _ _ h _ => h⟩
theorem Only.trans {S : List Nat} {u v w : World} (h : Only S u v) (k : Only S v w) : Only S u w := ⟨Nat.le_trans h.size k.size, fun b o hb ho => k.blk b o (h.blk b o hb ho) ho⟩
theorem Only.more {S S' : List Nat} {w w' : World} (h : Only S w w') (hS : ∀ T ∈ S, T ∈ S') : Only S' w w' := ⟨h.size, fun b o hb ho => h.blk b o hb fun cs T e hT => ho cs T e (hS T hT)⟩
theorem Only.of {S : List Nat} {w w' : World} (h : Below w.heap.size w w') : Only S w w' := ⟨h.size, fun b _ hb _ => (h.block b (h_lt hb)).trans hb⟩
theorem Only.set {S : List Nat} {w : World} {b T : Nat} {cs : Array Value} (h : w.heap[b]? = some (.cells cs T)) (hT : T ∈ S) (i : Nat) (v : Value) : Only S w (w.setCell ⟨b, i, none⟩ v) := ⟨by simp, fun c o hc ho => by
  by_cases e : c = b
  · subst e
    rw [h] at hc
    injection hc with hc
    exact absurd hT (ho cs T hc.symm)
  · simp only [World.setCell, Array.getElem?_modify]
    rw [if_neg (fun h => e h.symm)]
    exact hc⟩
theorem Only.grown {S : List Nat} {w w' : World} {base e s n : Nat} {v : Value} {xs : List Value} (h : w.ownsRow base e s v n xs) (hg : w.grownBy w' v.ownBlock) (hT : e ∈ S) : Only S w w' := ⟨hg.size, fun b o hb ho => by
  refine (hg.block b (h_lt hb) fun e1 => ?_).trans hb
  rcases h.2 with ⟨rfl, _⟩ | ⟨g, cap, cur, rfl, _, hg', _⟩
  · cases e1
  · have e2 : b = g := by simpa [Value.ownBlock] using e1
    rw [e2, hg'] at hb
    injection hb with hb
    exact ho cur e hb.symm hT⟩
theorem Only.cells {S : List Nat} {w w' : World} (h : Only S w w') {b T : Nat} {cs : Array Value} (hb : w.heap[b]? = some (.cells cs T)) (hT : T ∉ S) : w'.heap[b]? = some (.cells cs T) := h.blk b _ hb fun cs' T' e => by
  injection e with _ e2 _
  rw [← e2]; exact hT
theorem Only.row {S : List Nat} {w w' : World} {base e s n : Nat} {v : Value} {xs : List Value} (h : Only S w w') (hr : w.ownsRow base e s v n xs) (hT : e ∉ S) : w'.ownsRow base e s v n xs := row_keep hr fun _ _ hg => h.cells hg hT
theorem Only.map {S : List Nat} {w w' : World} (h : Only S w w') {b n : Nat} {f : (UInt8 → Bool) → Option Value} (hm : MapB w b n f) : MapB w' b n f := by
  obtain ⟨D, ⟨es, clock, h1, r⟩, h2⟩ := hm
  exact ⟨D, ⟨es, clock, h.blk b _ h1 (fun _ _ e => by cases e), r⟩, h2⟩
/-- What was numbered: a set's number is where it stands. -/
def NumS (sets : List (UInt8 → Bool)) (f : (UInt8 → Bool) → Option Value) : Prop := ∀ p v, f p = some v → ∃ i : Nat, v = .int .i64 (i : Int) ∧ sets[i]? = some p
/-- The builder, its machine, its map and its rows. -/
structure BM (w : World) (n0 bb pg mb : Nat) (sv tv lv : Value) (fs : List Value) (B : Bst) : Prop where
  bd : w.heap[bb]? = some (.cells #[ptr pg, .map (some mb), lv] 72)
  pr : w.heap[pg]? = some (.cells #[sv, tv, .int .i64 (B.first : Int)] 51)
  st : w.ownsRow n0 58 4 sv B.sts.length (stCells B.sts)
  se : w.ownsRow n0 40 256 tv B.sets.length (bsCells B.sets)
  mp : ∃ f, MapB w mb B.sets.length f ∧ NumS B.sets f
  lf : w.ownsRow n0 1 1 lv fs.length fs
  gb : n0 ≤ bb
  gp : n0 ≤ pg
  gm : n0 ≤ mb
theorem BM.only {S : List Nat} {w w' : World} {n0 bb pg mb : Nat} {sv tv lv : Value} {fs : List Value} {B : Bst} (h : BM w n0 bb pg mb sv tv lv fs B) (k : Only S w w') (hS : 72 ∉ S ∧ 51 ∉ S ∧ 58 ∉ S ∧ 40 ∉ S ∧ 1 ∉ S) : BM w' n0 bb pg mb sv tv lv fs B :=
  let ⟨f, h1, h2⟩ := h.mp
  ⟨k.cells h.bd hS.1, k.cells h.pr hS.2.1, k.row h.st hS.2.2.1, k.row h.se hS.2.2.2.1, ⟨f, k.map h1, h2⟩, k.row h.lf hS.2.2.2.2, h.gb, h.gp, h.gm⟩
/-- A state more, all else as it was. -/
theorem BM.snoc {w w2 w3 : World} {n0 bb pg mb : Nat} {sv sv' tv lv : Value} {fs : List Value} {B : Bst} {s : Stt} (h : BM w n0 bb pg mb sv tv lv fs B) (k : Only [51, 58] w w3)
    (hp : w3.heap[pg]? = some (.cells #[sv', tv, .int .i64 (B.sts.length : Int)] 51)) (hr : w2.ownsRow n0 58 4 sv' (B.sts.length + 1) (stCells B.sts ++ stCells [s])) (k2 : Only [51] w2 w3) : BM w3 n0 bb pg mb sv' tv lv fs (B.put s) :=
  let ⟨f, h1, h2⟩ := h.mp
  ⟨k.cells h.bd (by decide), hp, by
    have := k2.row hr (by decide)
    rw [← stCells_app] at this
    show w3.ownsRow _ _ _ _ (B.sts ++ [s]).length _
    rw [List.length_append]
    exact this, k.row h.se (by decide), ⟨f, k.map h1, h2⟩, k.row h.lf (by decide), h.gb, h.gp, h.gm⟩
theorem info_st : (Tryz.prog.info? 58).map (fun i => (i.zero, i.size, i.bytes)) = some (some (.agg #[.int .i64 0, .int .i64 0, .int .i64 0, .int .i64 0]), 4, 32) := by kernel_rfl
theorem cell_four (W : World) (a b c d : Value) (T : Nat) : ∀ j u, [a, b, c, d][j]? = some u → (W.alloc (.cells #[a, b, c, d] T)).cell? ((⟨W.heap.size, 0, none⟩ : Addr).add j) = some u := by
  intro j u h
  have hn := al_new W (.cells #[a, b, c, d] T)
  rw [Addr.add_lit]
  exact h_cell hn _ (by rw [Nat.zero_add]; simpa using h)
abbrev bbP (bb : Nat) : Value := .pointer (some ⟨bb, 0, none⟩)
abbrev stV (k s n o : Int) : Value := .agg #[.int .i64 k, .int .i64 s, .int .i64 n, .int .i64 o]
end Go.Proofs.YtlekfdkahlobiaaGreat.Re
