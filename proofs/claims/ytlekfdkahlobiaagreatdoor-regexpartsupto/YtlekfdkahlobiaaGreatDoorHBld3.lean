/- The builder's rows in memory. -/
import Derived.Test.YtlekfdkahlobiaaGreatDoorHMake2
namespace Go.Proofs.YtlekfdkahlobiaaGreatDoor.Re
open Go.RowKit

def reCells (l : List (Value × Nd)) : List Value := l.flatMap fun p => [p.1, .int .i64 (szI p.2)]
theorem reCells_len (l : List (Value × Nd)) : (reCells l).length = l.length * 2 := by
  induction l with
  | nil => rfl
  | cons p l ih => simp only [reCells, List.flatMap_cons, List.length_append, List.length_cons, List.length_nil] at ih ⊢; omega
theorem reCells_app (a b : List (Value × Nd)) : reCells (a ++ b) = reCells a ++ reCells b := by simp [reCells]
theorem reCells_at {l : List (Value × Nd)} : ∀ {i : Nat} {p : Value × Nd}, l[i]? = some p → (reCells l)[i * 2]? = some p.1 ∧ (reCells l)[i * 2 + 1]? = some (.int .i64 (szI p.2)) := by
  induction l with
  | nil => intro i p h; simp at h
  | cons q l ih =>
    intro i p h
    cases i with
    | zero => cases h; exact ⟨rfl, rfl⟩
    | succ i =>
      have := ih (i := i) (p := p) (by simpa using h)
      have e : reCells (q :: l) = q.1 :: .int .i64 (szI q.2) :: reCells l := rfl
      rw [e, show (i + 1) * 2 = i * 2 + 2 by omega]
      exact this
theorem reCells_take (l : List (Value × Nd)) (k : Nat) : (reCells l).take (k * 2) = reCells (l.take k) := by
  by_cases hk : k ≤ l.length
  · conv => lhs; rw [← List.take_append_drop k l, reCells_app]
    rw [List.take_append_of_le_length (by rw [reCells_len]; simp; omega), List.take_of_length_le (by rw [reCells_len]; simp; omega)]
  · rw [List.take_of_length_le (by rw [reCells_len]; omega), List.take_of_length_le (by omega)]
def spCells (l : List (Nat × Nat)) : List Value := l.flatMap fun p => [.int .i64 (p.1 : Int), .int .i64 (p.2 : Int)]
theorem spCells_len (l : List (Nat × Nat)) : (spCells l).length = l.length * 2 := by
  induction l with
  | nil => rfl
  | cons p l ih => simp only [spCells, List.flatMap_cons, List.length_append, List.length_cons, List.length_nil] at ih ⊢; omega
theorem spCells_app (a b : List (Nat × Nat)) : spCells (a ++ b) = spCells a ++ spCells b := by simp [spCells]
/-- What has not become part of another one: branches and pieces, the outermost first. -/
def flat : List Fr → List Nd
  | [] => []
  | f :: t => flat t ++ (f.1 ++ f.2)
def spansF : List Fr → List (Nat × Nat)
  | [] => []
  | f :: t => spansF t ++ [((flat t).length, (flat t).length + f.1.length)]
theorem spansF_len : ∀ fs : List Fr, (spansF fs).length = fs.length
  | [] => rfl
  | f :: t => by rw [spansF, List.length_append, spansF_len t]; rfl
/-- A row that is kept. -/
theorem row_keep {w w' : World} {base e s n : Nat} {v : Value} {xs : List Value} (h : w.ownsRow base e s v n xs) (hk : ∀ (g : Nat) (cur : Array Value), w.heap[g]? = some (.cells cur e (0, 0)) → w'.heap[g]? = some (.cells cur e (0, 0))) : w'.ownsRow base e s v n xs := by
  refine ⟨h.1, ?_⟩
  rcases h.2 with hn | ⟨g, cap, cur, h1, hb, hg, r⟩
  · exact .inl hn
  · exact .inr ⟨g, cap, cur, h1, hb, hk g cur hg, r⟩
/-- All blocks of a type that is none of a reader's own are as they were. -/
structure AKeep (w w' : World) : Prop where
  size : w.heap.size ≤ w'.heap.size
  blk : ∀ (b : Nat) (cs : Array Value) (T : Nat), T ≠ 83 → w.heap[b]? = some (.cells cs T) → w'.heap[b]? = some (.cells cs T)
theorem AKeep.nkeep {w w' : World} (h : AKeep w w') : NKeep w w' := ⟨h.size, fun b cs T hT hb => h.blk b cs T (by rcases hT with rfl | rfl | rfl <;> decide) hb⟩
theorem AKeep.refl (w : World) : AKeep w w := ⟨Nat.le_refl _, fun _ _ _ _ h => h⟩
theorem AKeep.trans {u v w : World} (h : AKeep u v) (k : AKeep v w) : AKeep u w := ⟨Nat.le_trans h.size k.size, fun b cs T hT hb => k.blk b cs T hT (h.blk b cs T hT hb)⟩
theorem AKeep.of {w w' : World} (h : Below w.heap.size w w') : AKeep w w' := ⟨h.size, fun b _ _ _ hb => (h.block b (h_lt hb)).trans hb⟩
theorem AKeep.bar {w w' : World} {b : Nat} {cs : Array Value} (h : Bar b w w') (hb : w.heap[b]? = some (.cells cs 83)) : AKeep w w' := ⟨h.size, fun c _ T hT hc => (h.block c (h_lt hc) (fun e => by
  rw [e, hb] at hc
  injection hc with hc
  injection hc with _ h2 _
  exact hT h2.symm)).trans hc⟩
/-- The builder's rows. -/
structure BdR (w : World) (rb : Nat) (pv ov : Value) (made : Int) (fs : List Fr) : Prop where
  m0 : 0 ≤ made
  m1 : made ≤ 10001
  wt : made ≤ (Nd.size.sizes (flat fs) : Int)
  cnt : ((flat fs).length : Int) ≤ made
  row : ∃ l : List (Value × Nd), w.ownsRow (rb + 1) 48 2 pv l.length (reCells l) ∧ l.map Prod.snd = flat fs ∧ ∀ (i : Nat) (p : Value × Nd), l[i]? = some p → NodeP w p.1 p.2
  opn : w.ownsRow (rb + 1) 115 2 ov fs.length (spCells (spansF fs))
theorem BdR.keep {w w' : World} {rb : Nat} {pv ov : Value} {made : Int} {fs : List Fr} (h : BdR w rb pv ov made fs) (hk : AKeep w w') : BdR w' rb pv ov made fs := by
  obtain ⟨l, h1, h2, h3⟩ := h.row
  exact ⟨h.m0, h.m1, h.wt, h.cnt, ⟨l, row_keep h1 (fun g cur hg => hk.blk g cur _ (by decide) hg), h2, fun i p hp => (h3 i p hp).keep hk.nkeep⟩, row_keep h.opn (fun g cur hg => hk.blk g cur _ (by decide) hg)⟩
/-- A part of a row, as a slice. -/
theorem row_from {w : World} {base : Nat} {v : Value} {l : List (Value × Nd)} (h : w.ownsRow base 48 2 v l.length (reCells l)) (hn : ∀ (i : Nat) (p : Value × Nd), l[i]? = some p → NodeP w p.1 p.2) (hl : l ≠ []) : ∃ g cap, v = .slice (some ⟨g, 0, none⟩) l.length cap ∧ base ≤ g ∧ g < w.heap.size ∧ l.length ≤ cap ∧ cap ≤ 9223372036854775807 ∧ ∀ k, RowI w g (k * 2) (l.drop k) := by
  rcases h.2 with ⟨_, h0⟩ | ⟨g, cap, cur, rfl, hb, hg, hle, hcap, hsz, ht⟩
  · exact absurd (List.length_eq_zero_iff.1 h0) hl
  · refine ⟨g, cap, rfl, hb, h_lt hg, hle, by unfold maxLen at hcap; exact hcap, fun k => ⟨fun _ => h_lt hg, fun i p hp => ?_, fun i p hp => ?_, fun i p hp => hn (k + i) p (by rw [List.getElem?_drop] at hp; exact hp)⟩⟩
    · rw [List.getElem?_drop] at hp
      have hi := (List.getElem?_eq_some_iff.1 hp).1
      have h2 := (reCells_at hp).1
      rw [← ht, List.getElem?_take, if_pos (by omega)] at h2
      rw [show k * 2 + i * 2 = (k + i) * 2 by omega]
      exact h_cell hg _ (by simpa using h2)
    · rw [List.getElem?_drop] at hp
      have hi := (List.getElem?_eq_some_iff.1 hp).1
      have h2 := (reCells_at hp).2
      rw [← ht, List.getElem?_take, if_pos (by omega)] at h2
      rw [show k * 2 + i * 2 + 1 = (k + i) * 2 + 1 by omega]
      exact h_cell hg _ (by simpa using h2)
/-- The first ones of a row. -/
theorem row_take {w : World} {base e n cap g : Nat} {xs : List Value} (h : w.ownsRow base e 2 (.slice (some ⟨g, 0, none⟩) n cap) n xs) {k : Nat} (hk : k ≤ n) : w.ownsRow base e 2 (.slice (some ⟨g, 0, none⟩) k cap) k (xs.take (k * 2)) := by
  refine ⟨by rw [List.length_take, h.1]; omega, ?_⟩
  rcases h.2 with ⟨e1, _⟩ | ⟨g', cap', cur, e1, hb, hg, hle, hcap, hsz, ht⟩
  · cases e1
  · cases e1
    exact .inr ⟨g, cap, cur, rfl, hb, hg, by omega, hcap, hsz, by rw [← ht, List.take_take, Nat.min_eq_left (by omega)]⟩
/-- Blocks of another type than a row's are as they were when the row has grown. -/
theorem grown_other {w w' : World} {base e s n : Nat} {v : Value} {xs : List Value} (h : w.ownsRow base e s v n xs) (hg : w.grownBy w' v.ownBlock) {b : Nat} {cs : Array Value} {T : Nat} (hT : T ≠ e) (hb : w.heap[b]? = some (.cells cs T)) : w'.heap[b]? = some (.cells cs T) := by
  refine (hg.block b (h_lt hb) fun e1 => ?_).trans hb
  rcases h.2 with ⟨rfl, _⟩ | ⟨g, cap, cur, rfl, _, hg', _⟩
  · cases e1
  · have e2 : b = g := by simpa [Value.ownBlock] using e1
    rw [e2, hg'] at hb
    injection hb with hb
    injection hb with _ h2 _
    exact hT h2.symm
end Go.Proofs.YtlekfdkahlobiaaGreatDoor.Re

namespace Go.Proofs.YtlekfdkahlobiaaGreatDoor.Re
open Go.RowKit

theorem sizes_app : ∀ a b : List Nd, Nd.size.sizes (a ++ b) = Nd.size.sizes a + Nd.size.sizes b
  | [], b => by rw [List.nil_append, Nd.size.sizes]; omega
  | x :: a, b => by rw [List.cons_append, Nd.size.sizes, Nd.size.sizes, sizes_app a b]; omega
theorem flat_piece (x : Nd) (f : Fr) (fs : List Fr) : flat (pieceF x (f :: fs)) = flat (f :: fs) ++ [x] := by simp [pieceF, flat]
theorem spans_piece (x : Nd) (f : Fr) (fs : List Fr) : spansF (pieceF x (f :: fs)) = spansF (f :: fs) := rfl
theorem cell_two (W : World) (a b : Value) (T : Nat) : ∀ j u, [a, b][j]? = some u → (W.alloc (.cells #[a, b] T)).cell? ((⟨W.heap.size, 0, none⟩ : Addr).add j) = some u := by
  intro j u h
  have hn := al_new W (.cells #[a, b] T)
  rcases j with _ | _ | j
  · cases h
    rw [Addr.add_lit]
    exact h_cell hn 0 rfl
  · cases h
    rw [Addr.add_lit]
    exact h_cell hn 1 rfl
  · simp at h
/-- A row more. -/
theorem BdR.snoc {w w2 : World} {rb : Nat} {pv pv2 ov : Value} {made : Int} {fs : List Fr} {f : Fr} {v : Value} {x : Nd} {l : List (Value × Nd)} (h : BdR w rb pv ov made (f :: fs)) (hm : made ≤ 10000) (hx : NodeP w v x) (h1 : w.ownsRow (rb + 1) 48 2 pv l.length (reCells l)) (h2 : l.map Prod.snd = flat (f :: fs)) (h3 : ∀ (i : Nat) (p : Value × Nd), l[i]? = some p → NodeP w p.1 p.2)
    (ho : w2.ownsRow (rb + 1) 48 2 pv2 (l.length + 1) (reCells l ++ [v, .int .i64 (szI x)])) (hg : w.grownBy w2 pv.ownBlock) : BdR w2 rb pv2 ov (made + 1) (pieceF x (f :: fs)) := by
  have hk : NKeep w w2 := ⟨hg.size, fun b cs T hT hb => grown_other h1 hg (by rcases hT with rfl | rfl | rfl <;> decide) hb⟩
  have m0 := h.m0
  have wt := h.wt
  have cnt := h.cnt
  have hs := size_pos x
  refine ⟨by omega, by omega, ?_, ?_, ⟨l ++ [(v, x)], ?_, ?_, ?_⟩, ?_⟩
  · rw [flat_piece, sizes_app, Nd.size.sizes, Nd.size.sizes]; omega
  · rw [flat_piece, List.length_append]; simp; omega
  · rw [List.length_append, reCells_app]; exact ho
  · rw [List.map_append, h2, flat_piece]; rfl
  · intro i p hp
    by_cases hi : i < l.length
    · rw [List.getElem?_append_left hi] at hp
      exact (h3 i p hp).keep hk
    · rw [List.getElem?_append_right (by omega)] at hp
      rcases hj : i - l.length with _ | j
      · rw [hj] at hp; cases hp; exact hx.keep hk
      · rw [hj] at hp; simp at hp
  · rw [spans_piece]
    exact row_keep h.opn fun g cur hc => grown_other h1 hg (by decide) hc
section
variable {w : World} {rb : Nat} {l : List UInt8} {ext fold cl : Bool} {last depth made : Int} {pv ov : Value}
abbrev bldP (rb : Nat) : Value := .pointer (some ⟨rb, 6, none⟩)
set_option maxHeartbeats 1000000 in
theorem isFull_c (h : Rd w rb l ext fold last depth cl pv ov made) : Calls Tryz.prog 59 #[bldP rb] w fun e w' => e = .returned (.bool (decide (10000 < made))) ∧ w' = w := by
  have c8 := h_cell h 8 rfl
  clear h
  go_enter Tryz.func59, Tryz.ntmps59
  go_wp2_with fail
  go_ret
  exact ⟨rfl, rfl⟩
theorem Rd.setMade (h : Rd w rb l ext fold last depth cl pv ov made) (m : Int) : Rd (w.setCell ⟨rb, 8, none⟩ (.int .i64 m)) rb l ext fold last depth cl pv ov m := by simpa using h_set h 8 (.int .i64 m)
theorem Rd.setParts (h : Rd w rb l ext fold last depth cl pv ov made) (v : Value) : Rd (w.setCell ⟨rb, 6, none⟩ v) rb l ext fold last depth cl v ov made := by simpa using h_set h 6 v
theorem Rd.setOpens (h : Rd w rb l ext fold last depth cl pv ov made) (v : Value) : Rd (w.setCell ⟨rb, 7, none⟩ v) rb l ext fold last depth cl pv v made := by simpa using h_set h 7 v
/-- What a builder's step leaves. -/
def BlO (rb : Nat) (l : List UInt8) (ext fold : Bool) (last depth : Int) (cl : Bool) (w : World) (P : World → Value → Value → Int → Prop) (e : Ending) (w' : World) : Prop :=
  e = .returned (.tuple #[]) ∧ ∃ pv ov made, Rd w' rb l ext fold last depth cl pv ov made ∧ P w' pv ov made ∧ NKeep w w' ∧ Below rb w w'
set_option maxHeartbeats 1000000 in
set_option maxRecDepth 100000 in
theorem piece_c {v : Value} {x : Nd} {fs : List Fr} {f : Fr} (hx : NodeP w v x) (h : Rd w rb l ext fold last depth cl pv ov made) (hb : BdR w rb pv ov made (f :: fs)) (hm : made ≤ 10000) :
    Calls Tryz.prog 69 #[bldP rb, reV v x] w (BlO rb l ext fold last depth cl w fun w' pv' ov' made' => BdR w' rb pv' ov' made' (pieceF x (f :: fs)) ∧ made' = made + 1 ∧ ov' = ov) := by
  obtain ⟨pb, rfl, hpl⟩ := hx.ptr
  have hf : ∀ o, Calls Tryz.prog 59 #[bldP rb] (w.alloc o) fun e w' => e = .returned (.bool false) ∧ w' = w.alloc o := fun o => by
    have := isFull_c (h.keep ((Below.refl _ w).alloc (Nat.le_refl _) o))
    rw [decide_eq_false (by omega)] at this
    exact this
  have HR := Lib.hid h
  have HB := Lib.hid hb
  have HX := Lib.hid hx
  have m0 := hb.m0
  have c8 := cell_al (h_cell h 8 rfl)
  have z8 : ∀ o, (w.alloc o).frozen? ⟨rb, 8, none⟩ = false := fun o => h_fz ((al_old w o (h_lt h)).trans h) 8
  have w1 : IntKind.i64.wrap (made + 1) = made + 1 := IntWalk.i64_in _ (by omega)
  obtain ⟨i0, hi, hz0, hz1, hz2⟩ := p_info info_re
  clear h hb hx
  go_enter Tryz.func69, Tryz.ntmps69
  go_upto_region 3 with (go_at_call 59; refine (hf _).mono ?_; rintro e w1 ⟨rfl, hw⟩; rw [hw]; clear hw w1)
  have hAl : Below w.heap.size w (w.alloc (.cells #[ptr pb, .int .i64 (szI x)] 48)) := (Below.refl _ w).alloc (Nat.le_refl _) _
  have hR1 := (HR.out.keep hAl).setMade (made + 1)
  have hA : AKeep w ((w.alloc (.cells #[ptr pb, .int .i64 (szI x)] 48)).setCell ⟨rb, 8, none⟩ (.int .i64 (made + 1))) := (AKeep.of hAl).trans (AKeep.bar (Bar.set _ _ _ _) (HR.out.keep hAl))
  have hre : ReB ((w.alloc (.cells #[ptr pb, .int .i64 (szI x)] 48)).setCell ⟨rb, 8, none⟩ (.int .i64 (made + 1))) w.heap.size (ptr pb) (szI x) := (Below.heap_setCell _ _ _ _ (by have := h_lt HR.out; simp; omega)).trans (al_new _ _)
  have hBl : Below rb w ((w.alloc (.cells #[ptr pb, .int .i64 (szI x)] 48)).setCell ⟨rb, 8, none⟩ (.int .i64 (made + 1))) := (hAl.mono (Nat.le_of_lt (h_lt HR.out))).setCell (p := ⟨rb, 8, none⟩) (Nat.le_refl _) _
  generalize (w.alloc (.cells #[ptr pb, .int .i64 (szI x)] 48)).setCell ⟨rb, 8, none⟩ (.int .i64 (made + 1)) = W at *
  have c6 : W.cell? ⟨rb, 6, none⟩ = some pv := h_cell hR1 6 rfl
  have d0 := h_cell hre 0 rfl
  have d1 := h_cell hre 1 rfl
  have hBW := HB.out.keep hA
  obtain ⟨L, r1, r2, r3⟩ := hBW.row
  have hL : (L.length : Int) ≤ 10000 := by
    have := hBW.cnt
    rw [← r2, List.length_map] at this
    omega
  have hrb := h_lt hR1
  have HD := Lib.hid (And.intro hR1 (And.intro hBW (And.intro (And.intro r2 r3) (And.intro hA.nkeep hBl))))
  have HX2 := Lib.hid (HX.out.keep hA.nkeep)
  have HO := Lib.hid r1
  have HK : Hid (∀ o w2, (W.drew.alloc o).grownBy w2 pv.ownBlock → Rd w2 rb l ext fold last depth cl pv ov (made + 1)) := fun o w2 hg => grown_other ((show W.drew.ownsRow _ _ _ _ _ _ from HO.out).alloc o) hg (by decide) ((al_old W.drew o hrb).trans HD.out.1)
  have HF : Hid (∀ o w2 gg cap2, w2.ownsRow (rb + 1) 48 2 (.slice (some ⟨gg, 0, none⟩) (L.length + 1) cap2) (L.length + 1) (reCells L ++ [ptr pb, .int .i64 (szI x)]) → (W.drew.alloc o).grownBy w2 pv.ownBlock → BlO rb l ext fold last depth cl w (fun w' pv' ov' made' => BdR w' rb pv' ov' made' (pieceF x (f :: fs)) ∧ made' = made + 1 ∧ ov' = ov) (.returned (.tuple #[])) (w2.setCell ⟨rb, 6, none⟩ (.slice (some ⟨gg, 0, none⟩) (L.length + 1) cap2))) := fun o w2 gg cap2 ho hg => by
    have hR2 := HK.out o w2 hg
    have hA1 : AKeep W (W.drew.alloc o) := AKeep.of ((Below.refl _ W).drew.alloc (Nat.le_refl _) o)
    have hg1 : Below rb W (W.drew.alloc o) := (Below.refl _ W).drew.alloc (Nat.le_of_lt hrb) o
    have hg2 : Below rb (W.drew.alloc o) w2 := ⟨hg.os, hg.tape, hg.output, hg.size, fun j hj => hg.block j (by rw [al_size]; show j < W.heap.size + 1; omega) (fun e => by
      have := HO.out.lt j e.symm
      omega)⟩
    have hB2 := (HD.out.2.1.keep hA1).snoc hm (HX2.out.keep hA1.nkeep) ((show W.drew.ownsRow _ _ _ _ _ _ from HO.out).alloc o) HD.out.2.2.1.1 (fun i p hp => (HD.out.2.2.1.2 i p hp).keep hA1.nkeep) ho hg
    have hA3 : AKeep w2 (w2.setCell ⟨rb, 6, none⟩ (.slice (some ⟨gg, 0, none⟩) (L.length + 1) cap2)) := AKeep.bar (Bar.set _ _ _ _) hR2
    have hN2 : NKeep (W.drew.alloc o) w2 := ⟨hg.size, fun b cs T hT hb => grown_other ((show W.drew.ownsRow _ _ _ _ _ _ from HO.out).alloc o) hg (by rcases hT with rfl | rfl | rfl <;> decide) hb⟩
    exact ⟨rfl, _, ov, made + 1, hR2.setParts _, ⟨hB2.keep hA3, rfl, rfl⟩, ((HD.out.2.2.2.1.trans hA1.nkeep).trans hN2).trans hA3.nkeep, ((HD.out.2.2.2.2.trans hg1).trans hg2).setCell (p := ⟨rb, 6, none⟩) (Nat.le_refl _) _⟩
  clear hR1 hA hre hBl hBW r1 r2 r3 HR HB HX hf c8 z8 hAl
  go_region_law (refine step_append_lies _ rfl _ _ 72 rfl (rb + 1) 48 i0 (.agg #[.pointer none, .int .i64 0]) 2 16 Tryz.underlying72 hi hz0 hz1 hz2 rfl (by decide) pv L.length (reCells L) (by simp [Act.eval]) ((show W.drew.ownsRow _ _ _ _ _ _ from HO.out).alloc _) ⟨W.heap.size, 0, none⟩ 1 1 [ptr pb, .int .i64 (szI x)] (by simp [Act.eval]) rfl (cell_two W.drew _ _ _) (by simp [Value.oneCell']) (by decide) (by unfold maxLen; omega) (by omega) (by simp; omega) _ rfl ?_; intro gg cap2 w2 hown2 hgrow2 hat hlt2; have hR2 := HK.out _ w2 hgrow2; have hk6 := h_cell hR2 6 rfl; have hz6 := h_fz hR2 6; have H2 := Lib.hid (And.intro hown2 (And.intro hgrow2 hR2)); clear hown2 hgrow2 hat hlt2 hR2)
  all_goals
    go_wp2_with fail
    go_end0
    exact HF.out _ w2 _ _ H2.out.1 H2.out.2.1
end
end Go.Proofs.YtlekfdkahlobiaaGreatDoor.Re

namespace Go.Proofs.YtlekfdkahlobiaaGreatDoor.Re
open Go.RowKit

theorem own_sh {W : World} {base e s k : Nat} {v : Value} {xs : List Value} (h : W.ownsRow base e s v k xs) : ∃ a c, v = .slice a k c := by
  rcases h.2 with ⟨rfl, rfl⟩ | ⟨g, cap, cur, rfl, _⟩
  · exact ⟨none, 0, rfl⟩
  · exact ⟨_, cap, rfl⟩
theorem info_sp : (Tryz.prog.info? 115).map (fun i => (i.zero, i.size, i.bytes)) = some (some (.agg #[.int .i64 0, .int .i64 0]), 2, 16) := by kernel_rfl
theorem flat_begin (fs : List Fr) : flat (([], []) :: fs) = flat fs := by simp [flat]
theorem spans_begin (fs : List Fr) : spansF (([], []) :: fs) = spansF fs ++ [((flat fs).length, (flat fs).length)] := rfl
section
variable {w : World} {rb : Nat} {l : List UInt8} {ext fold cl : Bool} {last depth made : Int} {pv ov : Value}
set_option maxHeartbeats 1000000 in
theorem begin_full (h : Rd w rb l ext fold last depth cl pv ov made) (hm : 10000 < made) :
    Calls Tryz.prog 57 #[bldP rb] w fun e w' => e = .returned (.tuple #[]) ∧ w' = w := by
  have hf := isFull_c h
  rw [decide_eq_true hm] at hf
  clear h
  go_enter Tryz.func57, Tryz.ntmps57
  go_wp2_with (go_at_call 59; refine hf.mono ?_; rintro e w1 ⟨rfl, hw⟩; rw [hw]; clear hw w1)
  go_end0
  exact ⟨rfl, rfl⟩
set_option maxHeartbeats 1000000 in
set_option maxRecDepth 100000 in
theorem begin_b {fs : List Fr} (h : Rd w rb l ext fold last depth cl pv ov made) (hb : BdR w rb pv ov made fs) (hm : made ≤ 10000) (hfs : fs.length ≤ 2097152) :
    Calls Tryz.prog 57 #[bldP rb] w (BlO rb l ext fold last depth cl w fun w' pv' ov' made' => BdR w' rb pv' ov' made' (([], []) :: fs) ∧ made' = made) := by
  have hf := isFull_c h
  rw [decide_eq_false (by omega)] at hf
  obtain ⟨L, r1, r2, r3⟩ := hb.row
  have hL : L.length = (flat fs).length := by rw [← r2, List.length_map]
  obtain ⟨pa, pc, rfl⟩ := own_sh r1
  have c6 := h_cell h 6 rfl
  have c7 := h_cell h 7 rfl
  have hrb := h_lt h
  obtain ⟨i0, hi, hz0, hz1, hz2⟩ := p_info info_sp
  have HD := Lib.hid (And.intro h (And.intro hb (And.intro r1 (And.intro r2 r3))))
  have HO := Lib.hid hb.opn
  have HK : Hid (∀ o w2, (w.drew.alloc o).grownBy w2 ov.ownBlock → Rd w2 rb l ext fold last depth cl (.slice pa L.length pc) ov made) := fun o w2 hg => grown_other ((show w.drew.ownsRow _ _ _ _ _ _ from HO.out).alloc o) hg (by decide) ((al_old w.drew o hrb).trans HD.out.1)
  have HF : Hid (∀ o w2 gg cap2, w2.ownsRow (rb + 1) 115 2 (.slice (some ⟨gg, 0, none⟩) (fs.length + 1) cap2) (fs.length + 1) (spCells (spansF fs) ++ [.int .i64 (L.length : Int), .int .i64 (L.length : Int)]) → (w.drew.alloc o).grownBy w2 ov.ownBlock → BlO rb l ext fold last depth cl w (fun w' pv' ov' made' => BdR w' rb pv' ov' made' (([], []) :: fs) ∧ made' = made) (.returned (.tuple #[])) (w2.setCell ⟨rb, 7, none⟩ (.slice (some ⟨gg, 0, none⟩) (fs.length + 1) cap2))) := fun o w2 gg cap2 ho hg => by
    have hR2 := HK.out o w2 hg
    have hA1 : AKeep w (w.drew.alloc o) := AKeep.of ((Below.refl _ w).drew.alloc (Nat.le_refl _) o)
    have hg1 : Below rb w (w.drew.alloc o) := (Below.refl _ w).drew.alloc (Nat.le_of_lt hrb) o
    have hg2 : Below rb (w.drew.alloc o) w2 := ⟨hg.os, hg.tape, hg.output, hg.size, fun j hj => hg.block j (by rw [al_size]; show j < w.heap.size + 1; omega) (fun e => by
      have := HO.out.lt j e.symm
      omega)⟩
    have hrow := (show w.drew.ownsRow _ _ _ _ _ _ from HO.out).alloc o
    have hN2 : NKeep (w.drew.alloc o) w2 := ⟨hg.size, fun b cs T hT hb => grown_other hrow hg (by rcases hT with rfl | rfl | rfl <;> decide) hb⟩
    have hA3 : AKeep w2 (w2.setCell ⟨rb, 7, none⟩ (.slice (some ⟨gg, 0, none⟩) (fs.length + 1) cap2)) := AKeep.bar (Bar.set _ _ _ _) hR2
    have hb0 := HD.out.2.1
    have hB2 : BdR w2 rb (.slice pa L.length pc) (.slice (some ⟨gg, 0, none⟩) (fs.length + 1) cap2) made (([], []) :: fs) := by
      refine ⟨hb0.m0, hb0.m1, by rw [flat_begin]; exact hb0.wt, by rw [flat_begin]; exact hb0.cnt, ⟨L, ?_, by rw [flat_begin]; exact HD.out.2.2.2.1, fun i p hp => (HD.out.2.2.2.2 i p hp).keep (hA1.nkeep.trans hN2)⟩, ?_⟩
      · exact row_keep HD.out.2.2.1 fun g cur hc => grown_other hrow hg (by decide) (hA1.blk g cur _ (by decide) hc)
      · rw [spans_begin, spCells_app, ← hL]; exact ho
    exact ⟨rfl, _, _, made, hR2.setOpens _, ⟨hB2.keep hA3, rfl⟩, (hA1.nkeep.trans hN2).trans hA3.nkeep, (hg1.trans hg2).setCell (p := ⟨rb, 7, none⟩) (Nat.le_refl _) _⟩
  clear h hb r1 r2 r3 hL
  go_enter Tryz.func57, Tryz.ntmps57
  go_upto_region 1 with (go_at_call 59; refine hf.mono ?_; rintro e w1 ⟨rfl, hw⟩; rw [hw]; clear hw w1)
  go_region_law (refine step_append_lies _ rfl _ _ 79 rfl (rb + 1) 115 i0 (.agg #[.int .i64 0, .int .i64 0]) 2 16 Tryz.underlying79 hi hz0 hz1 hz2 rfl (by decide) ov fs.length (spCells (spansF fs)) (by simp [Act.eval]) ((show w.drew.ownsRow _ _ _ _ _ _ from HO.out).alloc _) ⟨w.heap.size, 0, none⟩ 1 1 [.int .i64 (L.length : Int), .int .i64 (L.length : Int)] (by simp [Act.eval]) rfl (cell_two w.drew _ _ _) (by simp [Value.oneCell']) (by decide) (by unfold maxLen; omega) (by omega) (by simp; omega) _ rfl ?_; intro gg cap2 w2 hown2 hgrow2 hat hlt2; have hR2 := HK.out _ w2 hgrow2; have hk7 := h_cell hR2 7 rfl; have hz7 := h_fz hR2 7; have H2 := Lib.hid (And.intro hown2 hgrow2); clear hown2 hgrow2 hat hlt2 hR2)
  all_goals
    go_wp2_with fail
    go_end0
    exact HF.out _ w2 _ _ H2.out.1 H2.out.2
end
end Go.Proofs.YtlekfdkahlobiaaGreatDoor.Re
