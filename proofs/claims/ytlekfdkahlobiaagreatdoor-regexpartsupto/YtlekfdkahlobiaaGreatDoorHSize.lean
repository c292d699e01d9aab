/- Whole. -/
import Derived.Deep.RegionHeld3
import Derived.Test.YtlekfdkahlobiaaGreatDoorHAny
import Derived.Test.YtlekfdkahlobiaaGreatDoorHNd1
namespace Go.Proofs.YtlekfdkahlobiaaGreatDoor.Re
open Go.Proofs.YtlekfdkahlobiaaGreatDoor.Tr
open Go.RowKit

theorem bel_go {w u u' : World} (h : Below w.heap.size w u) (h2 : Below u.heap.size u u') : Below w.heap.size w u' := h.trans (h2.mono h.size)
theorem row3 {u : World} {a b c : Value × Nd} (ha : NodeP u a.1 a.2) (hb : NodeP u b.1 b.2) (hc : NodeP u c.1 c.2) : RowV (u.alloc (.cells (reCells [a, b, c]).toArray 48)) (.slice (some ⟨u.heap.size, 0, none⟩) 3 3) [a, b, c] := by
  have hk : NKeep u (u.alloc (.cells (reCells [a, b, c]).toArray 48)) := NKeep.of ((Below.refl _ u).alloc (Nat.le_refl _) _)
  have hn := al_new u (.cells (reCells [a, b, c]).toArray 48)
  refine ⟨some ⟨u.heap.size, 0, none⟩, 3, rfl, ⟨by decide, Nat.le_refl _⟩, .inr ⟨u.heap.size, 0, rfl, ⟨fun _ => h_lt hn, fun i p hp => ?_, fun i p hp => ?_, fun i p hp => ?_⟩⟩⟩
  · rw [Nat.zero_add]; exact h_cell hn _ (by rw [List.getElem?_toArray]; exact (reCells_at hp).1)
  · rw [Nat.zero_add]; exact h_cell hn _ (by rw [List.getElem?_toArray]; exact (reCells_at hp).2)
  · rcases i with _ | _ | _ | i
    · cases hp; exact ha.keep hk
    · cases hp; exact hb.keep hk
    · cases hp; exact hc.keep hk
    · simp at hp
theorem rowV_al {u : World} {a b c : Value × Nd} (o : Obj) (ha : NodeP u a.1 a.2) (hb : NodeP u b.1 b.2) (hc : NodeP u c.1 c.2) : RowV ((u.alloc o).alloc (.cells (reCells [a, b, c]).toArray 48)) (.slice (some ⟨(u.alloc o).heap.size, 0, none⟩) 3 3) [a, b, c] :=
  have hk : NKeep u (u.alloc o) := NKeep.of ((Below.refl _ u).alloc (Nat.le_refl _) _)
  row3 (ha.keep hk) (hb.keep hk) (hc.keep hk)
theorem rowV_al2 {u : World} {a b c : Value × Nd} (o : Obj) (ha : NodeP u a.1 a.2) (hb : NodeP u b.1 b.2) (hc : NodeP u c.1 c.2) : RowV ((u.alloc o).alloc (.cells (reCells [a, b, c]).toArray 48)) (.slice (some ⟨u.heap.size + 1, 0, none⟩) 3 3) [a, b, c] := by
  have := rowV_al o ha hb hc
  rwa [al_size] at this
def bxO : Obj := .cells #[.pointer none, .int .i64 0] 48
theorem al_k {u : World} {o p : Obj} {K : Nat} (h : u.heap[K]? = some p) : (u.alloc o).heap[K]? = some p := by
  refine (al_old u o ?_).trans h
  rcases Nat.lt_or_ge K u.heap.size with h' | h'
  · exact h'
  · rw [Array.getElem?_eq_none h'] at h; cases h
theorem bx_new {u u' : World} (hB : Below (u.alloc bxO).heap.size (u.alloc bxO) u') : u'.heap[u.heap.size]? = some bxO := (hB.block _ (by rw [al_size]; exact Nat.lt_succ_self _)).trans (al_new _ _)
theorem bx_newD {u u' : World} (hB : Below (u.alloc bxO).drew.heap.size (u.alloc bxO).drew u') : u'.heap[u.heap.size]? = some bxO := (hB.block _ (show _ < (u.alloc bxO).heap.size by rw [al_size]; exact Nat.lt_succ_self _)).trans (al_new _ _)
theorem bx_newA {u u' : World} {o : Obj} (hB : Below ((u.alloc bxO).alloc o).heap.size ((u.alloc bxO).alloc o) u') : u'.heap[u.heap.size]? = some bxO := (hB.block _ (by rw [al_size, al_size]; omega)).trans (al_k (al_new _ _))
theorem bx_newB {u u' : World} {o : Obj} (hB : Below ((u.alloc o).alloc bxO).heap.size ((u.alloc o).alloc bxO) u') : u'.heap[u.heap.size + 1]? = some bxO := (hB.block _ (by rw [al_size, al_size]; omega)).trans (al_new2 _ _ _)
theorem bx_old {u u' : World} {K : Nat} (h : u.heap[K]? = some bxO) (hB : Below u.heap.size u u') : u'.heap[K]? = some bxO := (hB.block K (h_lt h)).trans h
theorem bx_oldA {u u' : World} {o : Obj} {K : Nat} (h : u.heap[K]? = some bxO) (hB : Below (u.alloc o).heap.size (u.alloc o) u') : u'.heap[K]? = some bxO := bx_old (al_k h) hB
theorem box_facts {u : World} {K : Nat} (h : u.heap[K]? = some bxO) (v : Value) : u.cell? ⟨K, 0, none⟩ = some (.pointer none) ∧ u.frozen? ⟨K, 0, none⟩ = false ∧ (u.setCell ⟨K, 0, none⟩ v).cell? ⟨K, 1, none⟩ = some (.int .i64 0) ∧ (u.setCell ⟨K, 0, none⟩ v).frozen? ⟨K, 1, none⟩ = false :=
  ⟨h_cell h 0 rfl, h_fz h 0, h_cell (h_set h 0 v) 1 rfl, h_fz (h_set h 0 v) 1⟩
/-- What Whole leaves. -/
def WlO (x : Nd) (w : World) (e : Ending) (w' : World) : Prop := ∃ v', e = .returned v' ∧ isPtr w' v' ∧ ReP w' v' (wholeS x) ∧ Below w.heap.size w w'
theorem who_late {w u : World} {x : Nd} {v : Value} (hB : Below w.heap.size w u) (hn : NodeP u v (joinN 4 [ndK 2 [], x, ndK 3 []])) : WlO x w (.returned (ptr u.heap.size)) (u.alloc (.cells #[v, .int .i64 (szI (joinN 4 [ndK 2 [], x, ndK 3 []]))] 48)) :=
  have h := re_box hB hn
  ⟨_, rfl, h.2.1, h.1, h.2.2⟩
theorem who_early {w u : World} {x : Nd} {v : Value} {K : Nat} (hB : Below w.heap.size w u) (hn : NodeP u v (joinN 4 [ndK 2 [], x, ndK 3 []])) (hK : w.heap.size ≤ K) (h : u.heap[K]? = some bxO) : WlO x w (.returned (ptr K)) ((u.setCell ⟨K, 0, none⟩ v).setCell ⟨K, 1, none⟩ (.int .i64 (szI (joinN 4 [ndK 2 [], x, ndK 3 []])))) := by
  have h1 := h_set (h_set h 0 v) 1 (.int .i64 (szI (joinN 4 [ndK 2 [], x, ndK 3 []])))
  have h2 : ReB ((u.setCell ⟨K, 0, none⟩ v).setCell ⟨K, 1, none⟩ (.int .i64 (szI (joinN 4 [ndK 2 [], x, ndK 3 []])))) K v (szI (joinN 4 [ndK 2 [], x, ndK 3 []])) := by simpa using h1
  exact ⟨_, rfl, ⟨_, rfl, h_lt h1⟩, ⟨K, v, rfl, h2, hn.keep (NKeep.bar ((Bar.set _ _ _ _).trans (Bar.set _ _ _ _)) h (by decide))⟩, (hB.setCell (p := ⟨K, 0, none⟩) hK _).setCell (p := ⟨K, 1, none⟩) hK _⟩
set_option maxHeartbeats 4000000 in
set_option maxRecDepth 100000 in
theorem wholeRe_c {v : Value} {x : Nd} {w : World} (hR : ReP w v x) : Calls Tryz.prog 18 #[v] w (WlO x w) := by
  obtain ⟨rb, v0, rfl, hrb, hn0⟩ := hR
  have KK : ∀ u, Below w.heap.size w u → u.cell? ⟨rb, 0, none⟩ = some v0 ∧ u.cell? ⟨rb, 1, none⟩ = some (.int .i64 (szI x)) := fun u hu => ⟨h_cell ((hu.block rb (h_lt hrb)).trans hrb) 0 rfl, h_cell ((hu.block rb (h_lt hrb)).trans hrb) 1 rfl⟩
  have hN : Hid (∀ u, Below w.heap.size w u → NodeP u v0 x) := fun u hu => hn0.keep (NKeep.of hu)
  obtain ⟨nb, rfl, hnl⟩ := hn0.ptr
  have hf2 := fun u => leaf_c 2 (by omega) u
  have hf3 := fun u => leaf_c 3 (by omega) u
  clear hn0
  go_enter Tryz.func18, Tryz.ntmps18
  go_upto_region 1 with fail
  obtain ⟨d0, d1⟩ := KK w.drew (below_drew (Below.refl _ _))
  have hda : ∀ o, _ := fun o => KK (w.alloc o) ((Below.refl _ _).alloc (Nat.le_refl _) o)
  have da0 := fun o => (hda o).1
  have da1 := fun o => (hda o).2
  clear hda
  go_region_law (first
    | (go_simp; go_at_call 33; refine (hf2 _).mono ?_; rintro e w1 ⟨v1, rfl, hn1, hB1⟩; have hb1 : Below w.heap.size w w1 := bel_go (by (repeat (first | with_reducible assumption | with_reducible exact Below.refl _ _ | with_reducible refine Below.drew ?_ | with_reducible refine Below.alloc ?_ (by first | exact hb3.size | exact hb2.size | exact hb1.size | exact Nat.le_refl _ | (have h9 := hb3.size; simp only [al_size]; omega) | (have h9 := hb2.size; simp only [al_size]; omega) | (have h9 := hb1.size; simp only [al_size]; omega) | (simp only [al_size]; exact Nat.le_succ _)) _))) hB1; have z1 := hb1.size; (first | (have hx1 : w1.heap[w.heap.size]? = some bxO := bx_new hB1) | (have hx1 : w1.heap[w.heap.size]? = some bxO := bx_newD hB1) | skip); obtain ⟨e0, e1⟩ := KK w1 hb1; have ea0 := fun o => (KK (w1.alloc o) (hb1.alloc z1 o)).1; have ea1 := fun o => (KK (w1.alloc o) (hb1.alloc z1 o)).2)
    | (go_simp; go_at_call 33; refine (hf3 _).mono ?_; rintro e w2 ⟨v2, rfl, hn2, hB2⟩; have hb2 : Below w.heap.size w w2 := bel_go (by (repeat (first | with_reducible assumption | with_reducible exact Below.refl _ _ | with_reducible refine Below.drew ?_ | with_reducible refine Below.alloc ?_ (by first | exact hb3.size | exact hb2.size | exact hb1.size | exact Nat.le_refl _ | (have h9 := hb3.size; simp only [al_size]; omega) | (have h9 := hb2.size; simp only [al_size]; omega) | (have h9 := hb1.size; simp only [al_size]; omega) | (simp only [al_size]; exact Nat.le_succ _)) _))) hB2; have z2 := hb2.size; have hb12 : Below w1.heap.size w1 w2 := bel_go (by (repeat (first | with_reducible assumption | with_reducible exact Below.refl _ _ | with_reducible refine Below.drew ?_ | with_reducible refine Below.alloc ?_ (by first | exact hb3.size | exact hb2.size | exact hb1.size | exact Nat.le_refl _ | (have h9 := hb3.size; simp only [al_size]; omega) | (have h9 := hb2.size; simp only [al_size]; omega) | (have h9 := hb1.size; simp only [al_size]; omega) | (simp only [al_size]; exact Nat.le_succ _)) _))) hB2; (first | (have hx2 : w2.heap[w.heap.size]? = some bxO := bx_old hx1 hB2) | (have hx2 : w2.heap[w1.heap.size]? = some bxO := bx_new hB2) | skip); obtain ⟨f0, f1⟩ := KK w2 hb2; have fa0 := fun o => (KK (w2.alloc o) (hb2.alloc z2 o)).1; have fa1 := fun o => (KK (w2.alloc o) (hb2.alloc z2 o)).2)
    | (go_simp; go_at_call 30; refine (cat_c (l := [(v1, ndK 2 []), (ptr nb, x), (v2, ndK 3 [])]) (by simp) (by first | exact row3 (hn1.keep (NKeep.of hb12)) (hN.out _ hb2) hn2 | exact (row3 (a := (v1, ndK 2 [])) (b := (ptr nb, x)) (c := (v2, ndK 3 [])) (hn1.keep (NKeep.of hb12)) (hN.out _ hb2) hn2).below ((Below.refl _ _).alloc (Nat.le_refl _) _) | exact rowV_al2 (a := (v1, ndK 2 [])) (b := (ptr nb, x)) (c := (v2, ndK 3 [])) _ (hn1.keep (NKeep.of hb12)) (hN.out _ hb2) hn2)).mono ?_; rintro e w3 ⟨v3, rfl, hn3, hB3⟩; obtain ⟨pb3, rfl, _⟩ := hn3.ptr; have hb3 : Below w.heap.size w w3 := bel_go (by (repeat (first | with_reducible assumption | with_reducible exact Below.refl _ _ | with_reducible refine Below.drew ?_ | with_reducible refine Below.alloc ?_ (by first | exact hb3.size | exact hb2.size | exact hb1.size | exact Nat.le_refl _ | (have h9 := hb3.size; simp only [al_size]; omega) | (have h9 := hb2.size; simp only [al_size]; omega) | (have h9 := hb1.size; simp only [al_size]; omega) | (simp only [al_size]; exact Nat.le_succ _)) _))) hB3; (first | (have hx3 : w3.heap[w.heap.size]? = some bxO := bx_oldA hx2 hB3; obtain ⟨y0, y1, y2, y3⟩ := box_facts hx3 (ptr pb3)) | (have hx3 : w3.heap[w1.heap.size]? = some bxO := bx_oldA hx2 hB3; obtain ⟨y0, y1, y2, y3⟩ := box_facts hx3 (ptr pb3)) | (have hx3 : w3.heap[w2.heap.size]? = some bxO := bx_newA hB3; obtain ⟨y0, y1, y2, y3⟩ := box_facts hx3 (ptr pb3)) | (have hx3 : w3.heap[(w2.heap.size + 1)]? = some bxO := bx_newB hB3; obtain ⟨y0, y1, y2, y3⟩ := box_facts hx3 (ptr pb3)) | skip)))
  all_goals
    go_wp2_with fail
    go_ret
    first
      | exact who_late hb3 hn3
      | exact who_early hb3 hn3 (Nat.le_refl _) hx3
      | exact who_early hb3 hn3 z1 hx3
      | exact who_early hb3 hn3 z2 hx3
      | exact who_early hb3 hn3 (Nat.le_succ_of_le z2) hx3
end Go.Proofs.YtlekfdkahlobiaaGreatDoor.Re

namespace Go.Proofs.YtlekfdkahlobiaaGreatDoor.Re
open Go.Proofs.YtlekfdkahlobiaaGreatDoor.Tr
open Go.RowKit

set_option maxRecDepth 100000 in
theorem size_c {w : World} {v : Value} {x : Nd} (h : ReP w v x) (hx : x.size ≤ 10000) : Calls Tryz.prog 16 #[v] w fun e w' => e = .returned (.int .i64 (x.size : Int)) ∧ Below w.heap.size w w' := by
  obtain ⟨b, v0, rfl, hb, hn⟩ := h
  have c1 := h_cell hb 1 rfl
  have hz : szI x = (x.size : Int) := if_pos (by omega)
  rw [hz] at c1
  clear hz hb hn hx
  go_enter Tryz.func16, Tryz.ntmps16
  go_wp2_with fail
  go_ret
  exact ⟨rfl, Below.refl _ _⟩
end Go.Proofs.YtlekfdkahlobiaaGreatDoor.Re
