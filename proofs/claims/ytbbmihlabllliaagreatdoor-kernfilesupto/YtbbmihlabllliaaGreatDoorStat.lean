/- The contract of Stat at a file. -/
import Derived.Test.YtbbmihlabllliaaGreatDoorFind
namespace Go.Proofs.YtbbmihlabllliaaGreatDoor
open Go.RowKit Go.Shelf Go.Maps

def StAt (w : World) (b : Nat) (x0 x1 x2 x3 x4 x5 : Value) : Prop := w.heap[b]? = some (.cells #[x0, x1, x2, x3, x4, x5] 60)
section
variable {w : World} {b : Nat} {x0 x1 x2 x3 x4 x5 : Value} (h : StAt w b x0 x1 x2 x3 x4 x5)
include h
theorem StAt.c (i : Nat) : w.cell? ⟨b, i, none⟩ = #[x0, x1, x2, x3, x4, x5][i]? := by simp [World.cell?, show w.heap[b]? = _ from h]
theorem StAt.fz (i : Nat) : w.frozen? ⟨b, i, none⟩ = false := by simp [World.frozen?, show w.heap[b]? = _ from h]
theorem StAt.set (y0 y1 y2 y3 y4 y5 : Value) : StAt ((((((w.setCell ⟨b, 0, none⟩ y0).setCell ⟨b, 1, none⟩ y1).setCell ⟨b, 2, none⟩ y2).setCell ⟨b, 3, none⟩ y3).setCell ⟨b, 4, none⟩ y4).setCell ⟨b, 5, none⟩ y5) b y0 y1 y2 y3 y4 y5 := by
  show (World.heap _)[b]? = _
  simp [World.setCell, Array.getElem?_modify, show w.heap[b]? = _ from h]
end
theorem info46 : (Tryz.prog.info? 60).map (·.size) = some 6 := by kernel_rfl
theorem results_s {fn : Func} {p u : Tmp} (h : fn.results = #[.cell p 60, .tmp u]) {tmps : Array Value} {w : World} {b : Nat} {x0 x1 x2 x3 x4 x5 v : Value} (hp : tmps.getD p undef = .pointer (some ⟨b, 0, none⟩)) (hg : StAt w b x0 x1 x2 x3 x4 x5)
    (hv : tmps.getD u undef = v) : (results fn tmps).run Tryz.prog w = .ok (.tuple #[.agg #[x0, x1, x2, x3, x4, x5], v]) w := by
  rw [results_cell_tmp h, hp, hv]
  simp [asAddr, Result.andThen, run_loadVar_row w b 60 60 #[x0, x1, x2, x3, x4, x5] (0, 0) _ hg Tryz.underlying60 rfl info46]

theorem drew_st {w : World} {b : Nat} {x0 x1 x2 x3 x4 x5 : Value} (h : StAt w b x0 x1 x2 x3 x4 x5) : StAt w.drew b x0 x1 x2 x3 x4 x5 := h
theorem st_fin {w w2 : World} {x0 x1 x2 x3 x4 x5 : Value} (h : ∀ o, StAt (w2.alloc o) w.heap.size x0 x1 x2 x3 x4 x5) (hB : Below w.heap.size w w2) (hz : w.heap.size ≤ w2.heap.size) (o : Obj) (y0 y1 y2 y3 y4 y5 : Value) :
    StAt (World.drew (((((((w2.alloc o).setCell ⟨w.heap.size, 0, none⟩ y0).setCell ⟨w.heap.size, 1, none⟩ y1).setCell ⟨w.heap.size, 2, none⟩ y2).setCell ⟨w.heap.size, 3, none⟩ y3).setCell ⟨w.heap.size, 4, none⟩ y4).setCell ⟨w.heap.size, 5, none⟩ y5)) w.heap.size y0 y1 y2 y3 y4 y5 ∧
    Below w.heap.size w (World.drew (((((((w2.alloc o).setCell ⟨w.heap.size, 0, none⟩ y0).setCell ⟨w.heap.size, 1, none⟩ y1).setCell ⟨w.heap.size, 2, none⟩ y2).setCell ⟨w.heap.size, 3, none⟩ y3).setCell ⟨w.heap.size, 4, none⟩ y4).setCell ⟨w.heap.size, 5, none⟩ y5)) := by
  refine ⟨drew_st ((h o).set y0 y1 y2 y3 y4 y5), ?_⟩
  have h0 := hB.alloc hz o
  have h1 := h0.setCell (p := ⟨w.heap.size, 0, none⟩) (Nat.le_refl _) y0
  have h2 := h1.setCell (p := ⟨w.heap.size, 1, none⟩) (Nat.le_refl _) y1
  have h3 := h2.setCell (p := ⟨w.heap.size, 2, none⟩) (Nat.le_refl _) y2
  have h4 := h3.setCell (p := ⟨w.heap.size, 3, none⟩) (Nat.le_refl _) y3
  have h5 := h4.setCell (p := ⟨w.heap.size, 4, none⟩) (Nat.le_refl _) y4
  exact (h5.setCell (p := ⟨w.heap.size, 5, none⟩) (Nat.le_refl _) y5).drew

set_option maxRecDepth 100000 in
set_option maxHeartbeats 8000000 in
theorem stat_file (t b : Nat) (x : Nd) (a : Option Addr) (L cap : Nat) (cwd s : ByteArray) (w : World) (hn : NdAt w b x) (hd : x.dir = false) (hxd : x.data = .slice a L cap)
    (hf : ∀ w2, Below w.heap.size w w2 → Calls Tryz.prog 56 #[.pointer (some ⟨t, 0, none⟩), .string cwd, .string s] w2 fun r w' => r = .returned (leadV (.ok b)) ∧ Below w2.heap.size w2 w') :
    Calls Tryz.prog 18 #[.pointer (some ⟨t, 0, none⟩), .string cwd, .string s] w fun r w' => r = .returned (.tuple #[.agg #[.int .i64 x.ino, .bool false, .int .i64 x.mode, .int .i64 x.tick, .int .i64 L, .int .i64 x.links], .int .i64 0]) ∧ Below w.heap.size w w' := by
  have hB1 : Below w.heap.size w (w.alloc (.cells #[.int .i64 0, .bool false, .int .i64 0, .int .i64 0, .int .i64 0, .int .i64 0] 60)) := (Below.refl _ w).alloc (Nat.le_refl _) _
  have hP1 : StAt (w.alloc (.cells #[.int .i64 0, .bool false, .int .i64 0, .int .i64 0, .int .i64 0, .int .i64 0] 60)) w.heap.size _ _ _ _ _ _ := al_new _ _ rfl
  have hff := hf _ hB1
  simp only [leadV] at hff
  have HN := Lib.hid hn
  clear hf hn
  go_enter Tryz.func18, Tryz.ntmps18
  go_wp2_with (go_at_call 56; refine hff.mono ?_; rintro r w2 ⟨rfl, hB2⟩; rw [World.size_alloc] at hB2; have hz2 := hB2.size; rw [World.size_alloc] at hz2; have hB20 : Below w.heap.size w w2 := hB1.trans (hB2.mono (by omega)); have hN2 := HN.out.below hB20 HN.out.lt; have hP2 : StAt w2 w.heap.size _ _ _ _ _ _ := (hB2.block _ (by omega)).trans hP1; have d0 := hN2.c0; have d1 := hN2.c1; have d2 := hN2.c2; have d3 := hN2.c3; have d6 := hN2.c6; have d7 := hN2.c7; rw [hd] at d3; rw [hxd] at d6; have a0 := fun o => (nd_alloc hN2 o).c0; have a1 := fun o => (nd_alloc hN2 o).c1; have a2 := fun o => (nd_alloc hN2 o).c2; have a7 := fun o => (nd_alloc hN2 o).c7; have a3 : ∀ o, (w2.alloc o).cell? ⟨b, 3, none⟩ = some (.bool false) := fun o => (by rw [← hd]; exact (nd_alloc hN2 o).c3); have a6 : ∀ o, (w2.alloc o).cell? ⟨b, 6, none⟩ = some (.slice a L cap) := fun o => (by rw [← hxd]; exact (nd_alloc hN2 o).c6))
  have hP3 : ∀ o, StAt (w2.alloc o) w.heap.size (.int .i64 0) (.bool false) (.int .i64 0) (.int .i64 0) (.int .i64 0) (.int .i64 0) := fun o => al_old o hP2
  have s0 : ∀ o, (w2.alloc o).cell? ⟨w.heap.size, 0, none⟩ = some (.int .i64 0) := fun o => by simpa using (hP3 o).c 0
  have s1 : ∀ o, (w2.alloc o).cell? ⟨w.heap.size, 1, none⟩ = some (.bool false) := fun o => by simpa using (hP3 o).c 1
  have s2 : ∀ o, (w2.alloc o).cell? ⟨w.heap.size, 2, none⟩ = some (.int .i64 0) := fun o => by simpa using (hP3 o).c 2
  have s3 : ∀ o, (w2.alloc o).cell? ⟨w.heap.size, 3, none⟩ = some (.int .i64 0) := fun o => by simpa using (hP3 o).c 3
  have s4 : ∀ o, (w2.alloc o).cell? ⟨w.heap.size, 4, none⟩ = some (.int .i64 0) := fun o => by simpa using (hP3 o).c 4
  have s5 : ∀ o, (w2.alloc o).cell? ⟨w.heap.size, 5, none⟩ = some (.int .i64 0) := fun o => by simpa using (hP3 o).c 5
  have z0 := fun o => (hP3 o).fz 0
  have z1 := fun o => (hP3 o).fz 1
  have z2 := fun o => (hP3 o).fz 2
  have z3 := fun o => (hP3 o).fz 3
  have z4 := fun o => (hP3 o).fz 4
  have z5 := fun o => (hP3 o).fz 5
  go_region
  go_wp2
  obtain ⟨k1, k2⟩ := st_fin hP3 hB20 (by omega) (.cells #[.int .i64 x.ino, .bool false, .int .i64 x.mode, .int .i64 x.tick, .int .i64 L, .int .i64 x.links] 60) (.int .i64 x.ino) (.bool false) (.int .i64 x.mode) (.int .i64 x.tick) (.int .i64 L) (.int .i64 x.links)
  refine bodyPost_ret (results_s rfl rfl k1 rfl) rfl ?_
  exact ⟨rfl, k2⟩
end Go.Proofs.YtbbmihlabllliaaGreatDoor
