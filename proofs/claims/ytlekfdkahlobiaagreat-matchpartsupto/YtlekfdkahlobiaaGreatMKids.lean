/- Parse: a panic is taken. -/
import Derived.RegionDies
import Derived.Defers
import Derived.Recover
import Derived.Test.YtlekfdkahlobiaaGreatHRead
import Derived.Test.YtlekfdkahlobiaaGreatMTail
import Derived.Test.YtlekfdkahlobiaaGreatMReach
namespace Go.Proofs.YtlekfdkahlobiaaGreat.Re
open Go.Proofs.YtlekfdkahlobiaaGreat.Tr
open Go.RowKit

/-- What is deferred, where the reader gave up. -/
theorem catch_gave {w : World} {br be : Nat} {vr ve : Value} {u : TypeId} {pv : Value} {older : List PanicEntry} (hne : br ≠ be) (h1 : w.cell? ⟨br, 0, none⟩ = some vr) (h2 : w.cell? ⟨be, 0, none⟩ = some ve) (z1 : w.frozen? ⟨br, 0, none⟩ = false) (z2 : w.frozen? ⟨be, 0, none⟩ = false) :
    CallsD Tryz.prog 27 #[ptr br, ptr be] (.panicking ({ v := .iface u pv, recovered := false } :: older)) w fun e u' w' =>
      e = .returned (.tuple #[]) ∧ u' = .panicking ({ v := .iface u pv, recovered := true } :: older) ∧ w' = (w.setCell ⟨br, 0, none⟩ (.pointer none)).setCell ⟨be, 0, none⟩ (.int .i64 20) := by
  refine callsD_of_wpS Tryz.func27 rfl fun c₀ cs hu => ?_
  apply wpS_seq
  apply wpS_region
  simp [wpOpsS, go_sem, recoverD, hu, Tryz.ntmps27, Exit.thenS]
  refine wpS_cond (t := true) (by simp [Act.eval, Array.replicate]) ?_
  simp only [if_true]
  have h3 : (w.setCell ⟨br, 0, none⟩ (.pointer none)).cell? ⟨be, 0, none⟩ = some ve := (World.cell?_setCell_other _ _ _ _ (fun e => hne (congrArg Addr.block e))).trans h2
  apply wpS_region
  simp [wpOpsS, go_sem, h1, h3, z1, z2, bodyPostS, results, Tryz.results27]
theorem catch_none {w : World} {br be : Nat} :
    CallsD Tryz.prog 27 #[ptr br, ptr be] .returning w fun e u' w' => e = .returned (.tuple #[]) ∧ u' = .returning ∧ w' = w := by
  refine callsD_of_wpS Tryz.func27 rfl fun c₀ cs hu => ?_
  apply wpS_seq
  apply wpS_region
  simp [wpOpsS, go_sem, recoverD, hu, Tryz.ntmps27, Exit.thenS]
  refine wpS_cond (t := false) (by simp [Act.eval, Array.replicate]) ?_
  simp only [Bool.false_eq_true, if_false]
  refine wpS_of_wp (wp_skip ?_)
  cases c₀
  simp_all [bodyPostS, results, Tryz.results27]
theorem al_new2 (w : World) (o p : Obj) : ((w.alloc o).alloc p).heap[w.heap.size + 1]? = some p := by have := al_new (w.alloc o) p; rwa [al_size] at this
theorem al_old2 (w : World) (o p : Obj) : ((w.alloc o).alloc p).heap[w.heap.size]? = some o := (al_old _ _ (by rw [al_size]; omega)).trans (al_new _ _)
abbrev PW (w : World) : World := (w.alloc (.cells #[.pointer none] 24)).alloc (.cells #[.int .i64 0] 59)
theorem so_blk {w : World} {b : Nat} {o : Obj} (h : w.heap[b]? = some o) {c i : Nat} {v : Value} (hne : b ≠ c) : (w.setCell ⟨c, i, none⟩ v).heap[b]? = some o := by
  simp only [World.setCell, Array.getElem?_modify]
  rw [if_neg (by simpa using Ne.symm hne)]
  exact h
theorem pa_facts {w w1 : World} (hB : Below (PW w).heap.size (PW w) w1) (o : Obj) (v x : Value) :
    ((w1.alloc o).cell? ⟨w.heap.size, 0, none⟩ = some (.pointer none) ∧ (w1.alloc o).frozen? ⟨w.heap.size, 0, none⟩ = false ∧ ((w1.alloc o).setCell ⟨w.heap.size, 0, none⟩ v).cell? ⟨w.heap.size + 1, 0, none⟩ = some (.int .i64 0) ∧ (w1.alloc o).cell? ⟨w.heap.size + 1, 0, none⟩ = some (.int .i64 0)) ∧ (((w1.alloc o).setCell ⟨w.heap.size, 0, none⟩ v).frozen? ⟨w.heap.size + 1, 0, none⟩ = false ∧ (w1.alloc o).frozen? ⟨w.heap.size + 1, 0, none⟩ = false) ∧
    (((w1.alloc o).setCell ⟨w.heap.size, 0, none⟩ v).setCell ⟨w.heap.size + 1, 0, none⟩ x).cell? ⟨w.heap.size, 0, none⟩ = some v ∧ (((w1.alloc o).setCell ⟨w.heap.size, 0, none⟩ v).setCell ⟨w.heap.size + 1, 0, none⟩ x).cell? ⟨w.heap.size + 1, 0, none⟩ = some x ∧ Below w.heap.size w (((w1.alloc o).setCell ⟨w.heap.size, 0, none⟩ v).setCell ⟨w.heap.size + 1, 0, none⟩ x) ∧ (((w1.alloc o).setCell ⟨w.heap.size, 0, none⟩ v).setCell ⟨w.heap.size + 1, 0, none⟩ x).heap[w1.heap.size]? = some o ∧ NKeep w1 (((w1.alloc o).setCell ⟨w.heap.size, 0, none⟩ v).setCell ⟨w.heap.size + 1, 0, none⟩ x) := by
  have hsz := hB.size
  simp only [al_size] at hsz
  have hne : w.heap.size ≠ w.heap.size + 1 := by omega
  have HB0 : Below w.heap.size w (PW w) := ((Below.refl _ w).alloc (Nat.le_refl _) _).alloc (by simp) _
  have b0 : (w1.alloc o).heap[w.heap.size]? = some (.cells #[.pointer none] 24) := (al_old _ _ (by omega)).trans ((hB.block _ (by simp; omega)).trans (al_old2 _ _ _))
  have b1 : (w1.alloc o).heap[w.heap.size + 1]? = some (.cells #[.int .i64 0] 59) := (al_old _ _ (by omega)).trans ((hB.block _ (by simp)).trans (al_new2 _ _ _))
  have d0 := h_set b0 0 v
  have d1 := so_blk (i := 0) (v := v) b1 (Ne.symm hne)
  refine ⟨⟨h_cell b0 0 rfl, h_fz b0 0, h_cell d1 0 rfl, h_cell b1 0 rfl⟩, ⟨h_fz d1 0, h_fz b1 0⟩, (World.cell?_setCell_other _ _ _ _ (by simp)).trans (h_cell d0 0 rfl), h_cell (h_set d1 0 x) 0 rfl, ?_, so_blk (so_blk (al_new _ _) (by omega)) (by omega), ?_⟩
  · exact (((HB0.trans (hB.mono (by simp; omega))).alloc (by omega) _).setCell (p := ⟨w.heap.size, 0, none⟩) (Nat.le_refl _) _).setCell (p := ⟨w.heap.size + 1, 0, none⟩) (Nat.le_succ _) _
  · exact ((NKeep.of ((Below.refl _ w1).alloc (Nat.le_refl _) o)).trans (NKeep.bar (Bar.set _ _ _ _) b0 (by decide))).trans (NKeep.bar (Bar.set _ _ _ _) d1 (by decide))
set_option maxHeartbeats 2000000 in
set_option maxRecDepth 100000 in
theorem parse_none {w : World} {m : Int} (s : List UInt8) (ext fold : Bool) (hs : s.length ≤ 1048640) (hG : 0 < w.heap.size) (hm : w.cell? ⟨0, 0, none⟩ = some (.int .i64 m)) (hn : readS id ext fold s = none) : Calls Tryz.prog 20 #[.string (bs s), .bool ext, .bool fold] w (fun e w' => e = .returned (.tuple #[.pointer none, .int .i64 20]) ∧ Below w.heap.size w w') := by
  have hmf : ∀ (fn : Fn) (first cap : Array Value) (w : World), (Instr.makeFunc fn first cap).run Tryz.prog w = .ok (.func fn first cap) w := fun _ _ _ _ => rfl
  have HB0 : Below w.heap.size w (PW w) := ((Below.refl _ w).alloc (Nat.le_refl _) _).alloc (by simp) _
  have hr := read_c (w := PW w) (m := m) s ext fold hs (by have hG2 := Nat.lt_succ_of_lt (Nat.lt_succ_of_lt hG); rw [show (PW w).heap.size = w.heap.size + 2 by simp]; exact hG2) (cell_below HB0 hm)
  rw [hn] at hr
  go_enter_defers Tryz.func20, Tryz.ntmps20
  go_wp2_with fail
  refine hr.mono ?_
  rintro e w1 ⟨hB, he⟩
  have he : e = .panicked gaveUp := he
  rw [he]
  have b0 : w1.heap[w.heap.size]? = some (.cells #[.pointer none] 24) := (hB.block _ (by simp; omega)).trans (al_old2 _ _ _)
  have b1 : w1.heap[w.heap.size + 1]? = some (.cells #[.int .i64 0] 59) := (hB.block _ (by simp)).trans (al_new2 _ _ _)
  have hne : w.heap.size ≠ w.heap.size + 1 := by omega
  show Leaves _ _ _ _ _ _ _
  refine leaves_cons (f := 27) (args := #[ptr w.heap.size, ptr (w.heap.size + 1)]) (by simp) (by simp [go_sem]) ?_
  refine (catch_gave hne (h_cell b0 0 rfl) (h_cell b1 0 rfl) (h_fz b0 0) (h_fz b1 0)).mono ?_
  rintro e u' w'' ⟨rfl, rfl, hw⟩
  have hB2 : Below w.heap.size w w'' := by rw [hw]; exact ((HB0.trans (hB.mono (by simp; omega))).setCell (p := ⟨w.heap.size, 0, none⟩) (Nat.le_refl _) _).setCell (p := ⟨w.heap.size + 1, 0, none⟩) (Nat.le_succ _) _
  have c0 : w''.cell? ⟨w.heap.size, 0, none⟩ = some (.pointer none) := by rw [hw]; exact (World.cell?_setCell_other _ _ _ _ (by simp)).trans (h_cell (h_set b0 0 _) 0 rfl)
  have c1 : w''.cell? ⟨w.heap.size + 1, 0, none⟩ = some (.int .i64 20) := by rw [hw]; exact h_cell (h_set (so_blk b1 (Ne.symm hne)) 0 _) 0 rfl
  clear hw
  simp [Leaves, settle, results, Tryz.results20, go_sem, c0, c1]
  exact hB2
set_option maxHeartbeats 2000000 in
set_option maxRecDepth 100000 in
theorem parse_many {w : World} {m : Int} {x : Nd} (s : List UInt8) (ext fold : Bool) (hs : s.length ≤ 1048640) (hG : 0 < w.heap.size) (hm : w.cell? ⟨0, 0, none⟩ = some (.int .i64 m)) (hn : readS id ext fold s = some x) (hx : 10000 < x.size) : Calls Tryz.prog 20 #[.string (bs s), .bool ext, .bool fold] w (fun e w' => e = .returned (.tuple #[.pointer none, .int .i64 12]) ∧ Below w.heap.size w w') := by
  have hmf : ∀ (fn : Fn) (first cap : Array Value) (w : World), (Instr.makeFunc fn first cap).run Tryz.prog w = .ok (.func fn first cap) w := fun _ _ _ _ => rfl
  have HB0 : Below w.heap.size w (PW w) := ((Below.refl _ w).alloc (Nat.le_refl _) _).alloc (by simp) _
  have hr := read_c (w := PW w) (m := m) s ext fold hs (by have hG2 := Nat.lt_succ_of_lt (Nat.lt_succ_of_lt hG); rw [show (PW w).heap.size = w.heap.size + 2 by simp]; exact hG2) (cell_below HB0 hm)
  rw [hn] at hr
  have HX := Lib.hid hx
  clear hx hn hm hG
  go_enter_defers Tryz.func20, Tryz.ntmps20
  go_wp2_with fail
  refine hr.mono ?_
  rintro e w1 ⟨hB, he⟩
  have he : e = .returned (.tuple #[.agg #[.pointer none, .int .i64 0], .bool false]) := by
    have he : (if 10000 < x.size then e = .returned (.tuple #[.agg #[.pointer none, .int .i64 0], .bool false]) else _) := he
    rwa [if_pos HX.out] at he
  subst he
  obtain ⟨⟨c0, z0, c1, c1'⟩, ⟨z1, z1'⟩, HF⟩ := pa_facts hB (.cells #[.pointer none, .int .i64 0] 38) (.pointer none) (.int .i64 12)
  have HF := Lib.hid HF
  have HB := Lib.hid hB
  clear hB hr
  go_wp2_with fail
  show Leaves _ _ _ _ _ _ _
  refine leaves_cons (f := 27) (args := #[ptr w.heap.size, ptr (w.heap.size + 1)]) (by simp) (by simp [go_sem]) ?_
  refine catch_none.mono ?_
  rintro e u' w'' ⟨rfl, rfl, rfl⟩
  obtain ⟨f0, f1, f2, _, _⟩ := HF.out
  simp [Leaves, settle, results, Tryz.results20, go_sem, f0, f1]
  exact f2
/-- How an expression lies. -/
def ReP (w : World) (v : Value) (x : Nd) : Prop := ∃ b v0, v = ptr b ∧ ReB w b v0 (szI x) ∧ NodeP w v0 x
theorem ReP.keep {w w' : World} {v : Value} {x : Nd} (h : ReP w v x) (hb : Below w.heap.size w w') : ReP w' v x :=
  let ⟨b, v0, e, h1, h2⟩ := h
  ⟨b, v0, e, (hb.block b (h_lt h1)).trans h1, h2.keep (NKeep.of hb)⟩
set_option maxHeartbeats 2000000 in
set_option maxRecDepth 100000 in
theorem parse_ok {w : World} {m : Int} {x : Nd} (s : List UInt8) (ext fold : Bool) (hs : s.length ≤ 1048640) (hG : 0 < w.heap.size) (hm : w.cell? ⟨0, 0, none⟩ = some (.int .i64 m)) (hn : readS id ext fold s = some x) (hx : ¬ 10000 < x.size) : Calls Tryz.prog 20 #[.string (bs s), .bool ext, .bool fold] w (fun e w' => (∃ v, e = .returned (.tuple #[v, .int .i64 0]) ∧ isPtr w' v ∧ ReP w' v x) ∧ Below w.heap.size w w') := by
  have hmf : ∀ (fn : Fn) (first cap : Array Value) (w : World), (Instr.makeFunc fn first cap).run Tryz.prog w = .ok (.func fn first cap) w := fun _ _ _ _ => rfl
  have HB0 : Below w.heap.size w (PW w) := ((Below.refl _ w).alloc (Nat.le_refl _) _).alloc (by simp) _
  have hr := read_c (w := PW w) (m := m) s ext fold hs (by have hG2 := Nat.lt_succ_of_lt (Nat.lt_succ_of_lt hG); rw [show (PW w).heap.size = w.heap.size + 2 by simp]; exact hG2) (cell_below HB0 hm)
  rw [hn] at hr
  have HX := Lib.hid hx
  clear hx hn hm hG
  go_enter_defers Tryz.func20, Tryz.ntmps20
  go_wp2_with fail
  refine hr.mono ?_
  rintro e w1 ⟨hB, he⟩
  have he : ∃ v, e = .returned (.tuple #[reV v x, .bool true]) ∧ NodeP w1 v x := by
    have he : (if 10000 < x.size then e = .returned (.tuple #[.agg #[.pointer none, .int .i64 0], .bool false]) else ∃ v, e = .returned (.tuple #[reV v x, .bool true]) ∧ NodeP w1 v x) := he
    rwa [if_neg HX.out] at he
  obtain ⟨v, rfl, hv⟩ := he
  obtain ⟨⟨c0, z0, c1, c1'⟩, ⟨z1, z1'⟩, HF⟩ := pa_facts hB (.cells #[v, .int .i64 (szI x)] 38) (ptr w1.heap.size) (.int .i64 0)
  have HF := Lib.hid HF
  have HB := Lib.hid hB
  have HV := Lib.hid hv
  obtain ⟨vb, rfl, _⟩ := hv.ptr
  clear hB hr hv
  go_wp2_with fail
  show Leaves _ _ _ _ _ _ _
  refine leaves_cons (f := 27) (args := #[ptr w.heap.size, ptr (w.heap.size + 1)]) (by simp) (by simp [go_sem]) ?_
  refine catch_none.mono ?_
  rintro e u' w'' ⟨rfl, rfl, rfl⟩
  obtain ⟨f0, f1, f2, f3, f4⟩ := HF.out
  have f5 := HV.out.keep f4
  simp [Leaves, settle, results, Tryz.results20, go_sem, f0, f1]
  exact ⟨⟨⟨_, rfl, h_lt f3⟩, _, _, rfl, f3, f5⟩, f2⟩
/-- What Parse answers, of what is read. -/
theorem parse_c {w : World} {m : Int} (s : List UInt8) (ext fold : Bool) (hs : s.length ≤ 1048640) (hG : 0 < w.heap.size) (hm : w.cell? ⟨0, 0, none⟩ = some (.int .i64 m)) : Calls Tryz.prog 20 #[.string (bs s), .bool ext, .bool fold] w (fun e w' => (match parseS ext fold s with
      | .ok x => ∃ v, e = .returned (.tuple #[v, .int .i64 0]) ∧ isPtr w' v ∧ ReP w' v x
      | .error n => e = .returned (.tuple #[.pointer none, .int .i64 (n : Int)])) ∧ Below w.heap.size w w') := by
  cases hn : readS id ext fold s with
  | none =>
    rw [show parseS ext fold s = .error 20 by unfold parseS; rw [hn]]
    exact parse_none s ext fold hs hG hm hn
  | some x =>
    by_cases hx : 10000 < x.size
    · rw [show parseS ext fold s = .error 12 by unfold parseS; rw [hn]; exact if_pos hx]
      exact parse_many s ext fold hs hG hm hn hx
    · rw [show parseS ext fold s = .ok x by unfold parseS; rw [hn]; exact if_neg hx]
      exact parse_ok s ext fold hs hG hm hn hx
end Go.Proofs.YtlekfdkahlobiaaGreat.Re

namespace Go.Proofs.YtlekfdkahlobiaaGreat.Re
open Go.Proofs.YtlekfdkahlobiaaGreat.Tr
open Go.RowKit Go.Maps

section
variable {w0 w : World} {bb pg mb : Nat} {B : Bst} {U : List Tsk}
set_option maxHeartbeats 4000000 in
set_option maxRecDepth 100000 in
theorem loop_u {fn : Fn} {fa fc : Array Value} {x : Nd} {least : Nat} (h : Bu w0 w bb pg mb B U) (ht : TaskV w0 w bb (.func fn fa fc) (tNode x)) (hn : B.sts.length ≤ 1099511627776) (hl : U.length + least + 2 ≤ 1099511627776) :
    Calls Tryz.prog 46 #[bbP bb, .func fn fa fc, .int .i64 (least : Int)] w (BuO w0 w bb pg mb (B.put ⟨4, 0, 0, B.first⟩) (U ++ List.replicate (least - 1) (tNode x) ++ [tLoop B.sts.length least] ++ [tNode x])) := by
  have hO1 : Only bTys w ((w.alloc (.cells #[bbP bb] 68)).alloc (.cells #[.int .i64 (least : Int)] 3)) := Only.of (((Below.refl _ w).alloc (Nat.le_refl _) _).alloc (by simp) _)
  have hB1 := (h.alloc (.cells #[bbP bb] 68)).alloc (.cells #[.int .i64 (least : Int)] 3)
  have hx1 : BxB ((w.alloc (.cells #[bbP bb] 68)).alloc (.cells #[.int .i64 (least : Int)] 3)) w.heap.size bb := al_old2 _ _ _
  have hx2 : BxI ((w.alloc (.cells #[bbP bb] 68)).alloc (.cells #[.int .i64 (least : Int)] 3)) (w.heap.size + 1) least := al_new2 _ _ _
  generalize hV : (w.alloc (.cells #[bbP bb] 68)).alloc (.cells #[.int .i64 (least : Int)] 3) = V at *
  have HV := Lib.hid (And.intro hO1 (And.intro hx1 (And.intro hx2 (ht.keep hO1))))
  have HP : Hid (Calls Tryz.prog 24 #[bbP bb, stV 4 0 0 B.first] V.drew (BuO w0 V.drew bb pg mb (B.put ⟨4, 0, 0, B.first⟩) U)) := Lib.hid (put_u (s := ⟨4, 0, 0, B.first⟩) hB1.draw hn)
  have c0 := h_cell hx1 0 rfl
  obtain ⟨e0, e2, _, _⟩ := hB1.cells
  clear h ht hO1 hB1 hx1 hx2
  go_enter Tryz.func46, Tryz.ntmps46
  go_upto_region 1 with fail
  go_region_law (go_simp; go_at_call 24; refine HP.out.mono ?_; rintro e w1 ⟨rfl, hq, hO3⟩; have H3 := Lib.hid (And.intro hq hO3); clear hq hO3)
  all_goals
    have hOv : Only bTys w V.drew := ⟨HV.out.1.size, HV.out.1.blk⟩
    have hO4 := hOv.trans H3.out.2
    have hO5 : Only bTys w1 (w1.alloc (.cells #[.int .i64 (B.sts.length : Int)] 3)) := Only.of ((Below.refl _ w1).alloc (Nat.le_refl _) _)
    have hy1 : BxB w1 w.heap.size bb := H3.out.2.cells (show BxB V.drew w.heap.size bb from HV.out.2.1) (by decide)
    have hy2 : BxI w1 (w.heap.size + 1) least := H3.out.2.cells (show BxI V.drew (w.heap.size + 1) least from HV.out.2.2.1) (by decide)
    have ht1 : TaskV w0 w1 bb (.func fn fa fc) (tNode x) := HV.out.2.2.2.keep ((show Only bTys V V.drew from ⟨Nat.le_refl _, fun _ _ h _ => h⟩).trans H3.out.2)
    have k0 := h_cell hy1 0 rfl
    have k1 := h_cell hy2 0 rfl
    obtain ⟨m0, m2x, _, _⟩ := H3.out.1.cells
    have m2 : w1.cell? ⟨pg, 2, none⟩ = some (.int .i64 (B.sts.length : Int)) := m2x
    clear m2x
    have HI0 : Hid (Bu w0 (w1.alloc (.cells #[.int .i64 (B.sts.length : Int)] 3)) bb pg mb (B.put ⟨4, 0, 0, B.first⟩) (U ++ List.replicate 0 (tNode x)) ∧ BxB (w1.alloc (.cells #[.int .i64 (B.sts.length : Int)] 3)) w.heap.size bb ∧ BxI (w1.alloc (.cells #[.int .i64 (B.sts.length : Int)] 3)) (w.heap.size + 1) least ∧ BxI (w1.alloc (.cells #[.int .i64 (B.sts.length : Int)] 3)) w1.heap.size B.sts.length ∧ TaskV w0 (w1.alloc (.cells #[.int .i64 (B.sts.length : Int)] 3)) bb (.func fn fa fc) (tNode x) ∧ Only bTys w (w1.alloc (.cells #[.int .i64 (B.sts.length : Int)] 3))) := Lib.hid ⟨by rw [List.replicate_zero, List.append_nil]; exact H3.out.1.alloc _, hO5.cells hy1 (by decide), hO5.cells hy2 (by decide), al_new _ _, ht1.keep hO5, hO4.trans hO5⟩
    have z1 := h_cell HI0.out.2.2.1 0 rfl
    have q1 : IntKind.i64.wrap ((least : Int) - 1) = (least : Int) - 1 := IntWalk.i64_in _ (by omega)
    clear hOv hO4 hO5 hy1 hy2 ht1 c0 e0 e2 hV
    go_wp2_with fail
    go_loopw [26] (fun v8 wr => ∃ (i : Nat), i ≤ least - 1 ∧ v8 = .int .i64 (i : Int) ∧ Hid (Bu w0 wr bb pg mb (B.put ⟨4, 0, 0, B.first⟩) (U ++ List.replicate i (tNode x)) ∧ BxB wr w.heap.size bb ∧ BxI wr (w.heap.size + 1) least ∧ BxI wr w1.heap.size B.sts.length ∧ TaskV w0 wr bb (.func fn fa fc) (tNode x) ∧ Only bTys w wr)) (fun v8 _ => least - (intOf v8).toNat)
    case atStart => exact ⟨0, by omega, rfl, HI0⟩
    case round =>
      obtain ⟨i, hi, rfl, HI⟩ := hrel
      clear HI0
      have c2 := h_cell HI.out.2.1 0 rfl
      by_cases hlt : i < least - 1
      · have n1 : (i : Int) < (least : Int) - 1 := by omega
        have HL := Lib.hid (later_u HI.out.1 HI.out.2.2.2.2.1 (by rw [List.length_append, List.length_replicate]; omega))
        go_wp2_with (go_at_call 40; refine HL.out.mono ?_; rintro e w3 ⟨rfl, hq, hO3⟩; have H4 := Lib.hid (And.intro hq hO3); clear hq hO3)
        exact ⟨⟨i + 1, by omega, by go_num, Lib.hid ⟨by rw [List.replicate_succ', ← List.append_assoc]; exact H4.out.1, H4.out.2.cells HI.out.2.1 (by decide), H4.out.2.cells HI.out.2.2.1 (by decide), H4.out.2.cells HI.out.2.2.2.1 (by decide), HI.out.2.2.2.2.1.keep H4.out.2, HI.out.2.2.2.2.2.trans H4.out.2⟩⟩, by simp [intOf]; omega⟩
      · obtain rfl : i = least - 1 := by omega
        have n1 : ¬ ((least - 1 : Nat) : Int) < (least : Int) - 1 := by omega
        have HL := Lib.hid (later_u (fn := .func 61) (fa := #[]) (fc := #[ptr w.heap.size, ptr w1.heap.size, ptr (w.heap.size + 1)]) (t := tLoop B.sts.length least) HI.out.1 (.inr (.inr (.inr ⟨_, _, _, rfl, HI.out.2.1, HI.out.2.2.2.1, HI.out.2.2.1, rfl⟩))) (by rw [List.length_append, List.length_replicate]; omega))
        have HL2 : Hid (∀ w3, Bu w0 w3 bb pg mb (B.put ⟨4, 0, 0, B.first⟩) (U ++ List.replicate (least - 1) (tNode x) ++ [tLoop B.sts.length least]) → Only bTys wr w3 → Calls Tryz.prog 40 #[bbP bb, .func fn fa fc] w3 (BuO w0 w3 bb pg mb (B.put ⟨4, 0, 0, B.first⟩) (U ++ List.replicate (least - 1) (tNode x) ++ [tLoop B.sts.length least] ++ [tNode x]))) := Lib.hid fun w3 a1 a2 => later_u a1 (HI.out.2.2.2.2.1.keep a2) (by simp only [List.length_append, List.length_replicate, List.length_cons, List.length_nil]; omega)
        go_upto_region 8 with (go_at_call 40; refine HL.out.mono ?_; rintro e w3 ⟨rfl, hq, hO3⟩; have k3 := h_cell (hO3.cells HI.out.2.1 (by decide)) 0 rfl; have H4 := Lib.hid (And.intro hq hO3); clear hq hO3)
        go_wp2_with (go_at_call 40; refine (HL2.out w3 H4.out.1 H4.out.2).mono ?_; rintro e w4 ⟨rfl, hq, hO3⟩; have H5 := Lib.hid (And.intro hq hO3); clear hq hO3)
        go_end0
        exact ⟨rfl, by simpa using H5.out.1, (HI.out.2.2.2.2.2.trans H4.out.2).trans H5.out.2⟩
end
end Go.Proofs.YtlekfdkahlobiaaGreat.Re

namespace Go.Proofs.YtlekfdkahlobiaaGreat.Re
open Go.Proofs.YtlekfdkahlobiaaGreat.Tr
open Go.RowKit Go.Maps

section
variable {w0 w : World} {bb pg mb : Nat} {B : Bst} {U : List Tsk}
abbrev RpW (w : World) (bb p : Nat) (B : Bst) : World := ((w.alloc (.cells #[bbP bb] 68)).alloc (.cells #[ptr p] 36)).alloc (.cells #[.int .i64 (B.first : Int)] 3)
theorem rp_facts {p : Nat} {x : Nd} (h : Bu w0 w bb pg mb B U) (hx : NodeP w0 (ptr p) x) (ho : x.ord) : Only bTys w (RpW w bb p B) ∧ Bu w0 (RpW w bb p B) bb pg mb B U ∧ BxB (RpW w bb p B) w.heap.size bb ∧ BxI (RpW w bb p B) (w.heap.size + 2) B.first ∧ TaskV w0 (RpW w bb p B) bb (.func (.func 45) #[] #[ptr w.heap.size, ptr (w.heap.size + 1)]) (tNode x) := by
  have hO : Only bTys w (RpW w bb p B) := Only.of ((((Below.refl _ w).alloc (Nat.le_refl _) _).alloc (by simp) _).alloc (by simp; omega) _)
  have hO3 : Only bTys ((w.alloc (.cells #[bbP bb] 68)).alloc (.cells #[ptr p] 36)) (RpW w bb p B) := Only.of ((Below.refl _ _).alloc (Nat.le_refl _) _)
  have h1 : BxB (RpW w bb p B) w.heap.size bb := hO3.cells (al_old2 _ _ _) (by decide)
  have h2 : BxN (RpW w bb p B) (w.heap.size + 1) p := hO3.cells (al_new2 _ _ _) (by decide)
  have h3 : BxI (RpW w bb p B) (w.heap.size + 2) B.first := by
    have e : ((w.alloc (.cells #[bbP bb] 68)).alloc (.cells #[ptr p] 36)).heap.size = w.heap.size + 2 := by simp
    rw [← e]
    exact al_new _ _
  exact ⟨hO, ((h.alloc _).alloc _).alloc _, h1, h3, .inl ⟨_, _, _, p, .inr rfl, rfl, h1, h2, hx, ho, rfl⟩⟩
set_option maxHeartbeats 4000000 in
set_option maxRecDepth 100000 in
theorem rep_loop {p : Nat} {x : Nd} {least : Nat} {most : Int} (hm : most < 0) (h : Bu w0 w bb pg mb B U) (hx : NodeP w0 (ptr p) x) (ho : x.ord) (hn : B.sts.length ≤ 1099511627776) (hl : U.length + least + 2 ≤ 1099511627776) :
    Calls Tryz.prog 33 #[bbP bb, ptr p, .int .i64 (least : Int), .int .i64 most] w (BuO w0 w bb pg mb (B.put ⟨4, 0, 0, B.first⟩) (U ++ List.replicate (least - 1) (tNode x) ++ [tLoop B.sts.length least] ++ [tNode x])) := by
  obtain ⟨f1, f2, f3, f4, f5⟩ := rp_facts h hx ho
  have HL := Lib.hid (loop_u f2 f5 hn hl)
  have HO := Lib.hid f1
  have hO2 : Below w.heap.size w ((w.alloc (.cells #[bbP bb] 68)).alloc (.cells #[ptr p] 36)) := ((Below.refl _ w).alloc (Nat.le_refl _) _).alloc (by simp) _
  obtain ⟨e0, e2, _, _⟩ := h.cells
  have k0 := h_cell f3 0 rfl
  have k1 := h_cell (al_old2 w (.cells #[bbP bb] 68) (.cells #[ptr p] 36)) 0 rfl
  have e0 := cell_below hO2 e0
  have e2 := cell_below hO2 e2
  have n1 : most < 0 := hm
  clear h hx ho f1 f2 f3 f4 f5 hO2
  go_enter Tryz.func33, Tryz.ntmps33
  go_wp2_with (go_at_call 46; refine HL.out.mono ?_; rintro e w1 ⟨rfl, hq, hO3⟩; have H3 := Lib.hid (And.intro hq hO3); clear hq hO3)
  go_end0
  exact ⟨rfl, by simpa using H3.out.1, HO.out.trans H3.out.2⟩
end
end Go.Proofs.YtlekfdkahlobiaaGreat.Re

namespace Go.Proofs.YtlekfdkahlobiaaGreat.Re
open Go.Proofs.YtlekfdkahlobiaaGreat.Tr
open Go.RowKit Go.Maps

section
variable {w0 w : World} {bb pg mb : Nat} {B : Bst} {U : List Tsk}
/-- The pairs that are put off. -/
def prs (x : Nd) (f k : Nat) : List Tsk := (List.replicate k [tFork f, tNode x]).flatten
theorem prs_succ (x : Nd) (f k : Nat) : prs x f (k + 1) = prs x f k ++ [tFork f] ++ [tNode x] := by
  unfold prs
  rw [List.replicate_succ', List.flatten_append]
  simp
theorem prs_len (x : Nd) (f k : Nat) : (prs x f k).length = 2 * k := by
  induction k with
  | zero => rfl
  | succ k ih => rw [prs_succ, List.length_append, List.length_append, ih]; simp; omega
set_option maxHeartbeats 4000000 in
set_option maxRecDepth 100000 in
theorem rep_c {p : Nat} {x : Nd} {least most : Nat} (hm : least ≤ most) (hm2 : most ≤ 1048576) (h : Bu w0 w bb pg mb B U) (hx : NodeP w0 (ptr p) x) (ho : x.ord) (hl : U.length + 2 * most + 2 ≤ 1099511627776) :
    Calls Tryz.prog 33 #[bbP bb, ptr p, .int .i64 (least : Int), .int .i64 (most : Int)] w (BuO w0 w bb pg mb B (U ++ List.replicate least (tNode x) ++ prs x B.first (most - least))) := by
  obtain ⟨f1, f2, f3, f4, f5⟩ := rp_facts h hx ho
  have hO2 : Below w.heap.size w ((w.alloc (.cells #[bbP bb] 68)).alloc (.cells #[ptr p] 36)) := ((Below.refl _ w).alloc (Nat.le_refl _) _).alloc (by simp) _
  obtain ⟨e0, e2, _, _⟩ := h.cells
  have k1 := h_cell (al_old2 w (.cells #[bbP bb] 68) (.cells #[ptr p] 36)) 0 rfl
  have e0 := cell_below hO2 e0
  have e2 := cell_below hO2 e2
  have n0 : ¬ (most : Int) < 0 := by omega
  have HI0 : Hid (Bu w0 (RpW w bb p B) bb pg mb B (U ++ List.replicate 0 (tNode x)) ∧ BxB (RpW w bb p B) w.heap.size bb ∧ BxI (RpW w bb p B) (w.heap.size + 2) B.first ∧ TaskV w0 (RpW w bb p B) bb (.func (.func 45) #[] #[ptr w.heap.size, ptr (w.heap.size + 1)]) (tNode x) ∧ Only bTys w (RpW w bb p B)) := Lib.hid ⟨by rw [List.replicate_zero, List.append_nil]; exact f2, f3, f4, f5, f1⟩
  have q1 : IntKind.i64.wrap ((most : Int) - (least : Int)) = ((most - least : Nat) : Int) := by rw [show (most : Int) - (least : Int) = ((most - least : Nat) : Int) by omega]; exact IntWalk.i64_in _ (by omega)
  clear h hx ho f1 f2 f3 f4 f5 hO2
  go_enter Tryz.func33, Tryz.ntmps33
  go_wp2_with fail
  go_loopw [25] (fun v8 wr => ∃ (i : Nat), i ≤ least ∧ v8 = .int .i64 (i : Int) ∧ Hid (Bu w0 wr bb pg mb B (U ++ List.replicate i (tNode x)) ∧ BxB wr w.heap.size bb ∧ BxI wr (w.heap.size + 2) B.first ∧ TaskV w0 wr bb (.func (.func 45) #[] #[ptr w.heap.size, ptr (w.heap.size + 1)]) (tNode x) ∧ Only bTys w wr)) (fun v8 _ => least - (intOf v8).toNat)
  case atStart => exact ⟨0, by omega, rfl, HI0⟩
  case round =>
    obtain ⟨i, hi, rfl, HI⟩ := hrel
    clear HI0 k1 e0 e2
    have c2 := h_cell HI.out.2.1 0 rfl
    by_cases hlt : i < least
    · have n1 : (i : Int) < (least : Int) := by omega
      have HL := Lib.hid (later_u HI.out.1 HI.out.2.2.2.1 (by rw [List.length_append, List.length_replicate]; omega))
      go_wp2_with (go_at_call 40; refine HL.out.mono ?_; rintro e w3 ⟨rfl, hq, hO3⟩; have H4 := Lib.hid (And.intro hq hO3); clear hq hO3)
      exact ⟨⟨i + 1, by omega, by go_num, Lib.hid ⟨by rw [List.replicate_succ', ← List.append_assoc]; exact H4.out.1, H4.out.2.cells HI.out.2.1 (by decide), H4.out.2.cells HI.out.2.2.1 (by decide), HI.out.2.2.2.1.keep H4.out.2, HI.out.2.2.2.2.trans H4.out.2⟩⟩, by simp [intOf]; omega⟩
    · obtain rfl : i = least := by omega
      have n1 : ¬ (i : Int) < (i : Int) := by omega
      have HJ0 : Hid (Bu w0 wr bb pg mb B (U ++ List.replicate i (tNode x) ++ prs x B.first 0) ∧ BxB wr w.heap.size bb ∧ BxI wr (w.heap.size + 2) B.first ∧ TaskV w0 wr bb (.func (.func 45) #[] #[ptr w.heap.size, ptr (w.heap.size + 1)]) (tNode x) ∧ Only bTys w wr) := Lib.hid ⟨by rw [show prs x B.first 0 = [] from rfl, List.append_nil]; exact HI.out.1, HI.out.2⟩
      clear HI
      go_wp2_with fail
      go_loopw [34] (fun v8 wr => ∃ (j : Nat), j ≤ most - i ∧ v8 = .int .i64 (j : Int) ∧ Hid (Bu w0 wr bb pg mb B (U ++ List.replicate i (tNode x) ++ prs x B.first j) ∧ BxB wr w.heap.size bb ∧ BxI wr (w.heap.size + 2) B.first ∧ TaskV w0 wr bb (.func (.func 45) #[] #[ptr w.heap.size, ptr (w.heap.size + 1)]) (tNode x) ∧ Only bTys w wr)) (fun v8 _ => most - (intOf v8).toNat)
      case atStart => exact ⟨0, by omega, rfl, HJ0⟩
      case round =>
        obtain ⟨j, hj, rfl, HJ⟩ := hrel
        clear HJ0 c2
        have c2 := h_cell HJ.out.2.1 0 rfl
        by_cases hlt2 : j < most - i
        · have n2 : (j : Int) < ((most - i : Nat) : Int) := by omega
          have HL := Lib.hid (later_u (fn := .func 47) (fa := #[]) (fc := #[ptr w.heap.size, ptr (w.heap.size + 2)]) (t := tFork B.first) HJ.out.1 (.inr (.inr (.inl ⟨_, _, _, .inr rfl, rfl, HJ.out.2.1, HJ.out.2.2.1, rfl⟩))) (by simp only [List.length_append, List.length_replicate, prs_len]; omega))
          have HL2 : Hid (∀ w3, Bu w0 w3 bb pg mb B (U ++ List.replicate i (tNode x) ++ prs x B.first j ++ [tFork B.first]) → Only bTys wr w3 → Calls Tryz.prog 40 #[bbP bb, .func (.func 45) #[] #[ptr w.heap.size, ptr (w.heap.size + 1)]] w3 (BuO w0 w3 bb pg mb B (U ++ List.replicate i (tNode x) ++ prs x B.first (j + 1)))) := Lib.hid fun w3 a1 a2 => by
            have := later_u a1 (HJ.out.2.2.2.1.keep a2) (by simp only [List.length_append, List.length_replicate, prs_len, List.length_cons, List.length_nil]; omega)
            rw [prs_succ, ← List.append_assoc, ← List.append_assoc]
            exact this
          go_upto_region 12 with (go_at_call 40; refine HL.out.mono ?_; rintro e w3 ⟨rfl, hq, hO3⟩; have k3 := h_cell (hO3.cells HJ.out.2.1 (by decide)) 0 rfl; have H4 := Lib.hid (And.intro hq hO3); clear hq hO3)
          go_wp2_with (go_at_call 40; refine (HL2.out w3 H4.out.1 H4.out.2).mono ?_; rintro e w4 ⟨rfl, hq, hO3⟩; have H5 := Lib.hid (And.intro hq hO3); clear hq hO3)
          have hO := H4.out.2.trans H5.out.2
          exact ⟨⟨j + 1, by omega, by go_num, Lib.hid ⟨H5.out.1, hO.cells HJ.out.2.1 (by decide), hO.cells HJ.out.2.2.1 (by decide), HJ.out.2.2.2.1.keep hO, HJ.out.2.2.2.2.trans hO⟩⟩, by simp [intOf]; omega⟩
        · obtain rfl : j = most - i := by omega
          have n2 : ¬ ((most - i : Nat) : Int) < ((most - i : Nat) : Int) := by omega
          have HF : Hid (BuO w0 w bb pg mb B (U ++ List.replicate i (tNode x) ++ prs x B.first (most - i)) (.returned (.tuple #[])) wr) := Lib.hid ⟨rfl, HJ.out.1, HJ.out.2.2.2.2⟩
          clear HJ
          go_wp2_with fail
          go_end0
          first | exact HF.out | simpa using HF.out
end
end Go.Proofs.YtlekfdkahlobiaaGreat.Re

namespace Go.Proofs.YtlekfdkahlobiaaGreat.Re
open Go.Proofs.YtlekfdkahlobiaaGreat.Tr
open Go.RowKit Go.Maps

/-- A row of nodes, as it lies in a world. -/
def KidsW (w0 : World) (a : Option Addr) (l : List Nd) : Prop := ∀ (i : Nat) (x : Nd), l[i]? = some x → ∃ b off p, a = some ⟨b, off, none⟩ ∧ w0.cell? ⟨b, off + i, none⟩ = some (ptr p) ∧ NodeP w0 (ptr p) x ∧ x.ord
section
variable {w0 w : World} {bb pg mb : Nat} {B : Bst} {U : List Tsk}
theorem Bu.bel (h : Bu w0 w bb pg mb B U) : Below w0.heap.size w0 w := let ⟨_, _, _, _, _, _, h3⟩ := h; h3
set_option maxHeartbeats 2000000 in
set_option maxRecDepth 100000 in
theorem kids_u {a : Option Addr} {cap : Nat} {l : List Nd} (h : Bu w0 w bb pg mb B U) (hk : KidsW w0 a l) (hn : U.length + l.length ≤ 1099511627776) :
    Calls Tryz.prog 31 #[bbP bb, .slice a l.length cap] w (BuO w0 w bb pg mb B (U ++ l.map tNode)) := by
  have HK := Lib.hid hk
  have hO0 : Only bTys w (w.alloc (.cells #[bbP bb] 68)) := Only.of ((Below.refl _ w).alloc (Nat.le_refl _) _)
  have HI0 : Hid (Bu w0 (w.alloc (.cells #[bbP bb] 68)) bb pg mb B (U ++ (l.take 0).map tNode) ∧ BxB (w.alloc (.cells #[bbP bb] 68)) w.heap.size bb ∧ Only bTys w (w.alloc (.cells #[bbP bb] 68))) := Lib.hid ⟨by rw [List.take_zero, List.map_nil, List.append_nil]; exact h.alloc _, al_new _ _, hO0⟩
  clear h hk hO0
  go_enter Tryz.func31, Tryz.ntmps31
  go_wp2_with fail
  go_loopw [5, 8] (fun _ v8 wr => ∃ (i : Nat), i ≤ l.length ∧ v8 = .int .i64 (i : Int) ∧ Hid (Bu w0 wr bb pg mb B (U ++ (l.take i).map tNode) ∧ BxB wr w.heap.size bb ∧ Only bTys w wr)) (fun _ v8 _ => l.length - (intOf v8).toNat)
  case atStart => exact ⟨0, by omega, rfl, HI0⟩
  case round =>
    obtain ⟨i, hi, rfl, HI⟩ := hrel
    clear HI0
    by_cases hlt : i < l.length
    · have n1 : (i : Int) < (l.length : Int) := by omega
      obtain ⟨x, hx⟩ : ∃ x, l[i]? = some x := ⟨_, List.getElem?_eq_getElem hlt⟩
      obtain ⟨b, off, p, rfl, hc, hN⟩ := HK.out i x hx
      have HT : Hid (U ++ (l.take (i + 1)).map tNode = (U ++ (l.take i).map tNode) ++ [tNode x]) := by
        show _ = _
        rw [List.take_add_one, hx, List.map_append, List.append_assoc]
        rfl
      have cq := cell_below (HI.out.1.bel) hc
      have c2 := h_cell HI.out.2.1 0 rfl
      have c2a := fun o => cell_al (o := o) c2
      have HB := Lib.hid (HI.out.1.alloc (.cells #[ptr p] 36))
      have hOn : Only bTys wr (wr.alloc (.cells #[ptr p] 36)) := Only.of ((Below.refl _ wr).alloc (Nat.le_refl _) _)
      have hx1 : BxB (wr.alloc (.cells #[ptr p] 36)) w.heap.size bb := hOn.cells HI.out.2.1 (by decide)
      have hx2 : BxN (wr.alloc (.cells #[ptr p] 36)) wr.heap.size p := al_new _ _
      have HO := Lib.hid (And.intro (HI.out.2.2.trans hOn) hx1)
      have HL := Lib.hid (later_u (fn := .func 41) (fa := #[]) (fc := #[ptr w.heap.size, ptr wr.heap.size]) (t := tNode x) HB.out (.inl ⟨_, _, _, p, .inl rfl, rfl, hx1, hx2, hN.1, hN.2, rfl⟩) (by rw [List.length_append, List.length_map, List.length_take]; omega))
      clear hc hN hx hOn hx1 hx2
      go_wp2_with (go_at_call 40; refine HL.out.mono ?_; rintro e w3 ⟨rfl, hq, hO3⟩; rw [← HT.out] at hq; have H3 := Lib.hid (And.intro hq hO3); clear hq hO3)
      exact ⟨⟨i + 1, by omega, by go_num, Lib.hid ⟨H3.out.1, H3.out.2.cells HO.out.2 (by decide), HO.out.1.trans H3.out.2⟩⟩, by simp [intOf]; omega⟩
    · obtain rfl : i = l.length := by omega
      have n1 : ¬ (l.length : Int) < (l.length : Int) := by omega
      have HF : Hid (BuO w0 w bb pg mb B (U ++ l.map tNode) (.returned (.tuple #[])) wr) := Lib.hid ⟨rfl, by have := HI.out.1; rwa [List.take_length] at this, HI.out.2.2⟩
      clear HI
      go_wp2_with fail
      go_end0
      exact HF.out
end
end Go.Proofs.YtlekfdkahlobiaaGreat.Re
