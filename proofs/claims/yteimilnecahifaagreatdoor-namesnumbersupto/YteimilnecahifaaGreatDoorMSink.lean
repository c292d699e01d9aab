/- The contracts of what a path leads to: find, Find, Stat. -/
import Derived.Test.YteimilnecahifaaGreatDoorRemove
import Derived.Test.YteimilnecahifaaGreatDoorBoxLaw
import Derived.Maps.AppendAt
namespace Go.Proofs.YteimilnecahifaaGreatDoor
open Go.RowKit Go.Shelf Go.Maps

def findF (g : Graph) (root home : Nat) (s : ByteArray) : Except Int Nat :=
  if s.toList.isEmpty = true then .error 1
  else if isEnd s = true then toDir g (if isAbs s = true then root else home) s
  else leadF g (if isAbs s = true then root else home) (ptsOf s)

set_option maxRecDepth 100000 in
set_option maxHeartbeats 4000000 in
theorem findFrom_c (g : Graph) (hcl : Closed g) (t root home : Nat) (fm nm la : Value) (s : ByteArray) (m : Int) (w : World) (hs : s.size ≤ 2147483648) (hA : Amb g m w) (hT : TrAt w t (ptr root) fm nm la) (h0 : (g root).isSome = true) (h1 : (g home).isSome = true) (hne : s.toList.isEmpty = false) :
    Calls Tryz.prog 129 #[.pointer (some ⟨t, 0, none⟩), .pointer (some ⟨home, 0, none⟩), .string s] w fun e w' => e = .returned (leadV (findF g root home s)) ∧ Below w.heap.size w w' := by
  obtain ⟨st, hst⟩ : ∃ st, (if isAbs s = true then root else home) = st := ⟨_, rfl⟩
  have hst1 : (g st).isSome = true := by rw [← hst]; split <;> assumption
  have hstart := start_c t root home fm nm la s w hT
  rw [hst] at hstart
  simp only [ptr] at hstart
  rw [findF, if_neg (by rw [hne]; decide), hst]
  have hends := ends_c s w (by omega)
  cases hr : isEnd s with
  | true =>
    rw [hr] at hends
    rw [if_pos rfl]
    have hl := toDir_c g hcl st s m w hs hA hst1
    clear hA hT
    cases hv : toDir g st s with
    | error e =>
      rw [hv] at hl
      simp only [leadV] at hl
      go_enter Tryz.func129, Tryz.ntmps129
      go_wp2_with (first
        | (go_at_call 165; refine hstart.mono ?_; rintro e w2 ⟨rfl, hw⟩; rw [hw])
        | (go_at_call 166; refine hends.mono ?_; rintro e w2 ⟨rfl, hw⟩; rw [hw])
        | (go_at_call 164; refine hl.mono ?_; rintro e w2 ⟨rfl, hB⟩))
      refine bodyPost_ret (results_tmp2 rfl _ _ _) rfl ?_
      exact ⟨rfl, hB⟩
    | ok b =>
      rw [hv] at hl
      simp only [leadV] at hl
      go_enter Tryz.func129, Tryz.ntmps129
      go_wp2_with (first
        | (go_at_call 165; refine hstart.mono ?_; rintro e w2 ⟨rfl, hw⟩; rw [hw])
        | (go_at_call 166; refine hends.mono ?_; rintro e w2 ⟨rfl, hw⟩; rw [hw])
        | (go_at_call 164; refine hl.mono ?_; rintro e w2 ⟨rfl, hB⟩))
      refine bodyPost_ret (results_tmp2 rfl _ _ _) rfl ?_
      exact ⟨rfl, hB⟩
  | false =>
    rw [hr] at hends
    rw [if_neg (by decide)]
    have hl := lead_c name_says g hcl st s m w hs hA.m hA.gr hst1
    clear hA hT
    cases hv : leadF g st (ptsOf s) with
    | error e =>
      rw [hv] at hl
      simp only [leadV] at hl
      go_enter Tryz.func129, Tryz.ntmps129
      go_wp2_with (first
        | (go_at_call 165; refine hstart.mono ?_; rintro e w2 ⟨rfl, hw⟩; rw [hw])
        | (go_at_call 166; refine hends.mono ?_; rintro e w2 ⟨rfl, hw⟩; rw [hw])
        | (go_at_call 167; refine hl.mono ?_; rintro e w2 ⟨rfl, hB⟩))
      refine bodyPost_ret (results_tmp2 rfl _ _ _) rfl ?_
      exact ⟨rfl, hB⟩
    | ok b =>
      rw [hv] at hl
      simp only [leadV] at hl
      go_enter Tryz.func129, Tryz.ntmps129
      go_wp2_with (first
        | (go_at_call 165; refine hstart.mono ?_; rintro e w2 ⟨rfl, hw⟩; rw [hw])
        | (go_at_call 166; refine hends.mono ?_; rintro e w2 ⟨rfl, hw⟩; rw [hw])
        | (go_at_call 167; refine hl.mono ?_; rintro e w2 ⟨rfl, hB⟩))
      refine bodyPost_ret (results_tmp2 rfl _ _ _) rfl ?_
      exact ⟨rfl, hB⟩

set_option maxRecDepth 100000 in
set_option maxHeartbeats 4000000 in
theorem find_c (g : Graph) (hcl : Closed g) (t root home : Nat) (fm nm la : Value) (cwd s : ByteArray) (m : Int) (w : World) (hcs : cwd.size ≤ 2147483648) (hs : s.size ≤ 2147483648) (hA : Amb g m w) (hT : TrAt w t (ptr root) fm nm la) (h0 : (g root).isSome = true) (h1 : (g home).isSome = true) (hne : s.toList.isEmpty = false) (hh : toDir g root cwd = .ok home) :
    Calls Tryz.prog 99 #[.pointer (some ⟨t, 0, none⟩), .string cwd, .string s] w fun e w' => e = .returned (leadV (findF g root home s)) ∧ Below w.heap.size w w' := by
  have hho := home_c g hcl t root fm nm la cwd m w hcs hA hT h0
  rw [hh] at hho
  simp only [leadV] at hho
  have HV : Hid (∀ w2, Below w.heap.size w w2 → Calls Tryz.prog 129 #[.pointer (some ⟨t, 0, none⟩), .pointer (some ⟨home, 0, none⟩), .string s] w2 fun e w' => e = .returned (leadV (findF g root home s)) ∧ Below w2.heap.size w2 w') :=
    fun w2 hB => findFrom_c g hcl t root home fm nm la s m w2 hs (hA.below hB) (hT.below hB hT.lt) h0 h1 hne
  clear hA hT
  cases hv : findF g root home s with
  | error e =>
    rw [hv] at HV
    simp only [leadV] at HV
    go_enter Tryz.func99, Tryz.ntmps99
    go_wp2_with (first
      | (go_at_call 128; refine hho.mono ?_; rintro r w2 ⟨rfl, hB2⟩; have hvv := HV.out w2 hB2)
      | (go_at_call 129; refine hvv.mono ?_; rintro e w3 ⟨rfl, hB3⟩))
    refine bodyPost_ret (results_tmp2 rfl _ _ _) rfl ?_
    exact ⟨rfl, hB2.trans (hB3.mono hB2.size)⟩
  | ok b =>
    rw [hv] at HV
    simp only [leadV] at HV
    go_enter Tryz.func99, Tryz.ntmps99
    go_wp2_with (first
      | (go_at_call 128; refine hho.mono ?_; rintro r w2 ⟨rfl, hB2⟩; have hvv := HV.out w2 hB2)
      | (go_at_call 129; refine hvv.mono ?_; rintro e w3 ⟨rfl, hB3⟩))
    refine bodyPost_ret (results_tmp2 rfl _ _ _) rfl ?_
    exact ⟨rfl, hB2.trans (hB3.mono hB2.size)⟩

end Go.Proofs.YteimilnecahifaaGreatDoor

namespace Go.Proofs.YteimilnecahifaaGreatDoor
open Go.RowKit Go.Shelf Go.Maps

def StAt (w : World) (b : Nat) (x0 x1 x2 x3 x4 x5 : Value) : Prop := w.heap[b]? = some (.cells #[x0, x1, x2, x3, x4, x5] 116)
section
variable {w : World} {b : Nat} {x0 x1 x2 x3 x4 x5 : Value}
theorem StAt.c (h : StAt w b x0 x1 x2 x3 x4 x5) (i : Nat) : w.cell? ⟨b, i, none⟩ = #[x0, x1, x2, x3, x4, x5][i]? := by simp [World.cell?, show w.heap[b]? = _ from h]
theorem StAt.fz (h : StAt w b x0 x1 x2 x3 x4 x5) (i : Nat) : w.frozen? ⟨b, i, none⟩ = false := by simp [World.frozen?, show w.heap[b]? = _ from h]
theorem StAt.set (h : StAt w b x0 x1 x2 x3 x4 x5) (y0 y1 y2 y3 y4 y5 : Value) : StAt ((((((w.setCell ⟨b, 0, none⟩ y0).setCell ⟨b, 1, none⟩ y1).setCell ⟨b, 2, none⟩ y2).setCell ⟨b, 3, none⟩ y3).setCell ⟨b, 4, none⟩ y4).setCell ⟨b, 5, none⟩ y5) b y0 y1 y2 y3 y4 y5 := by
  show (World.heap _)[b]? = _
  simp [World.setCell, Array.getElem?_modify, show w.heap[b]? = _ from h]
end
theorem info46 : (Tryz.prog.info? 116).map (·.size) = some 6 := by kernel_rfl
theorem results_s {fn : Func} {p u : Tmp} (h : fn.results = #[.cell p 116, .tmp u]) {tmps : Array Value} {w : World} {b : Nat} {x0 x1 x2 x3 x4 x5 v : Value} (hp : tmps.getD p undef = .pointer (some ⟨b, 0, none⟩)) (hg : StAt w b x0 x1 x2 x3 x4 x5)
    (hv : tmps.getD u undef = v) : (results fn tmps).run Tryz.prog w = .ok (.tuple #[.agg #[x0, x1, x2, x3, x4, x5], v]) w := by
  rw [results_cell_tmp h, hp, hv]
  simp [asAddr, Result.andThen, run_loadVar_row w b 116 116 #[x0, x1, x2, x3, x4, x5] (0, 0) _ hg Tryz.underlying116 rfl info46]

theorem drew_st {w : World} {b : Nat} {x0 x1 x2 x3 x4 x5 : Value} (h : StAt w b x0 x1 x2 x3 x4 x5) : StAt w.drew b x0 x1 x2 x3 x4 x5 := h
theorem st_fin {w w2 : World} {x0 x1 x2 x3 x4 x5 : Value} (h : ∀ o, StAt (w2.alloc o) w.heap.size x0 x1 x2 x3 x4 x5) (hB : Below w.heap.size w w2) (hz : w.heap.size ≤ w2.heap.size) (o : Obj) (y0 y1 y2 y3 y4 y5 : Value) :
    StAt (World.drew (((((((w2.alloc o).setCell ⟨w.heap.size, 0, none⟩ y0).setCell ⟨w.heap.size, 1, none⟩ y1).setCell ⟨w.heap.size, 2, none⟩ y2).setCell ⟨w.heap.size, 3, none⟩ y3).setCell ⟨w.heap.size, 4, none⟩ y4).setCell ⟨w.heap.size, 5, none⟩ y5)) w.heap.size y0 y1 y2 y3 y4 y5 ∧
    Below w.heap.size w (World.drew (((((((w2.alloc o).setCell ⟨w.heap.size, 0, none⟩ y0).setCell ⟨w.heap.size, 1, none⟩ y1).setCell ⟨w.heap.size, 2, none⟩ y2).setCell ⟨w.heap.size, 3, none⟩ y3).setCell ⟨w.heap.size, 4, none⟩ y4).setCell ⟨w.heap.size, 5, none⟩ y5)) := by
  refine ⟨drew_st ((h o).set y0 y1 y2 y3 y4 y5), ?_⟩
  have h0 := hB.alloc hz o
  have h1 := h0.setCell (p := ⟨w.heap.size, 0, none⟩) (Nat.le_refl _) y0
  have h2 := h1.setCell (p := ⟨w.heap.size, 1, none⟩) (Nat.le_refl _) y1
  have h3 := h2.setCell (p := ⟨w.heap.size, 2, none⟩) (Nat.le_refl _) y2
  have h4 := h3.setCell (p := ⟨w.heap.size, 3, none⟩) (Nat.le_refl _) y3
  have h5 := h4.setCell (p := ⟨w.heap.size, 4, none⟩) (Nat.le_refl _) y4
  exact (h5.setCell (p := ⟨w.heap.size, 5, none⟩) (Nat.le_refl _) y5).drew

end Go.Proofs.YteimilnecahifaaGreatDoor

namespace Go.Proofs.YteimilnecahifaaGreatDoor
open Go.RowKit Go.Shelf Go.Maps

set_option maxRecDepth 100000 in
set_option maxHeartbeats 8000000 in
theorem stat_dir (t b : Nat) (x : Nd) (a : Option Addr) (L cap : Nat) (cwd s : ByteArray) (w : World) (hn : NdAt w b x) (hd : x.dir = true) (hxd : x.data = .slice a L cap)
    (hf : ∀ w2, Below w.heap.size w w2 → Calls Tryz.prog 99 #[.pointer (some ⟨t, 0, none⟩), .string cwd, .string s] w2 fun r w' => r = .returned (leadV (.ok b)) ∧ Below w2.heap.size w2 w') :
    Calls Tryz.prog 66 #[.pointer (some ⟨t, 0, none⟩), .string cwd, .string s] w fun r w' => r = .returned (.tuple #[.agg #[.int .i64 x.ino, .bool true, .int .i64 x.mode, .int .i64 x.tick, .int .i64 L, .int .i64 1], .int .i64 0]) ∧ Below w.heap.size w w' := by
  have hB1 : Below w.heap.size w (w.alloc (.cells #[.int .i64 0, .bool false, .int .i64 0, .int .i64 0, .int .i64 0, .int .i64 0] 116)) := (Below.refl _ w).alloc (Nat.le_refl _) _
  have hP1 : StAt (w.alloc (.cells #[.int .i64 0, .bool false, .int .i64 0, .int .i64 0, .int .i64 0, .int .i64 0] 116)) w.heap.size _ _ _ _ _ _ := al_new _ _ rfl
  have hff := hf _ hB1
  simp only [leadV] at hff
  have HN := Lib.hid hn
  clear hf hn
  go_enter Tryz.func66, Tryz.ntmps66
  go_wp2_with (go_at_call 99; refine hff.mono ?_; rintro r w2 ⟨rfl, hB2⟩; rw [World.size_alloc] at hB2; have hz2 := hB2.size; rw [World.size_alloc] at hz2; have hB20 : Below w.heap.size w w2 := hB1.trans (hB2.mono (by omega)); have hN2 := HN.out.below hB20 HN.out.lt; have hP2 : StAt w2 w.heap.size _ _ _ _ _ _ := (hB2.block _ (by omega)).trans hP1; have d0 := hN2.c0; have d1 := hN2.c1; have d2 := hN2.c2; have d3 := hN2.c3; have d6 := hN2.c6; have d7 := hN2.c7; rw [hd] at d3; rw [hxd] at d6; have a0 := fun o => (nd_alloc hN2 o).c0; have a1 := fun o => (nd_alloc hN2 o).c1; have a2 := fun o => (nd_alloc hN2 o).c2; have a7 := fun o => (nd_alloc hN2 o).c7; have a3 : ∀ o, (w2.alloc o).cell? ⟨b, 3, none⟩ = some (.bool true) := fun o => (by rw [← hd]; exact (nd_alloc hN2 o).c3); have a6 : ∀ o, (w2.alloc o).cell? ⟨b, 6, none⟩ = some (.slice a L cap) := fun o => (by rw [← hxd]; exact (nd_alloc hN2 o).c6))
  have hP3 : ∀ o, StAt (w2.alloc o) w.heap.size (.int .i64 0) (.bool false) (.int .i64 0) (.int .i64 0) (.int .i64 0) (.int .i64 0) := fun o => al_old o hP2
  have s0 : ∀ o, (w2.alloc o).cell? ⟨w.heap.size, 0, none⟩ = some (.int .i64 0) := fun o => by simpa using (hP3 o).c 0
  have s1 : ∀ o, (w2.alloc o).cell? ⟨w.heap.size, 1, none⟩ = some (.bool false) := fun o => by simpa using (hP3 o).c 1
  have s2 : ∀ o, (w2.alloc o).cell? ⟨w.heap.size, 2, none⟩ = some (.int .i64 0) := fun o => by simpa using (hP3 o).c 2
  have s3 : ∀ o, (w2.alloc o).cell? ⟨w.heap.size, 3, none⟩ = some (.int .i64 0) := fun o => by simpa using (hP3 o).c 3
  have s4 : ∀ o, (w2.alloc o).cell? ⟨w.heap.size, 4, none⟩ = some (.int .i64 0) := fun o => by simpa using (hP3 o).c 4
  have s5 : ∀ o, (w2.alloc o).cell? ⟨w.heap.size, 5, none⟩ = some (.int .i64 0) := fun o => by simpa using (hP3 o).c 5
  have z0 := fun o => (hP3 o).fz 0
  have z1 := fun o => (hP3 o).fz 1
  have z2 := fun o => (hP3 o).fz 2
  have z3 := fun o => (hP3 o).fz 3
  have z4 := fun o => (hP3 o).fz 4
  have z5 := fun o => (hP3 o).fz 5
  go_region
  go_wp2_with fail
  obtain ⟨k1, k2⟩ := st_fin hP3 hB20 (by omega) (.cells #[.int .i64 x.ino, .bool true, .int .i64 x.mode, .int .i64 x.tick, .int .i64 L, .int .i64 1] 116) (.int .i64 x.ino) (.bool true) (.int .i64 x.mode) (.int .i64 x.tick) (.int .i64 L) (.int .i64 1)
  refine bodyPost_ret (results_s rfl rfl k1 rfl) rfl ?_
  exact ⟨rfl, k2⟩
end Go.Proofs.YteimilnecahifaaGreatDoor

namespace Go.Proofs.YteimilnecahifaaGreatDoor
open Go.RowKit Go.Shelf Go.Maps

def s_dot : ByteArray := ⟨#[46]⟩
theorem pts_dot : ptsOf s_dot = [s_dot] := by kernel_rfl
theorem ab_dot : isAbs s_dot = false ∧ isEnd s_dot = false ∧ s_dot.toList.isEmpty = false := ⟨by kernel_rfl, by kernel_rfl, by kernel_rfl⟩
theorem find_dot (rt rm : Nat) : findF (g0 rt rm) rt rt s_dot = .ok rt := by
  have h1 : leadF (g0 rt rm) rt [s_dot] = .ok rt := by simp [leadF, stepF, g0_rt, s_dot, xr]
  rw [findF, if_neg (by rw [ab_dot.2.2]; decide), if_neg (by rw [ab_dot.2.1]; decide)]
  simp [ab_dot.1, pts_dot, h1]
theorem stat_root (w0 t rt rm fm : Nat) (m : Int) (w : World) (hm : w.cell? ⟨0, 0, none⟩ = some (.int .i64 m)) (h : Tr0 w0 w t rt rm fm) :
    Calls Tryz.prog 66 #[.pointer (some ⟨t, 0, none⟩), .string sE, .string s_dot] w fun r w' => (∃ a c d e f : Int, r = .returned (.tuple #[.agg #[.int .i64 a, .bool true, .int .i64 c, .int .i64 d, .int .i64 e, .int .i64 f], .int .i64 0])) ∧ Below w.heap.size w w' := by
  refine (stat_dir t rt (xr rt rm) none 0 0 sE s_dot w h.hN rfl rfl (fun w2 hB => ?_)).mono ?_
  · have hr0 : (g0 rt rm rt).isSome = true := by rw [g0_rt]; rfl
    have hA : Amb (g0 rt rm) m w := ⟨hm, gr0 rt rm h.hN h.hM⟩
    have := find_c (g0 rt rm) (closed0 rt rm) t rt rt _ _ _ sE s_dot m w2 (by decide) (by decide) (hA.below hB) (h.hT.below hB h.hT.lt) hr0 hr0 ab_dot.2.2 (toDir_empty (g0_rt rt rm) rfl pts_E)
    rw [find_dot] at this
    exact this
  · rintro r w' ⟨rfl, hB⟩
    exact ⟨⟨_, _, _, _, _, rfl⟩, hB⟩

set_option maxRecDepth 100000 in
set_option maxHeartbeats 2000000 in
theorem limits_c (l1 l2 l3 : Int) (w : World) (h1 : 1 ≤ l1 ∧ l1 ≤ 1099511627776) (h2 : 1 ≤ l2 ∧ l2 ≤ 1099511627776) (h3 : 1 ≤ l3 ∧ l3 ≤ 1099511627776) (hl : l2 ≤ l3) :
    Calls Tryz.prog 64 #[.agg #[.int .i64 l1, .int .i64 l2, .int .i64 l3]] w fun e w' => e = .returned (.bool true) ∧ Below w.heap.size w w' := by
  have a1 : ¬ l1 < 1 := by omega
  have a2 : ¬ l2 < 1 := by omega
  have a3 : ¬ l3 < 1 := by omega
  have b1 : ¬ 1099511627776 < l1 := by omega
  have b2 : ¬ 1099511627776 < l2 := by omega
  have b3 : ¬ 1099511627776 < l3 := by omega
  go_enter Tryz.func64, Tryz.ntmps64
  go_wp2_with fail
  go_loopw [4, 13] (fun _ i wr => ∃ n : Nat, i = .int .i64 n ∧ n ≤ 3 ∧ wr = (w.alloc (.cells #[.int .i64 l1, .int .i64 l2, .int .i64 l3] 42)).alloc (.cells #[.int .i64 l1, .int .i64 l2, .int .i64 l3] 3)) (fun _ i _ => 3 - (intOf i).toNat)
  case atStart => exact ⟨0, rfl, by decide, rfl⟩
  case round =>
    obtain ⟨n, rfl, hn, rfl⟩ := hrel
    have hn4 : n = 0 ∨ n = 1 ∨ n = 2 ∨ n = 3 := by omega
    rcases hn4 with rfl | rfl | rfl | rfl
    · go_wp2
      exact ⟨⟨1, rfl, by decide, trivial⟩, by decide⟩
    · go_wp2
      exact ⟨⟨2, rfl, by decide, trivial⟩, by decide⟩
    · go_wp2
      exact ⟨⟨3, rfl, by decide, trivial⟩, by decide⟩
    · go_wp2
      go_ret
      exact ⟨rfl, ((Below.refl _ w).alloc (Nat.le_refl _) _).alloc (by simp) _⟩

theorem Tr0.less {w0 w1 : Nat} {w : World} {t rt rm fm : Nat} (h : Tr0 w1 w t rt rm fm) (hl : w0 ≤ w1) : Tr0 w0 w t rt rm fm := ⟨Nat.le_trans hl h.ht, Nat.le_trans hl h.hrt, Nat.le_trans hl h.hrm, Nat.le_trans hl h.hfm, h.hmf, h.hN, h.hM, h.hF, h.hT⟩
/-- A job's value. -/
abbrev jobV (args env inv : Value) (l1 l2 l3 : Int) (fv : Value) (now : Int) (picks : Value) : Value := .agg #[args, env, .string sE, inv, .slice none 0 0, .int .i64 l1, .int .i64 l2, .int .i64 l3, fv, .int .i64 now, picks]
set_option maxRecDepth 100000 in
set_option maxHeartbeats 2000000 in
theorem treeOf_c (xa xe xi xf xp : Option Addr) (na ca ne ce ni ci nf cf np cp : Nat) (l1 l2 l3 now m : Int) (w : World) (hm : w.cell? ⟨0, 0, none⟩ = some (.int .i64 m)) (hna : 0 < na) (h1 : 1 ≤ l1 ∧ l1 ≤ 1099511627776) (h2 : 1 ≤ l2 ∧ l2 ≤ 1099511627776) (h3 : 1 ≤ l3 ∧ l3 ≤ 1099511627776) (hl : l2 ≤ l3) (hn : 0 ≤ now ∧ now ≤ 1099511627776) :
    Calls Tryz.prog 40 #[jobV (.slice xa na ca) (.slice xe ne ce) (.slice xi ni ci) l1 l2 l3 (.slice xf nf cf) now (.slice xp np cp)] w fun e w' => ∃ t rt rm fm, e = .returned (.tuple #[ptr t, .bool true]) ∧ Tr0 w.heap.size w' t rt rm fm ∧ Below w.heap.size w w' := by
  have hna' : ((na : Int) == 0) = false := by simp; omega
  have hn1 : ¬ now < 0 := by omega
  have hn2 : ¬ 1099511627776 < now := by omega
  have hJ0 : (w.alloc (.cells #[.slice xa na ca, .slice xe ne ce, .string sE, .slice xi ni ci, .slice none 0 0, .int .i64 l1, .int .i64 l2, .int .i64 l3, .slice xf nf cf, .int .i64 now, .slice xp np cp] 46)).heap[w.heap.size]? = some (.cells #[.slice xa na ca, .slice xe ne ce, .string sE, .slice xi ni ci, .slice none 0 0, .int .i64 l1, .int .i64 l2, .int .i64 l3, .slice xf nf cf, .int .i64 now, .slice xp np cp] 46) := al_new _ _ rfl
  have hB0 : Below w.heap.size w (w.alloc (.cells #[.slice xa na ca, .slice xe ne ce, .string sE, .slice xi ni ci, .slice none 0 0, .int .i64 l1, .int .i64 l2, .int .i64 l3, .slice xf nf cf, .int .i64 now, .slice xp np cp] 46)) := (Below.refl _ w).alloc (Nat.le_refl _) _
  have hlim := fun u => limits_c l1 l2 l3 u h1 h2 h3 hl
  have HJ := Lib.hid (And.intro hJ0 (And.intro hB0 hm))
  clear hJ0 hB0 hm
  go_enter Tryz.func40, Tryz.ntmps40
  go_wp2_with (first
    | (go_at_call 64; refine (hlim _).mono ?_; rintro e w1 ⟨rfl, hB1⟩; have hJ1 := (hB1.block w.heap.size (by simp)).trans HJ.out.1; have HB1 : Hid (Below w.heap.size w w1) := HJ.out.2.1.trans (hB1.mono (by simp)); have j9 := h_cell hJ1 9 rfl; have j4 := h_cell hJ1 4 rfl; have HJ1 := Lib.hid hJ1; clear hB1 hJ1)
    | (go_at_call 65; refine (load_c w1).mono ?_; rintro e w2 ⟨t, rt, rm, fm, rfl, hT2, hB2⟩; have hz1 := h_lt HJ1.out; have hJ2 := (hB2.block w.heap.size hz1).trans HJ1.out; have HB2 : Hid (Below w.heap.size w w2) := HB1.out.trans (hB2.mono HB1.out.size); have hm2 := (HB2.out.cell (p := ⟨0, 0, none⟩) (World.block_lt_of_cell? w _ HJ.out.2.2)).trans HJ.out.2.2; have j2 := h_cell hJ2 2 rfl; have hst := stat_root w1.heap.size t rt rm fm m w2 hm2 hT2; have HT2 := Lib.hid hT2; have HJ2 := Lib.hid hJ2; clear hB2 hJ2 hm2 hT2)
    | (go_at_call 66; refine hst.mono ?_; rintro e w3 ⟨⟨s1, s3, s4, s5, s6, rfl⟩, hB3⟩; have HB3 := Lib.hid hB3; clear hB3))
  go_ret2
  have hB4 : Below w2.heap.size w2 (w3.alloc (.cells #[.int .i64 s1, .bool true, .int .i64 s3, .int .i64 s4, .int .i64 s5, .int .i64 s6] 116)) := HB3.out.alloc HB3.out.size _
  exact ⟨t, rt, rm, fm, rfl, (HT2.out.less HB1.out.size).turn (Turn.below (S := []) hB4) (by simp), HB2.out.trans (hB4.mono HB2.out.size)⟩
end Go.Proofs.YteimilnecahifaaGreatDoor

namespace Go.Proofs.YteimilnecahifaaGreatDoor
open Go.RowKit Go.Shelf Go.Maps

end Go.Proofs.YteimilnecahifaaGreatDoor

namespace Go.Proofs.YteimilnecahifaaGreatDoor
open Go.RowKit Go.Shelf Go.Maps

set_option maxRecDepth 100000 in
set_option maxHeartbeats 4000000 in
theorem befall_pass (k fb th u : Nat) (tr fv : Value) (l : List (Int × Int)) (now last most : Int) (isW : Bool) (w : World) (hK : KnAt w k tr fv u now th last) (hF : Fl w fv fb l) (hu : u < l.length) (hk1 : (l[u]?.getD (0, 0)).1 ≠ 1) (hk2 : (l[u]?.getD (0, 0)).1 ≠ 2) (hk3 : (l[u]?.getD (0, 0)).1 ≠ 3) (hk4 : (l[u]?.getD (0, 0)).1 ≠ 4) (hk5 : (l[u]?.getD (0, 0)).1 ≠ 5) :
    Calls Tryz.prog 271 #[ptr k, .int .i64 most, .bool isW] w fun e w' => e = .returned (.tuple #[.int .i64 most, .int .i64 0]) ∧ KnAt w' k tr fv ((u : Int) + 1) now th last ∧ Turn [k] w w' := by
  have c1 := h_cell hK 1 rfl
  have c2 := h_cell hK 2 rfl
  obtain ⟨a, cap, rfl, hcap, hL, h0 | ⟨o, rfl, hcell⟩⟩ := hF
  · omega
  obtain ⟨q1, q2⟩ := hcell u hu
  generalize (l[u]?.getD (0, 0)).1 = kd at q1 hk1 hk2 hk3 hk4 hk5
  have b1 : (kd == 1) = false := by simpa using hk1
  have b2 : (kd == 2) = false := by simpa using hk2
  have b3 : (kd == 3) = false := by simpa using hk3
  have b4 : (kd == 4) = false := by simpa using hk4
  have b5 : (kd == 5) = false := by simpa using hk5
  clear hk1 hk2 hk3 hk4 hk5
  generalize (l[u]?.getD (0, 0)).2 = N at q2
  generalize hLe : l.length = L at hu hcap hL c1
  have hb : 0 ≤ (u : Int) ∧ (u : Int) < (L : Int) := by omega
  have hne1 : ((u : Int) == (L : Int)) = false := by simp; omega
  have HF : ∀ n, Turn [k] w (w.drewN n) ∧ KnAt (w.drewN n) k tr (.slice (some ⟨fb, o, none⟩) L cap) u now th last ∧ (w.drewN n).cell? ⟨fb, o + u * 2, none⟩ = some (.int .i64 kd) ∧ (w.drewN n).cell? ⟨fb, o + u * 2 + 1, none⟩ = some (.int .i64 N) := fun n => ⟨(Turn.refl _ w).drewN n, by rw [hLe] at hK; exact hK, q1, q2⟩
  clear hcell
  have hFF := Lib.hid HF
  clear hK HF q1 q2
  go_enter Tryz.func271, Tryz.ntmps271
  go_wp2_with fail
  go_quiet (fail)
  obtain ⟨hT1, hK1, q1, q2⟩ := hFF.out nq
  generalize w.drewN nq = w1 at hT1 hK1 q1 q2 ⊢
  clear hFF c1 c2
  have c1 := h_cell hK1 1 rfl
  have c2 := h_cell hK1 2 rfl
  have z2 := h_fz hK1 2
  have c1' := fun x => al_cell x c1
  have c2' := fun x => al_cell x c2
  have q1' := fun x => al_cell x q1
  have q2' := fun x => al_cell x q2
  have hk1 := h_lt hK1
  have HK := Lib.hid hK1
  have HT := Lib.hid hT1
  clear hK1 hT1
  go_wp2_with fail
  go_region
  all_goals go_wp2
  all_goals
    refine bodyPost_ret (results_tmp2 rfl _ _ _) rfl ?_
    refine ⟨by rfl, al_old _ (by simpa using h_set HK.out 2 (.int .i64 ((u : Int) + 1))), HT.out.trans ((Turn.set w1 k 2 _ (by simp)).trans (Turn.alloc _ _)).drew⟩

/-- Faults that only interrupt, or cut short. -/
def Mild (l : List (Int × Int)) : Prop := ∀ f ∈ l, ¬ (3 ≤ f.1 ∧ f.1 ≤ 5)
/-- What the next fault makes of a transfer: how many bytes, the error, how many are used up. -/
def befS (l : List (Int × Int)) (u : Nat) (most : Int) : Int × Int × Nat :=
  if u < l.length then (if (l[u]?.getD (0, 0)).1 = 1 then (min most (max (l[u]?.getD (0, 0)).2 1), 0, u + 1) else if (l[u]?.getD (0, 0)).1 = 2 then (0, 9, u + 1) else (most, 0, u + 1)) else (most, 0, u)
theorem befall_c (k fb th u : Nat) (tr fv : Value) (l : List (Int × Int)) (now last most : Int) (isW : Bool) (w : World) (hK : KnAt w k tr fv u now th last) (hF : Fl w fv fb l) (hu : u ≤ l.length) (hm : Mild l) :
    Calls Tryz.prog 271 #[ptr k, .int .i64 most, .bool isW] w fun e w' => e = .returned (.tuple #[.int .i64 (befS l u most).1, .int .i64 (befS l u most).2.1]) ∧ KnAt w' k tr fv ((befS l u most).2.2 : Nat) now th last ∧ Turn [k] w w' := by
  unfold befS
  by_cases h : u < l.length
  · rw [if_pos h]
    by_cases h1 : (l[u]?.getD (0, 0)).1 = 1
    · rw [if_pos h1]
      refine (befall_short k fb th u tr fv l now last most isW w hK hF h h1).mono ?_
      rintro e w' ⟨rfl, h2, h3⟩
      exact ⟨rfl, by simpa using h2, h3⟩
    rw [if_neg h1]
    by_cases h2 : (l[u]?.getD (0, 0)).1 = 2
    · rw [if_pos h2]
      refine (befall_intr k fb th u tr fv l now last most isW w hK hF h h2).mono ?_
      rintro e w' ⟨rfl, h2, h3⟩
      exact ⟨rfl, by simpa using h2, h3⟩
    rw [if_neg h2]
    have hf : l[u]?.getD (0, 0) = l[u] := by simp [h]
    have hx := hm l[u] (by simp)
    rw [← hf] at hx
    refine (befall_pass k fb th u tr fv l now last most isW w hK hF h h1 h2 (by omega) (by omega) (by omega)).mono ?_
    rintro e w' ⟨rfl, h2, h3⟩
    exact ⟨rfl, by simpa using h2, h3⟩
  · rw [if_neg h]
    obtain rfl : u = l.length := by omega
    refine (befall_none k fb th tr fv l now last most isW w hK hF).mono ?_
    rintro e w' ⟨rfl, n, rfl⟩
    exact ⟨rfl, hK, (Turn.refl _ w).drewN n⟩

/-- A sink. -/
abbrev SkAt (w : World) (s : Nat) (c : Int) (v : Value) : Prop := w.heap[s]? = some (.cells #[.int .i64 c, v] 141)
abbrev iSk (e : Nat) : Value := .iface 139 (ptr e)
set_option maxRecDepth 100000 in
set_option maxHeartbeats 1000000 in
theorem isW_sk (e : Nat) (w : World) : Calls Tryz.prog 269 #[iSk e] w fun r w' => r = .returned (.bool true) ∧ w' = w := by
  have t1 := ta_sk_sk; have t2 := ta_sk_we
  go_enter Tryz.func269, Tryz.ntmps269
  go_wp2
  go_ret
  exact ⟨rfl, rfl⟩
set_option maxRecDepth 100000 in
set_option maxHeartbeats 1000000 in
theorem room_sk (k e : Nat) (w : World) : Calls Tryz.prog 270 #[ptr k, iSk e] w fun r w' => r = .returned (.tuple #[.int .i64 9223372036854775807, .int .i64 0]) ∧ w' = w := by
  have t1 := ta_sk_we; have t2 := ta_sk_fi
  go_enter Tryz.func270, Tryz.ntmps270
  go_wp2
  go_ret2
  exact ⟨rfl, rfl⟩
theorem own_less0 {w : World} {base base' e n : Nat} {v : Value} {xs : List Value} (h : w.ownsRow base e 1 v n xs) (hb : base' ≤ base) : w.ownsRow base' e 1 v n xs := by
  refine ⟨h.1, ?_⟩
  rcases h.2 with h | ⟨g, cap, cur, h1, h2, h3⟩
  · exact .inl h
  · exact .inr ⟨g, cap, cur, h1, Nat.le_trans hb h2, h3⟩
theorem own_lt {w : World} {B e n : Nat} {v : Value} {xs : List Value} (h : w.ownsRow B e 1 v n xs) {g : Nat} (hg : v.ownBlock = some g) : g < w.heap.size := by
  rcases h.2 with ⟨rfl, _⟩ | ⟨g', cap, cur, rfl, _, hg', _⟩
  · simp [Value.ownBlock] at hg
  · obtain rfl : g' = g := by simpa [Value.ownBlock] using hg
    exact (Array.getElem?_eq_some_iff.1 hg').1
theorem own_shape {w : World} {base e n : Nat} {v : Value} {xs : List Value} (h : w.ownsRow base e 1 v n xs) : ∃ a c, v = .slice a n c := by
  rcases h.2 with ⟨rfl, rfl⟩ | ⟨g, cap, cur, rfl, _⟩
  · exact ⟨none, 0, rfl⟩
  · exact ⟨_, cap, rfl⟩
set_option maxRecDepth 100000 in
set_option maxHeartbeats 1000000 in
/-- Bytes that are laid into a sink. -/
theorem give_sk (k s base b o m c : Nat) (v : Value) (cn : Int) (d cs : List UInt8) (w : World) (hS : SkAt w s cn v) (ho : w.ownsRow base 5 1 v d.length (u8s d)) (hbase : base ≤ w.heap.size) (hd : d.length ≤ 1099511627776) (hcs : cs.length = m) (hm : 0 < m) (hm2 : m ≤ 1099511627776)
    (hc : ∀ j, j < m → w.cell? ⟨b, o + j, none⟩ = some (.int .u8 ((cs[j]?.getD 0).toNat : Int))) :
    Calls Tryz.prog 272 #[ptr k, iSk s, .slice (some ⟨b, o, none⟩) m c] w fun e w' => (∃ r, e = .returned r) ∧ ∃ v2, SkAt w' s cn v2 ∧ w'.ownsRow base 5 1 v2 (d ++ cs).length (u8s (d ++ cs)) ∧ (v2.ownBlock = v.ownBlock ∨ v2.ownBlock = some w.heap.size) ∧ Turn (s :: v.ownBlock.toList) w w' := by
  obtain ⟨i5, hi5, hz0, hz1, hz2⟩ := info_parts info5
  have hbs : v.ownBlock ≠ some s := row_ne ho hS (by decide)
  have s1 := h_cell hS 1 rfl
  have z1 := h_fz hS 1
  have hsl := h_lt hS
  have t1 := ta_sk_sk
  have hnews : ∀ j u, (u8s cs)[j]? = some u → w.cell? ((⟨b, o, none⟩ : Addr).add j) = some u := fun j u hu => by
    have hj : j < m := by have := (List.getElem?_eq_some_iff.1 hu).1; rw [u8s_length] at this; omega
    rw [Addr.add_lit, hc j hj, ← hu]
    simp [u8s, show j < cs.length by omega]
  have HS := Lib.hid hS
  have HO := Lib.hid ho
  have HN := Lib.hid hnews
  clear hS ho hnews hc
  go_enter Tryz.func272, Tryz.ntmps272
  go_wp2_with (at_builtin; refine wpList_append_own_at _ rfl _ _ 27 rfl base 5 i5 (.int .u8 0) 1 1 Tryz.underlying27 hi5 hz0 hz1 hz2 rfl (by decide) v d.length (u8s d) rfl HO.out ⟨b, o, none⟩ m c (u8s cs) rfl (by rw [u8s_length]; omega) HN.out (u8s_one cs) (by unfold maxLen; omega) (by omega) hbase ?_; intro v2 w2 hown hgrow _ hat; obtain ⟨xa, xc, rfl⟩ := own_shape hown; have hS2 := (hgrow.block s hsl (fun e => hbs e.symm)).trans HS.out; have s12 := h_cell hS2 1 rfl; have z12 := h_fz hS2 1)
  go_end0
  have hs := h_set hS2 1 (.slice xa (d.length + m) xc)
  refine ⟨⟨_, rfl⟩, .slice xa (d.length + m) xc, by simpa using hs, ?_, hat, ?_⟩
  · rw [List.length_append, hcs]
    have hu : u8s (d ++ cs) = u8s d ++ u8s cs := by simp [u8s]
    rw [hu]
    refine own_turn hown (Turn.set (S := [s]) w2 s 1 _ (by simp)) (fun g' hg' e => ?_)
    have e3 : g' = s := by simpa using e
    rcases hat with h | h
    · rw [hg'] at h; exact hbs (by rw [← h, e3])
    · rw [hg'] at h; have : g' = w.heap.size := Option.some.inj h; omega
  · have hG : Turn (s :: v.ownBlock.toList) w w2 := ⟨hgrow.os, hgrow.tape, hgrow.output, hgrow.size, fun j hj hs => hgrow.block j hj (fun e => hs (by rw [← e]; simp))⟩
    exact hG.trans (Turn.set w2 s 1 _ (by simp))
/-- A slice of bytes. -/
def ByAt (w : World) (v : Value) (d : List UInt8) : Prop :=
  (v = .slice none 0 0 ∧ d = []) ∨ ∃ b off cap, v = .slice (some ⟨b, off, none⟩) d.length cap ∧ (d.length ≤ cap ∧ cap ≤ 9223372036854775807) ∧ b < w.heap.size ∧ ∀ j, j < d.length → w.cell? ⟨b, off + j, none⟩ = some (.int .u8 ((d[j]?.getD 0).toNat : Int))
theorem ByAt.turn {w w' : World} {v : Value} {d : List UInt8} {S : List Nat} (h : ByAt w v d) (hT : Turn S w w') (hS : ∀ b off n c, v = .slice (some ⟨b, off, none⟩) n c → b ∉ S) : ByAt w' v d := by
  rcases h with h | ⟨b, off, cap, h1, h2, h3, h4⟩
  · exact .inl h
  · exact .inr ⟨b, off, cap, h1, h2, Nat.lt_of_lt_of_le h3 hT.size, fun j hj => hT.cell (h4 j hj) (hS b off _ _ h1)⟩
theorem ByAt.shape {w : World} {v : Value} {d : List UInt8} (h : ByAt w v d) : ∃ a c, v = .slice a d.length c := by
  rcases h with ⟨rfl, rfl⟩ | ⟨b, off, cap, rfl, _⟩
  · exact ⟨none, 0, rfl⟩
  · exact ⟨_, cap, rfl⟩
theorem by_own {w : World} {base n : Nat} {v : Value} {d : List UInt8} (h : w.ownsRow base 5 1 v n (u8s d)) : ByAt w v d := by
  obtain ⟨hl, h1⟩ := row_split h
  rcases h1 with ⟨rfl, h0⟩ | ⟨g, cap, rfl, _, hg, h2, h3, h4⟩
  · exact .inl ⟨rfl, List.length_eq_zero_iff.1 (by omega)⟩
  · exact .inr ⟨g, 0, cap, by rw [hl], by rw [hl]; unfold maxLen at h3; omega, hg, fun j hj => by rw [Nat.zero_add]; exact h4 j (by omega)⟩

end Go.Proofs.YteimilnecahifaaGreatDoor
