/- The file is opened anew: to be read, to be written from its begin, to be appended to. -/
import Derived.Test.YtbbmihlabllliaaGreatDoorKFb
import Derived.Test.YtbbmihlabllliaaGreatDoorKOpen4
namespace Go.Proofs.YtbbmihlabllliaaGreatDoor
open Go.RowKit Go.Shelf Go.Maps

theorem pts_s : ptsOf s_f = [s_f] := by kernel_rfl
theorem ab_s : isAbs s_f = false ∧ isEnd s_f = false ∧ s_f.toList.isEmpty = false := ⟨by kernel_rfl, by kernel_rfl, by kernel_rfl⟩
theorem find_1 (rt rm n : Nat) (xf : Nd) (p : ByteArray) (hp : p = p_f ∨ p = s_f) : findF (g1 rt rm n xf s_f) rt rt p = .ok n := by
  have h1 : leadF (g1 rt rm n xf s_f) rt [s_f] = .ok n := by simp [leadF, stepF, g1_rt, fd_f.1, fd_f.2, nm_f, look_put_same isMap_E (isKey_s s_f), isNil, blk]
  rcases hp with rfl | rfl
  · rw [findF, if_neg (by rw [ab_f.2.2]; decide), if_neg (by rw [ab_f.2.1]; decide)]
    simp [ab_f.1, pts_f, h1]
  · rw [findF, if_neg (by rw [ab_s.2.2]; decide), if_neg (by rw [ab_s.2.1]; decide)]
    simp [ab_s.1, pts_s, h1]
section
variable {w0 : World} {F : FF} {w w' : World} {u N : Nat} {last : Int} {D : DataW Value} {holds : Int} {hs : Array Value} {bs : List UInt8} {dv : Value} {e : Nat} {how place : Int}
theorem st_stat (h : St w0 F w u N last D holds hs bs dv) (m : Int) (hm : w0.cell? ⟨0, 0, none⟩ = some (.int .i64 m)) (p : ByteArray) (hp : p = p_f ∨ p = s_f) :
    Calls Tryz.prog 18 #[.pointer (some ⟨F.t, 0, none⟩), .string sE, .string p] w fun r w' => r = .returned (.tuple #[.agg #[.int .i64 2, .bool false, .int .i64 F.md, .int .i64 3, .int .i64 bs.length, .int .i64 1], .int .i64 0]) ∧ Below w.heap.size w w' := by
  obtain ⟨a, cap, hdv⟩ := h.dslice
  have hne : F.rt ≠ F.n := by have := h.ok.rt1; have := h.ok.n1; omega
  have hmw : w.cell? ⟨0, 0, none⟩ = some (.int .i64 m) := (h.bl.cell (p := ⟨0, 0, none⟩) h.ok.z).trans hm
  have hps : p.size ≤ 2147483648 ∧ p.toList.isEmpty = false := by
    rcases hp with rfl | rfl
    · exact ⟨by decide, ab_f.2.2⟩
    · exact ⟨by decide, ab_s.2.2⟩
  refine stat_file F.t F.n (F.nd dv holds) a bs.length cap sE p w h.hn rfl hdv (fun w2 hB => ?_)
  have hr0 : (g1 F.rt F.rm F.n (F.nd dv holds) s_f F.rt).isSome = true := by rw [g1_rt]; rfl
  have hA : Amb (g1 F.rt F.rm F.n (F.nd dv holds) s_f) m w := ⟨hmw, gr1 F.rt F.rm hne rfl h.hN h.hE h.hn⟩
  have := find_c (g1 F.rt F.rm F.n (F.nd dv holds) s_f) (closed1 F.rt F.rm hne rfl) F.t F.rt F.rt _ _ _ sE p m w2 (by decide) hps.1 (hA.below hB) (h.hT.below hB h.hT.lt) hr0 hr0 hps.2 (toDir_empty (g1_rt F.rt F.rm) rfl pts_E)
  rw [find_1 F.rt F.rm F.n _ p hp] at this
  exact this

set_option maxHeartbeats 2000000 in
/-- A thing more is open. -/
theorem St.add (h : St w0 F w u N last D holds hs bs dv) {last' : Int} {N' : Nat} {D' : DataW Value} (hK : KnAt w' F.k (ptr F.t) F.fv u 3 F.th last') (hM : w'.ownsMap Tryz.prog 3 R F.th N' D') (hU : Turn [F.k, F.th] w w') : St w0 F w' u N' last' D' holds hs bs dv := by
  have ok := h.ok
  have g2 := ok.B0
  have a2 := h_ne (show w.heap[F.t]? = _ from h.hT) h.hK (by decide)
  have a3 := h_ne (show w.heap[F.rt]? = _ from h.hN) h.hK (by decide)
  have a4 := mapi_ne h.hE h.hK
  have a5 := mapi_ne h.hF h.hK
  have a7 := h_ne h.T0 h.hK (by decide)
  have a8 := h_ne h.hp h.hK (by decide)
  have b2 := mapi_ne h.hM (show w.heap[F.t]? = _ from h.hT)
  have b3 := mapi_ne h.hM (show w.heap[F.rt]? = _ from h.hN)
  have b7 := mapi_ne h.hM h.T0
  have b8 := mapi_ne h.hM h.hp
  have c1 := ok.fk
  have c2 := ok.ft
  have c3 := ok.tf
  have c4 := ok.tm
  have c5 := ok.k1
  have c6 := ok.th1
  have c7 := ok.n1
  have c8 := ok.k0
  have c9 := ok.th0
  exact { h with
    hK := hK
    hFl := h.hFl.turn hU (by simp; omega)
    hM := hM
    hT := hU.tr h.hT (by simp; omega)
    hN := hU.nd h.hN (by simp; omega)
    hE := hU.map h.hE (by simp; omega)
    hF := hU.map h.hF (by simp; omega)
    hn := hU.nd h.hn (by simp; omega)
    hd := own_turn h.hd hU (fun g hg e => by have := own_ge h.hd hg; simp at e; omega)
    T0 := hU.ob h.T0 (by simp; omega)
    hp := hU.ob h.hp (by simp; omega)
    hB := Nat.le_trans h.hB hU.size
    bl := h.bl.trans ⟨hU.os, hU.tape, hU.output, hU.size, fun x hx => hU.block x (by have := h.bl.size; omega) (by simp; omega)⟩ }
/-- The node alone has turned. -/
theorem St.node (h : St w0 F w u N last D holds hs bs dv) {holds' : Int} {bs' : List UInt8} {dv' : Value} (hn : NdAt w' F.n (F.nd dv' holds')) (hd : w'.ownsRow F.B 5 1 dv' bs'.length (u8s bs')) (hU : Turn [F.n] w w') : St w0 F w' u N last D holds' hs bs' dv' := by
  have ok := h.ok
  have n1 := ok.n1
  have hm := ok.B0
  have hno : ∀ x, x < F.B → x ∉ [F.n] := fun x hx e => by simp at e; omega
  exact { h with
    hK := hU.ob h.hK (hno _ ok.k1)
    hFl := h.hFl.turn hU (hno _ ok.fb1)
    hM := hU.map h.hM (hno _ ok.th1)
    hT := hU.tr h.hT (hno _ ok.t1)
    hN := hU.nd h.hN (hno _ ok.rt1)
    hE := hU.map h.hE (hno _ ok.rm1)
    hF := hU.map h.hF (hno _ ok.fm1)
    hn := hn
    hd := hd
    T0 := hU.ob h.T0 (hno _ ok.t01)
    hp := hU.ob h.hp (hno _ ok.pb1)
    hB := Nat.le_trans h.hB hU.size
    bl := h.bl.trans ⟨hU.os, hU.tape, hU.output, hU.size, fun x hx => hU.block x (by have := h.bl.size; omega) (hno x (by omega))⟩ }
set_option maxHeartbeats 2000000 in
/-- The descriptor has the file. -/
theorem St.tab (h : St w0 F w u N last D holds hs bs dv) {e : Nat} {cs : Array Value} {hs' : Array Value} (hf : w.heap[e]? = some (.cells cs 193)) (eB : F.B ≤ e) (hT : TbAt w' F.t0 F.k hs') (hU : Turn [F.t0, e] w w') : St w0 F w' u N last D holds hs' bs dv := by
  have ok := h.ok
  have g2 := ok.B0
  have a1 := h_ne h.hK h.T0 (by decide)
  have a2 := h_ne (show w.heap[F.t]? = _ from h.hT) h.T0 (by decide)
  have a3 := h_ne (show w.heap[F.rt]? = _ from h.hN) h.T0 (by decide)
  have a4 := mapi_ne h.hE h.T0
  have a5 := mapi_ne h.hF h.T0
  have a6 := mapi_ne h.hM h.T0
  have a8 := h_ne h.hp h.T0 (by decide)
  have a9 := h_ne (show w.heap[F.n]? = _ from h.hn) hf (by decide)
  have b1 := h.dne hf (by decide)
  have c1 := ok.f0
  have c2 := ok.t01
  have c3 := ok.n1
  have c4 := ok.t00
  have d1 := ok.k1
  have d2 := ok.fb1
  have d3 := ok.th1
  have d4 := ok.t1
  have d5 := ok.rt1
  have d6 := ok.rm1
  have d7 := ok.fm1
  have d8 := ok.pb1
  exact { h with
    hK := hU.ob h.hK (by simp; omega)
    hFl := h.hFl.turn hU (by simp; omega)
    hM := hU.map h.hM (by simp; omega)
    hT := hU.tr h.hT (by simp; omega)
    hN := hU.nd h.hN (by simp; omega)
    hE := hU.map h.hE (by simp; omega)
    hF := hU.map h.hF (by simp; omega)
    hn := hU.nd h.hn (by simp; omega)
    hd := own_turn h.hd hU (fun g hg e2 => by
      have := own_ge h.hd hg
      simp only [List.mem_cons, List.not_mem_nil, or_false] at e2
      rcases e2 with e2 | e2
      · omega
      · exact b1 (by rw [← e2]; exact hg))
    T0 := hT
    hp := hU.ob h.hp (by simp; omega)
    hB := Nat.le_trans h.hB hU.size
    bl := h.bl.trans ⟨hU.os, hU.tape, hU.output, hU.size, fun x hx => hU.block x (by have := h.bl.size; omega) (by simp; omega)⟩ }

abbrev stV (F : FF) (L : Nat) : Value := .agg #[.int .i64 2, .bool false, .int .i64 F.md, .int .i64 3, .int .i64 L, .int .i64 1]
theorem reach_end {w1 w2 : World} (hU1 : Turn [] w w1) (hB2 : Below w1.heap.size w1 w2) (o : Obj) (y0 y1 y2 y3 y4 y5 : Value) : Turn [] w (((((((w2.alloc o).setCell ⟨w.heap.size, 0, none⟩ y0).setCell ⟨w.heap.size, 1, none⟩ y1).setCell ⟨w.heap.size, 2, none⟩ y2).setCell ⟨w.heap.size, 3, none⟩ y3).setCell ⟨w.heap.size, 4, none⟩ y4).setCell ⟨w.heap.size, 5, none⟩ y5) := by
  obtain ⟨w3, hU3, hw3⟩ := st_turn (S := [w.heap.size]) (w2.alloc o) w.heap.size y0 y1 y2 y3 y4 y5 (by simp)
  rw [← hw3]
  have hU2 : Turn [] w (w2.alloc o) := (hU1.trans (Turn.below hB2)).trans (Turn.alloc _ _)
  exact ⟨hU3.os.trans hU2.os, hU3.tape.trans hU2.tape, hU3.output.trans hU2.output, Nat.le_trans hU2.size hU3.size, fun x hx _ => (hU3.block x (Nat.lt_of_lt_of_le hx hU2.size) (by simp; omega)).trans (hU2.block x hx (by simp))⟩
set_option maxRecDepth 100000 in
set_option maxHeartbeats 4000000 in
theorem reach_1 (h : St w0 F w u N last D 0 nilsF bs dv) (m : Int) (hm : w0.cell? ⟨0, 0, none⟩ = some (.int .i64 m)) (p : ByteArray) (hp : p = p_f ∨ p = s_f) :
    Calls Tryz.prog 107 #[ptr F.k, .string sE, .string p, .int .i64 1] w fun r w' => r = .returned (.tuple #[stV F bs.length, .int .i64 0]) ∧ Turn [] w w' := by
  obtain ⟨w1, hw1⟩ : ∃ w1, w1 = w.alloc (.cells #[.int .i64 0, .bool false, .int .i64 0, .int .i64 0, .int .i64 0, .int .i64 0] 60) := ⟨_, rfl⟩
  have hU1 : Turn [] w w1 := by rw [hw1]; exact Turn.alloc w _
  have hP1 : StAt w1 w.heap.size (.int .i64 0) (.bool false) (.int .i64 0) (.int .i64 0) (.int .i64 0) (.int .i64 0) := by rw [hw1]; exact al_new _ _ rfl
  have h1 := h.turn hU1 (by simp)
  have c0 := h_cell h1.hK 0 rfl
  have hst := st_stat h1 m hm p hp
  have hz1 : w1.heap.size = w.heap.size + 1 := by rw [hw1]; simp
  have H1 := Lib.hid (And.intro hU1 hP1)
  clear hU1 hP1 h1 h hp
  go_enter Tryz.func107, Tryz.ntmps107
  go_upto_region 1 with fail
  rw [← hw1]
  clear hw1
  go_wp2_with fail
  refine hst.mono ?_
  rintro r w2 ⟨rfl, hB2⟩
  obtain ⟨hU1, hP1⟩ := H1.out
  have hP2 : StAt w2 w.heap.size _ _ _ _ _ _ := (hB2.block _ (by omega)).trans hP1
  have hP3 : ∀ o, StAt (w2.alloc o) w.heap.size (.int .i64 0) (.bool false) (.int .i64 0) (.int .i64 0) (.int .i64 0) (.int .i64 0) := fun o => al_old o hP2
  have s0 : ∀ o, (w2.alloc o).cell? ⟨w.heap.size, 0, none⟩ = some (.int .i64 0) := fun o => by simpa using (hP3 o).c 0
  have s1 : ∀ o, (w2.alloc o).cell? ⟨w.heap.size, 1, none⟩ = some (.bool false) := fun o => by simpa using (hP3 o).c 1
  have s2 : ∀ o, (w2.alloc o).cell? ⟨w.heap.size, 2, none⟩ = some (.int .i64 0) := fun o => by simpa using (hP3 o).c 2
  have s3 : ∀ o, (w2.alloc o).cell? ⟨w.heap.size, 3, none⟩ = some (.int .i64 0) := fun o => by simpa using (hP3 o).c 3
  have s4 : ∀ o, (w2.alloc o).cell? ⟨w.heap.size, 4, none⟩ = some (.int .i64 0) := fun o => by simpa using (hP3 o).c 4
  have s5 : ∀ o, (w2.alloc o).cell? ⟨w.heap.size, 5, none⟩ = some (.int .i64 0) := fun o => by simpa using (hP3 o).c 5
  have z0 := fun o => (hP3 o).fz 0
  have z1 := fun o => (hP3 o).fz 1
  have z2 := fun o => (hP3 o).fz 2
  have z3 := fun o => (hP3 o).fz 3
  have z4 := fun o => (hP3 o).fz 4
  have z5 := fun o => (hP3 o).fz 5
  have HX := Lib.hid (And.intro hU1 (And.intro hB2 hP3))
  clear hU1 hP1 hP2 hP3 hst H1
  go_wp2_with fail
  obtain ⟨hU1, hB2, hP3⟩ := HX.out
  refine bodyPost_ret (results_s rfl rfl ((hP3 _).set _ _ _ _ _ _) rfl) rfl ?_
  exact ⟨rfl, reach_end hU1 hB2 _ _ _ _ _ _ _⟩

set_option maxRecDepth 100000 in
set_option maxHeartbeats 4000000 in
theorem reach_3 (h : St w0 F w u N last D 0 nilsF bs dv) (m : Int) (hm : w0.cell? ⟨0, 0, none⟩ = some (.int .i64 m)) (p : ByteArray) (hp : p = p_f ∨ p = s_f) :
    Calls Tryz.prog 107 #[ptr F.k, .string sE, .string p, .int .i64 3] w fun r w' => r = .returned (.tuple #[stV F bs.length, .int .i64 0]) ∧ Turn [] w w' := by
  obtain ⟨w1, hw1⟩ : ∃ w1, w1 = w.alloc (.cells #[.int .i64 0, .bool false, .int .i64 0, .int .i64 0, .int .i64 0, .int .i64 0] 60) := ⟨_, rfl⟩
  have hU1 : Turn [] w w1 := by rw [hw1]; exact Turn.alloc w _
  have hP1 : StAt w1 w.heap.size (.int .i64 0) (.bool false) (.int .i64 0) (.int .i64 0) (.int .i64 0) (.int .i64 0) := by rw [hw1]; exact al_new _ _ rfl
  have h1 := h.turn hU1 (by simp)
  have c0 := h_cell h1.hK 0 rfl
  have hst := st_stat h1 m hm p hp
  have hz1 : w1.heap.size = w.heap.size + 1 := by rw [hw1]; simp
  have H1 := Lib.hid (And.intro hU1 hP1)
  clear hU1 hP1 h1 h hp
  go_enter Tryz.func107, Tryz.ntmps107
  go_upto_region 1 with fail
  rw [← hw1]
  clear hw1
  go_wp2_with fail
  refine hst.mono ?_
  rintro r w2 ⟨rfl, hB2⟩
  obtain ⟨hU1, hP1⟩ := H1.out
  have hP2 : StAt w2 w.heap.size _ _ _ _ _ _ := (hB2.block _ (by omega)).trans hP1
  have hP3 : ∀ o, StAt (w2.alloc o) w.heap.size (.int .i64 0) (.bool false) (.int .i64 0) (.int .i64 0) (.int .i64 0) (.int .i64 0) := fun o => al_old o hP2
  have s0 : ∀ o, (w2.alloc o).cell? ⟨w.heap.size, 0, none⟩ = some (.int .i64 0) := fun o => by simpa using (hP3 o).c 0
  have s1 : ∀ o, (w2.alloc o).cell? ⟨w.heap.size, 1, none⟩ = some (.bool false) := fun o => by simpa using (hP3 o).c 1
  have s2 : ∀ o, (w2.alloc o).cell? ⟨w.heap.size, 2, none⟩ = some (.int .i64 0) := fun o => by simpa using (hP3 o).c 2
  have s3 : ∀ o, (w2.alloc o).cell? ⟨w.heap.size, 3, none⟩ = some (.int .i64 0) := fun o => by simpa using (hP3 o).c 3
  have s4 : ∀ o, (w2.alloc o).cell? ⟨w.heap.size, 4, none⟩ = some (.int .i64 0) := fun o => by simpa using (hP3 o).c 4
  have s5 : ∀ o, (w2.alloc o).cell? ⟨w.heap.size, 5, none⟩ = some (.int .i64 0) := fun o => by simpa using (hP3 o).c 5
  have z0 := fun o => (hP3 o).fz 0
  have z1 := fun o => (hP3 o).fz 1
  have z2 := fun o => (hP3 o).fz 2
  have z3 := fun o => (hP3 o).fz 3
  have z4 := fun o => (hP3 o).fz 4
  have z5 := fun o => (hP3 o).fz 5
  have HX := Lib.hid (And.intro hU1 (And.intro hB2 hP3))
  clear hU1 hP1 hP2 hP3 hst H1
  go_wp2_with fail
  obtain ⟨hU1, hB2, hP3⟩ := HX.out
  refine bodyPost_ret (results_s rfl rfl ((hP3 _).set _ _ _ _ _ _) rfl) rfl ?_
  exact ⟨rfl, reach_end hU1 hB2 _ _ _ _ _ _ _⟩

set_option maxRecDepth 100000 in
set_option maxHeartbeats 4000000 in
theorem reach_2 (h : St w0 F w u N last D 0 nilsF bs dv) (m : Int) (hm : w0.cell? ⟨0, 0, none⟩ = some (.int .i64 m)) (p : ByteArray) (hp : p = p_f ∨ p = s_f) :
    Calls Tryz.prog 107 #[ptr F.k, .string sE, .string p, .int .i64 2] w fun r w' => r = .returned (.tuple #[stV F bs.length, .int .i64 0]) ∧ St w0 F w' u N last D 0 nilsF [] (.slice none 0 0) ∧ Turn [F.n] w w' := by
  obtain ⟨w1, hw1⟩ : ∃ w1, w1 = w.alloc (.cells #[.int .i64 0, .bool false, .int .i64 0, .int .i64 0, .int .i64 0, .int .i64 0] 60) := ⟨_, rfl⟩
  have hU1 : Turn [] w w1 := by rw [hw1]; exact Turn.alloc w _
  have hP1 : StAt w1 w.heap.size (.int .i64 0) (.bool false) (.int .i64 0) (.int .i64 0) (.int .i64 0) (.int .i64 0) := by rw [hw1]; exact al_new _ _ rfl
  have h1 := h.turn hU1 (by simp)
  have c0 := h_cell h1.hK 0 rfl
  have hB0 := h.hB
  have hst := st_stat h1 m hm p hp
  have hz1 : w1.heap.size = w.heap.size + 1 := by rw [hw1]; simp
  have H1 := Lib.hid (And.intro hU1 (And.intro hP1 h1))
  clear hU1 hP1 h1 h hp
  go_enter Tryz.func107, Tryz.ntmps107
  go_upto_region 1 with fail
  rw [← hw1]
  clear hw1
  go_wp2_with fail
  refine hst.mono ?_
  rintro r w2 ⟨rfl, hB2⟩
  obtain ⟨hU1, hP1, h1⟩ := H1.out
  have hz2 : w1.heap.size ≤ w2.heap.size := hB2.size
  have hP2 : StAt w2 w.heap.size _ _ _ _ _ _ := (hB2.block _ (by omega)).trans hP1
  obtain ⟨w3, hw3⟩ : ∃ w3, w3 = w2.alloc (.cells #[.int .i64 2, .bool false, .int .i64 F.md, .int .i64 3, .int .i64 bs.length, .int .i64 1] 60) := ⟨_, rfl⟩
  have hU13 : Turn [] w1 w3 := by rw [hw3]; exact (Turn.below hB2).trans (Turn.alloc w2 _)
  have hS3 := h1.turn hU13 (by simp)
  have hP3 : StAt w3 w.heap.size _ _ _ _ _ _ := hU13.ob hP1 (by simp)
  have hQ3 : StAt w3 w2.heap.size (.int .i64 2) (.bool false) (.int .i64 F.md) (.int .i64 3) (.int .i64 bs.length) (.int .i64 1) := by rw [hw3]; exact al_new _ _ rfl
  have hn2 : F.n < w2.heap.size := by have := h1.hn.lt; omega
  have hn1 : F.n ≠ w.heap.size := fun e => by
    have h9 : w1.heap[F.n]? = _ := h1.hn
    rw [e, show w1.heap[w.heap.size]? = _ from hP1] at h9
    simp at h9
  have hct := Lib.hid (fun q => cutf_c F.t F.n F.fm 1 _ 2 3 _ _ _ _ (w3.drewN q) hS3.hT hS3.hF (by decide) hS3.look hS3.hn)
  have k0 := h_cell hS3.hK 0 rfl
  have k3 := h_cell hS3.hK 3 rfl
  have q0 : w3.cell? ⟨w2.heap.size, 0, none⟩ = some (.int .i64 2) := by simpa using hQ3.c 0
  have HX := Lib.hid (And.intro hU1 (And.intro hU13 (And.intro hS3 (And.intro hP3 hQ3))))
  clear hU1 hP1 hP2 hP3 hQ3 hst H1 hS3 hU13 h1 hB2 c0
  go_upto_region 13 with fail
  rw [← hw3]
  clear hw3
  have hct1 := hct.out 1
  go_region_with (go_at_call 145; refine hct1.mono ?_; rintro r w4 ⟨⟨x4, rfl⟩, hn4, hU4⟩)
  all_goals
    obtain ⟨hU1, hU13, hS3, hP3, hQ3⟩ := HX.out
    have hU4' : Turn [F.n] w3 w4 := ⟨hU4.os, hU4.tape, hU4.output, hU4.size, hU4.block⟩
    have hP4 : StAt w4 w.heap.size _ _ _ _ _ _ := hU4'.ob hP3 (by simpa using fun e => hn1 e.symm)
    have hQ4 : StAt w4 w2.heap.size _ _ _ _ _ _ := hU4'.ob hQ3 (by simp; omega)
    have s0 : w4.cell? ⟨w.heap.size, 0, none⟩ = some (.int .i64 0) := by simpa using hP4.c 0
    have s1 : w4.cell? ⟨w.heap.size, 1, none⟩ = some (.bool false) := by simpa using hP4.c 1
    have s2 : w4.cell? ⟨w.heap.size, 2, none⟩ = some (.int .i64 0) := by simpa using hP4.c 2
    have s3 : w4.cell? ⟨w.heap.size, 3, none⟩ = some (.int .i64 0) := by simpa using hP4.c 3
    have s4 : w4.cell? ⟨w.heap.size, 4, none⟩ = some (.int .i64 0) := by simpa using hP4.c 4
    have s5 : w4.cell? ⟨w.heap.size, 5, none⟩ = some (.int .i64 0) := by simpa using hP4.c 5
    have z0 := hP4.fz 0
    have z1 := hP4.fz 1
    have z2 := hP4.fz 2
    have z3 := hP4.fz 3
    have z4 := hP4.fz 4
    have z5 := hP4.fz 5
    have y0 : w4.cell? ⟨w2.heap.size, 0, none⟩ = some (.int .i64 2) := by simpa using hQ4.c 0
    have y1 : w4.cell? ⟨w2.heap.size, 1, none⟩ = some (.bool false) := by simpa using hQ4.c 1
    have y2 : w4.cell? ⟨w2.heap.size, 2, none⟩ = some (.int .i64 F.md) := by simpa using hQ4.c 2
    have y3 : w4.cell? ⟨w2.heap.size, 3, none⟩ = some (.int .i64 3) := by simpa using hQ4.c 3
    have y4 : w4.cell? ⟨w2.heap.size, 4, none⟩ = some (.int .i64 bs.length) := by simpa using hQ4.c 4
    have y5 : w4.cell? ⟨w2.heap.size, 5, none⟩ = some (.int .i64 1) := by simpa using hQ4.c 5
    have HY := Lib.hid (And.intro hn4 (And.intro hU4' (And.intro hP4 (And.intro hS3 (hU1.trans hU13)))))
    clear hn4 hU4 hU4' hP4 hQ4 hS3 hU1 hU13 hP3 hQ3 HX
    go_wp2_with fail
    obtain ⟨hn4, hU4, hP4, hS3, hU03⟩ := HY.out
    refine bodyPost_ret (results_s rfl rfl (hP4.set _ _ _ _ _ _) rfl) rfl ?_
    obtain ⟨w5, hU5, hw5⟩ := st_turn (S := [w.heap.size]) w4 w.heap.size (.int .i64 2) (.bool false) (.int .i64 F.md) (.int .i64 3) (.int .i64 bs.length) (.int .i64 1) (by simp)
    rw [← hw5]
    have hS4 : St w0 F w4 u N last D 0 nilsF [] (.slice none 0 0) := hS3.node hn4 (by simpa [u8s] using World.ownsRow_nil _ _ _ _) hU4
    have hBw : F.B ≤ w.heap.size := hB0
    refine ⟨rfl, hS4.turn hU5 (fun x hx => by simp at hx; subst hx; exact ⟨hBw, fun e => hn1 e.symm, by simp [Value.ownBlock]⟩), ?_⟩
    exact ⟨hU5.os.trans (hU4.os.trans hU03.os), hU5.tape.trans (hU4.tape.trans hU03.tape), hU5.output.trans (hU4.output.trans hU03.output), Nat.le_trans hU03.size (Nat.le_trans hU4.size hU5.size), fun x hx hs => (hU5.block x (Nat.lt_of_lt_of_le hx (Nat.le_trans hU03.size hU4.size)) (by simp; omega)).trans ((hU4.block x (Nat.lt_of_lt_of_le hx hU03.size) hs).trans (hU03.block x hx (by simp)))⟩

set_option maxRecDepth 100000 in
set_option maxHeartbeats 4000000 in
theorem open_x (how : Int) (L : Nat) (bs' : List UInt8) (dv' : Value) (p : ByteArray) (h0 : 0 ≤ last) (h1 : last < 4611686018427387903) (hN : N < 999999)
    (hre : Calls Tryz.prog 107 #[ptr F.k, .string sE, .string p, .int .i64 how] w fun r w' => r = .returned (.tuple #[stV F L, .int .i64 0]) ∧ St w0 F w' u N last D 0 nilsF bs' dv' ∧ Turn [F.n] w w') :
    Calls Tryz.prog 55 #[ptr F.k, .string sE, .string p, .int .i64 how] w fun r w' => ∃ e, r = .returned (.tuple #[iFi e, .int .i64 0]) ∧ w.heap.size ≤ e ∧ FiAt w' e 0 (last + 1) 2 how 0 ∧ St w0 F w' u (N + 1) (last + 1) (D.put (ik (last + 1)) (.held (iFi e))) 1 nilsF bs' dv' ∧ Turn [F.n, F.k, F.th] w w' := by
  go_enter Tryz.func55, Tryz.ntmps55
  go_wp2_with fail
  refine hre.mono ?_
  rintro r w1 ⟨rfl, hS1, hU1⟩
  have hz1 := hU1.size
  obtain ⟨w2, hw2⟩ : ∃ w2, w2 = (w1.alloc (.cells #[.int .i64 2, .bool false, .int .i64 F.md, .int .i64 3, .int .i64 L, .int .i64 1] 60)).alloc (.cells #[.int .i64 0, .int .i64 0, .int .i64 2, .int .i64 how, .int .i64 0] 193) := ⟨_, rfl⟩
  have hU2 : Turn [] w1 w2 := by rw [hw2]; exact (Turn.alloc w1 _).trans (Turn.alloc _ _)
  have hf2 : FiAt w2 (w1.heap.size + 1) 0 0 2 how 0 := by rw [hw2]; exact al_new _ _ (by simp)
  have hS2 := hS1.turn hU2 (by simp)
  have hadd := add_c F.k F.th N (ptr F.t) F.fv (iFi (w1.heap.size + 1)) u 3 last D w2 hS2.hK hS2.hM (by omega) h0 (by omega)
  have hz2 := hU2.size
  have hB1 := hS1.hB
  have H2 := Lib.hid (And.intro hS2 (And.intro hf2 (And.intro hU1 hU2)))
  have hfl := h_lt hf2
  have hk1 := hS2.ok.k1
  have hth1 := hS2.ok.th1
  clear hS1 hS2 hU1 hU2 hf2 hre
  go_upto_region 9 with fail
  rw [← hw2]
  clear hw2
  go_wp2_with fail
  refine hadd.mono ?_
  rintro r w3 ⟨rfl, hK3, hM3, hU3⟩
  obtain ⟨hS2, hf2, hU1, hU2⟩ := H2.out
  have hS3 := hS2.add hK3 hM3 hU3
  have hf3 := hU3.ob hf2 (by simp; omega)
  have f1 := h_cell hf3 1 rfl
  have z1 := h_fz hf3 1
  obtain ⟨w4, hw4⟩ : ∃ w4, w4 = w3.setCell ⟨w1.heap.size + 1, 1, none⟩ (.int .i64 (last + 1)) := ⟨_, rfl⟩
  have hU4 : Turn [w1.heap.size + 1] w3 w4 := by rw [hw4]; exact Turn.set w3 _ 1 _ (by simp)
  have hf4 : FiAt w4 (w1.heap.size + 1) 0 (last + 1) 2 how 0 := by rw [hw4]; simpa using h_set hf3 1 (.int .i64 (last + 1))
  have hS4 := hS3.turn hU4 (fun x hx => by
    simp at hx
    subst hx
    exact ⟨by omega, h_ne hf3 (show w3.heap[F.n]? = _ from hS3.hn) (by decide), hS3.dne hf3 (by decide)⟩)
  have k0 := h_cell hS4.hK 0 rfl
  have f2 := h_cell hf4 2 rfl
  have hh := Lib.hid (fun q => hold_c F.t F.n F.fm 1 _ 2 _ _ _ _ (w4.drewN q) hS4.hT hS4.hF (by decide) hS4.look hS4.hn (show (0 : Int) ≤ 0 by decide) (show (0 : Int) < 4611686018427387904 by decide))
  have HX := Lib.hid (And.intro hf4 (And.intro hS4 (And.intro hU1 (And.intro hU2 (And.intro hU3 hU4)))))
  clear hadd H2 hS2 hS3 hS4 hf2 hU1 hU2 hf3 hK3 hM3 hf4 hU3 hU4
  go_upto_region 10 with fail
  rw [← hw4]
  clear hw4 f1 z1
  have hh1 := hh.out 1
  go_region_with (go_at_call 108; refine hh1.mono ?_; rintro r w5 ⟨⟨x5, rfl⟩, hn5, hU5⟩)
  all_goals
    go_wp2_with fail
    refine bodyPost_ret (results_tmp2 rfl _ _ _) rfl ?_
    obtain ⟨hf4, hS4, hU1, hU2, hU3, hU4⟩ := HX.out
    have hU5' : Turn [F.n] w4 w5 := ⟨hU5.os, hU5.tape, hU5.output, hU5.size, hU5.block⟩
    have e1 := h_ne hf4 (show w4.heap[F.n]? = _ from hS4.hn) (by decide)
    have e2 := hS4.dne (show w4.heap[F.n]? = _ from hS4.hn) (by decide)
    refine ⟨w1.heap.size + 1, rfl, by omega, hU5'.ob hf4 (by simpa using e1), hS4.node hn5 (own_turn hS4.hd hU5' (fun g hg e3 => e2 (by simp at e3; rw [← e3]; exact hg))) hU5', ?_⟩
    have hz3 := hU3.size
    have hz4 := hU4.size
    exact ⟨hU5.os.trans (hU4.os.trans (hU3.os.trans (hU2.os.trans hU1.os))), hU5.tape.trans (hU4.tape.trans (hU3.tape.trans (hU2.tape.trans hU1.tape))), hU5.output.trans (hU4.output.trans (hU3.output.trans (hU2.output.trans hU1.output))), by have := hU5'.size; omega, fun x hx hs => by
      simp only [List.mem_cons, List.not_mem_nil, or_false, not_or] at hs
      rw [hU5'.block x (by omega) (by simp; omega), hU4.block x (by omega) (by simp; omega), hU3.block x (by omega) (by simp; omega), hU2.block x (by omega) (by simp), hU1.block x hx (by simp; omega)]⟩

set_option maxRecDepth 100000 in
set_option maxHeartbeats 2000000 in
theorem least_nil (t k : Nat) (w : World) (hT : TbAt w t k nilsF) :
    Calls Tryz.prog 54 #[ptr t] w fun e w' => e = .returned (.tuple #[.int .i64 0, .bool true]) ∧ w' = w := by
  have c0 := tb_cell' hT 0 1 rfl rfl
  have c1 := tb_cell' hT 1 2 rfl rfl
  have c2 := tb_cell' hT 2 3 rfl rfl
  have c3 := tb_cell' hT 3 4 rfl rfl
  have c4 := tb_cell' hT 4 5 rfl rfl
  have c5 := tb_cell' hT 5 6 rfl rfl
  have c6 := tb_cell' hT 6 7 rfl rfl
  have c7 := tb_cell' hT 7 8 rfl rfl
  have c8 := tb_cell' hT 8 9 rfl rfl
  have c9 := tb_cell' hT 9 10 rfl rfl
  have c10 := tb_cell' hT 10 11 rfl rfl
  have c11 := tb_cell' hT 11 12 rfl rfl
  have c12 := tb_cell' hT 12 13 rfl rfl
  have c13 := tb_cell' hT 13 14 rfl rfl
  have c14 := tb_cell' hT 14 15 rfl rfl
  have c15 := tb_cell' hT 15 16 rfl rfl
  have q2 := nil_nil
  have ix0 : ∀ w, (Instr.index 117 (.agg nilsF) (.int .i64 0)).run Tryz.prog w = .ok .nilIface w := fun _ => by kernel_rfl
  clear hT
  go_enter Tryz.func54, Tryz.ntmps54
  go_wp2_with fail
  go_loopg [10] 1 (fun g i wr => wr = w ∧ i = .int .i64 0)
  case atStart => exact ⟨rfl, rfl⟩
  case round =>
    obtain ⟨rfl, rfl⟩ := hrel
    go_wp2_with fail
    refine bodyPost_ret (results_tmp2 rfl _ _ _) rfl ?_
    exact ⟨rfl, rfl⟩

set_option maxRecDepth 100000 in
set_option maxHeartbeats 4000000 in
/-- Open by a table none of whose descriptors has anything. -/
theorem topen_x (t k : Nat) (how : Int) (p : ByteArray) (Q : Nat → World → Prop) (w : World) (hhow : 1 ≤ how ∧ how ≤ 4) (hT : TbAt w t k nilsF)
    (hop : Calls Tryz.prog 55 #[ptr k, .string sE, .string p, .int .i64 how] w fun r w' => ∃ e num, r = .returned (.tuple #[iFi e, .int .i64 0]) ∧ FiAt w' e 0 num 2 how 0 ∧ TbAt w' t k nilsF ∧
      (∀ w3, FiAt w3 e 1 num 2 how 0 → TbAt w3 t k (hsF e) → Turn [t, e] w' w3 → Q e w3)) :
    Calls Tryz.prog 16 #[ptr t, .string sE, .string p, .int .i64 how] w fun r w' => ∃ e, r = .returned (.tuple #[.int .i64 0, .int .i64 0]) ∧ Q e w' := by
  have q0 := tb_kern hT
  have hle := least_nil t k w hT
  have hw1 : ¬ how < 1 := by omega
  have hw2 : ¬ (4 : Int) < how := by omega
  clear hT
  go_enter Tryz.func16, Tryz.ntmps16
  go_wp2_with (go_at_call 54; refine hle.mono ?_; rintro r w1 ⟨rfl, hw1⟩; rw [hw1]; clear hw1)
  refine hop.mono ?_
  rintro r w2 ⟨e, num, rfl, hf, hT2, hQ⟩
  have hne := h_ne hT2 hf (by decide)
  have hcl : w2.cell? ⟨e, 0, none⟩ = some (.int .i64 0) := h_cell hf 0 rfl
  have hst := set_fi t k 0 e 0 nilsF w2 hT2 (by decide) rfl hcl (h_fz hf 0) (by decide) (by decide) hne
  have HX := Lib.hid (And.intro hf (And.intro hT2 hQ))
  clear hf hT2 hQ hop hle hcl
  go_wp2_with fail
  refine hst.mono ?_
  rintro r w3 ⟨⟨x, rfl⟩, hw3⟩
  obtain ⟨hf, hT2, hQ⟩ := HX.out
  have hU3 : Turn [t, e] w2 w3 := by rw [hw3]; exact (Turn.set w2 e 0 _ (by simp)).trans (Turn.set _ t _ _ (by simp))
  have hT3 : TbAt w3 t k (hsF e) := by rw [hw3]; exact tb_set (s_other (c := e) (i := 0) (v := .int .i64 (0 + 1)) hT2 hne) 0 (iFi e)
  have hf3 : FiAt w3 e 1 num 2 how 0 := by
    have h1 : FiAt (w2.setCell ⟨e, 0, none⟩ (.int .i64 (0 + 1))) e 1 num 2 how 0 := by simpa using h_set hf 0 (.int .i64 (0 + 1))
    rw [hw3]; exact s_other h1 (Ne.symm hne)
  have hQ3 := hQ w3 hf3 hT3 hU3
  clear hw3 hst HX hf hT2 hQ hU3 hT3 hf3
  go_wp2_with fail
  refine bodyPost_ret (results_tmp2 rfl _ _ _) rfl ?_
  exact ⟨e, rfl, hQ3⟩

theorem op_open (how : Int) (hhow : 1 ≤ how ∧ how ≤ 4) (L : Nat) (bs' : List UInt8) (dv' : Value) (p : ByteArray) (h0 : 0 ≤ last) (h1 : last < 4611686018427387903) (hN : N < 999999) (hT : TbAt w F.t0 F.k nilsF) (hB : F.B ≤ w.heap.size)
    (hre : Calls Tryz.prog 107 #[ptr F.k, .string sE, .string p, .int .i64 how] w fun r w' => r = .returned (.tuple #[stV F L, .int .i64 0]) ∧ St w0 F w' u N last D 0 nilsF bs' dv' ∧ Turn [F.n] w w') :
    Calls Tryz.prog 16 #[ptr F.t0, .string sE, .string p, .int .i64 how] w fun r w' => ∃ e, r = .returned (.tuple #[.int .i64 0, .int .i64 0]) ∧ Op w0 F w' u (N + 1) (last + 1) D bs' dv' e how 0 ∧ w.heap.size ≤ e ∧ Turn [F.n, F.k, F.th, F.t0] w w' := by
  refine topen_x F.t0 F.k how p _ w hhow hT ((open_x how L bs' dv' p h0 h1 hN hre).mono ?_)
  rintro r w2 ⟨e, rfl, he, hf, hS, hU⟩
  refine ⟨e, _, rfl, hf, hS.T0, fun w3 hf3 hT3 hU3 => ⟨⟨hS.tab hf (by omega) hT3 hU3, hf3, by omega⟩, he, ?_⟩⟩
  exact ⟨hU3.os.trans hU.os, hU3.tape.trans hU.tape, hU3.output.trans hU.output, Nat.le_trans hU.size hU3.size, fun x hx hs => by
    simp only [List.mem_cons, List.not_mem_nil, or_false, not_or] at hs
    rw [hU3.block x (by have := hU.size; omega) (by simp; omega), hU.block x hx (by simp; omega)]⟩
end
end Go.Proofs.YtbbmihlabllliaaGreatDoor
