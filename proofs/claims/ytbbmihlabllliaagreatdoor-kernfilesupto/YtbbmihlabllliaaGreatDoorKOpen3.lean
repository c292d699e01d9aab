/- A file is made in the root by being opened: of the chapter's examples. -/
import Derived.Test.YtbbmihlabllliaaGreatDoorKSrc
import Derived.Test.YtbbmihlabllliaaGreatDoorKNew2
import Derived.Test.YtbbmihlabllliaaGreatDoorStat
import Derived.Deep.CutRange
import Derived.Deep.DeepCutAuto
namespace Go.Proofs.YtbbmihlabllliaaGreatDoor
open Go.RowKit Go.Shelf Go.Maps

abbrev s_f : ByteArray := ⟨#[102]⟩
abbrev p_f : ByteArray := ⟨#[47, 102]⟩
theorem pts_f : ptsOf p_f = [s_f] := by kernel_rfl
theorem ah_f : aheadS p_f = p_r := by kernel_rfl
theorem la_f : lastS p_f = s_f := by kernel_rfl
theorem nm_f : isNm s_f = true := by kernel_rfl
theorem ab_f : isAbs p_f = true ∧ isEnd p_f = false ∧ p_f.toList.isEmpty = false := ⟨by kernel_rfl, by kernel_rfl, by kernel_rfl⟩
theorem do_f : isDot s_f = false ∧ s_f.toList.isEmpty = false := ⟨by kernel_rfl, by kernel_rfl⟩
theorem fd_f : ¬ s_f = ⟨#[46]⟩ ∧ ¬ s_f = ⟨#[46, 46]⟩ := ⟨by decide, by decide⟩

theorem find_f (rt rm : Nat) : findF (g0 rt rm) rt rt p_f = .error 1 := by
  have h1 : leadF (g0 rt rm) rt [s_f] = .error 1 := by simp [leadF, stepF, g0_rt, fd_f.1, fd_f.2, nm_f, look_empty, isNil]
  rw [findF, if_neg (by rw [ab_f.2.2]; decide), if_neg (by rw [ab_f.2.1]; decide)]
  simp [ab_f.1, pts_f, h1]

set_option maxRecDepth 100000 in
set_option maxHeartbeats 2000000 in
theorem stat_err (t : Nat) (e : Int) (hne : e ≠ 0) (cwd s : ByteArray) (w : World) (hf : ∀ w2, Below w.heap.size w w2 → Calls Tryz.prog 56 #[.pointer (some ⟨t, 0, none⟩), .string cwd, .string s] w2 fun r w' => r = .returned (leadV (.error e)) ∧ Below w2.heap.size w2 w') :
    Calls Tryz.prog 18 #[.pointer (some ⟨t, 0, none⟩), .string cwd, .string s] w fun r w' => r = .returned (.tuple #[.agg #[.int .i64 0, .bool false, .int .i64 0, .int .i64 0, .int .i64 0, .int .i64 0], .int .i64 e]) ∧ Below w.heap.size w w' := by
  have hB1 : Below w.heap.size w (w.alloc (.cells #[.int .i64 0, .bool false, .int .i64 0, .int .i64 0, .int .i64 0, .int .i64 0] 60)) := (Below.refl _ w).alloc (Nat.le_refl _) _
  have hP1 : StAt (w.alloc (.cells #[.int .i64 0, .bool false, .int .i64 0, .int .i64 0, .int .i64 0, .int .i64 0] 60)) w.heap.size _ _ _ _ _ _ := al_new _ _ rfl
  have hff := hf _ hB1
  simp only [leadV] at hff
  have hne' : (e != 0) = true := by simpa using hne
  clear hf
  go_enter Tryz.func18, Tryz.ntmps18
  go_wp2_with (go_at_call 56; refine hff.mono ?_; rintro r w2 ⟨rfl, hB2⟩; have hP2 : StAt w2 w.heap.size _ _ _ _ _ _ := (hB2.block _ (by simp)).trans hP1; have s0 : w2.cell? ⟨w.heap.size, 0, none⟩ = some (.int .i64 0) := (by simpa using hP2.c 0); have s1 : w2.cell? ⟨w.heap.size, 1, none⟩ = some (.bool false) := (by simpa using hP2.c 1); have s2 : w2.cell? ⟨w.heap.size, 2, none⟩ = some (.int .i64 0) := (by simpa using hP2.c 2); have s3 : w2.cell? ⟨w.heap.size, 3, none⟩ = some (.int .i64 0) := (by simpa using hP2.c 3); have s4 : w2.cell? ⟨w.heap.size, 4, none⟩ = some (.int .i64 0) := (by simpa using hP2.c 4); have s5 : w2.cell? ⟨w.heap.size, 5, none⟩ = some (.int .i64 0) := (by simpa using hP2.c 5); have z0 := hP2.fz 0; have z1 := hP2.fz 1; have z2 := hP2.fz 2; have z3 := hP2.fz 3; have z4 := hP2.fz 4; have z5 := hP2.fz 5)
  have hB20 : Below w.heap.size w w2 := hB1.trans (hB2.mono (by simp))
  refine bodyPost_ret (results_s rfl rfl (hP2.set _ _ _ _ _ _) rfl) rfl ?_
  exact ⟨rfl, (((((hB20.setCell (p := ⟨w.heap.size, 0, none⟩) (Nat.le_refl _) _).setCell (p := ⟨w.heap.size, 1, none⟩) (Nat.le_refl _) _).setCell (p := ⟨w.heap.size, 2, none⟩) (Nat.le_refl _) _).setCell (p := ⟨w.heap.size, 3, none⟩) (Nat.le_refl _) _).setCell (p := ⟨w.heap.size, 4, none⟩) (Nat.le_refl _) _).setCell (p := ⟨w.heap.size, 5, none⟩) (Nat.le_refl _) _⟩

theorem stat_f (w0 t rt rm fm : Nat) (m : Int) (w : World) (hm : w.cell? ⟨0, 0, none⟩ = some (.int .i64 m)) (h : Tr0 w0 w t rt rm fm) :
    Calls Tryz.prog 18 #[.pointer (some ⟨t, 0, none⟩), .string sE, .string p_f] w fun r w' => r = .returned (.tuple #[.agg #[.int .i64 0, .bool false, .int .i64 0, .int .i64 0, .int .i64 0, .int .i64 0], .int .i64 1]) ∧ Below w.heap.size w w' := by
  refine stat_err t 1 (by decide) sE p_f w (fun w2 hB => ?_)
  have hr0 : (g0 rt rm rt).isSome = true := by rw [g0_rt]; rfl
  have hA : Amb (g0 rt rm) m w := ⟨hm, gr0 rt rm h.hN h.hM⟩
  have := find_c (g0 rt rm) (closed0 rt rm) t rt rt _ _ _ sE p_f m w2 (by decide) (by decide) (hA.below hB) (h.hT.below hB h.hT.lt) hr0 hr0 ab_f.2.2 (toDir_empty (g0_rt rt rm) rfl pts_E)
  rw [find_f] at this
  exact this

/-- The file is made in the root. -/
theorem make_f (w0 t rt rm fm : Nat) (now m : Int) (w1 : World) (hm : w1.cell? ⟨0, 0, none⟩ = some (.int .i64 m)) (h : Tr0 w0 w1 t rt rm fm) :
    Calls Tryz.prog 170 #[.pointer (some ⟨t, 0, none⟩), .string sE, .string p_f, .bool false, .int .i64 420, .int .i64 now] w1 fun r w' => ∃ n md, r = .returned (.tuple #[.int .i64 2, .int .i64 0]) ∧ w1.heap.size ≤ n ∧
      NdAt w' n ⟨2, md, now, false, .pointer none, .map none, .slice none 0 0, 1, 0⟩ ∧ w'.ownsMap Tryz.prog 9 R rm 1 (mE.put (sk s_f) (.held (ptr n))) ∧ w'.ownsMap Tryz.prog 3 R fm 1 (mE.put (ik 2) (.held (ptr n))) ∧ TrAt w' t (ptr rt) (.map (some fm)) (.int .i64 1) (.int .i64 2) ∧ Turn [t, fm, rm] w1 w' := by
  have hr0 : (g0 rt rm rt).isSome = true := by rw [g0_rt]; rfl
  have hsk : seekF (g0 rt rm) rt rt p_f 2 = .ok ⟨rt, s_f, .pointer none, false⟩ := by
    have := seekF_mk (g := g0 rt rm) (root := rt) (home := rt) (s := p_f) (non := 2) ab_f.2.2 (by rw [ite_self, ah_f]; exact toDir_empty (g0_rt rt rm) rfl pts_r) (by rw [la_f, do_f.1, do_f.2]; rfl) (by rw [la_f]; exact nm_f) (g0_rt rt rm)
    rw [this, la_f, ab_f.2.1, look_empty]
  refine (make_file (g0 rt rm) (closed0 rt rm) t rt rt rt 0 rm 0 fm 0 s_f false 0 1 (xr rt rm) mE mE sE p_f 420 now m w1 (by decide) (by decide) ⟨hm, gr0 rt rm h.hN h.hM⟩ h.hT hr0 hr0 (toDir_empty (g0_rt rt rm) rfl pts_E) ⟨hsk, ⟨_, h.hN, rfl⟩, by omega, by omega, by omega, by decide, g0_rt rt rm, h.hN, rfl, h.hM, by omega⟩ rfl h.hF (by omega) h.hmf (by decide) (by decide)).mono ?_
  rintro r w' ⟨n, md, rfl, h1, h2, h3, h4, h5, h6⟩
  exact ⟨n, md, rfl, h1, h2, h3, h4, h5, h6⟩

abbrev st0 : Value := .agg #[.int .i64 0, .bool false, .int .i64 0, .int .i64 0, .int .i64 0, .int .i64 0]
abbrev st2 : Value := .agg #[.int .i64 2, .bool false, .int .i64 0, .int .i64 0, .int .i64 0, .int .i64 0]
/-- What stands behind the making of the file. -/
structure Mf (w w' : World) (t rt rm fm n : Nat) (md now : Int) : Prop where
  n0 : w.heap.size ≤ n
  hn : NdAt w' n ⟨2, md, now, false, .pointer none, .map none, .slice none 0 0, 1, 0⟩
  hE : w'.ownsMap Tryz.prog 9 R rm 1 (mE.put (sk s_f) (.held (ptr n)))
  hF : w'.ownsMap Tryz.prog 3 R fm 1 (mE.put (ik 2) (.held (ptr n)))
  hT : TrAt w' t (ptr rt) (.map (some fm)) (.int .i64 1) (.int .i64 2)
theorem Mf.turn {w w' w2 : World} {t rt rm fm n : Nat} {md now : Int} {S : List Nat} (h : Mf w w' t rt rm fm n md now) (hU : Turn S w' w2) (hs : n ∉ S ∧ fm ∉ S ∧ t ∉ S ∧ rm ∉ S) : Mf w w2 t rt rm fm n md now :=
  ⟨h.n0, hU.nd h.hn hs.1, hU.map h.hE hs.2.2.2, hU.map h.hF hs.2.1, hU.tr h.hT hs.2.2.1⟩

theorem st_turn {S : List Nat} (w : World) (b : Nat) (y0 y1 y2 y3 y4 y5 : Value) (hb : b ∈ S) : ∃ w3, Turn S w w3 ∧ w3 = (((((w.setCell ⟨b, 0, none⟩ y0).setCell ⟨b, 1, none⟩ y1).setCell ⟨b, 2, none⟩ y2).setCell ⟨b, 3, none⟩ y3).setCell ⟨b, 4, none⟩ y4).setCell ⟨b, 5, none⟩ y5 :=
  ⟨_, (((((Turn.set w b 0 y0 hb).trans (Turn.set _ b 1 y1 hb)).trans (Turn.set _ b 2 y2 hb)).trans (Turn.set _ b 3 y3 hb)).trans (Turn.set _ b 4 y4 hb)).trans (Turn.set _ b 5 y5 hb), rfl⟩
set_option maxRecDepth 100000 in
set_option maxHeartbeats 2000000 in
theorem makeFile_f (k th w0 t rt rm fm : Nat) (fs : Value) (used now last m : Int) (w : World) (hm : w.cell? ⟨0, 0, none⟩ = some (.int .i64 m)) (h : Tr0 w0 w t rt rm fm) (hK : KnAt w k (ptr t) fs used now th last) :
    Calls Tryz.prog 144 #[ptr k, .string sE, .string p_f] w fun r w' => ∃ n md, r = .returned (.tuple #[st2, .int .i64 0]) ∧ Mf w w' t rt rm fm n md now ∧ Turn [t, fm, rm] w w' := by
  have c0 := h_cell hK 0 rfl
  have c3 := h_cell hK 3 rfl
  obtain ⟨w1, hw1⟩ : ∃ w1, w1 = w.alloc (.cells #[.int .i64 0, .bool false, .int .i64 0, .int .i64 0, .int .i64 0, .int .i64 0] 60) := ⟨_, rfl⟩
  have d0 : w1.cell? ⟨k, 0, none⟩ = some (ptr t) := by rw [hw1]; exact al_cell _ c0
  have d3 : w1.cell? ⟨k, 3, none⟩ = some (.int .i64 now) := by rw [hw1]; exact al_cell _ c3
  have hT1 : Tr0 w0 w1.drew t rt rm fm := by rw [hw1]; exact h.turn (S := []) ((Turn.alloc w _).drew) (by simp)
  have hm1 : w1.drew.cell? ⟨0, 0, none⟩ = some (.int .i64 m) := by rw [hw1]; exact al_cell _ hm
  have hP1 : StAt w1.drew w.heap.size (.int .i64 0) (.bool false) (.int .i64 0) (.int .i64 0) (.int .i64 0) (.int .i64 0) := by rw [hw1]; exact al_new _ _ rfl
  have hmk := make_f w0 t rt rm fm now m w1.drew hm1 hT1
  have HP := Lib.hid (And.intro hP1 (And.intro h (show Turn [t, fm, rm] w w1.drew by rw [hw1]; exact (Turn.alloc w _).drew)))
  have hz1 : w1.heap.size = w.heap.size + 1 := by rw [hw1]; simp
  have hlts : t < w.heap.size ∧ fm < w.heap.size ∧ rm < w.heap.size := ⟨h.hT.lt, h.hF.lt, h.hM.lt⟩
  clear hK h hT1 hm1 hP1
  go_enter Tryz.func144, Tryz.ntmps144
  go_wp2_with fail
  rw [← hw1]
  clear hw1 c0 c3
  go_region_with (go_at_call 170; refine hmk.mono ?_; rintro r w2 ⟨n, md, rfl, hn0, hn, hE, hF, hT, hU⟩)
  all_goals
    obtain ⟨hP1, h, hUw⟩ := HP.out
    have hP2 : StAt w2 w.heap.size _ _ _ _ _ _ := hU.ob hP1 (by simp; omega)
    have s0 : w2.cell? ⟨w.heap.size, 0, none⟩ = some (.int .i64 0) := by simpa using hP2.c 0
    have s1 : w2.cell? ⟨w.heap.size, 1, none⟩ = some (.bool false) := by simpa using hP2.c 1
    have s2 : w2.cell? ⟨w.heap.size, 2, none⟩ = some (.int .i64 0) := by simpa using hP2.c 2
    have s3 : w2.cell? ⟨w.heap.size, 3, none⟩ = some (.int .i64 0) := by simpa using hP2.c 3
    have s4 : w2.cell? ⟨w.heap.size, 4, none⟩ = some (.int .i64 0) := by simpa using hP2.c 4
    have s5 : w2.cell? ⟨w.heap.size, 5, none⟩ = some (.int .i64 0) := by simpa using hP2.c 5
    have z0 := hP2.fz 0
    have z1 := hP2.fz 1
    have z2 := hP2.fz 2
    have z3 := hP2.fz 3
    have z4 := hP2.fz 4
    have z5 := hP2.fz 5
    have HX := Lib.hid (And.intro hn (And.intro hE (And.intro hF (And.intro hT (And.intro hU (And.intro hP2 hUw))))))
    clear hn hE hF hT hU hP1 h hUw
    go_wp2_with fail
    refine bodyPost_ret (results_s rfl rfl (hP2.set _ _ _ _ _ _) rfl) rfl ?_
    obtain ⟨hn, hE, hF, hT, hU, _, hUw⟩ := HX.out
    obtain ⟨w3, hU3, hw3⟩ := st_turn (S := [w.heap.size]) w2 w.heap.size (.int .i64 2) (.bool false) (.int .i64 0) (.int .i64 0) (.int .i64 0) (.int .i64 0) (by simp)
    rw [← hw3]
    have hM : Mf w w2 t rt rm fm n md now := ⟨by have : w1.heap.size ≤ n := hn0; omega, hn, hE, hF, hT⟩
    have hnn : w1.heap.size ≤ n := hn0
    refine ⟨n, md, rfl, hM.turn hU3 (by simp; omega), ?_⟩
    exact ⟨hU3.os.trans (hU.os.trans hUw.os), hU3.tape.trans (hU.tape.trans hUw.tape), hU3.output.trans (hU.output.trans hUw.output), Nat.le_trans hUw.size (Nat.le_trans hU.size hU3.size), fun x hx hs => (hU3.block x (Nat.lt_of_lt_of_le hx (Nat.le_trans hUw.size hU.size)) (by simp; omega)).trans ((hU.block x (Nat.lt_of_lt_of_le hx hUw.size) hs).trans (hUw.block x hx hs))⟩
end Go.Proofs.YtbbmihlabllliaaGreatDoor
/- A file is opened that is not there: of the chapter's examples. -/
namespace Go.Proofs.YtbbmihlabllliaaGreatDoor
open Go.RowKit Go.Shelf Go.Maps

set_option maxRecDepth 100000 in
set_option maxHeartbeats 2000000 in
theorem reach_f (k th w0 t rt rm fm : Nat) (fs : Value) (used now last m : Int) (w : World) (hm : w.cell? ⟨0, 0, none⟩ = some (.int .i64 m)) (h : Tr0 w0 w t rt rm fm) (hK : KnAt w k (ptr t) fs used now th last) :
    Calls Tryz.prog 107 #[ptr k, .string sE, .string p_f, .int .i64 2] w fun r w' => ∃ n md, r = .returned (.tuple #[st2, .int .i64 0]) ∧ Mf w w' t rt rm fm n md now ∧ Turn [t, fm, rm] w w' := by
  obtain ⟨w1, hw1⟩ : ∃ w1, w1 = w.alloc (.cells #[.int .i64 0, .bool false, .int .i64 0, .int .i64 0, .int .i64 0, .int .i64 0] 60) := ⟨_, rfl⟩
  have hU1 : Turn [] w w1 := by rw [hw1]; exact Turn.alloc w _
  have hP1 : StAt w1 w.heap.size (.int .i64 0) (.bool false) (.int .i64 0) (.int .i64 0) (.int .i64 0) (.int .i64 0) := by rw [hw1]; exact al_new _ _ rfl
  have hK1 : KnAt w1 k (ptr t) fs used now th last := hU1.ob hK (by simp)
  have hT1 := h.turn hU1 (by simp)
  have hm1 := hU1.cell hm (by simp)
  have hz1 : w1.heap.size = w.heap.size + 1 := by rw [hw1]; simp
  have hlts : t < w.heap.size ∧ fm < w.heap.size ∧ rm < w.heap.size := ⟨h.hT.lt, h.hF.lt, h.hM.lt⟩
  have c0 := h_cell hK1 0 rfl
  have hst := stat_f w0 t rt rm fm m w1 hm1 hT1
  have H1 := Lib.hid (And.intro hU1 (And.intro hP1 (And.intro hK1 (And.intro hT1 hm1))))
  clear hU1 hP1 hK1 hT1 hm1 hm h hK
  go_enter Tryz.func107, Tryz.ntmps107
  go_upto_region 1 with fail
  rw [← hw1]
  clear hw1
  go_wp2_with fail
  refine hst.mono ?_
  rintro r w2 ⟨rfl, hB2⟩
  obtain ⟨hU1, hP1, hK1, hT1, hm1⟩ := H1.out
  obtain ⟨w3, hw3⟩ : ∃ w3, w3 = w2.alloc (.cells #[.int .i64 0, .bool false, .int .i64 0, .int .i64 0, .int .i64 0, .int .i64 0] 60) := ⟨_, rfl⟩
  have hU13 : Turn [] w1 w3 := by rw [hw3]; exact (Turn.below hB2).trans (Turn.alloc w2 _)
  have hmk := makeFile_f k th w0 t rt rm fm fs used now last m w3 (hU13.cell hm1 (by simp)) (hT1.turn hU13 (by simp)) (hU13.ob hK1 (by simp))
  have H3 := Lib.hid (And.intro (hU1.trans hU13) (hU13.ob hP1 (by simp)))
  have hz3 : w1.heap.size ≤ w3.heap.size := hU13.size
  clear H1 hU1 hP1 hK1 hT1 hm1 hU13 hst hB2 c0
  go_upto_region 4 with fail
  rw [← hw3]
  clear hw3
  go_wp2_with fail
  refine hmk.mono ?_
  rintro r w4 ⟨n, md, rfl, hMf, hU4⟩
  obtain ⟨hUw, hP3⟩ := H3.out
  have hP2 : StAt w4 w.heap.size _ _ _ _ _ _ := hU4.ob hP3 (by simp; omega)
  have s0 : w4.cell? ⟨w.heap.size, 0, none⟩ = some (.int .i64 0) := by simpa using hP2.c 0
  have s1 : w4.cell? ⟨w.heap.size, 1, none⟩ = some (.bool false) := by simpa using hP2.c 1
  have s2 : w4.cell? ⟨w.heap.size, 2, none⟩ = some (.int .i64 0) := by simpa using hP2.c 2
  have s3 : w4.cell? ⟨w.heap.size, 3, none⟩ = some (.int .i64 0) := by simpa using hP2.c 3
  have s4 : w4.cell? ⟨w.heap.size, 4, none⟩ = some (.int .i64 0) := by simpa using hP2.c 4
  have s5 : w4.cell? ⟨w.heap.size, 5, none⟩ = some (.int .i64 0) := by simpa using hP2.c 5
  have z0 := hP2.fz 0
  have z1 := hP2.fz 1
  have z2 := hP2.fz 2
  have z3 := hP2.fz 3
  have z4 := hP2.fz 4
  have z5 := hP2.fz 5
  have HX := Lib.hid (And.intro hMf (And.intro hU4 hUw))
  clear hMf hU4 hUw hP3 H3 hmk
  go_wp2_with fail
  refine bodyPost_ret (results_s rfl rfl (hP2.set _ _ _ _ _ _) rfl) rfl ?_
  obtain ⟨hMf, hU4, hUw⟩ := HX.out
  obtain ⟨w5, hU5, hw5⟩ := st_turn (S := [w.heap.size]) w4 w.heap.size (.int .i64 2) (.bool false) (.int .i64 0) (.int .i64 0) (.int .i64 0) (.int .i64 0) (by simp)
  rw [← hw5]
  have hn0 := hMf.n0
  have hM2 : Mf w w4 t rt rm fm n md now := ⟨by omega, hMf.hn, hMf.hE, hMf.hF, hMf.hT⟩
  refine ⟨n, md, rfl, hM2.turn hU5 (by simp; omega), ?_⟩
  exact ⟨hU5.os.trans (hU4.os.trans hUw.os), hU5.tape.trans (hU4.tape.trans hUw.tape), hU5.output.trans (hU4.output.trans hUw.output), Nat.le_trans hUw.size (Nat.le_trans hU4.size hU5.size), fun x hx hs => (hU5.block x (Nat.lt_of_lt_of_le hx (Nat.le_trans hUw.size hU4.size)) (by simp; omega)).trans ((hU4.block x (Nat.lt_of_lt_of_le hx hUw.size) hs).trans (hUw.block x hx (by simp)))⟩
end Go.Proofs.YtbbmihlabllliaaGreatDoor
/- The file is held; it is a descriptor's. -/
namespace Go.Proofs.YtbbmihlabllliaaGreatDoor
open Go.RowKit Go.Shelf Go.Maps

/-- A file of the tree, open. -/
structure Of (w w' : World) (k th t rt rm fm n e : Nat) (N : Nat) (D : DataW Value) (fs : Value) (used now last : Int) (md : Int) (c : Int) : Prop where
  e0 : w.heap.size ≤ e
  n0 : w.heap.size ≤ n
  hf : FiAt w' e c (last + 1) 2 2 0
  hn : NdAt w' n ⟨2, md, now, false, .pointer none, .map none, .slice none 0 0, 1, 1⟩
  hE : w'.ownsMap Tryz.prog 9 R rm 1 (mE.put (sk s_f) (.held (ptr n)))
  hF : w'.ownsMap Tryz.prog 3 R fm 1 (mE.put (ik 2) (.held (ptr n)))
  hT : TrAt w' t (ptr rt) (.map (some fm)) (.int .i64 1) (.int .i64 2)
  hK : KnAt w' k (ptr t) fs used now th (last + 1)
  hM : w'.ownsMap Tryz.prog 3 R th (N + 1) (D.put (ik (last + 1)) (.held (iFi e)))

theorem mapi_ne {w : World} {b n t2 b2 kt : Nat} {D : DataW Value} {cs : Array Value} {fz : Nat × Nat} (h : w.ownsMap Tryz.prog kt R b n D) (h2 : w.heap[b2]? = some (.cells cs t2 fz)) : b ≠ b2 := fun e => by
  obtain ⟨es, c, he, _⟩ := h
  rw [e, h2] at he; cases he

set_option maxRecDepth 100000 in
set_option maxHeartbeats 4000000 in
theorem open_f (k th w0 t rt rm fm N : Nat) (D : DataW Value) (fs : Value) (used now last m : Int) (w : World) (hm : w.cell? ⟨0, 0, none⟩ = some (.int .i64 m)) (h : Tr0 w0 w t rt rm fm) (hK : KnAt w k (ptr t) fs used now th last) (hM : w.ownsMap Tryz.prog 3 R th N D) (hN : N < 999999) (h0 : 0 ≤ last) (h1 : last < 4611686018427387903) (hth : th ≠ fm ∧ th ≠ rm) :
    Calls Tryz.prog 55 #[ptr k, .string sE, .string p_f, .int .i64 2] w fun r w' => ∃ e n md, r = .returned (.tuple #[iFi e, .int .i64 0]) ∧ Of w w' k th t rt rm fm n e N D fs used now last md 0 ∧ Turn [t, fm, rm, k, th] w w' := by
  have hlts : t < w.heap.size ∧ fm < w.heap.size ∧ rm < w.heap.size ∧ k < w.heap.size ∧ th < w.heap.size := ⟨h.hT.lt, h.hF.lt, h.hM.lt, h_lt hK, hM.lt⟩
  have n1 := mapi_ne h.hF hK
  have n2 := mapi_ne h.hM hK
  have n3 := h_ne (show w.heap[t]? = _ from h.hT) hK (by decide)
  have n4 := mapi_ne hM (show w.heap[t]? = _ from h.hT)
  have n5 := mapi_ne hM hK
  have hre := reach_f k th w0 t rt rm fm fs used now last m w hm h hK
  have HH := Lib.hid (And.intro hK hM)
  clear hm h hK hM
  go_enter Tryz.func55, Tryz.ntmps55
  go_wp2_with fail
  refine hre.mono ?_
  rintro r w1 ⟨n, md, rfl, hMf, hU1⟩
  obtain ⟨hK, hM⟩ := HH.out
  have hz1 := hU1.size
  have hn0 := hMf.n0
  have hnl := hMf.hn.lt
  have hK1 := hU1.ob hK (by simp; omega)
  have hM1 := hU1.map hM (by simp; omega)
  obtain ⟨w2, hw2⟩ : ∃ w2, w2 = (w1.alloc (.cells #[.int .i64 2, .bool false, .int .i64 0, .int .i64 0, .int .i64 0, .int .i64 0] 60)).alloc (.cells #[.int .i64 0, .int .i64 0, .int .i64 2, .int .i64 2, .int .i64 0] 193) := ⟨_, rfl⟩
  have hU2 : Turn [] w1 w2 := by rw [hw2]; exact (Turn.alloc w1 _).trans (Turn.alloc _ _)
  have hf2 : FiAt w2 (w1.heap.size + 1) 0 0 2 2 0 := by rw [hw2]; exact al_new _ _ (by simp)
  have hadd := add_c k th N (ptr t) fs (iFi (w1.heap.size + 1)) used now last D w2 (hU2.ob hK1 (by simp)) (hU2.map hM1 (by simp)) (by omega) h0 (by omega)
  have hz2 := hU2.size
  have H2 := Lib.hid (And.intro (hMf.turn hU2 (by simp)) (And.intro hf2 (And.intro hU1 hU2)))
  have hfl := h_lt hf2
  clear HH hK hM hMf hU1 hK1 hM1 hU2 hf2 hre
  go_upto_region 9 with fail
  rw [← hw2]
  clear hw2
  go_wp2_with fail
  refine hadd.mono ?_
  rintro r w3 ⟨rfl, hK3, hM3, hU3⟩
  obtain ⟨hMf2, hf2, hU1, hU2⟩ := H2.out
  have hnl2 := hMf2.hn.lt
  have hf3 := hU3.ob hf2 (by simp; omega)
  have f1 := h_cell hf3 1 rfl
  have z1 := h_fz hf3 1
  obtain ⟨w4, hw4⟩ : ∃ w4, w4 = w3.setCell ⟨w1.heap.size + 1, 1, none⟩ (.int .i64 (last + 1)) := ⟨_, rfl⟩
  have hU4 : Turn [w1.heap.size + 1] w3 w4 := by rw [hw4]; exact Turn.set w3 _ 1 _ (by simp)
  have hf4 : FiAt w4 (w1.heap.size + 1) 0 (last + 1) 2 2 0 := by rw [hw4]; simpa using h_set hf3 1 (.int .i64 (last + 1))
  have hMf3 := hMf2.turn hU3 (by simp; omega)
  have hne4 := h_ne (show w3.heap[n]? = _ from hMf3.hn) hf3 (by decide)
  have hne5 := mapi_ne hMf3.hF hf3
  have hne9 := mapi_ne hMf3.hE hf3
  have hne6 := h_ne (show w3.heap[t]? = _ from hMf3.hT) hf3 (by decide)
  have hne7 := h_ne hK3 hf3 (by decide)
  have hne8 := mapi_ne hM3 hf3
  have hMf4 := hMf3.turn hU4 (by simp; omega)
  have hK4 := hU4.ob hK3 (by simp; omega)
  have hM4 := hU4.map hM3 (by simp; omega)
  have k0 := h_cell hK4 0 rfl
  have f2 := h_cell hf4 2 rfl
  have hh := Lib.hid (fun q => hold_c t n fm 1 _ 2 _ _ _ _ (w4.drewN q) hMf4.hT hMf4.hF (by decide) (look_put_same isMap_E (isKey_i 2) _) hMf4.hn (show (0 : Int) ≤ 0 by decide) (show (0 : Int) < 4611686018427387904 by decide))
  have HX := Lib.hid (And.intro hf4 (And.intro hMf4 (And.intro hK4 (And.intro hM4 (And.intro hU1 (And.intro hU2 (And.intro hU3 hU4)))))))
  have hnl4 := hMf4.hn.lt
  clear hadd H2 hMf2 hf2 hU1 hU2 hf3 hMf3 hMf4 hK3 hM3 hK4 hM4 hf4 hU3 hU4
  go_upto_region 10 with fail
  rw [← hw4]
  clear hw4 f1 z1
  have hh1 := hh.out 1
  go_region_with (go_at_call 108; refine hh1.mono ?_; rintro r w5 ⟨⟨x5, rfl⟩, hn5, hU5⟩)
  all_goals
    go_wp2_with fail
    refine bodyPost_ret (results_tmp2 rfl _ _ _) rfl ?_
    obtain ⟨hf4, hMf4, hK4, hM4, hU1, hU2, hU3, hU4⟩ := HX.out
    have hU5' : Turn [n] w4 w5 := ⟨hU5.os, hU5.tape, hU5.output, hU5.size, hU5.block⟩
    have e1 := h_ne hf4 (show w4.heap[n]? = _ from hMf4.hn) (by decide)
    have e2 := mapi_ne hMf4.hF (show w4.heap[n]? = _ from hMf4.hn)
    have e6 := mapi_ne hMf4.hE (show w4.heap[n]? = _ from hMf4.hn)
    have e3 := h_ne (show w4.heap[t]? = _ from hMf4.hT) (show w4.heap[n]? = _ from hMf4.hn) (by decide)
    have e4 := h_ne hK4 (show w4.heap[n]? = _ from hMf4.hn) (by decide)
    have e5 := mapi_ne hM4 (show w4.heap[n]? = _ from hMf4.hn)
    refine ⟨w1.heap.size + 1, n, md, rfl, ⟨by omega, by omega, hU5'.ob hf4 (by simp; omega), hn5, hU5'.map hMf4.hE (by simp; omega), hU5'.map hMf4.hF (by simp; omega), hU5'.tr hMf4.hT (by simp; omega), hU5'.ob hK4 (by simp; omega), hU5'.map hM4 (by simp; omega)⟩, ?_⟩
    have hz3 := hU3.size
    have hz4 := hU4.size
    exact ⟨hU5.os.trans (hU4.os.trans (hU3.os.trans (hU2.os.trans hU1.os))), hU5.tape.trans (hU4.tape.trans (hU3.tape.trans (hU2.tape.trans hU1.tape))), hU5.output.trans (hU4.output.trans (hU3.output.trans (hU2.output.trans hU1.output))), by have := hU5'.size; omega, fun x hx hs => by
      simp only [List.mem_cons, List.not_mem_nil, or_false, not_or] at hs
      rw [hU5'.block x (by omega) (by simp; omega), hU4.block x (by omega) (by simp; omega), hU3.block x (by omega) (by simp; omega), hU2.block x (by omega) (by simp), hU1.block x hx (by simp; omega)]⟩
end Go.Proofs.YtbbmihlabllliaaGreatDoor
