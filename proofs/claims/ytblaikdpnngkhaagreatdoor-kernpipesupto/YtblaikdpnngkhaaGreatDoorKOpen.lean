/- A file is made in the root by being opened: of the chapter's examples. -/
import Derived.Test.YtblaikdpnngkhaaGreatDoorKSrc
import Derived.Test.YtblaikdpnngkhaaGreatDoorKNew2
import Derived.Test.YtblaikdpnngkhaaGreatDoorStat
namespace Go.Proofs.YtblaikdpnngkhaaGreatDoor
open Go.RowKit Go.Shelf Go.Maps

abbrev s_f : ByteArray := ⟨#[102]⟩
abbrev p_f : ByteArray := ⟨#[47, 102]⟩
theorem pts_f : ptsOf p_f = [s_f] := by kernel_rfl
theorem ah_f : aheadS p_f = p_r := by kernel_rfl
theorem la_f : lastS p_f = s_f := by kernel_rfl
theorem nm_f : isNm s_f = true := by kernel_rfl
theorem ab_f : isAbs p_f = true ∧ isEnd p_f = false ∧ p_f.toList.isEmpty = false := ⟨by kernel_rfl, by kernel_rfl, by kernel_rfl⟩
theorem do_f : isDot s_f = false ∧ s_f.toList.isEmpty = false := ⟨by kernel_rfl, by kernel_rfl⟩
theorem fd_f : ¬ s_f = ⟨#[46]⟩ ∧ ¬ s_f = ⟨#[46, 46]⟩ := ⟨by decide, by decide⟩

theorem find_f (rt rm : Nat) : findF (g0 rt rm) rt rt p_f = .error 1 := by
  have h1 : leadF (g0 rt rm) rt [s_f] = .error 1 := by simp [leadF, stepF, g0_rt, fd_f.1, fd_f.2, nm_f, look_empty, isNil]
  rw [findF, if_neg (by rw [ab_f.2.2]; decide), if_neg (by rw [ab_f.2.1]; decide)]
  simp [ab_f.1, pts_f, h1]

set_option maxRecDepth 100000 in
set_option maxHeartbeats 2000000 in
theorem stat_err (t : Nat) (e : Int) (hne : e ≠ 0) (cwd s : ByteArray) (w : World) (hf : ∀ w2, Below w.heap.size w w2 → Calls Tryz.prog 56 #[.pointer (some ⟨t, 0, none⟩), .string cwd, .string s] w2 fun r w' => r = .returned (leadV (.error e)) ∧ Below w2.heap.size w2 w') :
    Calls Tryz.prog 18 #[.pointer (some ⟨t, 0, none⟩), .string cwd, .string s] w fun r w' => r = .returned (.tuple #[.agg #[.int .i64 0, .bool false, .int .i64 0, .int .i64 0, .int .i64 0, .int .i64 0], .int .i64 e]) ∧ Below w.heap.size w w' := by
  have hB1 : Below w.heap.size w (w.alloc (.cells #[.int .i64 0, .bool false, .int .i64 0, .int .i64 0, .int .i64 0, .int .i64 0] 60)) := (Below.refl _ w).alloc (Nat.le_refl _) _
  have hP1 : StAt (w.alloc (.cells #[.int .i64 0, .bool false, .int .i64 0, .int .i64 0, .int .i64 0, .int .i64 0] 60)) w.heap.size _ _ _ _ _ _ := al_new _ _ rfl
  have hff := hf _ hB1
  simp only [leadV] at hff
  have hne' : (e != 0) = true := by simpa using hne
  clear hf
  go_enter Tryz.func18, Tryz.ntmps18
  go_wp2_with (go_at_call 56; refine hff.mono ?_; rintro r w2 ⟨rfl, hB2⟩; have hP2 : StAt w2 w.heap.size _ _ _ _ _ _ := (hB2.block _ (by simp)).trans hP1; have s0 : w2.cell? ⟨w.heap.size, 0, none⟩ = some (.int .i64 0) := (by simpa using hP2.c 0); have s1 : w2.cell? ⟨w.heap.size, 1, none⟩ = some (.bool false) := (by simpa using hP2.c 1); have s2 : w2.cell? ⟨w.heap.size, 2, none⟩ = some (.int .i64 0) := (by simpa using hP2.c 2); have s3 : w2.cell? ⟨w.heap.size, 3, none⟩ = some (.int .i64 0) := (by simpa using hP2.c 3); have s4 : w2.cell? ⟨w.heap.size, 4, none⟩ = some (.int .i64 0) := (by simpa using hP2.c 4); have s5 : w2.cell? ⟨w.heap.size, 5, none⟩ = some (.int .i64 0) := (by simpa using hP2.c 5); have z0 := hP2.fz 0; have z1 := hP2.fz 1; have z2 := hP2.fz 2; have z3 := hP2.fz 3; have z4 := hP2.fz 4; have z5 := hP2.fz 5)
  have hB20 : Below w.heap.size w w2 := hB1.trans (hB2.mono (by simp))
  refine bodyPost_ret (results_s rfl rfl (hP2.set _ _ _ _ _ _) rfl) rfl ?_
  exact ⟨rfl, (((((hB20.setCell (p := ⟨w.heap.size, 0, none⟩) (Nat.le_refl _) _).setCell (p := ⟨w.heap.size, 1, none⟩) (Nat.le_refl _) _).setCell (p := ⟨w.heap.size, 2, none⟩) (Nat.le_refl _) _).setCell (p := ⟨w.heap.size, 3, none⟩) (Nat.le_refl _) _).setCell (p := ⟨w.heap.size, 4, none⟩) (Nat.le_refl _) _).setCell (p := ⟨w.heap.size, 5, none⟩) (Nat.le_refl _) _⟩

theorem stat_f (w0 t rt rm fm : Nat) (m : Int) (w : World) (hm : w.cell? ⟨0, 0, none⟩ = some (.int .i64 m)) (h : Tr0 w0 w t rt rm fm) :
    Calls Tryz.prog 18 #[.pointer (some ⟨t, 0, none⟩), .string sE, .string p_f] w fun r w' => r = .returned (.tuple #[.agg #[.int .i64 0, .bool false, .int .i64 0, .int .i64 0, .int .i64 0, .int .i64 0], .int .i64 1]) ∧ Below w.heap.size w w' := by
  refine stat_err t 1 (by decide) sE p_f w (fun w2 hB => ?_)
  have hr0 : (g0 rt rm rt).isSome = true := by rw [g0_rt]; rfl
  have hA : Amb (g0 rt rm) m w := ⟨hm, gr0 rt rm h.hN h.hM⟩
  have := find_c (g0 rt rm) (closed0 rt rm) t rt rt _ _ _ sE p_f m w2 (by decide) (by decide) (hA.below hB) (h.hT.below hB h.hT.lt) hr0 hr0 ab_f.2.2 (toDir_empty (g0_rt rt rm) rfl pts_E)
  rw [find_f] at this
  exact this

/-- The file is made in the root. -/
theorem make_f (w0 t rt rm fm : Nat) (now m : Int) (w1 : World) (hm : w1.cell? ⟨0, 0, none⟩ = some (.int .i64 m)) (h : Tr0 w0 w1 t rt rm fm) :
    Calls Tryz.prog 170 #[.pointer (some ⟨t, 0, none⟩), .string sE, .string p_f, .bool false, .int .i64 420, .int .i64 now] w1 fun r w' => ∃ n md, r = .returned (.tuple #[.int .i64 2, .int .i64 0]) ∧ w1.heap.size ≤ n ∧
      NdAt w' n ⟨2, md, now, false, .pointer none, .map none, .slice none 0 0, 1, 0⟩ ∧ w'.ownsMap Tryz.prog 3 R fm 1 (mE.put (ik 2) (.held (ptr n))) ∧ TrAt w' t (ptr rt) (.map (some fm)) (.int .i64 1) (.int .i64 2) ∧ Turn [t, fm, rm] w1 w' := by
  have hr0 : (g0 rt rm rt).isSome = true := by rw [g0_rt]; rfl
  have hsk : seekF (g0 rt rm) rt rt p_f 2 = .ok ⟨rt, s_f, .pointer none, false⟩ := by
    have := seekF_mk (g := g0 rt rm) (root := rt) (home := rt) (s := p_f) (non := 2) ab_f.2.2 (by rw [ite_self, ah_f]; exact toDir_empty (g0_rt rt rm) rfl pts_r) (by rw [la_f, do_f.1, do_f.2]; rfl) (by rw [la_f]; exact nm_f) (g0_rt rt rm)
    rw [this, la_f, ab_f.2.1, look_empty]
  refine (make_file (g0 rt rm) (closed0 rt rm) t rt rt rt 0 rm 0 fm 0 s_f false 0 1 (xr rt rm) mE mE sE p_f 420 now m w1 (by decide) (by decide) ⟨hm, gr0 rt rm h.hN h.hM⟩ h.hT hr0 hr0 (toDir_empty (g0_rt rt rm) rfl pts_E) ⟨hsk, ⟨_, h.hN, rfl⟩, by omega, by omega, by omega, by decide, g0_rt rt rm, h.hN, rfl, h.hM, by omega⟩ rfl h.hF (by omega) h.hmf (by decide) (by decide)).mono ?_
  rintro r w' ⟨n, md, rfl, h1, h2, _, h4, h5, h6⟩
  exact ⟨n, md, rfl, h1, h2, h4, h5, h6⟩

abbrev st0 : Value := .agg #[.int .i64 0, .bool false, .int .i64 0, .int .i64 0, .int .i64 0, .int .i64 0]
abbrev st2 : Value := .agg #[.int .i64 2, .bool false, .int .i64 0, .int .i64 0, .int .i64 0, .int .i64 0]
/-- What stands behind the making of the file. -/
structure Mf (w w' : World) (t rt fm n : Nat) (md now : Int) : Prop where
  n0 : w.heap.size ≤ n
  hn : NdAt w' n ⟨2, md, now, false, .pointer none, .map none, .slice none 0 0, 1, 0⟩
  hF : w'.ownsMap Tryz.prog 3 R fm 1 (mE.put (ik 2) (.held (ptr n)))
  hT : TrAt w' t (ptr rt) (.map (some fm)) (.int .i64 1) (.int .i64 2)
theorem Mf.turn {w w' w2 : World} {t rt fm n : Nat} {md now : Int} {S : List Nat} (h : Mf w w' t rt fm n md now) (hU : Turn S w' w2) (hs : n ∉ S ∧ fm ∉ S ∧ t ∉ S) : Mf w w2 t rt fm n md now :=
  ⟨h.n0, hU.nd h.hn hs.1, hU.map h.hF hs.2.1, hU.tr h.hT hs.2.2⟩

theorem st_turn {S : List Nat} (w : World) (b : Nat) (y0 y1 y2 y3 y4 y5 : Value) (hb : b ∈ S) : ∃ w3, Turn S w w3 ∧ w3 = (((((w.setCell ⟨b, 0, none⟩ y0).setCell ⟨b, 1, none⟩ y1).setCell ⟨b, 2, none⟩ y2).setCell ⟨b, 3, none⟩ y3).setCell ⟨b, 4, none⟩ y4).setCell ⟨b, 5, none⟩ y5 :=
  ⟨_, (((((Turn.set w b 0 y0 hb).trans (Turn.set _ b 1 y1 hb)).trans (Turn.set _ b 2 y2 hb)).trans (Turn.set _ b 3 y3 hb)).trans (Turn.set _ b 4 y4 hb)).trans (Turn.set _ b 5 y5 hb), rfl⟩
set_option maxRecDepth 100000 in
set_option maxHeartbeats 2000000 in
theorem makeFile_f (k th w0 t rt rm fm : Nat) (fs : Value) (used now last m : Int) (w : World) (hm : w.cell? ⟨0, 0, none⟩ = some (.int .i64 m)) (h : Tr0 w0 w t rt rm fm) (hK : KnAt w k (ptr t) fs used now th last) :
    Calls Tryz.prog 144 #[ptr k, .string sE, .string p_f] w fun r w' => ∃ n md, r = .returned (.tuple #[st2, .int .i64 0]) ∧ Mf w w' t rt fm n md now ∧ Turn [t, fm, rm] w w' := by
  have c0 := h_cell hK 0 rfl
  have c3 := h_cell hK 3 rfl
  obtain ⟨w1, hw1⟩ : ∃ w1, w1 = w.alloc (.cells #[.int .i64 0, .bool false, .int .i64 0, .int .i64 0, .int .i64 0, .int .i64 0] 60) := ⟨_, rfl⟩
  have d0 : w1.cell? ⟨k, 0, none⟩ = some (ptr t) := by rw [hw1]; exact al_cell _ c0
  have d3 : w1.cell? ⟨k, 3, none⟩ = some (.int .i64 now) := by rw [hw1]; exact al_cell _ c3
  have hT1 : Tr0 w0 w1.drew t rt rm fm := by rw [hw1]; exact h.turn (S := []) ((Turn.alloc w _).drew) (by simp)
  have hm1 : w1.drew.cell? ⟨0, 0, none⟩ = some (.int .i64 m) := by rw [hw1]; exact al_cell _ hm
  have hP1 : StAt w1.drew w.heap.size (.int .i64 0) (.bool false) (.int .i64 0) (.int .i64 0) (.int .i64 0) (.int .i64 0) := by rw [hw1]; exact al_new _ _ rfl
  have hmk := make_f w0 t rt rm fm now m w1.drew hm1 hT1
  have HP := Lib.hid (And.intro hP1 (And.intro h (show Turn [t, fm, rm] w w1.drew by rw [hw1]; exact (Turn.alloc w _).drew)))
  have hz1 : w1.heap.size = w.heap.size + 1 := by rw [hw1]; simp
  have hlts : t < w.heap.size ∧ fm < w.heap.size ∧ rm < w.heap.size := ⟨h.hT.lt, h.hF.lt, h.hM.lt⟩
  clear hK h hT1 hm1 hP1
  go_enter Tryz.func144, Tryz.ntmps144
  go_wp2_with fail
  rw [← hw1]
  clear hw1 c0 c3
  go_region_with (go_at_call 170; refine hmk.mono ?_; rintro r w2 ⟨n, md, rfl, hn0, hn, hF, hT, hU⟩)
  all_goals
    obtain ⟨hP1, h, hUw⟩ := HP.out
    have hP2 : StAt w2 w.heap.size _ _ _ _ _ _ := hU.ob hP1 (by simp; omega)
    have s0 : w2.cell? ⟨w.heap.size, 0, none⟩ = some (.int .i64 0) := by simpa using hP2.c 0
    have s1 : w2.cell? ⟨w.heap.size, 1, none⟩ = some (.bool false) := by simpa using hP2.c 1
    have s2 : w2.cell? ⟨w.heap.size, 2, none⟩ = some (.int .i64 0) := by simpa using hP2.c 2
    have s3 : w2.cell? ⟨w.heap.size, 3, none⟩ = some (.int .i64 0) := by simpa using hP2.c 3
    have s4 : w2.cell? ⟨w.heap.size, 4, none⟩ = some (.int .i64 0) := by simpa using hP2.c 4
    have s5 : w2.cell? ⟨w.heap.size, 5, none⟩ = some (.int .i64 0) := by simpa using hP2.c 5
    have z0 := hP2.fz 0
    have z1 := hP2.fz 1
    have z2 := hP2.fz 2
    have z3 := hP2.fz 3
    have z4 := hP2.fz 4
    have z5 := hP2.fz 5
    have HX := Lib.hid (And.intro hn (And.intro hF (And.intro hT (And.intro hU (And.intro hP2 hUw)))))
    clear hn hF hT hU hP1 h hUw
    go_wp2_with fail
    refine bodyPost_ret (results_s rfl rfl (hP2.set _ _ _ _ _ _) rfl) rfl ?_
    obtain ⟨hn, hF, hT, hU, _, hUw⟩ := HX.out
    obtain ⟨w3, hU3, hw3⟩ := st_turn (S := [w.heap.size]) w2 w.heap.size (.int .i64 2) (.bool false) (.int .i64 0) (.int .i64 0) (.int .i64 0) (.int .i64 0) (by simp)
    rw [← hw3]
    have hM : Mf w w2 t rt fm n md now := ⟨by have : w1.heap.size ≤ n := hn0; omega, hn, hF, hT⟩
    have hnn : w1.heap.size ≤ n := hn0
    refine ⟨n, md, rfl, hM.turn hU3 (by simp; omega), ?_⟩
    exact ⟨hU3.os.trans (hU.os.trans hUw.os), hU3.tape.trans (hU.tape.trans hUw.tape), hU3.output.trans (hU.output.trans hUw.output), Nat.le_trans hUw.size (Nat.le_trans hU.size hU3.size), fun x hx hs => (hU3.block x (Nat.lt_of_lt_of_le hx (Nat.le_trans hUw.size hU.size)) (by simp; omega)).trans ((hU.block x (Nat.lt_of_lt_of_le hx hUw.size) hs).trans (hUw.block x hx hs))⟩
end Go.Proofs.YtblaikdpnngkhaaGreatDoor
