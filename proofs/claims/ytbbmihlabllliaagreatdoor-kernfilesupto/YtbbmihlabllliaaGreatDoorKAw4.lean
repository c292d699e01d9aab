/- The pipe of the chapter's examples. -/
import Derived.Test.YtbbmihlabllliaaGreatDoorKAw3
namespace Go.Proofs.YtbbmihlabllliaaGreatDoor
open Go.RowKit Go.Shelf Go.Maps
abbrev D3 (so re we : Nat) : DataW Value := ((mE.put (ik 1) (.held (iSo so))).put (ik 2) (.held (iRe re))).put (ik 3) (.held (iWe we))
theorem ik23 : ik 2 ≠ ik 3 := fun h => by injection h with _ h; exact absurd h (by decide)
theorem lk2 (so re we : Nat) : lookT (D3 so re we) (ik 2) = iRe re := by
  rw [lookT_put_other ik23]
  exact lookT_put_same (isMap_E.put _ _) (by trivial) _
theorem lk3 (so re we : Nat) : lookT (D3 so re we) (ik 3) = iWe we := lookT_put_same ((isMap_E.put _ _).put _ _) (by trivial) _
abbrev h0 (so : Nat) : Array Value := #[iSo so, .nilIface, .nilIface, .nilIface, .nilIface, .nilIface, .nilIface, .nilIface, .nilIface, .nilIface, .nilIface, .nilIface, .nilIface, .nilIface, .nilIface, .nilIface]
abbrev h4 (so re we : Nat) : Array Value := #[iSo so, .nilIface, .nilIface, iRe re, iWe we, .nilIface, .nilIface, .nilIface, .nilIface, .nilIface, .nilIface, .nilIface, .nilIface, .nilIface, .nilIface, .nilIface]

structure Pi (w : World) (M p re we : Nat) (v : Value) (rc wc : Int) : Prop where
  hP : PpAt w p v re we
  hR : ReAt w re rc p
  hW : WeAt w we wc p
  p0 : M ≤ p
  r0 : M ≤ re
  w0' : M ≤ we
theorem Pi.turn {w w' : World} {M p re we : Nat} {v : Value} {rc wc : Int} {S : List Nat} (h : Pi w M p re we v rc wc) (hU : Turn S w w') (hS : p ∉ S ∧ re ∉ S ∧ we ∉ S) : Pi w' M p re we v rc wc :=
  ⟨hU.ob h.hP hS.1, hU.ob h.hR hS.2.1, hU.ob h.hW hS.2.2, h.p0, h.r0, h.w0'⟩
section
variable {w0 : World} {M : Nat} {w : World} {t rt rm fm k fb th t0 pb so p re we : Nat} {fv x1 x2 x3 x4 : Value} {hs : Array Value} {last : Int} {N : Nat} {D : DataW Value}

theorem a_pipe (h : Kf w0 M w t rt rm fm k fb th t0 pb fv x1 x2 x3 x4 hs 2 1 1 (mE.put (ik 1) (.held (iSo so)))) :
    Calls Tryz.prog 11 #[ptr k] w fun r w' => ∃ p re we, r = .returned (.tuple #[.int .i64 2, .int .i64 3]) ∧ Kf w0 M w' t rt rm fm k fb th t0 pb fv x1 x2 x3 x4 hs 2 3 3 (D3 so re we) ∧ Pi w' M p re we (.slice none 0 0) 0 0 ∧ w.heap.size ≤ p ∧ w.heap.size ≤ re ∧ w.heap.size ≤ we ∧ Turn [k, th] w w' := by
  refine (pipe_c k th 1 (ptr t) fv 2 5 1 _ w h.hK h.hM (by decide) (by decide) (by decide)).mono ?_
  rintro r w' ⟨p, re, we, rfl, hp, hr, hw, hP, hR, hW, hK, hM, hU⟩
  have hmz := h.mz
  exact ⟨p, re, we, rfl, h.add (by simpa using hK) (by simpa using hM) hU, ⟨hP, hR, hW, by omega, by omega, by omega⟩, hp, hr, hw, hU⟩

set_option maxHeartbeats 1000000 in
theorem a_put3 (h : Kf w0 M w t rt rm fm k fb th t0 pb fv x1 x2 x3 x4 (h0 so) 2 3 3 (D3 so re we)) (hp : Pi w M p re we (.slice none 0 0) 0 0) :
    Calls Tryz.prog 12 #[ptr t0, .int .i64 3, .int .i64 2] w fun r w' => r = .returned (.int .i64 0) ∧ Kf w0 M w' t rt rm fm k fb th t0 pb fv x1 x2 x3 x4 ((h0 so).setIfInBounds 3 (iRe re)) 2 3 3 (D3 so re we) ∧ Pi w' M p re we (.slice none 0 0) 1 0 ∧ Turn [t0, re] w w' := by
  have hne := h_ne h.T hp.hR (by decide)
  have hcl : w.cell? ⟨re, 0, none⟩ = some (.int .i64 0) := h_cell hp.hR 0 rfl
  have hst := set_re t0 k 3 re 0 (h0 so) w h.T (by decide) rfl hcl (h_fz hp.hR 0) (by decide) (by decide) hne
  refine (put_any t0 k 3 th 3 (h0 so) 96 re (ptr t) fv 2 5 3 2 _ _ w h.T h.hK h.hM (by decide) (by decide) (lk2 so re we) hst).mono ?_
  rintro r w' ⟨rfl, rfl⟩
  have hU : Turn [t0, re] w ((w.setCell ⟨re, 0, none⟩ (.int .i64 (0 + 1))).setCell ⟨t0, 1 + 3, none⟩ (iRe re)) := (Turn.set w re 0 _ (by simp)).trans (Turn.set _ t0 _ _ (by simp))
  have hT := tb_set (s_other (c := re) (i := 0) (v := .int .i64 (0 + 1)) h.T hne) 3 (iRe re)
  have hRr : ReAt (w.setCell ⟨re, 0, none⟩ (.int .i64 (0 + 1))) re 1 p := by simpa using h_set hp.hR 0 (.int .i64 (0 + 1))
  have a1 := h_ne hp.hP hp.hR (by decide)
  have a2 := h_ne hp.hW hp.hR (by decide)
  have a3 := h_ne hp.hP h.T (by decide)
  have a4 := h_ne hp.hW h.T (by decide)
  exact ⟨rfl, h.tab hT hU (by simpa using hp.r0), ⟨hU.ob hp.hP (by simp; omega), s_other hRr (Ne.symm hne), hU.ob hp.hW (by simp; omega), hp.p0, hp.r0, hp.w0'⟩, hU⟩
set_option maxHeartbeats 1000000 in
theorem a_put4 (h : Kf w0 M w t rt rm fm k fb th t0 pb fv x1 x2 x3 x4 ((h0 so).setIfInBounds 3 (iRe re)) 2 3 3 (D3 so re we)) (hp : Pi w M p re we (.slice none 0 0) 1 0) :
    Calls Tryz.prog 12 #[ptr t0, .int .i64 4, .int .i64 3] w fun r w' => r = .returned (.int .i64 0) ∧ Kf w0 M w' t rt rm fm k fb th t0 pb fv x1 x2 x3 x4 (h4 so re we) 2 3 3 (D3 so re we) ∧ Pi w' M p re we (.slice none 0 0) 1 1 ∧ Turn [t0, we] w w' := by
  have hne := h_ne h.T hp.hW (by decide)
  have hcl : w.cell? ⟨we, 0, none⟩ = some (.int .i64 0) := h_cell hp.hW 0 rfl
  have hst := set_we t0 k 4 we 0 ((h0 so).setIfInBounds 3 (iRe re)) w h.T (by decide) rfl hcl (h_fz hp.hW 0) (by decide) (by decide) hne
  refine (put_any t0 k 4 th 3 ((h0 so).setIfInBounds 3 (iRe re)) 97 we (ptr t) fv 2 5 3 3 _ _ w h.T h.hK h.hM (by decide) (by decide) (lk3 so re we) hst).mono ?_
  rintro r w' ⟨rfl, rfl⟩
  have hU : Turn [t0, we] w ((w.setCell ⟨we, 0, none⟩ (.int .i64 (0 + 1))).setCell ⟨t0, 1 + 4, none⟩ (iWe we)) := (Turn.set w we 0 _ (by simp)).trans (Turn.set _ t0 _ _ (by simp))
  have hT := tb_set (s_other (c := we) (i := 0) (v := .int .i64 (0 + 1)) h.T hne) 4 (iWe we)
  have hWw : WeAt (w.setCell ⟨we, 0, none⟩ (.int .i64 (0 + 1))) we 1 p := by simpa using h_set hp.hW 0 (.int .i64 (0 + 1))
  have a1 := h_ne hp.hP hp.hW (by decide)
  have a2 := h_ne hp.hR hp.hW (by decide)
  have a3 := h_ne hp.hP h.T (by decide)
  have a4 := h_ne hp.hR h.T (by decide)
  exact ⟨rfl, h.tab hT hU (by simpa using hp.w0'), ⟨hU.ob hp.hP (by simp; omega), hU.ob hp.hR (by simp; omega), s_other hWw (Ne.symm hne), hp.p0, hp.r0, hp.w0'⟩, hU⟩

theorem a_again (h : Kf w0 M w t rt rm fm k fb th t0 pb fv x1 x2 x3 x4 (h4 so re we) 2 last N D) (hp : Pi w M p re we (.slice none 0 0) 1 1) :
    Calls Tryz.prog 14 #[ptr t0, .int .i64 3, .int .i64 9] w fun r w' => r = .returned (.tuple #[.slice none 0 0, .int .i64 10]) ∧ w' = w := by
  refine tread_c t0 k 3 (h4 so re we) 96 re 9 _ w h.T (by decide) rfl ?_
  refine (read_no k (iRe re) 9 10 w (by decide) (mayRead_again re we p none 0 1 1 9 w hp.hR hp.hP hp.hW (by decide) (by decide))).mono ?_
  rintro r w' ⟨rfl, rfl⟩
  exact ⟨_, _, rfl, rfl, rfl⟩

set_option maxHeartbeats 1000000 in
theorem a_write (h : Kf w0 M w t rt rm fm k fb th t0 pb fv x1 x2 x3 x4 (h4 so re we) 2 last N D) (hp : Pi w M p re we (.slice none 0 0) 1 1) (b o : Nat) (hc : w.cell? ⟨b, o, none⟩ = some (.int .u8 120)) :
    Calls Tryz.prog 13 #[ptr t0, .int .i64 4, .slice (some ⟨b, o, none⟩) 1 1] w fun r w' => ∃ v2, r = .returned (.tuple #[.int .i64 1, .int .i64 0]) ∧ Kf w0 M w' t rt rm fm k fb th t0 pb fv x1 x2 x3 x4 (h4 so re we) 2 last N D ∧ Pi w' M p re we v2 1 1 ∧ w'.ownsRow w.heap.size 5 1 v2 1 (u8s [120]) ∧ Turn [p] w w' := by
  have hmz := h.mz
  have hp0 := hp.p0
  have a1 := h_ne hp.hR hp.hP (by decide)
  have a2 := h_ne hp.hW hp.hP (by decide)
  refine twrite_c t0 k 4 (h4 so re we) 97 we _ _ w h.T (by decide) rfl ?_
  refine (write_ok k (iWe we) ⟨b, o, none⟩ 1 1 64 1 (fun w1 => Turn [] w w1) (fun w2 => ∃ v2, Kf w0 M w2 t rt rm fm k fb th t0 pb fv x1 x2 x3 x4 (h4 so re we) 2 last N D ∧ Pi w2 M p re we v2 1 1 ∧ w2.ownsRow w.heap.size 5 1 v2 1 (u8s [120]) ∧ Turn [p] w w2) w (by decide) (by decide) (by decide) (isW_we we w) ?_ ?_ ?_).mono ?_
  · refine (room_ok k we p re none 0 0 1 1 w hp.hW hp.hP hp.hR (by decide) (by decide)).mono ?_
    rintro r w' ⟨rfl, rfl⟩
    exact ⟨rfl, 0, rfl⟩
  · intro q
    have hq := h.turn (w' := w.drewN q) ((Turn.refl [] w).drewN q) (by simp)
    refine (hq.none 1 true).mono ?_
    rintro r w' ⟨rfl, hU⟩
    exact ⟨rfl, ((Turn.refl [] w).drewN q).trans hU⟩
  · intro w1 hU1
    have hp1 := hp.turn hU1 (by simp)
    refine (give_we k we re p w.heap.size b o 1 1 (.slice none 0 0) 1 [] [120] w1 hp1.hW hp1.hP (World.ownsRow_nil _ _ _ _) hU1.size (by decide) rfl (by decide) (by decide) (fun j hj => by
      obtain rfl : j = 0 := by omega
      exact hU1.cell hc (by simp))).mono ?_
    rintro r w2 ⟨hx, v2, hP2, ho2, _, hU2⟩
    have hU : Turn [p] w w2 := (hU1.mono (by simp)).trans (hU2.mono (by simp [Value.ownBlock]))
    exact ⟨hx, v2, h.turn hU (by simpa using hp0), ⟨hP2, hU.ob hp.hR (by simpa using a1), hU.ob hp.hW (by simpa using a2), hp.p0, hp.r0, hp.w0'⟩, ho2, hU⟩
  · rintro r w2 ⟨rfl, v2, hq⟩
    exact ⟨1, 0, rfl, v2, rfl, hq⟩

set_option maxHeartbeats 1000000 in
/-- A Read of all that there is, or of the end. -/
theorem a_take {hs' : Array Value} {v : Value} {d : List UInt8} {wc : Int} (h : Kf w0 M w t rt rm fm k fb th t0 pb fv x1 x2 x3 x4 hs' 2 last N D) (hx : hs'[3]? = some (iRe re)) (hp : Pi w M p re we v 1 wc) {B : Nat} (ho : w.ownsRow B 5 1 v d.length (u8s d)) (hB : M ≤ B) (hd : d.length ≤ 9) (hwc : d.length = 0 → wc = 0) :
    Calls Tryz.prog 14 #[ptr t0, .int .i64 3, .int .i64 9] w fun r w' => ∃ v1 v2, r = .returned (.tuple #[v1, .int .i64 0]) ∧ Kf w0 M w' t rt rm fm k fb th t0 pb fv x1 x2 x3 x4 hs' 2 last N D ∧ Pi w' M p re we v2 1 wc ∧ w'.ownsRow B 5 1 v2 0 (u8s []) ∧ Kept w.heap.size w'.heap.size w' v1 d ∧ v2.ownBlock = v.ownBlock ∧ Turn (p :: v.ownBlock.toList) w w' := by
  have hmz := h.mz
  have hp0 := hp.p0
  have a1 := h_ne hp.hR hp.hP (by decide)
  have a2 := h_ne hp.hW hp.hP (by decide)
  have a3 : v.ownBlock ≠ some re := row_ne ho hp.hR (by decide)
  have a4 : v.ownBlock ≠ some we := row_ne ho hp.hW (by decide)
  obtain ⟨a, L, cap, hv, hL⟩ : ∃ a L cap, v = .slice a L cap ∧ L = d.length := by
    rcases (row_split ho).2 with ⟨rfl, h0⟩ | ⟨g, cap, rfl, _⟩
    · exact ⟨_, _, _, rfl, h0.symm⟩
    · exact ⟨_, _, _, rfl, rfl⟩
  have hP := hp.hP
  rw [hv] at hP
  refine tread_c t0 k 3 hs' 96 re 9 _ w h.T (by decide) hx ?_
  refine (read_ok k (iRe re) 9 9 (fun w1 => Turn [] w w1) (fun v1 w2 => ∃ v2, Kf w0 M w2 t rt rm fm k fb th t0 pb fv x1 x2 x3 x4 hs' 2 last N D ∧ Pi w2 M p re we v2 1 wc ∧ w2.ownsRow B 5 1 v2 0 (u8s []) ∧ Kept w.heap.size w2.heap.size w2 v1 d ∧ v2.ownBlock = v.ownBlock ∧ Turn (p :: v.ownBlock.toList) w w2) w ?_ (h.none 9 false) ?_).mono ?_
  · by_cases h0 : d.length = 0
    · obtain rfl := hwc h0
      obtain rfl : L = 0 := by omega
      exact mayRead_end re we p a cap 1 9 w hp.hR hP hp.hW (by decide)
    · exact mayRead_data re p we a L cap 1 9 w hp.hR hP (by decide) (by omega)
  · intro w1 hU1
    have hp1 := hp.turn hU1 (by simp)
    refine (take_re k re we p B 9 v 1 d w1 hp1.hR hp1.hP (own_turn ho hU1 (by simp)) (by omega) (by decide) (by decide)).mono ?_
    rintro r w2 ⟨v1, v2, rfl, ho1, hP2, ho2, hbl, hU2⟩
    rw [List.take_of_length_le hd] at ho1
    rw [List.drop_eq_nil_of_le hd] at ho2
    have hU : Turn (p :: v.ownBlock.toList) w w2 := (hU1.mono (by simp)).trans hU2
    have ho' : w2.ownsRow w.heap.size 5 1 v1 d.length (u8s d) := ⟨ho1.1, ho1.2.imp id (by rintro ⟨g', cap', cur, e1, e2, e3⟩; exact ⟨g', cap', cur, e1, Nat.le_trans hU1.size e2, e3⟩)⟩
    have hS : ∀ x, x ∈ p :: v.ownBlock.toList → M ≤ x := fun x hx => by
      rcases List.mem_cons.1 hx with rfl | hx
      · exact hp0
      · have := own_ge ho (g := x) (by simpa using hx); omega
    have hno : ∀ x, x ≠ p → v.ownBlock ≠ some x → x ∉ p :: v.ownBlock.toList := fun x h1 h2 e => by
      rcases List.mem_cons.1 e with e | e
      · exact h1 e
      · exact h2 (by simpa using e)
    exact ⟨v1, rfl, v2, h.turn hU hS, ⟨hP2, hU.ob hp.hR (hno _ a1 a3), hU.ob hp.hW (hno _ a2 a4), hp.p0, hp.r0, hp.w0'⟩, by simpa using ho2, Kept.mk' ho' rfl, hbl, hU⟩
  · rintro r w2 ⟨v1, rfl, v2, hq⟩
    exact ⟨v1, 0, rfl, v1, v2, rfl, hq⟩

set_option maxHeartbeats 1000000 in
theorem a_close {v : Value} (h : Kf w0 M w t rt rm fm k fb th t0 pb fv x1 x2 x3 x4 (h4 so re we) 2 last N D) (hp : Pi w M p re we v 1 1) :
    Calls Tryz.prog 15 #[ptr t0, .int .i64 4] w fun r w' => r = .returned (.int .i64 0) ∧ Kf w0 M w' t rt rm fm k fb th t0 pb fv x1 x2 x3 x4 (hsA so re) 2 last N D ∧ Pi w' M p re we v 1 0 ∧ Turn [t0, we] w w' := by
  have hne := h_ne h.T hp.hW (by decide)
  have hW2 : WeAt (w.setCell ⟨t0, 1 + 4, none⟩ .nilIface) we 1 p := s_other hp.hW (Ne.symm hne)
  have hcl : (w.setCell ⟨t0, 1 + 4, none⟩ .nilIface).cell? ⟨we, 0, none⟩ = some (.int .i64 1) := h_cell hW2 0 rfl
  refine (close_any t0 k 4 (h4 so re we) 97 we _ w h.T (by decide) rfl (leave_we k we 1 _ hcl (h_fz hW2 0) (by decide) (by decide))).mono ?_
  rintro r w' ⟨rfl, rfl⟩
  have hU : Turn [t0, we] w ((w.setCell ⟨t0, 1 + 4, none⟩ .nilIface).setCell ⟨we, 0, none⟩ (.int .i64 (1 - 1))) := (Turn.set w t0 _ _ (by simp)).trans (Turn.set _ we 0 _ (by simp))
  have hT : TbAt ((w.setCell ⟨t0, 1 + 4, none⟩ .nilIface).setCell ⟨we, 0, none⟩ (.int .i64 (1 - 1))) t0 k (hsA so re) := s_other (tb_set h.T 4 .nilIface) hne
  have hWz : WeAt ((w.setCell ⟨t0, 1 + 4, none⟩ .nilIface).setCell ⟨we, 0, none⟩ (.int .i64 (1 - 1))) we 0 p := by simpa using h_set hW2 0 (.int .i64 (1 - 1))
  have a1 := h_ne hp.hP hp.hW (by decide)
  have a2 := h_ne hp.hR hp.hW (by decide)
  have a3 := h_ne hp.hP h.T (by decide)
  have a4 := h_ne hp.hR h.T (by decide)
  exact ⟨rfl, h.tab hT hU (by simpa using hp.w0'), ⟨hU.ob hp.hP (by simp; omega), hU.ob hp.hR (by simp; omega), hWz, hp.p0, hp.r0, hp.w0'⟩, hU⟩
end
end Go.Proofs.YtbbmihlabllliaaGreatDoor
