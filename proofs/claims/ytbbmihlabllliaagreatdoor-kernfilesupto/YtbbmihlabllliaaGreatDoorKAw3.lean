/- The reads of the source. -/
import Derived.Test.YtbbmihlabllliaaGreatDoorKAw2
namespace Go.Proofs.YtbbmihlabllliaaGreatDoor
open Go.RowKit Go.Shelf Go.Maps
section
variable {w0 : World} {M : Nat} {w : World} {t rt rm fm k fb th t0 pb : Nat} {fv x1 x2 x3 x4 : Value} {hs : Array Value} {last : Int} {N : Nat} {D : DataW Value}

set_option maxHeartbeats 1000000 in
theorem a_read1 {e g cap : Nat} (h : Kf w0 M w t rt rm fm k fb th t0 pb fv x1 x2 x3 x4 hs 0 last N D) (hso : So w M e g 0 3 cap 1 [97, 98, 99]) (h0 : hs[0]? = some (iSo e)) :
    Calls Tryz.prog 14 #[ptr t0, .int .i64 0, .int .i64 2] w fun r w' => ∃ v1, r = .returned (.tuple #[v1, .int .i64 0]) ∧ Kf w0 M w' t rt rm fm k fb th t0 pb fv x1 x2 x3 x4 hs 1 last N D ∧ So w' M e g 1 2 (cap - 1) 1 [98, 99] ∧ Kept w.heap.size w'.heap.size w' v1 [97] ∧ w.heap.size ≤ w'.heap.size := by
  have hbk := h.bk
  have hne : e ≠ k := h_ne hso.hS h.hK (by decide)
  have hcap : 3 ≤ cap := by have := hso.hcap; omega
  have hg0 := hso.g0
  refine tread_c t0 k 0 hs 135 e 2 _ w h.T (by decide) h0 ?_
  refine (read_ok k (iSo e) 2 1 (fun w1 => Kf w0 M w1 t rt rm fm k fb th t0 pb fv x1 x2 x3 x4 hs 1 last N D ∧ So w1 M e g 0 3 cap 1 [97, 98, 99] ∧ Turn [k] w w1) (fun v1 w2 => Kf w0 M w2 t rt rm fm k fb th t0 pb fv x1 x2 x3 x4 hs 1 last N D ∧ So w2 M e g 1 2 (cap - 1) 1 [98, 99] ∧ Kept w.heap.size w2.heap.size w2 v1 [97] ∧ w.heap.size ≤ w2.heap.size) w (mayRead_so e 2 w (by decide)) ?_ ?_).mono ?_
  · refine (befall_short k fb th 0 (ptr t) fv l2 5 last 2 false w h.hK h.hF (by decide) rfl).mono ?_
    rintro r w1 ⟨rfl, hK, hU⟩
    exact ⟨rfl, h.kern (by simpa using hK) hU, hso.turn hU (by simp; omega), hU⟩
  · rintro w1 ⟨h1, hs1, hU1⟩
    refine (take_so k e g 0 3 cap 1 1 1 [97, 98, 99] w1 hs1.hS rfl (by decide) rfl hcap hs1.hc).mono ?_
    rintro r w2 ⟨v1, A, rfl, ho, hS, hA, hU2⟩
    have hA' := hA (by omega)
    subst hA'
    have hge := hs1.ge
    have hee := hs1.e0
    have ho' : w2.ownsRow w.heap.size 5 1 v1 1 (u8s [97]) := ⟨ho.1, ho.2.imp id (by rintro ⟨g', cap', cur, e1, e2, e3⟩; exact ⟨g', cap', cur, e1, Nat.le_trans hU1.size e2, e3⟩)⟩
    exact ⟨v1, rfl, h1.turn hU2 (by simpa using hee), ⟨hS, rfl, by omega, fun j hj => by
      have := hU2.cell (hs1.hc (j + 1) (by omega)) (by simpa using hge)
      rw [show (0 + (j + 1)) = (0 + 1 + j) by omega] at this
      simpa using this, hs1.e0, hs1.g0, hs1.ge⟩, Kept.mk' ho' rfl, Nat.le_trans hU1.size hU2.size⟩
  · rintro r w2 ⟨v1, rfl, hq⟩
    exact ⟨v1, 0, rfl, v1, rfl, hq⟩

set_option maxHeartbeats 1000000 in
theorem a_read2 {e g cap : Nat} (h : Kf w0 M w t rt rm fm k fb th t0 pb fv x1 x2 x3 x4 hs 1 last N D) (hso : So w M e g 1 2 cap 1 [98, 99]) (h0 : hs[0]? = some (iSo e)) :
    Calls Tryz.prog 14 #[ptr t0, .int .i64 0, .int .i64 2] w fun r w' => r = .returned (.tuple #[.slice none 0 0, .int .i64 9]) ∧ Kf w0 M w' t rt rm fm k fb th t0 pb fv x1 x2 x3 x4 hs 2 last N D ∧ So w' M e g 1 2 cap 1 [98, 99] ∧ Turn [k] w w' := by
  have hbk := h.bk
  have hne : e ≠ k := h_ne hso.hS h.hK (by decide)
  have hg0 := hso.g0
  refine tread_c t0 k 0 hs 135 e 2 _ w h.T (by decide) h0 ?_
  refine (read_err k (iSo e) 2 0 9 (fun w1 => Kf w0 M w1 t rt rm fm k fb th t0 pb fv x1 x2 x3 x4 hs 2 last N D ∧ So w1 M e g 1 2 cap 1 [98, 99] ∧ Turn [k] w w1) w (by decide) (mayRead_so e 2 w (by decide)) ?_).mono ?_
  · refine (befall_intr k fb th 1 (ptr t) fv l2 5 last 2 false w h.hK h.hF (by decide) rfl).mono ?_
    rintro r w1 ⟨rfl, hK, hU⟩
    exact ⟨rfl, h.kern (by simpa using hK) hU, hso.turn hU (by simp; omega), hU⟩
  · rintro r w2 ⟨rfl, hq⟩
    exact ⟨_, 9, rfl, rfl, hq⟩

set_option maxHeartbeats 1000000 in
theorem a_read3 {e g cap : Nat} (h : Kf w0 M w t rt rm fm k fb th t0 pb fv x1 x2 x3 x4 hs 2 last N D) (hso : So w M e g 1 2 cap 1 [98, 99]) (h0 : hs[0]? = some (iSo e)) :
    Calls Tryz.prog 14 #[ptr t0, .int .i64 0, .int .i64 2] w fun r w' => ∃ v1 c rest, r = .returned (.tuple #[v1, .int .i64 0]) ∧ Kf w0 M w' t rt rm fm k fb th t0 pb fv x1 x2 x3 x4 hs 2 last N D ∧ Kept w.heap.size w'.heap.size w' v1 [98, 99] ∧ SoAt w' e c rest ∧ Turn [e] w w' := by
  have hee := hso.e0
  refine tread_c t0 k 0 hs 135 e 2 _ w h.T (by decide) h0 ?_
  refine (read_ok k (iSo e) 2 2 (fun w1 => Turn [] w w1) (fun v1 w2 => Kf w0 M w2 t rt rm fm k fb th t0 pb fv x1 x2 x3 x4 hs 2 last N D ∧ Kept w.heap.size w2.heap.size w2 v1 [98, 99] ∧ (∃ c rest, SoAt w2 e c rest) ∧ Turn [e] w w2) w (mayRead_so e 2 w (by decide)) (h.none 2 false) ?_).mono ?_
  · intro w1 hU1
    have hs1 := hso.turn hU1 (by simp)
    refine (take_so k e g 1 2 cap 2 2 1 [98, 99] w1 hs1.hS rfl (by decide) rfl (by have := hs1.hcap; omega) hs1.hc).mono ?_
    rintro r w2 ⟨v1, A, rfl, ho, hS, hA, hU2⟩
    have hU : Turn [e] w w2 := (hU1.mono (by simp)).trans hU2
    have ho' : w2.ownsRow w.heap.size 5 1 v1 2 (u8s [98, 99]) := ⟨ho.1, ho.2.imp id (by rintro ⟨g', cap', cur, e1, e2, e3⟩; exact ⟨g', cap', cur, e1, Nat.le_trans hU1.size e2, e3⟩)⟩
    exact ⟨v1, rfl, h.turn hU (by simpa using hee), Kept.mk' ho' rfl, ⟨_, _, hS⟩, hU⟩
  · rintro r w2 ⟨v1, rfl, hq1, hq2, ⟨c, rest, hq3⟩, hq4⟩
    exact ⟨v1, 0, rfl, v1, c, rest, rfl, hq1, hq2, hq3, hq4⟩
end
end Go.Proofs.YtbbmihlabllliaaGreatDoor
