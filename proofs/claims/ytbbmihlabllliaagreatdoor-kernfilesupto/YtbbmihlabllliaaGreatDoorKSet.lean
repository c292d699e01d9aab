/- The pipe's ends are put into the two tables. -/
import Derived.Test.YtbbmihlabllliaaGreatDoorKLoop
namespace Go.Proofs.YtbbmihlabllliaaGreatDoor
open Go.RowKit Go.Shelf Go.Maps

theorem map_ne {w : World} {b n t2 b2 : Nat} {D : DataW Value} {cs : Array Value} {fz : Nat × Nat} (h : w.ownsMap Tryz.prog 3 R b n D) (h2 : w.heap[b2]? = some (.cells cs t2 fz)) : b ≠ b2 := fun e => by
  obtain ⟨es, c, he, _⟩ := h
  rw [e, h2] at he; cases he
abbrev dPipe (re we : Nat) : DataW Value := (mE.put (ik 1) (.held (iRe re))).put (ik 2) (.held (iWe we))
theorem ik12 : ik 1 ≠ ik 2 := fun h => by injection h with _ h; exact absurd h (by decide)
theorem look_re (re we : Nat) : lookT (dPipe re we) (ik 1) = iRe re := by
  rw [lookT_put_other ik12]
  exact lookT_put_same isMap_E (by trivial) _
theorem look_we (re we : Nat) : lookT (dPipe re we) (ik 2) = iWe we := lookT_put_same (isMap_E.put _ _) (by trivial) _

structure Sx (w0 : World) (w : World) (k fb th t0 t1 pb p re we : Nat) (tr fv x1 x2 x3 : Value) (l : List (Int × Int)) (a0 : Array Value) (rc : Int) : Prop where
  hK : KnAt w k tr fv 0 0 th 2
  hM : w.ownsMap Tryz.prog 3 R th 2 (dPipe re we)
  hF : Fl w fv fb l
  hP : PpAt w p (.slice none 0 0) re we
  hR : ReAt w re rc p
  hW : WeAt w we 0 p
  T0 : TbAt w t0 k a0
  T1 : TbAt w t1 k nils
  hp : w.heap[pb]? = some (.cells #[ptr k, x1, ptr t0, ptr t1, x2, x3] 48)
  ne : t0 ≠ t1
  fl : fb < w.heap.size
  fk : fb ≠ k
  fp : fb ≠ p
  fr : fb ≠ re
  fw : fb ≠ we
  f0 : fb ≠ t0
  f1 : fb ≠ t1
  k0 : w0.heap.size ≤ k
  p0 : w0.heap.size ≤ p
  r0 : w0.heap.size ≤ re
  w0' : w0.heap.size ≤ we
  t00 : w0.heap.size ≤ t0
  t10 : w0.heap.size ≤ t1
  bl : Below w0.heap.size w0 w
section
variable {w0 w : World} {k fb th t0 t1 pb p re we : Nat} {tr fv x1 x2 x3 : Value} {l : List (Int × Int)} {a0 : Array Value} {rc : Int}
set_option maxHeartbeats 2000000 in
theorem sx_put0 (h : Sx w0 w k fb th t0 t1 pb p re we tr fv x1 x2 x3 l nils 0) :
    Calls Tryz.prog 12 #[ptr t0, .int .i64 0, .int .i64 1] w fun r w' => r = .returned (.int .i64 0) ∧ Sx w0 w' k fb th t0 t1 pb p re we tr fv x1 x2 x3 l (hs0 re) 1 := by
  have hne := h_ne h.T0 h.hR (by decide)
  have hcl : w.cell? ⟨re, 0, none⟩ = some (.int .i64 0) := h_cell h.hR 0 rfl
  have hst := set_re t0 k 0 re 0 nils w h.T0 (by decide) rfl hcl (h_fz h.hR 0) (by decide) (by decide) hne
  refine (put_any t0 k 0 th 2 nils 96 re tr fv 0 0 2 1 (dPipe re we) _ w h.T0 h.hK h.hM (by decide) (by decide) (look_re re we) hst).mono ?_
  rintro r w' ⟨rfl, rfl⟩
  have hU : Turn [re, t0] w ((w.setCell ⟨re, 0, none⟩ (.int .i64 (0 + 1))).setCell ⟨t0, 1 + 0, none⟩ (iRe re)) := (Turn.set w re 0 _ (by simp)).trans (Turn.set _ t0 _ _ (by simp))
  have a1 := h_ne h.hK h.hR (by decide)
  have a2 := h_ne h.hK h.T0 (by decide)
  have a3 := h_ne h.hP h.hR (by decide)
  have a4 := h_ne h.hP h.T0 (by decide)
  have a5 := h_ne h.hW h.hR (by decide)
  have a6 := h_ne h.hW h.T0 (by decide)
  have a7 := h_ne h.T1 h.hR (by decide)
  have a8 := h_ne h.hp h.hR (by decide)
  have a9 := h_ne h.hp h.T0 (by decide)
  have m1 := map_ne h.hM h.hR
  have m2 := map_ne h.hM h.T0
  have b1 := h.r0
  have b2 := h.t00
  have b3 := h.fr
  have b4 := h.f0
  have b5 := h.ne
  have hT := tb_set (s_other (c := re) (i := 0) (v := .int .i64 (0 + 1)) h.T0 hne) 0 (iRe re)
  have hRr : ReAt (w.setCell ⟨re, 0, none⟩ (.int .i64 (0 + 1))) re 1 p := by simpa using h_set h.hR 0 (.int .i64 (0 + 1))
  exact ⟨rfl, { h with
    hK := hU.ob h.hK (by simp; omega), hM := hU.map h.hM (by simp; omega), hF := h.hF.turn hU (by simp; omega), hP := hU.ob h.hP (by simp; omega)
    hR := s_other hRr (Ne.symm hne), hW := hU.ob h.hW (by simp; omega), T0 := hT, T1 := hU.ob h.T1 (by simp; omega), hp := hU.ob h.hp (by simp; omega)
    fl := Nat.lt_of_lt_of_le h.fl hU.size
    bl := h.bl.trans ⟨hU.os, hU.tape, hU.output, hU.size, fun x hx => hU.block x (by have := h.bl.size; omega) (by simp; omega)⟩ }⟩

set_option maxHeartbeats 2000000 in
theorem sx_put1 (h : Sx w0 w k fb th t0 t1 pb p re we tr fv x1 x2 x3 l (hs0 re) 1) (bs : List UInt8) (hk : ∀ j, j < l.length → (l[j]?.getD (0, 0)).1 = 1 ∨ (l[j]?.getD (0, 0)).1 = 2) :
    Calls Tryz.prog 12 #[ptr t1, .int .i64 1, .int .i64 2] w fun r w' => r = .returned (.int .i64 0) ∧ Rs w0 bs ⟨w'.heap.size, k, fb, th, re, we, p, tr, fv, l, 0, 2, 1⟩ t0 t1 pb x1 x2 x3 w' 0 0 0 0 (.slice none 0 0) (.slice none 0 0) := by
  have hne := h_ne h.T1 h.hW (by decide)
  have hcl : w.cell? ⟨we, 0, none⟩ = some (.int .i64 0) := h_cell h.hW 0 rfl
  have hst := set_we t1 k 1 we 0 nils w h.T1 (by decide) rfl hcl (h_fz h.hW 0) (by decide) (by decide) hne
  refine (put_any t1 k 1 th 2 nils 97 we tr fv 0 0 2 2 (dPipe re we) _ w h.T1 h.hK h.hM (by decide) (by decide) (look_we re we) hst).mono ?_
  rintro r w' ⟨rfl, rfl⟩
  have hU : Turn [we, t1] w ((w.setCell ⟨we, 0, none⟩ (.int .i64 (0 + 1))).setCell ⟨t1, 1 + 1, none⟩ (iWe we)) := (Turn.set w we 0 _ (by simp)).trans (Turn.set _ t1 _ _ (by simp))
  have hsz : ((w.setCell ⟨we, 0, none⟩ (.int .i64 (0 + 1))).setCell ⟨t1, 1 + 1, none⟩ (iWe we)).heap.size = w.heap.size := by simp [World.setCell]
  have a1 := h_ne h.hK h.hW (by decide)
  have a2 := h_ne h.hK h.T1 (by decide)
  have a3 := h_ne h.hP h.hW (by decide)
  have a4 := h_ne h.hP h.T1 (by decide)
  have a5 := h_ne h.hR h.hW (by decide)
  have a6 := h_ne h.hR h.T1 (by decide)
  have a7 := h_ne h.T0 h.hW (by decide)
  have a8 := h_ne h.hp h.hW (by decide)
  have a9 := h_ne h.hp h.T1 (by decide)
  have b1 := h.w0'
  have b2 := h.t10
  have b3 := h.fw
  have b4 := h.f1
  have b5 := h.ne
  have c1 := h_lt h.hK
  have c2 := h_lt h.hP
  have c3 := h_lt h.hR
  have c4 := h_lt h.hW
  have c5 := h_lt h.T0
  have c6 := h_lt h.T1
  have c7 := h_lt h.hp
  have c8 := h.fl
  have c9 := h.bl.size
  have hT := tb_set (s_other (c := we) (i := 0) (v := .int .i64 (0 + 1)) h.T1 hne) 1 (iWe we)
  have hWw : WeAt (w.setCell ⟨we, 0, none⟩ (.int .i64 (0 + 1))) we 1 p := by simpa using h_set h.hW 0 (.int .i64 (0 + 1))
  have hbl : Below w0.heap.size w0 ((w.setCell ⟨we, 0, none⟩ (.int .i64 (0 + 1))).setCell ⟨t1, 1 + 1, none⟩ (iWe we)) := h.bl.trans ⟨hU.os, hU.tape, hU.output, hU.size, fun x hx => hU.block x (by omega) (by simp; omega)⟩
  refine ⟨rfl, ⟨hU.ob h.T0 (by simp; omega), hT, hU.ob h.hp (by simp; omega), by rw [hsz]; exact c5, by rw [hsz]; exact c6, by rw [hsz]; exact c7, h.ne, h.k0, h.p0, h.w0', h.t10, by rw [hsz]; exact c9, h.fw, h.f1, hbl⟩,
    ⟨⟨by rw [hsz]; exact c1, by rw [hsz]; exact c8, by rw [hsz]; exact c3, by rw [hsz]; exact c4, by rw [hsz]; exact c2, h.fk, h.fp, hk, (show ((1 : Int) == 0) = false from by decide)⟩, hU.ob h.hK (by simp; omega), h.hF.turn hU (by simp; omega), hU.ob h.hR (by simp; omega), s_other hWw (Ne.symm hne), hU.ob h.hP (by simp; omega), by simpa [u8s] using World.ownsRow_nil _ _ _ _, Nat.le_refl _, Nat.zero_le _, by simp⟩,
    by simpa [u8s] using World.ownsRow_nil _ _ _ _, fun g hg => by simp [Value.ownBlock] at hg, Nat.le_refl _, Nat.le_refl _, Nat.zero_le _⟩
end
end Go.Proofs.YtbbmihlabllliaaGreatDoor
