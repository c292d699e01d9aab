/- The file of the chapter's examples: opened by a table, written to. -/
import Derived.Test.YtbbmihlabllliaaGreatDoorKAw4
namespace Go.Proofs.YtbbmihlabllliaaGreatDoor
open Go.RowKit Go.Shelf Go.Maps

structure Op5 (w0 : World) (M : Nat) (w : World) (t rt fm k fb th t0 pb n e so re : Nat) (fv x1 x2 x3 x4 : Value) (md : Int) : Prop where
  hf : FiAt w e 1 4 2 2 0
  hn : NdAt w n ⟨2, md, 5, false, .pointer none, .map none, .slice none 0 0, 1, 1⟩
  hF : w.ownsMap Tryz.prog 3 R fm 1 (mE.put (ik 2) (.held (ptr n)))
  hT : TrAt w t (ptr rt) (.map (some fm)) (.int .i64 1) (.int .i64 2)
  hK : KnAt w k (ptr t) fv 2 5 th 4
  hFl : Fl w fv fb l2
  T : TbAt w t0 k (hsB so e re)
  hp : w.heap[pb]? = some (.cells #[ptr k, x1, ptr t0, x2, x3, x4] 48)
  n0 : M ≤ n
  e0 : M ≤ e
  fm0 : fb < M
  m0 : w0.heap.size ≤ M
  bl : Below w0.heap.size w0 w
section
variable {w0 : World} {M : Nat} {w : World} {t rt rm fm k fb th t0 pb so re we : Nat} {fv x1 x2 x3 x4 : Value}
set_option maxRecDepth 100000 in
set_option maxHeartbeats 4000000 in
theorem a_open (h : Kf w0 M w t rt rm fm k fb th t0 pb fv x1 x2 x3 x4 (hsA so re) 2 3 3 (D3 so re we)) (m : Int) (hm : w.cell? ⟨0, 0, none⟩ = some (.int .i64 m)) (hft : fb ≠ t ∧ fb ≠ fm ∧ fb ≠ rm) (hpt : pb ≠ fm ∧ pb ≠ rm) (ht0 : w0.heap.size ≤ t ∧ w0.heap.size ≤ fm ∧ w0.heap.size ≤ rm) :
    Calls Tryz.prog 16 #[ptr t0, .string sE, .string p_f, .int .i64 2] w fun r w' => ∃ n e md, r = .returned (.tuple #[.int .i64 1, .int .i64 0]) ∧ Op5 w0 M w' t rt fm k fb th t0 pb n e so re fv x1 x2 x3 x4 md ∧ w.heap.size ≤ n ∧ w.heap.size ≤ e ∧ Turn [t, fm, rm, k, th, t0, e] w w' := by
  have hmz := h.mz
  have q0 := tb_kern h.T
  have hle := least_c t0 k so re w h.T
  have hop := open_f k th w0.heap.size t rt rm fm 3 _ fv 2 5 3 m w hm h.tr h.hK h.hM (by decide) (by decide) (by decide) ⟨h.tf, h.tm⟩
  have a1 := h_ne h.T (show w.heap[t]? = _ from h.tr.hT) (by decide)
  have a2 := mapi_ne h.tr.hF h.T
  have a3 := mapi_ne h.tr.hM h.T
  have a4 := h_ne h.T h.hK (by decide)
  have a5 := mapi_ne h.hM h.T
  have b1 := h_ne h.hp (show w.heap[t]? = _ from h.tr.hT) (by decide)
  have b4 := h_ne h.hp h.hK (by decide)
  have b5 := mapi_ne h.hM h.hp
  have b6 := h_ne h.hp h.T (by decide)
  have c1 := h.fk
  have c2 := h.ft
  have c3 := h.f0
  have hT0l := h_lt h.T
  have hpbl := h_lt h.hp
  have hbt0 := h.bt0
  have hbk := h.bk
  have hbpb := h.bpb
  have HH := Lib.hid h
  have HB := Lib.hid (And.intro h.bl (And.intro h.m0 (And.intro h.bfb (And.intro h.k0 (And.intro h.th0 h.t00)))))
  clear h hm
  go_enter Tryz.func16, Tryz.ntmps16
  go_wp2_with (go_at_call 54; refine hle.mono ?_; rintro r w1 ⟨rfl, hw1⟩; rw [hw1]; clear hw1)
  refine hop.mono ?_
  rintro r w2 ⟨e, n, md, rfl, hOf, hU2⟩
  have h := HH.out
  have he0 := hOf.e0
  have hn0 := hOf.n0
  have hT2 := hU2.ob h.T (by simp; omega)
  have hp2 := hU2.ob h.hp (by simp; omega)
  have hFl2 := h.hF.turn hU2 (by simp; omega)
  have hne := h_ne hT2 hOf.hf (by decide)
  have hcl : w2.cell? ⟨e, 0, none⟩ = some (.int .i64 0) := h_cell hOf.hf 0 rfl
  have hst := set_fi t0 k 1 e 0 (hsA so re) w2 hT2 (by decide) rfl hcl (h_fz hOf.hf 0) (by decide) (by decide) hne
  have HX := Lib.hid (And.intro hOf (And.intro hU2 (And.intro hT2 (And.intro hp2 hFl2))))
  clear hOf hU2 hT2 hp2 hFl2 hop hle HH h hcl
  go_wp2_with fail
  refine hst.mono ?_
  rintro r w3 ⟨⟨x, rfl⟩, hw3⟩
  have hU3 : Turn [t0, e] w2 w3 := by rw [hw3]; exact (Turn.set w2 e 0 _ (by simp)).trans (Turn.set _ t0 _ _ (by simp))
  obtain ⟨hOf, hU2, hT2, hp2, hFl2⟩ := HX.out
  have hT3 : TbAt w3 t0 k (hsB so e re) := by rw [hw3]; exact tb_set (s_other (c := e) (i := 0) (v := .int .i64 (0 + 1)) hT2 hne) 1 (iFi e)
  have hf3 : FiAt w3 e 1 4 2 2 0 := by
    have h1 : FiAt (w2.setCell ⟨e, 0, none⟩ (.int .i64 (0 + 1))) e 1 4 2 2 0 := by simpa using h_set hOf.hf 0 (.int .i64 (0 + 1))
    rw [hw3]; exact s_other h1 (Ne.symm hne)
  clear hw3 hst HX
  have d1 := h_ne (show w2.heap[n]? = _ from hOf.hn) hOf.hf (by decide)
  have d2 := h_ne (show w2.heap[n]? = _ from hOf.hn) hT2 (by decide)
  have d3 := mapi_ne hOf.hF hOf.hf
  have d4 := h_ne (show w2.heap[t]? = _ from hOf.hT) hOf.hf (by decide)
  have d5 := h_ne hOf.hK hOf.hf (by decide)
  have hz2 := hU2.size
  have hz3 := hU3.size
  go_wp2_with fail
  refine bodyPost_ret (results_tmp2 rfl _ _ _) rfl ?_
  obtain ⟨hbl, hm0, hfbM, hk0, hth0, ht00⟩ := HB.out
  have hU : Turn [t, fm, rm, k, th, t0, e] w w3 := (hU2.mono (fun x hx => by simp at hx ⊢; omega)).trans (hU3.mono (fun x hx => by simp at hx ⊢; omega))
  have hbz := hbl.size
  refine ⟨n, e, md, rfl, ⟨hf3, hU3.nd hOf.hn (by simp; omega), hU3.map hOf.hF (by simp; omega), hU3.tr hOf.hT (by simp; omega), hU3.ob hOf.hK (by simp; omega), hFl2.turn hU3 (by simp; omega), hT3, hU3.ob hp2 (by simp; omega), by omega, by omega, hfbM, hm0, hbl.trans ⟨hU.os, hU.tape, hU.output, hU.size, fun x hx => hU.block x (by omega) (by simp; omega)⟩⟩, hn0, he0, hU⟩

set_option maxHeartbeats 1000000 in
theorem a_writef {n e : Nat} {md : Int} (h : Op5 w0 M w t rt fm k fb th t0 pb n e so re fv x1 x2 x3 x4 md) (b o : Nat) (hbn : b ≠ n) (hc : ∀ j, j < 2 → w.cell? ⟨b, o + j, none⟩ = some (.int .u8 (([104, 105] : List UInt8)[j]?.getD 0).toNat)) :
    Calls Tryz.prog 13 #[ptr t0, .int .i64 1, .slice (some ⟨b, o, none⟩) 2 2] w fun r w' => r = .returned (.tuple #[.int .i64 2, .int .i64 0]) ∧ KnAt w' k (ptr t) fv 2 5 th 4 ∧ TbAt w' t0 k (hsB so e re) ∧ w'.heap[pb]? = some (.cells #[ptr k, x1, ptr t0, x2, x3, x4] 48) ∧ Below w0.heap.size w0 w' ∧ Turn [n, e] w w' := by
  have a1 := h_ne h.hK (show w.heap[n]? = _ from h.hn) (by decide)
  have a2 := h_ne h.hK h.hf (by decide)
  have a3 := h_ne h.T (show w.heap[n]? = _ from h.hn) (by decide)
  have a4 := h_ne h.T h.hf (by decide)
  have a5 := h_ne h.hp (show w.heap[n]? = _ from h.hn) (by decide)
  have a6 := h_ne h.hp h.hf (by decide)
  have b1 := h.n0
  have b2 := h.e0
  have b3 := h.m0
  refine twrite_c t0 k 1 (hsB so e re) 191 e _ _ w h.T (by decide) rfl ?_
  refine (write_ok k (iFi e) ⟨b, o, none⟩ 2 2 8192 2 (fun w1 => Turn [] w w1) (fun w2 => Turn [n, e] w w2) w (by decide) (by decide) (by decide) (isW_fi e 1 4 2 2 0 w h.hf (by decide)) (room_f k e 1 4 w h.hf) ?_ ?_).mono ?_
  · intro q
    refine (befall_none k fb th (ptr t) fv l2 5 4 _ true (w.drewN q) h.hK (h.hFl.turn ((Turn.refl [] w).drewN q) (by simp))).mono ?_
    rintro r w' ⟨rfl, n', rfl⟩
    exact ⟨rfl, ((Turn.refl [] w).drewN q).trans ((Turn.refl [] _).drewN n')⟩
  · intro w1 hU1
    refine (give_f k th t rt fm n e b o 2 fv 2 5 4 1 4 md [104, 105] w1 (hU1.ob h.hf (by simp)) (hU1.nd h.hn (by simp)) (hU1.map h.hF (by simp)) (hU1.tr h.hT (by simp)) (hU1.ob h.hK (by simp)) rfl (by decide) (fun j hj => hU1.cell (hc j hj) (by simp)) hbn).mono ?_
    rintro r w2 ⟨hx, hU2⟩
    exact ⟨hx, (hU1.mono (by simp)).trans hU2⟩
  · rintro r w2 ⟨rfl, hU⟩
    exact ⟨2, 0, rfl, rfl, hU.ob h.hK (by simp; omega), hU.ob h.T (by simp; omega), hU.ob h.hp (by simp; omega), h.bl.trans ⟨hU.os, hU.tape, hU.output, hU.size, fun x hx => hU.block x (by have := h.bl.size; omega) (by simp; omega)⟩, hU⟩
end
end Go.Proofs.YtbbmihlabllliaaGreatDoor
