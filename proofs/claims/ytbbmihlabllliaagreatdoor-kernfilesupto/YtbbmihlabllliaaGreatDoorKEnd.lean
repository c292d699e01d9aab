/- When the last one who may write has closed the pipe. -/
import Derived.Test.YtbbmihlabllliaaGreatDoorKSet
namespace Go.Proofs.YtbbmihlabllliaaGreatDoor
open Go.RowKit Go.Shelf Go.Maps

structure Es (w0 : World) (bs : List UInt8) (F : PF) (t0 t1 pb : Nat) (x1 x2 x3 : Value) (w : World) (u : Nat) (gv pv : Value) : Prop where
  T0 : TbAt w t0 F.k (hs0 F.re)
  hp : w.heap[pb]? = some (.cells #[ptr F.k, x1, ptr t0, ptr t1, x2, x3] 48)
  ps : Pst F 0 w u [] pv
  go : w.ownsRow F.B 5 1 gv bs.length (u8s bs)
  dj : ∀ g, gv.ownBlock = some g → pv.ownBlock ≠ some g
  b0 : t0 < F.B
  bp : pb < F.B
  k0 : w0.heap.size ≤ F.k
  p0 : w0.heap.size ≤ F.p
  B0 : w0.heap.size ≤ F.B
  bl : Below w0.heap.size w0 w
section
variable {w0 : World} {bs : List UInt8} {F : PF} {t0 t1 pb : Nat} {x1 x2 x3 : Value} {w : World} {u : Nat} {gv pv : Value}
set_option maxHeartbeats 2000000 in
theorem rs_close (h : Rs w0 bs F t0 t1 pb x1 x2 x3 w bs.length bs.length bs.length u gv pv) :
    Calls Tryz.prog 15 #[ptr t1, .int .i64 1] w fun r w' => r = .returned (.int .i64 0) ∧ Es w0 bs F t0 t1 pb x1 x2 x3 w' u gv pv := by
  have hne := h_ne h.lp.T1 h.ps.hW (by decide)
  have hW2 : WeAt (w.setCell ⟨t1, 1 + 1, none⟩ .nilIface) F.we 1 F.p := s_other h.ps.hW (Ne.symm hne)
  have hcl : (w.setCell ⟨t1, 1 + 1, none⟩ .nilIface).cell? ⟨F.we, 0, none⟩ = some (.int .i64 1) := h_cell hW2 0 rfl
  refine (close_any t1 F.k 1 (hs1 F.we) 97 F.we _ w h.lp.T1 (by decide) rfl (leave_we F.k F.we 1 _ hcl (h_fz hW2 0) (by decide) (by decide))).mono ?_
  rintro r w' ⟨rfl, rfl⟩
  have hU : Turn [F.we, t1] w ((w.setCell ⟨t1, 1 + 1, none⟩ .nilIface).setCell ⟨F.we, 0, none⟩ (.int .i64 (1 - 1))) := (Turn.set w t1 _ _ (by simp)).trans (Turn.set _ F.we 0 _ (by simp))
  have a1 := h_ne h.ps.hK h.ps.hW (by decide)
  have a2 := h_ne h.ps.hK h.lp.T1 (by decide)
  have a3 := h_ne h.ps.hP h.ps.hW (by decide)
  have a4 := h_ne h.ps.hP h.lp.T1 (by decide)
  have a5 := h_ne h.ps.hR h.ps.hW (by decide)
  have a6 := h_ne h.ps.hR h.lp.T1 (by decide)
  have a7 := h_ne h.lp.T0 h.ps.hW (by decide)
  have a8 := h_ne h.lp.hp h.ps.hW (by decide)
  have a9 := h_ne h.lp.hp h.lp.T1 (by decide)
  have b1 := h.lp.b1
  have b2 := h.ps.ok.wB
  have b3 := h.lp.ne
  have b4 := h.lp.w0'
  have b5 := h.lp.t10
  have hWz : WeAt ((w.setCell ⟨t1, 1 + 1, none⟩ .nilIface).setCell ⟨F.we, 0, none⟩ (.int .i64 (1 - 1))) F.we 0 F.p := by simpa using h_set hW2 0 (.int .i64 (1 - 1))
  have hown : ∀ {v : Value} {n : Nat} {xs : List Value}, w.ownsRow F.B 5 1 v n xs → ((w.setCell ⟨t1, 1 + 1, none⟩ .nilIface).setCell ⟨F.we, 0, none⟩ (.int .i64 (1 - 1))).ownsRow F.B 5 1 v n xs := fun ho => own_turn ho hU (fun g hg e => by have := own_ge ho hg; simp at e; omega)
  have hfw := h.lp.fw
  have hf1 := h.lp.f1
  have hFl : Fl ((w.setCell ⟨t1, 1 + 1, none⟩ .nilIface).setCell ⟨F.we, 0, none⟩ (.int .i64 (1 - 1))) F.fv F.fb F.l := h.ps.hF.turn hU (by simp; omega)
  have hd0 : (bs.drop bs.length).take (bs.length - bs.length) = [] := by simp
  have ho := h.ps.ho
  rw [hd0] at ho
  have hgo := h.go
  rw [List.take_length] at hgo
  exact ⟨rfl, hU.ob h.lp.T0 (by simp; omega), hU.ob h.lp.hp (by simp; omega), ⟨h.ps.ok, hU.ob h.ps.hK (by simp; omega), hFl, hU.ob h.ps.hR (by simp; omega), hWz, hU.ob h.ps.hP (by simp; omega), hown ho, Nat.le_trans h.ps.hB hU.size, h.ps.hu, by simp⟩, hown hgo, h.dj, h.lp.b0, h.lp.bp, h.lp.k0, h.lp.p0, h.lp.B0, h.lp.bl.trans ⟨hU.os, hU.tape, hU.output, hU.size, fun x hx => hU.block x (by have := h.lp.bl.size; omega) (by simp; omega)⟩⟩

/-- What a Read behind the end leaves. -/
structure EdS (w0 : World) (bs : List UInt8) (F : PF) (t0 t1 pb : Nat) (x1 x2 x3 : Value) (u u' : Nat) (hh : Int) (gv pv' : Value) (w' : World) : Prop where
  st : Es w0 bs F t0 t1 pb x1 x2 x3 w' u' gv pv'
  hh : hh = 0 ∨ (hh = 9 ∧ u' = u + 1)
theorem es_read (h : Es w0 bs F t0 t1 pb x1 x2 x3 w u gv pv) :
    Calls Tryz.prog 14 #[ptr t0, .int .i64 0, .int .i64 5] w fun e w' => ∃ u' hh a c pv', e = .returned (.tuple #[.slice a 0 c, .int .i64 hh]) ∧ EdS w0 bs F t0 t1 pb x1 x2 x3 u u' hh gv pv' w' := by
  refine tread_c t0 F.k 0 (hs0 F.re) 96 F.re 5 _ w h.T0 (by decide) rfl ?_
  refine (pst_read h.ps 5 (by decide) (by decide) (by decide)).mono ?_
  rintro e w' ⟨n', u', hh, v1, v', rfl, ho⟩
  have hst := ho.st
  rw [List.drop_nil] at hst
  have hout := ho.out
  rw [List.take_nil] at hout
  obtain ⟨a, c, rfl⟩ := own_slice2 hout
  have a1 := h_ne h.T0 h.ps.hK (by decide)
  have a2 := h_ne h.T0 h.ps.hP (by decide)
  have a5 := h_ne h.hp h.ps.hK (by decide)
  have a6 := h_ne h.hp h.ps.hP (by decide)
  have b0 := h.b0
  have b1 := h.bp
  have b2 := h.k0
  have b3 := h.p0
  have b4 := h.B0
  have hT : ∀ x, x ∈ F.k :: F.p :: pv.ownBlock.toList → x = F.k ∨ x = F.p ∨ F.B ≤ x := fun x hx => by
    rcases List.mem_cons.1 hx with rfl | hx
    · exact .inl rfl
    · rcases List.mem_cons.1 hx with rfl | hx
      · exact .inr (.inl rfl)
      · exact .inr (.inr (own_ge h.ps.ho (by simpa using hx)))
  have hgno : ∀ g, gv.ownBlock = some g → g ∉ F.k :: F.p :: pv.ownBlock.toList := fun g hg e => by
    have := own_ge h.go hg
    have := h.ps.ok.kB
    have := h.ps.ok.pB
    rcases List.mem_cons.1 e with e | e
    · omega
    · rcases List.mem_cons.1 e with e | e
      · omega
      · exact h.dj g hg (by simpa using e)
  refine ⟨_, hh, rfl, u', hh, a, c, v', rfl, ⟨ho.tn.ob h.T0 (fun e => by have := hT _ e; omega), ho.tn.ob h.hp (fun e => by have := hT _ e; omega), hst, own_turn h.go ho.tn hgno, fun g hg e => h.dj g hg (by rw [← ho.blk]; exact e), h.b0, h.bp, h.k0, h.p0, h.B0, h.bl.trans ⟨ho.tn.os, ho.tn.tape, ho.tn.output, ho.tn.size, fun x hx => ho.tn.block x (by have := h.bl.size; omega) (fun e => by have := hT _ e; omega)⟩⟩, ?_⟩
  rcases ho.hh with h1 | h1 | h1
  · exact .inl h1
  · exact .inr ⟨h1, ho.intr h1⟩
  · exact absurd h1 (ho.again rfl)
end
end Go.Proofs.YtbbmihlabllliaaGreatDoor
