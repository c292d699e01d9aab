/- The calls of the chapter's examples, one by one. -/
import Derived.Test.YtbbmihlabllliaaGreatDoorKAw1
namespace Go.Proofs.YtbbmihlabllliaaGreatDoor
open Go.RowKit Go.Shelf Go.Maps

/-- Bytes that were handed out, in a block from lo to hi. -/
structure Kept (lo hi : Nat) (w : World) (v : Value) (l : List UInt8) : Prop where
  ho : w.ownsRow lo 5 1 v l.length (u8s l)
  hi : ∀ g, v.ownBlock = some g → g < hi
theorem Kept.turn {lo hi : Nat} {w w' : World} {v : Value} {l : List UInt8} {S : List Nat} (h : Kept lo hi w v l) (hU : Turn S w w') (hS : ∀ x, x ∈ S → x < lo ∨ hi ≤ x) : Kept lo hi w' v l :=
  ⟨own_turn h.ho hU (fun g hg e => by have := own_ge h.ho hg; have := h.hi g hg; have := hS g e; omega), h.hi⟩
theorem Kept.mk' {lo : Nat} {w : World} {v : Value} {n : Nat} {l : List UInt8} (h : w.ownsRow lo 5 1 v n (u8s l)) (hn : l.length = n) : Kept lo w.heap.size w v l := by
  subst hn; exact ⟨h, fun g hg => own_lt h hg⟩

/-- A source, and what it has still to say. -/
structure So (w : World) (M e g o L cap : Nat) (c : Int) (d : List UInt8) : Prop where
  hS : SoAt w e c (.slice (some ⟨g, o, none⟩) L cap)
  hd : d.length = L
  hcap : L < cap ∨ L ≤ cap
  hc : ∀ j, j < L → w.cell? ⟨g, o + j, none⟩ = some (.int .u8 ((d[j]?.getD 0).toNat : Int))
  e0 : M ≤ e
  g0 : M ≤ g
  ge : g ≠ e
theorem So.turn {w w' : World} {M e g o L cap : Nat} {c : Int} {d : List UInt8} {S : List Nat} (h : So w M e g o L cap c d) (hU : Turn S w w') (hS : e ∉ S ∧ g ∉ S) : So w' M e g o L cap c d :=
  ⟨hU.ob h.hS hS.1, h.hd, h.hcap, fun j hj => hU.cell (h.hc j hj) hS.2, h.e0, h.g0, h.ge⟩

section
variable {w0 : World} {M : Nat} {w : World} {t rt rm fm k fb th t0 pb : Nat} {fv x1 x2 x3 x4 : Value} {hs : Array Value} {used last : Int} {N : Nat} {D : DataW Value}

theorem a_source (h : Kf w0 M w t rt rm fm k fb th t0 pb fv x1 x2 x3 x4 hs used 0 0 mE) (b o n c : Nat) (d : List UInt8) (hd : d.length = n) (hn0 : 0 < n) (hn : n ≤ 1048576) (hc : ∀ j, j < n → w.cell? ⟨b, o + j, none⟩ = some (.int .u8 ((d[j]?.getD 0).toNat : Int))) :
    Calls Tryz.prog 19 #[ptr k, .slice (some ⟨b, o, none⟩) n c] w fun r w' => ∃ e g cap, r = .returned (.int .i64 1) ∧ Kf w0 M w' t rt rm fm k fb th t0 pb fv x1 x2 x3 x4 hs used 1 1 (mE.put (ik 1) (.held (iSo e))) ∧ So w' M e g 0 n cap 0 d ∧ Turn [k, th] w w' := by
  refine (source_c k th 0 b o n c (ptr t) fv used 5 0 mE d w h.hK h.hM (by decide) (by decide) (by decide) hd hn hc).mono ?_
  rintro r w' ⟨e, rv, rfl, he, hS, ho, hK, hM, hU⟩
  have hmz := h.mz
  rcases (row_split ho).2 with ⟨_, h0⟩ | ⟨g, cap, rfl, hb, hg, hn1, hcm, hcell⟩
  · omega
  · exact ⟨e, g, cap, rfl, h.add (by simpa using hK) (by simpa using hM) hU, ⟨hS, hd, .inr hn1, fun j hj => by rw [Nat.zero_add]; exact hcell j hj, by omega, by omega, fun e1 => row_ne ho hS (by decide) (by rw [← e1]; rfl)⟩, hU⟩

theorem ik1 (v : Value) : lookT (mE.put (ik 1) (.held v)) (ik 1) = v := lookT_put_same isMap_E (by trivial) _

set_option maxHeartbeats 1000000 in
theorem a_put0 {e g L cap : Nat} {d : List UInt8} (h : Kf w0 M w t rt rm fm k fb th t0 pb fv x1 x2 x3 x4 nils used 1 1 (mE.put (ik 1) (.held (iSo e)))) (hs : So w M e g 0 L cap 0 d) :
    Calls Tryz.prog 12 #[ptr t0, .int .i64 0, .int .i64 1] w fun r w' => r = .returned (.int .i64 0) ∧ Kf w0 M w' t rt rm fm k fb th t0 pb fv x1 x2 x3 x4 (nils.setIfInBounds 0 (iSo e)) used 1 1 (mE.put (ik 1) (.held (iSo e))) ∧ So w' M e g 0 L cap 1 d ∧ Turn [t0, e] w w' := by
  have hne := h_ne h.T hs.hS (by decide)
  have hcl : w.cell? ⟨e, 0, none⟩ = some (.int .i64 0) := h_cell hs.hS 0 rfl
  have hst := set_so t0 k 0 e 0 nils w h.T (by decide) rfl hcl (h_fz hs.hS 0) (by decide) (by decide) hne
  refine (put_any t0 k 0 th 1 nils 135 e (ptr t) fv used 5 1 1 _ _ w h.T h.hK h.hM (by decide) (by decide) (ik1 _) hst).mono ?_
  rintro r w' ⟨rfl, rfl⟩
  have hU : Turn [t0, e] w ((w.setCell ⟨e, 0, none⟩ (.int .i64 (0 + 1))).setCell ⟨t0, 1 + 0, none⟩ (iSo e)) := (Turn.set w e 0 _ (by simp)).trans (Turn.set _ t0 _ _ (by simp))
  have hT := tb_set (s_other (c := e) (i := 0) (v := .int .i64 (0 + 1)) h.T hne) 0 (iSo e)
  have hSs : SoAt (w.setCell ⟨e, 0, none⟩ (.int .i64 (0 + 1))) e 1 (.slice (some ⟨g, 0, none⟩) L cap) := by simpa using h_set hs.hS 0 (.int .i64 (0 + 1))
  have hge := hs.e0
  have hgg := hs.g0
  have hb := h.bt0
  refine ⟨rfl, h.tab hT hU (by simpa using hge), ⟨s_other hSs (Ne.symm hne), hs.hd, hs.hcap, fun j hj => hU.cell (hs.hc j hj) (by have := hs.ge; simp; omega), hs.e0, hs.g0, hs.ge⟩, hU⟩
end
end Go.Proofs.YtbbmihlabllliaaGreatDoor
