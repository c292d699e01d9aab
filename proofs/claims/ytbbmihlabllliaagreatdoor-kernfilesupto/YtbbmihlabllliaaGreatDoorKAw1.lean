/- What lasts through the chapter's examples. -/
import Derived.Test.YtbbmihlabllliaaGreatDoorKEnd
import Derived.Test.YtbbmihlabllliaaGreatDoorKOpen4
namespace Go.Proofs.YtbbmihlabllliaaGreatDoor
open Go.RowKit Go.Shelf Go.Maps

abbrev l2 : List (Int × Int) := [(1, 1), (2, 0)]
structure Kf (w0 : World) (M : Nat) (w : World) (t rt rm fm k fb th t0 pb : Nat) (fv x1 x2 x3 x4 : Value) (hs : Array Value) (used last : Int) (N : Nat) (D : DataW Value) : Prop where
  tr : Tr0 w0.heap.size w t rt rm fm
  hK : KnAt w k (ptr t) fv used 5 th last
  hF : Fl w fv fb l2
  hM : w.ownsMap Tryz.prog 3 R th N D
  T : TbAt w t0 k hs
  hp : w.heap[pb]? = some (.cells #[ptr k, x1, ptr t0, x2, x3, x4] 48)
  bt : t < M
  brt : rt < M
  brm : rm < M
  bfm : fm < M
  bk : k < M
  bfb : fb < M
  bth : th < M
  bt0 : t0 < M
  bpb : pb < M
  fk : fb ≠ k
  ft : fb ≠ th
  f0 : fb ≠ t0
  tf : th ≠ fm
  tm : th ≠ rm
  k0 : w0.heap.size ≤ k
  th0 : w0.heap.size ≤ th
  t00 : w0.heap.size ≤ t0
  m0 : w0.heap.size ≤ M
  mz : M ≤ w.heap.size
  bl : Below w0.heap.size w0 w
section
variable {w0 : World} {M : Nat} {w w' : World} {t rt rm fm k fb th t0 pb : Nat} {fv x1 x2 x3 x4 : Value} {hs : Array Value} {used last : Int} {N : Nat} {D : DataW Value}
theorem Kf.turn {S : List Nat} (h : Kf w0 M w t rt rm fm k fb th t0 pb fv x1 x2 x3 x4 hs used last N D) (hU : Turn S w w') (hS : ∀ x, x ∈ S → M ≤ x) : Kf w0 M w' t rt rm fm k fb th t0 pb fv x1 x2 x3 x4 hs used last N D := by
  have hno : ∀ x, x < M → x ∉ S := fun x hx e => by have := hS x e; omega
  have hm := h.m0
  exact { h with
    tr := h.tr.turn hU ⟨hno _ h.bt, hno _ h.brt, hno _ h.brm, hno _ h.bfm⟩
    hK := hU.ob h.hK (hno _ h.bk)
    hF := h.hF.turn hU (hno _ h.bfb)
    hM := hU.map h.hM (hno _ h.bth)
    T := hU.ob h.T (hno _ h.bt0)
    hp := hU.ob h.hp (hno _ h.bpb)
    mz := Nat.le_trans h.mz hU.size
    bl := h.bl.trans ⟨hU.os, hU.tape, hU.output, hU.size, fun x hx => hU.block x (by have := h.bl.size; omega) (hno x (by omega))⟩ }
theorem Kf.kern (h : Kf w0 M w t rt rm fm k fb th t0 pb fv x1 x2 x3 x4 hs used last N D) {used' : Int} (hK : KnAt w' k (ptr t) fv used' 5 th last) (hU : Turn [k] w w') : Kf w0 M w' t rt rm fm k fb th t0 pb fv x1 x2 x3 x4 hs used' last N D := by
  have a1 := h_ne (show w.heap[t]? = _ from h.tr.hT) h.hK (by decide)
  have a2 := h_ne (show w.heap[rt]? = _ from h.tr.hN) h.hK (by decide)
  have a3 := mapi_ne h.tr.hM h.hK
  have a4 := mapi_ne h.tr.hF h.hK
  have a5 := mapi_ne h.hM h.hK
  have a6 := h_ne h.T h.hK (by decide)
  have a7 := h_ne h.hp h.hK (by decide)
  have a8 := h.fk
  have a9 := h.k0
  exact { h with
    tr := h.tr.turn hU (by simp; omega)
    hK := hK
    hF := h.hF.turn hU (by simp; omega)
    hM := hU.map h.hM (by simp; omega)
    T := hU.ob h.T (by simp; omega)
    hp := hU.ob h.hp (by simp; omega)
    mz := Nat.le_trans h.mz hU.size
    bl := h.bl.trans ⟨hU.os, hU.tape, hU.output, hU.size, fun x hx => hU.block x (by have := h.bl.size; omega) (by simp; omega)⟩ }
theorem Kf.add (h : Kf w0 M w t rt rm fm k fb th t0 pb fv x1 x2 x3 x4 hs used last N D) {last' : Int} {N' : Nat} {D' : DataW Value} (hK : KnAt w' k (ptr t) fv used 5 th last') (hM : w'.ownsMap Tryz.prog 3 R th N' D') (hU : Turn [k, th] w w') : Kf w0 M w' t rt rm fm k fb th t0 pb fv x1 x2 x3 x4 hs used last' N' D' := by
  have a1 := h_ne (show w.heap[t]? = _ from h.tr.hT) h.hK (by decide)
  have a2 := h_ne (show w.heap[rt]? = _ from h.tr.hN) h.hK (by decide)
  have a3 := mapi_ne h.tr.hM h.hK
  have a4 := mapi_ne h.tr.hF h.hK
  have a6 := h_ne h.T h.hK (by decide)
  have a7 := h_ne h.hp h.hK (by decide)
  have b1 := mapi_ne h.hM (show w.heap[t]? = _ from h.tr.hT)
  have b2 := mapi_ne h.hM (show w.heap[rt]? = _ from h.tr.hN)
  have b3 := mapi_ne h.hM h.T
  have b4 := mapi_ne h.hM h.hp
  have a8 := h.fk
  have a9 := h.k0
  have c1 := h.ft
  have c2 := h.tf
  have c3 := h.tm
  have c4 := h.th0
  exact { h with
    tr := h.tr.turn hU (by simp; omega)
    hK := hK
    hF := h.hF.turn hU (by simp; omega)
    hM := hM
    T := hU.ob h.T (by simp; omega)
    hp := hU.ob h.hp (by simp; omega)
    mz := Nat.le_trans h.mz hU.size
    bl := h.bl.trans ⟨hU.os, hU.tape, hU.output, hU.size, fun x hx => hU.block x (by have := h.bl.size; omega) (by simp; omega)⟩ }
theorem Kf.tab (h : Kf w0 M w t rt rm fm k fb th t0 pb fv x1 x2 x3 x4 hs used last N D) {hs' : Array Value} (hT : TbAt w' t0 k hs') {S : List Nat} (hU : Turn (t0 :: S) w w') (hS : ∀ x, x ∈ S → M ≤ x) : Kf w0 M w' t rt rm fm k fb th t0 pb fv x1 x2 x3 x4 hs' used last N D := by
  have hno : ∀ x, x < M → x ≠ t0 → x ∉ t0 :: S := fun x hx hne e => by
    rcases List.mem_cons.1 e with e | e
    · exact hne e
    · have := hS x e; omega
  have a1 := h_ne (show w.heap[t]? = _ from h.tr.hT) h.T (by decide)
  have a2 := h_ne (show w.heap[rt]? = _ from h.tr.hN) h.T (by decide)
  have a3 := mapi_ne h.tr.hM h.T
  have a4 := mapi_ne h.tr.hF h.T
  have a5 := mapi_ne h.hM h.T
  have a6 := h_ne h.hK h.T (by decide)
  have a7 := h_ne h.hp h.T (by decide)
  have c4 := h.t00
  have hm := h.m0
  exact { h with
    tr := h.tr.turn hU ⟨hno _ h.bt a1, hno _ h.brt a2, hno _ h.brm a3, hno _ h.bfm a4⟩
    hK := hU.ob h.hK (hno _ h.bk a6)
    hF := h.hF.turn hU (hno _ h.bfb h.f0)
    hM := hU.map h.hM (hno _ h.bth a5)
    T := hT
    hp := hU.ob h.hp (hno _ h.bpb a7)
    mz := Nat.le_trans h.mz hU.size
    bl := h.bl.trans ⟨hU.os, hU.tape, hU.output, hU.size, fun x hx => hU.block x (by have := h.bl.size; omega) (hno x (by omega) (by omega))⟩ }
/-- No fault is left. -/
theorem Kf.none (h : Kf w0 M w t rt rm fm k fb th t0 pb fv x1 x2 x3 x4 hs 2 last N D) (most : Int) (isW : Bool) : Calls Tryz.prog 103 #[ptr k, .int .i64 most, .bool isW] w fun e w' => e = .returned (.tuple #[.int .i64 most, .int .i64 0]) ∧ Turn [] w w' := by
  refine (befall_none k fb th (ptr t) fv l2 5 last most isW w h.hK h.hF).mono ?_
  rintro e w' ⟨rfl, n, rfl⟩
  exact ⟨rfl, (Turn.refl _ w).drewN n⟩
end
end Go.Proofs.YtbbmihlabllliaaGreatDoor
