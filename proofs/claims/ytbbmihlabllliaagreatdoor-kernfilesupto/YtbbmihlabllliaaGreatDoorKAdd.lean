/- Numbers of open things; what is laid down as a descriptor. -/
import Derived.Test.YtbbmihlabllliaaGreatDoorKTable
namespace Go.Proofs.YtbbmihlabllliaaGreatDoor
open Go.RowKit Go.Shelf Go.Maps

def lookT (D : DataW Value) (kl : Lit) : Value := match D.atKey kl (.held .nilIface) with | .held v => v | _ => .nilIface
theorem zeroT (w : World) : (zeroValue 108).run Tryz.prog w = .ok .nilIface w := by kernel_rfl
theorem underT : Tryz.prog.underlying 109 = some (.map 3 108) := Tryz.underlying109
theorem lookT_put_same {D : DataW Value} {k : Lit} (hD : IsMap D) (hk : WideAt.IsKeyLit k) (v : Value) : lookT (D.put k (.held v)) k = v := by simp [lookT, atKey_put_same hD hk]
theorem lookT_put_other {D : DataW Value} {k k' : Lit} (h : k' ≠ k) (d : DataW Value) : lookT (D.put k d) k' = lookT D k' := by simp [lookT, atKey_put_other h]
theorem lookTI {w : World} {b n : Nat} {D : DataW Value} (h : w.ownsMap Tryz.prog 3 R b n D) {i : Int} (hi : (Lit.int .i64 i).wf = true) :
    (Instr.lookup 109 (.map (some b)) (.int .i64 i) false).run Tryz.prog w = .ok (lookT D (ik i)) w := by
  obtain ⟨v, ps, hr, hv⟩ := h.lookup keyed3 underT (zeroT w) (zd := .held .nilIface) (zp := []) rfl (keyOf_int_mk Tryz.underlying3 hi)
  rw [hr]
  simp only [R, Option.some.injEq, Prod.mk.injEq] at hv
  rw [lookT, ← hv.1]

set_option maxHeartbeats 1000000 in
theorem inc_c (k : Nat) (last : Int) (w : World) (hc : w.cell? ⟨k, 5, none⟩ = some (.int .i64 last)) (hz : w.frozen? ⟨k, 5, none⟩ = false) (h0 : 0 ≤ last) (h1 : last < 4611686018427387904) :
    Calls Tryz.prog 99 #[.pointer (some ⟨k, 5, none⟩), .int .i64 1] w fun r w' => r = .returned (.int .i64 (last + 1)) ∧ w' = w.setCell ⟨k, 5, none⟩ (.int .i64 (last + 1)) := by
  have hw : IntKind.i64.wrap (last + 1) = last + 1 := by rw [IntKind.wrap_i64]; omega
  have hadd := run_call_add (P := Tryz.prog) Tryz.func138 (by kernel_rfl) (by kernel_rfl) (by kernel_rfl) .i64 (by kernel_rfl) (y := 1) (s := last + 1) hc hz (by simp [go_sem, hw])
  clear hw
  go_enter Tryz.func99, Tryz.ntmps99
  go_wp2
  go_ret
  exact ⟨rfl, rfl⟩

set_option maxRecDepth 100000 in
set_option maxHeartbeats 2000000 in
theorem add_c (k th N : Nat) (tr fs x : Value) (used now last : Int) (D : DataW Value) (w : World) (hK : KnAt w k tr fs used now th last) (hM : w.ownsMap Tryz.prog 3 R th N D) (hN : N < 1000000) (h0 : 0 ≤ last) (h1 : last < 4611686018427387904) :
    Calls Tryz.prog 47 #[ptr k, x] w fun r w' => r = .returned (.int .i64 (last + 1)) ∧ KnAt w' k tr fs used now th (last + 1) ∧ w'.ownsMap Tryz.prog 3 R th (N + 1) (D.put (ik (last + 1)) (.held x)) ∧ Turn [k, th] w w' := by
  have hne : th ≠ k := fun e => by
    obtain ⟨es, c, he, _⟩ := hM
    rw [e, show w.heap[k]? = _ from hK] at he; cases he
  have hi := inc_c k last w (h_cell hK 5 rfl) (h_fz hK 5) h0 h1
  have hK2 : KnAt (w.setCell ⟨k, 5, none⟩ (.int .i64 (last + 1))) k tr fs used now th (last + 1) := by simpa using h_set hK 5 (.int .i64 (last + 1))
  have c4 := h_cell hK2 4 rfl
  obtain ⟨w2, hrun, hown, hgrow⟩ := (hM.setCell (a := ⟨k, 5, none⟩) hne (.int .i64 (last + 1))).update keyed3 underT (by unfold maxLen; omega) (key := .int .i64 (last + 1)) (val := x) (keyOf_int_mk Tryz.underlying3 (WalkArith.wf_i64 (by omega))) (rfl : R _ = some (.held x, []))
  have hK3 : KnAt w2 k tr fs used now th (last + 1) := (hgrow.block k (h_lt hK2) (by simpa using fun e => hne e.symm)).trans hK2
  have hU : Turn [k, th] w w2 := (Turn.set w k 5 _ (by simp)).trans (Turn.grown hgrow (by simp))
  clear hM hK hgrow hK2
  go_enter Tryz.func47, Tryz.ntmps47
  go_wp2_with (go_at_call 99; refine hi.mono ?_; rintro r w3 ⟨rfl, hw3⟩; rw [hw3]; clear hw3)
  go_ret
  exact ⟨rfl, hK3, hown, hU⟩
end Go.Proofs.YtbbmihlabllliaaGreatDoor
