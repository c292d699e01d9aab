/- Tables: what a descriptor has, and what it is given. -/
import Derived.Test.YtfkoehfkiommpaaGreatDoorKPipe
import Derived.RangeFuncNested
import Derived.RangeFuncBound
import Derived.RangeFuncCalls
import Derived.RangeFuncLeaves
import Derived.RangeFuncBox
import Derived.Shelf.Abstract
import Derived.Shelf.RegionOpen
import Derived.WalkKit
import Derived.OwnWalkIn
import Derived.TacticsInMore
import Derived.LoopNIn
import Derived.LoopIn
import Derived.Test.YtfkoehfkiommpaaGreatDoorKMay
namespace Go.Proofs.YtfkoehfkiommpaaGreatDoor
open Go.RowKit Go.Shelf Go.Maps

set_option maxHeartbeats 1000000 in
theorem at_c (t k fd : Nat) (hs : Array Value) (x : Value) (w : World) (hT : TbAt w t k hs) (hfd : fd < 16) (hx : hs[fd]? = some x) :
    Calls Tryz.prog 289 #[ptr t, .int .i64 fd] w fun e w' => e = .returned x ∧ w' = w := by
  have c := tb_cell hT fd hx
  have h1 : (0 : Int) ≤ (fd : Int) := by omega
  have h2 : (fd : Int) < 16 := by omega
  have h3 : 0 ≤ (fd : Int) ∧ (fd : Int) < 16 := ⟨h1, h2⟩
  clear hT
  go_enter Tryz.func289, Tryz.ntmps289
  go_wp2
  go_ret
  exact ⟨rfl, rfl⟩

set_option maxHeartbeats 1000000 in
theorem gain_c (e : Nat) (c : Int) (w : World) (hc : w.cell? ⟨e, 0, none⟩ = some (.int .i64 c)) (hz : w.frozen? ⟨e, 0, none⟩ = false) (h0 : 0 ≤ c) (h1 : c < 4611686018427387904) :
    Calls Tryz.prog 336 #[ptr e] w fun r w' => (∃ v, r = .returned v) ∧ w' = w.setCell ⟨e, 0, none⟩ (.int .i64 (c + 1)) := by
  go_enter Tryz.func336, Tryz.ntmps336
  go_wp2
  go_end0
  exact ⟨⟨_, rfl⟩, rfl⟩
set_option maxHeartbeats 1000000 in
theorem lose_c (e : Nat) (c : Int) (w : World) (hc : w.cell? ⟨e, 0, none⟩ = some (.int .i64 c)) (hz : w.frozen? ⟨e, 0, none⟩ = false) (h0 : 0 ≤ c) (h1 : c < 4611686018427387904) :
    Calls Tryz.prog 337 #[ptr e] w fun r w' => r = .returned (.bool (c - 1 == 0)) ∧ w' = w.setCell ⟨e, 0, none⟩ (.int .i64 (c - 1)) := by
  go_enter Tryz.func337, Tryz.ntmps337
  go_wp2
  go_ret
  exact ⟨rfl, rfl⟩

theorem m_gain_so (e : Nat) (w : World) : (method 520 170 (ptr e) "toolchest/kern.gain").run Tryz.prog w = .ok (336, ptr e) w := by kernel_rfl
theorem m_lose_so (e : Nat) (w : World) : (method 520 170 (ptr e) "toolchest/kern.lose").run Tryz.prog w = .ok (337, ptr e) w := by kernel_rfl
set_option maxHeartbeats 1000000 in
theorem leave_nil (k : Nat) (w : World) : Calls Tryz.prog 131 #[ptr k, .nilIface] w fun r w' => (∃ v, r = .returned v) ∧ w' = w := by
  have hn := nil_nil
  go_enter Tryz.func131, Tryz.ntmps131
  go_wp2
  refine bodyPost_ret (results_none rfl _ _ _) rfl ?_
  exact ⟨⟨_, rfl⟩, rfl⟩

set_option maxRecDepth 100000 in
set_option maxHeartbeats 1000000 in
theorem set_so (t k fd e : Nat) (c : Int) (hs : Array Value) (w : World) (hT : TbAt w t k hs) (hfd : fd < 16) (hx : hs[fd]? = some .nilIface) (hc : w.cell? ⟨e, 0, none⟩ = some (.int .i64 c)) (hz : w.frozen? ⟨e, 0, none⟩ = false) (h0 : 0 ≤ c) (h1 : c < 4611686018427387904) (hne : t ≠ e) :
    Calls Tryz.prog 109 #[ptr t, .int .i64 fd, iSo e] w fun r w' => (∃ v, r = .returned v) ∧ w' = (w.setCell ⟨e, 0, none⟩ (.int .i64 (c + 1))).setCell ⟨t, 1 + fd, none⟩ (iSo e) := by
  have q1 := tb_cell hT fd hx
  have q3 : 0 ≤ (fd : Int) ∧ (fd : Int) < 16 := by omega
  have hT2 : TbAt (w.setCell ⟨e, 0, none⟩ (.int .i64 (c + 1))) t k hs := s_other hT hne
  have q4 := tb_cell hT2 fd hx
  have q5 := h_fz hT2 (1 + fd)
  have hT3 := tb_set hT2 fd (iSo e)
  have q6 := tb_kern hT3
  have hg := gain_c e c w hc hz h0 h1
  have hmm := m_gain_so
  clear hT hT2 hT3
  go_enter Tryz.func109, Tryz.ntmps109
  go_wp2_with (first
    | (go_at_call 336; refine hg.mono ?_; rintro r w2 ⟨⟨v, rfl⟩, hw2⟩; rw [hw2]; clear hw2)
    | (go_at_call 131; refine (leave_nil k _).mono ?_; rintro r w3 ⟨⟨v, rfl⟩, hw3⟩; rw [hw3]; clear hw3))
  go_end0
  exact ⟨⟨_, rfl⟩, rfl⟩

end Go.Proofs.YtfkoehfkiommpaaGreatDoor

namespace Go.Proofs.YtfkoehfkiommpaaGreatDoor
open Go.RowKit Go.Shelf Go.Maps

def lookT (D : DataW Value) (kl : Lit) : Value := match D.atKey kl (.held .nilIface) with | .held v => v | _ => .nilIface
theorem zeroT (w : World) : (zeroValue 181).run Tryz.prog w = .ok .nilIface w := by kernel_rfl
theorem underT : Tryz.prog.underlying 159 = some (.map 3 181) := Tryz.underlying159
theorem lookT_put_same {D : DataW Value} {k : Lit} (hD : IsMap D) (hk : WideAt.IsKeyLit k) (v : Value) : lookT (D.put k (.held v)) k = v := by simp [lookT, atKey_put_same hD hk]
theorem lookT_put_other {D : DataW Value} {k k' : Lit} (h : k' ≠ k) (d : DataW Value) : lookT (D.put k d) k' = lookT D k' := by simp [lookT, atKey_put_other h]
theorem lookTI {w : World} {b n : Nat} {D : DataW Value} (h : w.ownsMap Tryz.prog 3 R b n D) {i : Int} (hi : (Lit.int .i64 i).wf = true) :
    (Instr.lookup 159 (.map (some b)) (.int .i64 i) false).run Tryz.prog w = .ok (lookT D (ik i)) w := by
  obtain ⟨v, ps, hr, hv⟩ := h.lookup keyed3 underT (zeroT w) (zd := .held .nilIface) (zp := []) rfl (keyOf_int_mk Tryz.underlying3 hi)
  rw [hr]
  simp only [R, Option.some.injEq, Prod.mk.injEq] at hv
  rw [lookT, ← hv.1]

set_option maxHeartbeats 1000000 in
theorem inc_c (k : Nat) (last : Int) (w : World) (hc : w.cell? ⟨k, 5, none⟩ = some (.int .i64 last)) (hz : w.frozen? ⟨k, 5, none⟩ = false) (h0 : 0 ≤ last) (h1 : last < 4611686018427387904) :
    Calls Tryz.prog 130 #[.pointer (some ⟨k, 5, none⟩), .int .i64 1] w fun r w' => r = .returned (.int .i64 (last + 1)) ∧ w' = w.setCell ⟨k, 5, none⟩ (.int .i64 (last + 1)) := by
  have hw : IntKind.i64.wrap (last + 1) = last + 1 := by rw [IntKind.wrap_i64]; omega
  have hadd := run_call_add (P := Tryz.prog) Tryz.func160 (by kernel_rfl) (by kernel_rfl) (by kernel_rfl) .i64 (by kernel_rfl) (y := 1) (s := last + 1) hc hz (by simp [go_sem, hw])
  clear hw
  go_enter Tryz.func130, Tryz.ntmps130
  go_wp2
  go_ret
  exact ⟨rfl, rfl⟩

set_option maxRecDepth 100000 in
set_option maxHeartbeats 2000000 in
theorem add_c (k th N : Nat) (tr fs x : Value) (used now last : Int) (D : DataW Value) (w : World) (hK : KnAt w k tr fs used now th last) (hM : w.ownsMap Tryz.prog 3 R th N D) (hN : N < 1000000) (h0 : 0 ≤ last) (h1 : last < 4611686018427387904) :
    Calls Tryz.prog 106 #[ptr k, x] w fun r w' => r = .returned (.int .i64 (last + 1)) ∧ KnAt w' k tr fs used now th (last + 1) ∧ w'.ownsMap Tryz.prog 3 R th (N + 1) (D.put (ik (last + 1)) (.held x)) ∧ Turn [k, th] w w' := by
  have hne : th ≠ k := fun e => by
    obtain ⟨es, c, he, _⟩ := hM
    rw [e, show w.heap[k]? = _ from hK] at he; cases he
  have hi := inc_c k last w (h_cell hK 5 rfl) (h_fz hK 5) h0 h1
  have hK2 : KnAt (w.setCell ⟨k, 5, none⟩ (.int .i64 (last + 1))) k tr fs used now th (last + 1) := by simpa using h_set hK 5 (.int .i64 (last + 1))
  have c4 := h_cell hK2 4 rfl
  obtain ⟨w2, hrun, hown, hgrow⟩ := (hM.setCell (a := ⟨k, 5, none⟩) hne (.int .i64 (last + 1))).update keyed3 underT (by unfold maxLen; omega) (key := .int .i64 (last + 1)) (val := x) (keyOf_int_mk Tryz.underlying3 (WalkArith.wf_i64 (by omega))) (rfl : R _ = some (.held x, []))
  have hK3 : KnAt w2 k tr fs used now th (last + 1) := (hgrow.block k (h_lt hK2) (by simpa using fun e => hne e.symm)).trans hK2
  have hU : Turn [k, th] w w2 := (Turn.set w k 5 _ (by simp)).trans (Turn.grown hgrow (by simp))
  clear hM hK hgrow hK2
  go_enter Tryz.func106, Tryz.ntmps106
  go_wp2_with (go_at_call 130; refine hi.mono ?_; rintro r w3 ⟨rfl, hw3⟩; rw [hw3]; clear hw3)
  go_ret
  exact ⟨rfl, hK3, hown, hU⟩
end Go.Proofs.YtfkoehfkiommpaaGreatDoor

namespace Go.Proofs.YtfkoehfkiommpaaGreatDoor
open Go.RowKit Go.Shelf Go.Maps

set_option maxRecDepth 100000 in
set_option maxHeartbeats 2000000 in
theorem put_any (t k fd th N : Nat) (hs : Array Value) (T : Nat) (e : Nat) (tr fs : Value) (used now last n : Int) (D : DataW Value) (Q : World → Prop) (w : World) (hT : TbAt w t k hs) (hK : KnAt w k tr fs used now th last) (hM : w.ownsMap Tryz.prog 3 R th N D) (hfd : fd < 16) (hn : (Lit.int .i64 n).wf = true)
    (hlk : lookT D (ik n) = .iface T (ptr e)) (hset : Calls Tryz.prog 109 #[ptr t, .int .i64 fd, .iface T (ptr e)] w fun r w' => (∃ v, r = .returned v) ∧ Q w') :
    Calls Tryz.prog 66 #[ptr t, .int .i64 fd, .int .i64 n] w fun r w' => r = .returned (.int .i64 0) ∧ Q w' := by
  have q0 := tb_kern hT
  have q4 := h_cell hK 4 rfl
  have hl := lookTI hM hn
  rw [hlk] at hl
  have h1 : (0 : Int) ≤ (fd : Int) := by omega
  have h2 : (fd : Int) < 16 := by omega
  have hne := nil_eq
  clear hT hK hM
  go_enter Tryz.func66, Tryz.ntmps66
  go_wp2_with (first
    | (go_at_call 108; go_in)
    | (go_at_call 109; refine hset.mono ?_; rintro r w2 ⟨⟨v, rfl⟩, hQ⟩))
  go_ret
  exact ⟨rfl, hQ⟩

set_option maxRecDepth 100000 in
set_option maxHeartbeats 2000000 in
theorem tread_c (t k fd : Nat) (hs : Array Value) (T e : Nat) (m : Int) (Q : Ending → World → Prop) (w : World) (hT : TbAt w t k hs) (hfd : fd < 16) (hx : hs[fd]? = some (.iface T (ptr e)))
    (hr : Calls Tryz.prog 299 #[ptr k, .iface T (ptr e), .int .i64 m] w fun r w' => ∃ v1 h, r = .returned (.tuple #[v1, .int .i64 h]) ∧ Q r w') :
    Calls Tryz.prog 286 #[ptr t, .int .i64 fd, .int .i64 m] w Q := by
  have q0 := tb_kern hT
  have ha := at_c t k fd hs _ w hT hfd hx
  have hne := nil_eq
  clear hT
  go_enter Tryz.func286, Tryz.ntmps286
  go_wp2_with (first
    | (go_at_call 289; refine ha.mono ?_; rintro r w2 ⟨rfl, hw2⟩; rw [hw2]; clear hw2)
    | (go_at_call 299; refine hr.mono ?_; rintro r w3 ⟨v1, h, rfl, hQ⟩))
  exact hQ

set_option maxRecDepth 100000 in
set_option maxHeartbeats 2000000 in
theorem twrite_c (t k fd : Nat) (hs : Array Value) (T e : Nat) (b : Value) (Q : Ending → World → Prop) (w : World) (hT : TbAt w t k hs) (hfd : fd < 16) (hx : hs[fd]? = some (.iface T (ptr e)))
    (hr : Calls Tryz.prog 290 #[ptr k, .iface T (ptr e), b] w fun r w' => ∃ (v1 h : Int), r = .returned (.tuple #[.int .i64 v1, .int .i64 h]) ∧ Q r w') :
    Calls Tryz.prog 267 #[ptr t, .int .i64 fd, b] w Q := by
  have q0 := tb_kern hT
  have ha := at_c t k fd hs _ w hT hfd hx
  have hne := nil_eq
  clear hT
  go_enter Tryz.func267, Tryz.ntmps267
  go_wp2_with (first
    | (go_at_call 289; refine ha.mono ?_; rintro r w2 ⟨rfl, hw2⟩; rw [hw2]; clear hw2)
    | (go_at_call 290; refine hr.mono ?_; rintro r w3 ⟨v1, h, rfl, hQ⟩))
  exact hQ

end Go.Proofs.YtfkoehfkiommpaaGreatDoor

namespace Go.Proofs.YtfkoehfkiommpaaGreatDoor
open Go.RowKit

/-- J abides whatever is done to block Bp, and new blocks. -/
def AbidesBox {β : Type} (Bp : Nat) (J : β → World → Prop) : Prop := ∀ s X Y, J s X → X.grownBy Y (some Bp) → J s Y

/-- The iterator gives, in order, a list that S tells, or a part of one that Sp tells, where a round has said 'no more'; between two rounds it writes block Bp alone. -/
def GivesBox {α : Type} (F : Fence) (n : Nat) (P : Program) (g : Nat) (lb : Array Value) (encs : α → Array Value) (Kp : World → World → Prop) (S Sp : List α → Prop) (N Bp : Nat) (w : World) : Prop :=
  ∀ (l : Nat) (J Jx : List α → World → Prop) (W : World), Below w.heap.size w W → AbidesBox Bp J → AbidesBox Bp Jx →
    (∀ pre x W1, J pre W1 → pre.length < N → YieldAt F (n - 1) P l (encs x) W1 fun e W' =>
      (e = .returned (.bool true) ∧ J (pre ++ [x]) W' ∧ Kp W1 W') ∨ (e = .returned (.bool false) ∧ Jx (pre ++ [x]) W')) →
    J [] W →
    CallsIn F n P g (#[.func (.yield l) #[] #[]] ++ lb) W fun e W' => (∃ v, e = .returned v) ∧ ((∃ xs, S xs ∧ J xs W') ∨ (∃ pre, Sp pre ∧ Jx pre W'))

variable {F : Fence} {n : Nat} {P : Program}

theorem abides_with {α : Type} {Bp l D : Nat} {I : List α → World → Prop} (hI : AbidesBox Bp I) (hl : Bp ≠ l) (hD : Bp ≠ D) (o o' : Obj) :
    AbidesBox Bp (fun pre W => I pre W ∧ W.heap[l]? = some o ∧ W.heap[D]? = some o') := fun s X Y h hg =>
  ⟨hI s X Y h.1 hg, (hg.block l (Array.getElem?_eq_some_iff.1 h.2.1).1 (by simp; omega)).trans h.2.1, (hg.block D (Array.getElem?_eq_some_iff.1 h.2.2).1 (by simp; omega)).trans h.2.2⟩

theorem range_box {α : Type} {g : Operand} {ps : Array Tmp} {assign body : Code} {Q : Exit → Act → World → Prop} {a : Act} {w : World}
    (hro : F.round = none) (h1 : 1 ≤ n) {gf : Nat} {lb : Array Value} (hg : a.eval g = .func (.func gf) #[] lb) (hFg : F.fn gf) (eg : ∀ args w, (callFunc gf args).run P w = .ok (.enter gf args) w)
    {encs : α → Array Value} {Kp : World → World → Prop} {S Sp : List α → Prop} {N Bp : Nat} (hseq : GivesBox F (n - 1) P gf lb encs Kp S Sp N Bp w) (hBp : Bp < w.heap.size)
    (hKt : ∀ {A B C : World}, Kp A B → Kp B C → Kp A C) (hKb : ∀ (W : World) (l : Nat) (o' : Obj), w.heap.size ≤ l → Kp W (W.putObj l o')) (hps : ∀ x, (encs x).size = ps.size)
    (I : List α → World → Prop) (Ix : Code → List α → World → Prop) (hI : OwnFrom w.heap.size I) (hIx : ∀ c, OwnFrom w.heap.size (Ix c)) (hIb : AbidesBox Bp I) (hIxb : ∀ c, AbidesBox Bp (Ix c)) (h0 : I [] w) (a₁ : α → Act)
    (hassign : ∀ (l : Nat) (x : α) (W : World) (K : Act → World → Prop), K (a₁ x) W →
      assign.wpIn (F.inRound l) (n - 1 - 1) P (Exit.then K (fun _ _ _ => False)) { tmps := (ps.zip (encs x)).foldl (fun t (p, v) => t.setIfInBounds p v) a.tmps, defers := [] } W)
    (hbody : ∀ (l : Nat) (pre : List α) (x : α) (W : World), I pre W → pre.length < N → body.wpIn (F.inRound l) (n - 1 - 1) P (ownPostG w.heap.size Kp I Ix (pre ++ [x]) W) (a₁ x) W)
    (hdone : ∀ (D : Nat) (xs : List α) (W : World), w.heap.size ≤ D → S xs → I xs W → W.heap[D]? = some (.deferred (some [])) → Q .normal { a with defers := { target := .collected D, args := #[] } :: a.defers } W)
    (hstop : ∀ (D : Nat) (c : Code) (pre : List α) (W : World), w.heap.size ≤ D → Sp pre → Ix c pre W → W.heap[D]? = some (.deferred (some [])) → c.wpIn F n P Q { a with defers := { target := .collected D, args := #[] } :: a.defers } W) :
    (Code.rangeFunc g ps assign body).wpIn F n P Q a w := by
  refine wpIn_rangeFunc fun fn hfn => ?_
  rw [hro]
  obtain ⟨D, hD⟩ : ∃ D, w.heap.size = D := ⟨_, rfl⟩
  obtain ⟨rc, hrc⟩ : ∃ rc : LoopState → Option Code → Loop, rc = fun st pe => { state := st, pending := pe, fn, tmps := a.tmps, params := ps, assign, body, defers := w.heap.size } := ⟨_, rfl⟩
  have hL1 : ((w.alloc (.deferred (some []))).alloc (.loop (rc .ready none))).heap[D + 1]? = some (.loop (rc .ready none)) := by
    have := World.alloc_heap_new (w.alloc (.deferred (some []))) (.loop (rc .ready none)); rw [World.size_alloc] at this; rw [← hD]; exact this
  have hK1 : ((w.alloc (.deferred (some []))).alloc (.loop (rc .ready none))).heap[D]? = some (.deferred (some [])) := by
    rw [← hD]; exact (Below.heap_alloc _ _ _ (by simp)).trans (World.alloc_heap_new w _)
  refine ⟨D + 1, [{ target := .collected D, args := #[] }], (w.alloc (.deferred (some []))).alloc (.loop (rc .ready none)), { target := .fn (.func gf) lb, args := #[.func (.yield (D + 1)) #[] #[]] }, (w.alloc (.deferred (some []))).alloc (.loop (rc .ready none)), gf,
    #[.func (.yield (D + 1)) #[] #[]] ++ lb, (w.alloc (.deferred (some []))).alloc (.loop (rc .ready none)), ?_, ?_, ?_, ?_, fun _ => h1, ?_⟩
  · rw [hrc, ← hD]; exact run_enterLoop_outer _ _ _ _ _
  · simp only [resolve, hg]
    simp [go_sem]
  · intro f' hf'; simp [Target.leads] at hf'; subst hf'; exact hFg
  · simp [invoke, go_sem, eg]
  refine (hseq (D + 1) (fun pre W => I pre W ∧ W.heap[D + 1]? = some (.loop (rc .ready none)) ∧ W.heap[D]? = some (.deferred (some [])))
    (fun pre W => ∃ c, Ix c pre W ∧ W.heap[D + 1]? = some (.loop (rc .done (some c))) ∧ W.heap[D]? = some (.deferred (some []))) _
    (((Below.refl _ w).alloc (Nat.le_refl _) _).alloc (by simp) _) (abides_with hIb (by omega) (by omega) _ _)
    (fun s X Y h hg' => by obtain ⟨c, hc⟩ := h; exact ⟨c, abides_with (hIxb c) (by omega) (by omega) _ _ s X Y hc hg'⟩) ?_ ⟨hI.alloc _ (hI.alloc _ h0), hL1, hK1⟩).mono ?_
  · rintro pre x W ⟨hi, hl, hk⟩ hlen
    have hlt : D + 1 < W.heap.size := (Array.getElem?_eq_some_iff.1 hl).1
    have hy := run_yield (P := P) (args := encs x) hl (by rw [hrc]; exact hps x)
    rw [hrc] at hy
    refine ⟨fn, _, assign, body, hy, roundIn_of_wpIn hfn (hassign _ x W _ ⟨_, run_beginRound hl (by rw [hrc]), ?_⟩)⟩
    obtain ⟨W2, hW2⟩ : ∃ W2, W.putObj (D + 1) (.loop { rc .ready none with state := .busy }) = W2 := ⟨_, rfl⟩
    have hl2 : W2.heap[D + 1]? = some (.loop { rc .ready none with state := .busy }) := by rw [← hW2]; exact World.putObj_heap_same hlt
    have hk2 : W2.heap[D]? = some (.deferred (some [])) := by rw [← hW2]; exact (World.putObj_heap_other (by omega)).trans hk
    have hw2 : Kp W W2 := by rw [← hW2]; exact hKb _ _ _ (by omega)
    have hi2 : I pre W2 := by rw [← hW2]; exact hI.putObj _ hi (by omega) hl rfl
    rw [hW2]
    refine wpIn_mono (hbody _ pre x _ hi2 hlen) ?_
    have fin : ∀ (j : Option Code) (W3 : World), KeepsFrom w.heap.size W2 W3 → ∃ W4, (Instr.endRound (D + 1) j).run P W3 = .ok (.bool j.isNone) W4 ∧
        W4 = W3.putObj (D + 1) (.loop (rc (if j.isNone then .ready else .done) j)) ∧ W3.heap[D + 1]? = some (.loop { rc .ready none with state := .busy }) ∧
        W4.heap[D + 1]? = some (.loop (rc (if j.isNone then .ready else .done) j)) ∧ W4.heap[D]? = some (.deferred (some [])) := fun j W3 hk3 => by
      have hl3 := hk3.same _ _ (by omega) hl2 rfl
      have he := run_endRound (P := P) j hl3
      refine ⟨_, ?_, rfl, hl3, World.putObj_heap_same (Array.getElem?_eq_some_iff.1 hl3).1, (World.putObj_heap_other (by omega)).trans (hk3.same _ _ (by omega) hk2 rfl)⟩
      rw [hrc] at he ⊢
      exact he
    have leave : ∀ (c : Code) (W3 : World), KeepsFrom w.heap.size W2 W3 → Ix c (pre ++ [x]) W3 → ∃ v W4, (Instr.endRound (D + 1) (some c)).run P W3 = .ok v W4 ∧
        (v = .bool false ∧ ∃ c, Ix c (pre ++ [x]) W4 ∧ W4.heap[D + 1]? = some (.loop (rc .done (some c))) ∧ W4.heap[D]? = some (.deferred (some []))) := fun c W3 hk3 hi3 => by
      obtain ⟨W4, hr, e4, hl3, hl4, hk4⟩ := fin (some c) W3 hk3
      exact ⟨_, W4, hr, rfl, c, by rw [e4]; exact (hIx c).putObj _ hi3 (by omega) hl3 rfl, hl4, hk4⟩
    rintro e a3 W3 hp
    cases e with
    | normal =>
      obtain ⟨hk3, hkp3, hi3⟩ := hp
      obtain ⟨W4, hr, e4, hl3, hl4, hk4⟩ := fin none W3 hk3
      exact ⟨_, _, hr, .inl ⟨rfl, ⟨by rw [e4]; exact hI.putObj _ hi3 (by omega) hl3 rfl, hl4, hk4⟩, hKt (hKt hw2 hkp3) (by rw [e4]; exact hKb _ _ _ (by omega))⟩⟩
    | ret => obtain ⟨v, W4, hr, rfl, h⟩ := leave .ret W3 hp.1 hp.2; exact ⟨_, _, hr, .inr ⟨rfl, h⟩⟩
    | exit id => obtain ⟨v, W4, hr, rfl, h⟩ := leave (.exit id) W3 hp.1 hp.2; exact ⟨_, _, hr, .inr ⟨rfl, h⟩⟩
    | goto t => obtain ⟨v, W4, hr, rfl, h⟩ := leave (.goto t) W3 hp.1 hp.2; exact ⟨_, _, hr, .inr ⟨rfl, h⟩⟩
    | panic ch => exact hp.elim
    | outgrown => exact hp.elim
  · rintro e W2 ⟨⟨v, rfl⟩, (⟨xs, hS, hi, hl, hk⟩ | ⟨pre, hSp, c, hi, hl, hk⟩)⟩
    · exact ⟨none, _, by have := run_endLoop (P := P) hl (by rw [hrc]; simp); rw [hrc] at this; exact this, hdone D xs _ (by omega) hS (hI.putObj _ hi (by omega) hl rfl) ((World.putObj_heap_other (by omega)).trans hk)⟩
    · exact ⟨some c, _, by have := run_endLoop (P := P) hl (by rw [hrc]; simp); rw [hrc] at this; exact this, hstop D c pre _ (by omega) hSp ((hIx c).putObj _ hi (by omega) hl rfl) ((World.putObj_heap_other (by omega)).trans hk)⟩
end Go.Proofs.YtfkoehfkiommpaaGreatDoor

namespace Go.Proofs.YtfkoehfkiommpaaGreatDoor
open Go.RowKit Go.Shelf

attribute [local go_sem] Oper.semAt_some

def cut1 (l : List UInt8) : List UInt8 := (Lib.cut l [47]).1
def cut2 (l : List UInt8) : List UInt8 := (Lib.cut l [47]).2.1
theorem cut1_le (l : List UInt8) : (cut1 l).length ≤ l.length := by
  unfold cut1 Lib.cut; split
  · simp; omega
  · exact Nat.le_refl _
theorem cut2_lt (l : List UInt8) (h : 0 < l.length) : (cut2 l).length < l.length := by
  unfold cut2 Lib.cut; split
  · simp; omega
  · exact h

/-- The parts of a path. -/
def partsN : Nat → List UInt8 → List (List UInt8)
  | 0, _ => []
  | n + 1, l => if l.length = 0 then [] else if (cut1 l).length = 0 then partsN n (cut2 l) else cut1 l :: partsN n (cut2 l)
theorem partsN_enough : ∀ (n m : Nat) (l : List UInt8), l.length ≤ n → l.length ≤ m → partsN n l = partsN m l
  | 0, 0, _, _, _ => rfl
  | 0, m + 1, l, h, _ => by simp [partsN, show l.length = 0 by omega]
  | n + 1, 0, l, _, h => by simp [partsN, show l.length = 0 by omega]
  | n + 1, m + 1, l, h1, h2 => by
    simp only [partsN]
    split
    · rfl
    · have := cut2_lt l (by omega)
      rw [partsN_enough n m (cut2 l) (by omega) (by omega)]
def partsL (l : List UInt8) : List (List UInt8) := partsN l.length l
theorem partsL_nil {l : List UInt8} (h : l.length = 0) : partsL l = [] := by
  unfold partsL; rw [h]; rfl
theorem partsL_cons {l : List UInt8} (h : 0 < l.length) : partsL l = if (cut1 l).length = 0 then partsL (cut2 l) else cut1 l :: partsL (cut2 l) := by
  unfold partsL
  have := cut2_lt l h
  rw [partsN_enough l.length (l.length - 1 + 1) l (by omega) (by omega)]
  simp only [partsN]
  rw [if_neg (by omega), partsN_enough (l.length - 1) (cut2 l).length (cut2 l) (by omega) (by omega)]
abbrev Pt := { s : ByteArray // s.size ≤ 2147483648 }
def Pt.encs (x : Pt) : Array Value := #[.string x.1]
def told (ys : List Pt) : List (List UInt8) := ys.map fun x => x.1.data.toList

/-- What a round that goes on keeps: all below n₀, and the iterator's box. -/
def KeepsB (n₀ B : Nat) (W W' : World) : Prop := Below n₀ W W' ∧ W'.heap[B]? = W.heap[B]?
theorem KeepsB.trans {n₀ B : Nat} {X Y Z : World} (h : KeepsB n₀ B X Y) (k : KeepsB n₀ B Y Z) : KeepsB n₀ B X Z := ⟨h.1.trans k.1, k.2.trans h.2⟩

def pathLen (B : Nat) (w : World) : Nat := match w.cell? ⟨B, 0, none⟩ with | some (.string s) => s.size | _ => 0

def cut3 (l : List UInt8) : Bool := (Lib.cut l [47]).2.2
theorem cut_c (p : List UInt8) (m : Int) (w1 : World) (hl : p.length < 4294967281) (hm : w1.cell? ⟨0, 0, none⟩ = some (.int .i64 m)) :
    Calls Tryz.prog 44 #[.string ⟨p.toArray⟩, .string ⟨#[47]⟩] w1 fun e w' => e = .returned (.tuple #[.string ⟨(cut1 p).toArray⟩, .string ⟨(cut2 p).toArray⟩, .bool (cut3 p)]) ∧ ∃ n, w' = w1.drewN n :=
  Tryz.strings_Cut ⟨p.toArray⟩ ⟨#[47]⟩ m w1 (by simpa [ByteArray.size] using hl) hm

theorem box_set {w : World} {b t : Nat} {u : Value} (h : w.heap[b]? = some (.cells #[u] t)) (v : Value) : (w.setCell ⟨b, 0, none⟩ v).heap[b]? = some (.cells #[v] t) := by
  simp [World.setCell, Array.getElem?_modify, h]
theorem pathLen_set {w : World} {b t : Nat} {u : Value} (h : w.heap[b]? = some (.cells #[u] t)) (s : ByteArray) : pathLen b (w.setCell ⟨b, 0, none⟩ (.string s)) = s.size := by
  simp [pathLen, World.cell?, box_set h]

theorem grown_drewN (w : World) (n : Nat) (r : Option Nat) : w.grownBy (w.drewN n) r := ⟨rfl, rfl, rfl, Nat.le_refl _, fun _ _ _ => rfl⟩

set_option maxRecDepth 100000 in
set_option maxHeartbeats 2000000 in
theorem parts_gives (Bp n₀ : Nat) (s : ByteArray) (m : Int) (w : World) (hs : s.size ≤ 2147483648) (hBp : n₀ ≤ Bp) (hn₀ : 0 < n₀) (_hn₁ : n₀ ≤ w.heap.size) (hB : Bp < w.heap.size)
    (hcb : w.heap[Bp]? = some (.cells #[.string s] 9)) (hm : w.cell? ⟨0, 0, none⟩ = some (.int .i64 m)) (n : Nat) (hn : 2 ≤ n) :
    GivesBox Fence.wide n Tryz.prog 251 #[.pointer (some ⟨Bp, 0, none⟩)] Pt.encs (KeepsB n₀ Bp) (fun ys => told ys = partsL s.data.toList) (fun ys => ∃ r, told ys ++ r = partsL s.data.toList) (s.size + 1) Bp w := by
  intro l J Jx W hW hJ hJx hY h0
  have hcb' : W.heap[Bp]? = some (.cells #[.string s] 9) := (hW.block Bp hB).trans hcb
  have hm' : W.cell? ⟨0, 0, none⟩ = some (.int .i64 m) := (hW.cell (p := ⟨0, 0, none⟩) (show 0 < w.heap.size by omega)).trans hm
  clear hcb hm hW _hn₁ hB
  refine callsIn_of_wp Tryz.func251 rfl trivial ?_ rfl
  simp only [Tryz.ntmps251, List.size_toArray, List.length_cons, List.length_nil, Nat.reduceAdd, Nat.reduceSub, Array.replicate_succ, Array.replicate_zero, List.push_toArray, List.append_toArray, List.nil_append, List.cons_append]
  gi_wp2
  gi_loopw [6] (fun _ wr => ∃ (p : List UInt8) (ys : List Pt), wr.heap[Bp]? = some (.cells #[.string ⟨p.toArray⟩] 9) ∧ wr.cell? ⟨0, 0, none⟩ = some (.int .i64 m) ∧ p.length ≤ s.size ∧ ys.length + p.length ≤ s.size ∧ Hid (told ys ++ partsL p = partsL s.data.toList) ∧ J ys wr) (fun _ wr => pathLen Bp wr)
  case atStart => exact ⟨s.data.toList, [], by simpa using hcb', hm', by rw [← Lib.size_eq]; exact Nat.le_refl _, by rw [← Lib.size_eq]; simp, rfl, h0⟩
  case round =>
    obtain ⟨p, ys, hcp, hmr, hpl, hyl, HT, hJs⟩ := hrel
    have hc : wr.cell? ⟨Bp, 0, none⟩ = some (.string ⟨p.toArray⟩) := by simp [World.cell?, hcp]
    have hf : wr.frozen? ⟨Bp, 0, none⟩ = false := by simp [World.frozen?, hcp]
    have HM : Hid (pathLen Bp wr = p.length) := by show _ = _; simp [pathLen, hc, ByteArray.size]
    clear hcb' hm' h0
    have h1 : 1 ≤ n := by omega
    have hsz : (⟨p.toArray⟩ : ByteArray).size = p.length := by simp [ByteArray.size]
    by_cases hp : p.length = 0
    · have hp0 : ¬ (0 : Int) < (p.length : Int) := by omega
      gi_wp2
      go_end0
      exact ⟨⟨_, rfl⟩, .inl ⟨ys, by rw [← HT.out, partsL_nil hp, List.append_nil], hJs⟩⟩
    · have hp0 : (0 : Int) < (p.length : Int) := by omega
      have HC := Lib.hid (partsL_cons (l := p) (by omega))
      have HL := Lib.hid (cut2_lt p (by omega))
      have H1 := Lib.hid (cut1_le p)
      by_cases hq : (cut1 p).length = 0
      · have he : (cut1 p).isEmpty = true := by simpa using hq
        have HT2 : Hid (told ys ++ partsL (cut2 p) = partsL s.data.toList) := by show _ = _; rw [← HT.out, HC.out, if_pos hq]
        clear hq
        gi_wp2_with (refine ⟨trivial, ?_⟩; gi_at_call 44; refine (callsIn_wide.2 (cut_c p m _ (by omega) hmr)).mono ?_; rintro e w2 ⟨rfl, k, hw2⟩; have hcp2 : w2.heap[Bp]? = some (.cells #[.string ⟨p.toArray⟩] 9) := (by rw [hw2]; exact hcp); have hJ2 := hJ _ _ _ hJs (grown_drewN wr k (some Bp)); rw [← hw2] at hJ2; have hc2 : w2.cell? ⟨Bp, 0, none⟩ = some (.string ⟨p.toArray⟩) := (by simp [World.cell?, hcp2]); have hf2 : w2.frozen? ⟨Bp, 0, none⟩ = false := (by simp [World.frozen?, hcp2]); have hm2 : w2.cell? ⟨0, 0, none⟩ = some (.int .i64 m) := (by rw [hw2]; exact hmr); clear hw2)
        refine ⟨fun _ h => (by cases h), ?_⟩
        gi_wp2
        go_roundw
        case rel => exact ⟨cut2 p, ys, box_set hcp2 _, (World.cell?_setCell_other _ _ _ _ (by intro h; injection h with h1; omega)).trans hm2, by have := HL.out; omega, by have := HL.out; omega, HT2, hJ _ _ _ hJ2 (grownBy_setCell' _ _ _)⟩
        case measure => rw [HM.out, pathLen_set hcp2]; have := HL.out; simpa [ByteArray.size] using this
      · have he : (cut1 p).isEmpty = false := by simpa using hq
        have HT2 : Hid (told ys ++ cut1 p :: partsL (cut2 p) = partsL s.data.toList) := by show _ = _; rw [← HT.out, HC.out, if_neg hq]
        obtain ⟨px, hpe, HP⟩ : ∃ px : Pt, px.encs = #[.string ⟨(cut1 p).toArray⟩] ∧ Hid (px.1.data.toList = cut1 p) := ⟨⟨⟨(cut1 p).toArray⟩, by have := H1.out; simp [ByteArray.size]; omega⟩, rfl, by show _ = _; simp⟩
        have HT3 : Hid (told (ys ++ [px]) ++ partsL (cut2 p) = partsL s.data.toList) := by show _ = _; rw [← HT2.out, told, List.map_append, List.map_cons, List.map_nil, HP.out, List.append_assoc]; rfl
        clear hq
        gi_wp2_with (refine ⟨trivial, ?_⟩; gi_at_call 44; refine (callsIn_wide.2 (cut_c p m _ (by omega) hmr)).mono ?_; rintro e w2 ⟨rfl, k, hw2⟩; have hcp2 : w2.heap[Bp]? = some (.cells #[.string ⟨p.toArray⟩] 9) := (by rw [hw2]; exact hcp); have hJ2 := hJ _ _ _ hJs (grown_drewN wr k (some Bp)); rw [← hw2] at hJ2; have hc2 : w2.cell? ⟨Bp, 0, none⟩ = some (.string ⟨p.toArray⟩) := (by simp [World.cell?, hcp2]); have hf2 : w2.frozen? ⟨Bp, 0, none⟩ = false := (by simp [World.frozen?, hcp2]); have hm2 : w2.cell? ⟨0, 0, none⟩ = some (.int .i64 m) := (by rw [hw2]; exact hmr); clear hw2; obtain ⟨fn, tmps, assign, body, hy, hR⟩ := hY ys px w2 hJ2 (by omega); rw [hpe] at hy)
        refine hR.mono ?_
        rintro e W3 (⟨rfl, hJ3, hk3⟩ | ⟨rfl, hJx3⟩)
        · have hcp3 : W3.heap[Bp]? = some (.cells #[.string ⟨p.toArray⟩] 9) := hk3.2.trans hcp2
          have hc3 : W3.cell? ⟨Bp, 0, none⟩ = some (.string ⟨p.toArray⟩) := by simp [World.cell?, hcp3]
          have hf3 : W3.frozen? ⟨Bp, 0, none⟩ = false := by simp [World.frozen?, hcp3]
          have hm3 : W3.cell? ⟨0, 0, none⟩ = some (.int .i64 m) := (hk3.1.cell (p := ⟨0, 0, none⟩) hn₀).trans hm2
          gi_wp2
          go_roundw
          case rel => exact ⟨cut2 p, ys ++ [px], box_set hcp3 _, (World.cell?_setCell_other _ _ _ _ (by intro h; injection h with h1; omega)).trans hm3, by have := HL.out; omega, by have := HL.out; simp; omega, HT3, hJ _ _ _ hJ3 (grownBy_setCell' _ _ _)⟩
          case measure => rw [HM.out, pathLen_set hcp3]; have := HL.out; simpa [ByteArray.size] using this
        · gi_wp2
          refine bodyPost_ret (results_none rfl _ _ _) rfl ?_
          exact ⟨⟨_, rfl⟩, .inr ⟨_, ⟨_, HT3.out⟩, hJx3⟩⟩
end Go.Proofs.YtfkoehfkiommpaaGreatDoor
