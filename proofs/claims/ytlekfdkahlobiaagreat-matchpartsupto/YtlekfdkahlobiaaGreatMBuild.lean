/- A task that is done. -/
import Derived.WalkSmall
import Derived.Test.YtlekfdkahlobiaaGreatMNodeS
import Derived.Test.YtlekfdkahlobiaaGreatMReach
namespace Go.Proofs.YtlekfdkahlobiaaGreat.Re
open Go.Proofs.YtlekfdkahlobiaaGreat.Tr
open Go.RowKit Go.Maps

theorem sizes_le_size (x : Nd) : Nd.size.sizes x.kids + 1 ≤ x.size := by
  obtain ⟨k, p, m, n, l⟩ := x
  rw [Nd.size]
  show Nd.size.sizes l + 1 ≤ _
  split
  · have h : Nd.size.sizes l * 1 ≤ Nd.size.sizes l * max 1 (if n < 0 then m else n).toNat := Nat.mul_le_mul_left _ (Nat.le_max_left _ _)
    omega
  · omega
section
variable {w0 w : World} {bb pg mb : Nat} {B : Bst} {U : List Tsk}
/-- What a task leaves. -/
def TaskO (w0 : World) (bb pg mb : Nat) (t : Tsk) (B : Bst) (U : List Tsk) (e : Ending) (w' : World) : Prop :=
  ∃ B' T, e = .returned (.tuple #[]) ∧ Bu w0 w' bb pg mb B' (U ++ T.reverse) ∧ TaskF t B B' T
theorem task_u {v : Value} {t : Tsk} (h : Bu w0 w bb pg mb B U) (hv : TaskV w0 w bb v t) (hB : Okb B) (ht : OkT B t) (hw : WfT t) (hn : B.sts.length ≤ 50000) (hn2 : B.sets.length ≤ 50000) (hl : U.length + wT t ≤ 50000) :
    ∃ f caps, v = .func (.func f) #[] caps ∧ (∀ z u, (callFunc f z).run Tryz.prog u = .ok (.enter f z) u) ∧ Calls Tryz.prog f caps w (TaskO w0 bb pg mb t B U) := by
  have h0 : 0 < B.sts.length := Nat.lt_of_le_of_lt (Nat.zero_le _) hB.first
  rcases hv with ⟨f, b, c, p, h1, rfl, h3, h4, h5, h6, h7⟩ | ⟨b, c, d, p, rfl, h3, h4, h5, h6, h7, h8⟩ | ⟨f, b, c, h1, rfl, h3, h4, h5⟩ | ⟨b, c, d, rfl, h3, h4, h5, h6⟩
  · have hs := sizes_le_size t.nd
    have hN : NodeC w0 w bb pg mb t.nd B U := node_u (hw (by omega)) h0 (by omega) (by omega) (by
      unfold wT at hl
      rw [if_pos h7] at hl
      omega)
    refine ⟨f, _, rfl, fun z u => ?_, (clo_node h h5 h6 hN h3 h4 h1).mono fun e w' hq => ?_⟩
    · rcases h1 with rfl | rfl
      · kernel_rfl
      · kernel_rfl
    · obtain ⟨B', T, e1, e2, _, e4⟩ := hq
      exact ⟨B', T, e1, e2, task_node h7 rfl e4⟩
  · have hs := sizes_le_size t.nd
    have hN : ∀ w', NodeC w0 w' bb pg mb t.nd (B.at t.a) (U ++ [tFork B.first]) := fun w' => node_u (hw (by omega)) h0 (by show B.sts.length ≤ _; omega) (by show B.sets.length ≤ _; omega) (by
      unfold wT at hl
      rw [if_neg (by omega), if_pos h8] at hl
      rw [List.length_append, List.length_cons, List.length_nil]
      omega)
    refine ⟨_, _, rfl, fun z u => by kernel_rfl, (clo_branch h h6 h7 hN h3 h4 h5 (by omega)).mono fun e w' hq => ?_⟩
    obtain ⟨B', T, e1, e2, _, e4⟩ := hq
    exact ⟨B', T ++ [tFork B.first], e1, by rw [List.reverse_append, List.reverse_singleton, ← List.append_assoc]; exact e2, task_branch h8 e4⟩
  · refine ⟨f, _, rfl, fun z u => ?_, (clo_fork h (by omega) h3 h4 h1).mono fun e w' hq => ?_⟩
    · rcases h1 with rfl | rfl
      · kernel_rfl
      · kernel_rfl
    · obtain ⟨e1, e2, _⟩ := hq
      exact ⟨_, [], e1, by rw [List.reverse_nil, List.append_nil]; exact e2, task_fork h5⟩
  · obtain ⟨s, hs⟩ : ∃ s, B.sts[t.a]? = some s := ⟨_, List.getElem?_eq_getElem (ht (by omega))⟩
    refine ⟨_, _, rfl, fun z u => by kernel_rfl, (clo_loop h hs h3 h4 h5).mono fun e w' hq => ?_⟩
    obtain ⟨e1, e2, _⟩ := hq
    exact ⟨_, [], e1, by rw [List.reverse_nil, List.append_nil]; exact e2, task_loop h6 hs⟩
/-- The last task is taken off. -/
theorem Bu.pop {t : Tsk} (h : Bu w0 w bb pg mb B (U ++ [t])) : ∃ g cap v, w.cell? ⟨bb, 2, none⟩ = some (.slice (some ⟨g, 0, none⟩) (U.length + 1) cap) ∧ U.length + 1 ≤ cap ∧ cap ≤ 9223372036854775807 ∧ w.cell? ⟨g, U.length, none⟩ = some v ∧ w.frozen? ⟨bb, 2, none⟩ = false ∧
    Bu w0 (w.setCell ⟨bb, 2, none⟩ (.slice (some ⟨g, 0, none⟩) U.length cap)) bb pg mb B U ∧ TaskV w0 (w.setCell ⟨bb, 2, none⟩ (.slice (some ⟨g, 0, none⟩) U.length cap)) bb v t := by
  obtain ⟨sv, tv, lv, fs, h1, h2, h3⟩ := h
  obtain ⟨gs, V, v, t', rfl, e2, h4, h5⟩ := TasksV.pop h2 (fun e => by
    have := TasksV.len h2
    rw [e] at this
    simp at this)
  obtain ⟨rfl, e3⟩ := List.append_inj' e2 rfl
  cases e3
  have hlen := TasksV.len h4
  have hlf := h1.lf
  rw [List.length_append, List.length_cons, List.length_nil, Nat.zero_add] at hlf
  rcases hlf.2 with ⟨_, e0⟩ | ⟨g, cap, cur, rfl, hb, hg, hle, hcap, hsz, ht⟩
  · omega
  have hpop := ownsRow_pop (size := 1) (by rw [Nat.mul_one]) hlf
  have k : Only [72] w (w.setCell ⟨bb, 2, none⟩ (.slice (some ⟨g, 0, none⟩) U.length cap)) := Only.set h1.bd (by decide) _ _
  have k2 := k.more (S' := bTys) (by decide)
  obtain ⟨f, m1, m2⟩ := h1.mp
  refine ⟨g, cap, v, by rw [← hlen]; exact h_cell h1.bd 2 rfl, by omega, by unfold maxLen at hcap; exact hcap, ?_, h_fz h1.bd 2, ⟨sv, tv, .slice (some ⟨g, 0, none⟩) U.length cap, gs, ⟨?_, k.cells h1.pr (by decide), k.row h1.st (by decide), k.row h1.se (by decide), ⟨f, k.map m1, m2⟩, ?_, h1.gb, h1.gp, h1.gm⟩, TasksV.keep k2 h4, h3.setCell (p := ⟨bb, 2, none⟩) h1.gb _⟩, h5.keep k2⟩
  · refine h_cell hg _ ?_
    have e5 : (gs ++ [v])[gs.length]? = some v := by simp
    rw [← ht, List.getElem?_take, if_pos (by omega), Array.getElem?_toList, hlen] at e5
    exact e5
  · simpa using h_set h1.bd 2 (.slice (some ⟨g, 0, none⟩) U.length cap)
  · have hr := k.row hpop (by decide)
    rw [hlen] at hr ⊢
    exact hr
/-- No task is left. -/
theorem Bu.none (h : Bu w0 w bb pg mb B []) : ∃ a cap, w.cell? ⟨bb, 2, none⟩ = some (.slice a 0 cap) := by
  obtain ⟨sv, tv, lv, fs, h1, h2, _⟩ := h
  have hlen := TasksV.len h2
  obtain ⟨a, c, rfl⟩ := own_sh h1.lf
  rw [hlen] at h1
  exact ⟨a, c, h_cell h1.bd 2 rfl⟩
end
end Go.Proofs.YtlekfdkahlobiaaGreat.Re

namespace Go.Proofs.YtlekfdkahlobiaaGreat.Re

theorem goN_eps {b : List UInt8} {B : Bst} {a : Nat} : ∀ {k q q' : Nat}, epsN b.length B a k q q' → goN' b B k q a q' a
  | 0, _q, _q', e => ⟨e, rfl⟩
  | _k + 1, _q, _q', ⟨s, r, h1, h2, h3⟩ => ⟨r, a, ⟨s, h1, .inl ⟨h2, rfl⟩⟩, goN_eps h3⟩
theorem step_fwd {b : List UInt8} {B : Bst} {q i r j : Nat} (h : stepS b B q i r j) : i ≤ j ∧ j ≤ i + 1 := by
  obtain ⟨s, _, ⟨_, e⟩ | ⟨_, _, e, _⟩⟩ := h <;> omega
theorem goN_fwd {b : List UInt8} {B : Bst} : ∀ {k q i r j : Nat}, goN' b B k q i r j → i ≤ j
  | 0, q, i, r, j, ⟨_, e⟩ => by omega
  | k + 1, q, i, r, j, ⟨_, _, h1, h2⟩ => Nat.le_trans (step_fwd h1).1 (goN_fwd h2)
theorem goN_end {b : List UInt8} {B : Bst} : ∀ {k q i r j : Nat}, goN' b B k q i r j → i ≤ b.length → j ≤ b.length
  | 0, q, i, r, j, ⟨_, e⟩, hi => by omega
  | k + 1, q, i, r, j, ⟨x, y, ⟨s, _, hs⟩, h2⟩, hi => by
    refine goN_end h2 ?_
    rcases hs with ⟨_, e⟩ | ⟨_, _, e, c, p, h, _⟩
    · omega
    · have := (List.getElem?_eq_some_iff.1 h).1
      omega
/-- A byte that a state takes. -/
def tak (b : List UInt8) (B : Bst) (q a q' : Nat) : Prop :=
  ∃ s c p, B.sts[q]? = some s ∧ s.kind = 1 ∧ q' = s.next ∧ b[a]? = some c ∧ B.sets[s.set]? = some p ∧ p c = true
/-- A way from a place to a later one: there is a last state at the first one, and a byte is taken there. -/
theorem go_split {b : List UInt8} {B : Bst} {a : Nat} : ∀ {k q i q' j : Nat}, goN' b B k q i q' j → i ≤ a → a < j → ∃ q1 r, goS' b B q i q1 a ∧ tak b B q1 a r ∧ goS' b B r (a + 1) q' j
  | 0, q, i, q', j, ⟨_, e⟩, h1, h2 => by omega
  | k + 1, q, i, q', j, ⟨x, y, ⟨s, hs, h⟩, h3⟩, h1, h2 => by
    rcases h with ⟨he, rfl⟩ | ⟨hk, rfl, rfl, c, p, hc, hp, ht⟩
    · obtain ⟨q1, r, g1, g2, g3⟩ := go_split h3 h1 h2
      exact ⟨q1, r, goS_trans (goS_step ⟨s, hs, .inl ⟨he, rfl⟩⟩) g1, g2, g3⟩
    · by_cases e : i = a
      · subst e
        exact ⟨q, s.next, goS_refl _ _ _ _, ⟨s, c, p, hs, hk, rfl, hc, hp, ht⟩, ⟨k, h3⟩⟩
      · obtain ⟨q1, r, g1, g2, g3⟩ := go_split h3 (by omega) h2
        exact ⟨q1, r, goS_trans (goS_step ⟨s, hs, .inr ⟨hk, rfl, rfl, c, p, hc, hp, ht⟩⟩) g1, g2, g3⟩
theorem go_same {b : List UInt8} {B : Bst} {a : Nat} : ∀ {k q q' : Nat}, goN' b B k q a q' a → epsN b.length B a k q q'
  | 0, q, q', ⟨e, _⟩ => e
  | k + 1, q, q', ⟨x, y, ⟨s, hs, h⟩, h3⟩ => by
    rcases h with ⟨he, rfl⟩ | ⟨_, _, rfl, _⟩
    · exact ⟨s, x, hs, he, go_same h3⟩
    · have := goN_fwd h3
      omega
/-- It stands from a place to another one, by the states. -/
abbrev acc (b : List UInt8) (B : Bst) (i j : Nat) : Prop := goS' b B B.first i 0 j
/-- The best one of those of which P holds: the first, and there the longest. -/
def BestP (P : Nat → Nat → Prop) (is : Bool) (g z : Nat) : Prop :=
  if is = true then P g z ∧ ∀ i j, P i j → g < i ∨ (g = i ∧ j ≤ z) else g = 0 ∧ z = 0 ∧ ∀ i j, ¬ P i j
theorem BestP.congr {P Q : Nat → Nat → Prop} {is : Bool} {g z : Nat} (h : BestP P is g z) (e : ∀ i j, P i j ↔ Q i j) : BestP Q is g z := by
  unfold BestP at h ⊢
  split
  · rename_i hi
    rw [if_pos hi] at h
    exact ⟨(e _ _).1 h.1, fun i j hq => h.2 i j ((e i j).2 hq)⟩
  · rename_i hi
    rw [if_neg hi] at h
    exact ⟨h.1, h.2.1, fun i j hq => h.2.2 i j ((e i j).2 hq)⟩
/-- More of which it holds, none of them better. -/
theorem BestP.more {P Q : Nat → Nat → Prop} {is : Bool} {g z : Nat} (h : BestP P is g z) (e : ∀ i j, P i j → Q i j) (hq : ∀ i j, Q i j → P i j ∨ (is = true ∧ g < i)) : BestP Q is g z := by
  unfold BestP at h ⊢
  split
  · rename_i hi
    rw [if_pos hi] at h
    exact ⟨e _ _ h.1, fun i j hx => (hq i j hx).elim (h.2 i j) (fun h => .inl h.2)⟩
  · rename_i hi
    rw [if_neg hi] at h
    exact ⟨h.1, h.2.1, fun i j hx => (hq i j hx).elim (h.2.2 i j) (fun h => hi h.1)⟩
theorem BestP.yes {P : Nat → Nat → Prop} {is : Bool} {g z : Nat} (h : BestP P is g z) (hi : is = true) : P g z ∧ ∀ i j, P i j → g < i ∨ (g = i ∧ j ≤ z) := by
  unfold BestP at h
  rw [if_pos hi] at h
  exact h
def Pat (b : List UInt8) (B : Bst) (fr at' i j : Nat) : Prop := fr ≤ i ∧ j < at' ∧ acc b B i j
/-- At a place: begins ahead of lim are looked at. -/
structure HdI (b : List UInt8) (B : Bst) (fr at' lim : Nat) (rch : List Nat) (tr : List (Nat × Nat)) (is : Bool) (g z : Nat) : Prop where
  wk : WkI b.length B at' rch tr []
  snd : ∀ t ∈ tr, fr ≤ t.1 ∧ t.1 < lim ∧ goS' b B B.first t.1 t.2 at'
  sorted : tr.Pairwise fun s t => s.1 ≤ t.1
  cmp : ∀ (i q : Nat) (s : Stt), fr ≤ i → i < lim → (is = true → i ≤ g) → B.sts[q]? = some s → s.kind ≤ 1 → goS' b B B.first i q at' → ∃ i', i' ≤ i ∧ (i', q) ∈ tr
  best : BestP (Pat b B fr at') is g z
theorem goS_end {b : List UInt8} {B : Bst} {q i r j : Nat} (h : goS' b B q i r j) : i ≤ j := let ⟨_, h⟩ := h; goN_fwd h
/-- The first head. -/
theorem HdI.start {b : List UInt8} {B : Bst} {fr : Nat} {rch : List Nat} (hl : rch.length = B.sts.length) (hz : ∀ (q v : Nat), rch[q]? = some v → v = 0) : HdI b B fr fr fr rch [] false 0 0 := by
  refine ⟨WkI.next hl (fun q v h => by rw [hz q v h]; exact Nat.zero_le _), fun t h => (by cases h), List.Pairwise.nil, fun i q s h1 h2 => by omega, ?_⟩
  unfold BestP
  rw [if_neg (by simp)]
  refine ⟨rfl, rfl, fun i j ⟨h1, h2, h3⟩ => ?_⟩
  have := goS_end h3
  omega
/-- Nothing was found yet: here a begin more. -/
theorem HdI.begin {b : List UInt8} {B : Bst} {fr at' : Nat} {rch rch' : List Nat} {tr tr' : List (Nat × Nat)} {g z : Nat} (h : HdI b B fr at' at' rch tr false g z) (hf : fr ≤ at') (hr : RcO b.length B at' at' B.first tr rch' tr') : HdI b B fr at' (at' + 1) rch' tr' false g z := by
  obtain ⟨nw, e, hn⟩ := hr.new
  have h0 : ∀ t ∈ tr, t.1 ≤ at' := fun t ht => Nat.le_of_lt (h.snd t ht).2.1
  refine ⟨hr.wk, fun t ht => ?_, ?_, fun i q s h1 h2 h3 h4 h5 h6 => ?_, h.best⟩
  · rw [e] at ht
    rcases List.mem_append.1 ht with ht | ht
    · have := h.snd t ht
      exact ⟨this.1, by omega, this.2.2⟩
    · obtain ⟨e1, k, hk⟩ := hn t ht
      rw [e1]
      exact ⟨hf, by omega, k, goN_eps hk⟩
  · rw [e, List.pairwise_append]
    refine ⟨h.sorted, ?_, fun s hs t ht => ?_⟩
    · refine List.pairwise_of_forall_mem_list fun s hs t ht => ?_
      rw [(hn s hs).1, (hn t ht).1]
      exact Nat.le_refl _
    · rw [(hn t ht).1]
      exact h0 s hs
  · by_cases e2 : i = at'
    · subst e2
      obtain ⟨k, hk⟩ := h6
      exact hr.comp h0 (go_same hk) h4 h5
    · obtain ⟨i', h7, h8⟩ := h.cmp i q s h1 (by omega) h3 h4 h5 h6
      exact ⟨i', h7, by rw [e]; exact List.mem_append.2 (.inl h8)⟩
/-- Something was found: no begin more. -/
theorem HdI.found {b : List UInt8} {B : Bst} {fr at' : Nat} {rch : List Nat} {tr : List (Nat × Nat)} {g z : Nat} (h : HdI b B fr at' at' rch tr true g z) : HdI b B fr at' (at' + 1) rch tr true g z := by
  refine ⟨h.wk, fun t ht => ?_, h.sorted, fun i q s h1 h2 h3 h4 h5 h6 => ?_, h.best⟩
  · have := h.snd t ht
    exact ⟨this.1, by omega, this.2.2⟩
  · have h7 := (h.best.yes rfl).1
    have h8 := goS_end h7.2.2
    have := h7.2.1
    have := h3 rfl
    exact h.cmp i q s h1 (by omega) h3 h4 h5 h6
/-- No trail is left: nothing better comes. -/
theorem HdI.stop {b : List UInt8} {B : Bst} (hB : Okb B) {fr at' : Nat} {rch : List Nat} {g z : Nat} (h : HdI b B fr at' (at' + 1) rch [] true g z) (N : Nat) (hN : at' ≤ N) : BestP (Pat b B fr N) true g z := by
  have h9 := (h.best.yes rfl)
  refine h.best.more (fun i j ⟨h1, h2, h3⟩ => ⟨h1, by omega, h3⟩) fun i j ⟨h1, h2, h3⟩ => ?_
  by_cases hj : j < at'
  · exact .inl ⟨h1, hj, h3⟩
  refine .inr ⟨rfl, ?_⟩
  refine Nat.lt_of_not_le fun hig => ?_
  have g1 := h9.1.2.1
  have g2 := goS_end h9.1.2.2
  have hi : i < at' + 1 := by omega
  obtain ⟨k, hk⟩ := h3
  by_cases ej : j = at'
  · subst ej
    obtain ⟨s, hs⟩ : ∃ s, B.sts[0]? = some s := ⟨_, List.getElem?_eq_getElem (Nat.lt_of_le_of_lt (Nat.zero_le _) hB.first)⟩
    obtain ⟨i', _, hm⟩ := h.cmp i 0 s h1 hi (fun _ => hig) hs (by have := (hB.zero 0 s hs).2 rfl; omega) ⟨k, hk⟩
    cases hm
  · obtain ⟨q1, r, h4, ⟨s, c, p, h5, h6, _⟩, _⟩ := go_split (a := at') hk (by omega) (by omega)
    obtain ⟨i', _, hm⟩ := h.cmp i q1 s h1 hi (fun _ => hig) h5 (by omega) h4
    cases hm
/-- Within a place: so many trails are done. -/
structure InI (b : List UInt8) (B : Bst) (fr at' : Nat) (T : List (Nat × Nat)) (k : Nat) (rch : List Nat) (tr : List (Nat × Nat)) (is : Bool) (g z : Nat) : Prop where
  wk : WkI b.length B (at' + 1) rch tr []
  snd : ∀ t ∈ tr, fr ≤ t.1 ∧ t.1 < at' + 1 ∧ goS' b B B.first t.1 t.2 (at' + 1)
  sorted : tr.Pairwise fun s t => s.1 ≤ t.1
  lt : ∀ t ∈ tr, ∀ u ∈ T.drop k, t.1 ≤ u.1
  cmp : ∀ t ∈ T.take k, ∀ r, tak b B t.2 at' r → ∀ (m q : Nat) (s : Stt), epsN b.length B (at' + 1) m r q → B.sts[q]? = some s → s.kind ≤ 1 → ∃ i', i' ≤ t.1 ∧ (i', q) ∈ tr
  best : BestP (fun i j => Pat b B fr at' i j ∨ (j = at' ∧ (i, 0) ∈ T.take k)) is g z
theorem InI.start {b : List UInt8} {B : Bst} {fr at' : Nat} {rch : List Nat} {T : List (Nat × Nat)} {is : Bool} {g z : Nat} (h : HdI b B fr at' (at' + 1) rch T is g z) : InI b B fr at' T 0 rch [] is g z :=
  ⟨WkI.next h.wk.len h.wk.le, fun t h => (by cases h), List.Pairwise.nil, fun t h => (by cases h), fun t h => (by cases h), h.best.congr fun i j => ⟨.inl, fun h => h.elim id (fun h => by cases h.2)⟩⟩
theorem take_mem {α : Type} {T : List α} {k : Nat} {t : α} (ht : T[k]? = some t) {x : α} : x ∈ T.take (k + 1) ↔ x ∈ T.take k ∨ x = t := by
  rw [List.take_add_one, ht]
  simp
theorem drop_sub {α : Type} {T : List α} {k : Nat} {x : α} (h : x ∈ T.drop (k + 1)) : x ∈ T.drop k := by
  rw [← List.tail_drop] at h
  exact List.mem_of_mem_tail h
/-- A trail at which all has stood. -/
theorem InI.stood {b : List UInt8} {B : Bst} {fr at' : Nat} {T : List (Nat × Nat)} {k i : Nat} {rch : List Nat} {tr : List (Nat × Nat)} {is : Bool} {g z : Nat} (hB : Okb B) (h : InI b B fr at' T k rch tr is g z) (ht : T[k]? = some (i, 0)) (hg : is = true → i ≤ g) : InI b B fr at' T (k + 1) rch tr true i at' := by
  refine ⟨h.wk, h.snd, h.sorted, fun t h1 u h2 => h.lt t h1 u (drop_sub h2), fun t h1 r h2 => ?_, ?_⟩
  · rcases (take_mem ht).1 h1 with h1 | rfl
    · exact h.cmp t h1 r h2
    · obtain ⟨s, c, p, h3, h4, _⟩ := h2
      have := (hB.zero _ s h3).2 rfl
      omega
  · unfold BestP
    rw [if_pos rfl]
    refine ⟨.inr ⟨rfl, (take_mem ht).2 (.inr rfl)⟩, fun i2 j2 hp => ?_⟩
    have hb := h.best
    have hj : j2 ≤ at' := by
      rcases hp with ⟨_, hp, _⟩ | ⟨hp, _⟩ <;> omega
    have hcase : (Pat b B fr at' i2 j2 ∨ (j2 = at' ∧ (i2, 0) ∈ T.take k)) ∨ i2 = i := by
      rcases hp with hp | ⟨hp, hm⟩
      · exact .inl (.inl hp)
      · rcases (take_mem ht).1 hm with hm | hm
        · exact .inl (.inr ⟨hp, hm⟩)
        · cases hm; exact .inr rfl
    rcases hcase with hc | hc
    · cases is with
      | true =>
        have h1 := (hb.yes rfl).2 i2 j2 hc
        have h2 := hg rfl
        omega
      | false =>
        unfold BestP at hb
        rw [if_neg (by simp)] at hb
        exact absurd hc (hb.2.2 i2 j2)
    · omega
/-- A trail that takes the byte. -/
theorem InI.taken {b : List UInt8} {B : Bst} {fr at' : Nat} {T : List (Nat × Nat)} {k i q r : Nat} {rch rch' : List Nat} {tr tr' : List (Nat × Nat)} {is : Bool} {g z : Nat} (hB : Okb B) (hT : T.Pairwise fun s t => s.1 ≤ t.1) (h : InI b B fr at' T k rch tr is g z) (ht : T[k]? = some (i, q)) (hs : fr ≤ i ∧ i < at' + 1 ∧ goS' b B B.first i q at') (htk : tak b B q at' r) (hr : RcO b.length B (at' + 1) i r tr rch' tr') : InI b B fr at' T (k + 1) rch' tr' is g z := by
  obtain ⟨nw, e, hn⟩ := hr.new
  have hk := (List.getElem?_eq_some_iff.1 ht).1
  have hd : (i, q) ∈ T.drop k := by
    rw [List.drop_eq_getElem_cons hk, (List.getElem?_eq_some_iff.1 ht).2]
    simp
  have h0 : ∀ t ∈ tr, t.1 ≤ i := fun t h1 => h.lt t h1 _ hd
  have hstep : goS' b B B.first i r (at' + 1) := by
    obtain ⟨s, c, p, h3, h4, h5, h6, h7, h8⟩ := htk
    exact goS_trans hs.2.2 (goS_step ⟨s, h3, .inr ⟨h4, h5, rfl, c, p, h6, h7, h8⟩⟩)
  have hq0 : q ≠ 0 := fun e0 => by
    obtain ⟨s, c, p, h3, h4, _⟩ := htk
    have := (hB.zero _ s h3).2 e0
    omega
  refine ⟨hr.wk, fun t h1 => ?_, ?_, fun t h1 u h2 => ?_, fun t h1 r2 h2 m q2 s2 h3 h4 h5 => ?_, ?_⟩
  · rw [e] at h1
    rcases List.mem_append.1 h1 with h1 | h1
    · exact h.snd t h1
    · obtain ⟨e1, m, hm⟩ := hn t h1
      rw [e1]
      exact ⟨hs.1, hs.2.1, goS_trans hstep ⟨m, goN_eps hm⟩⟩
  · rw [e, List.pairwise_append]
    refine ⟨h.sorted, ?_, fun s hs2 t ht2 => ?_⟩
    · refine List.pairwise_of_forall_mem_list fun s hs2 t ht2 => ?_
      rw [(hn s hs2).1, (hn t ht2).1]
      exact Nat.le_refl _
    · rw [(hn t ht2).1]
      exact h0 s hs2
  · rw [e] at h1
    rcases List.mem_append.1 h1 with h1 | h1
    · exact h.lt t h1 u (drop_sub h2)
    · rw [(hn t h1).1]
      have h5 : T.drop k = (i, q) :: T.drop (k + 1) := by rw [List.drop_eq_getElem_cons hk, (List.getElem?_eq_some_iff.1 ht).2]
      have h6 : (T.drop k).Pairwise fun s t => s.1 ≤ t.1 := hT.sublist (List.drop_sublist _ _)
      rw [h5, List.pairwise_cons] at h6
      exact h6.1 u h2
  · rcases (take_mem ht).1 h1 with h1 | rfl
    · obtain ⟨i', h6, h7⟩ := h.cmp t h1 r2 h2 m q2 s2 h3 h4 h5
      exact ⟨i', h6, by rw [e]; exact List.mem_append.2 (.inl h7)⟩
    · have : r2 = r := by
        obtain ⟨s, c, p, g3, _, g5, _⟩ := htk
        obtain ⟨s', c', p', g3', _, g5', _⟩ := h2
        have g3' : B.sts[q]? = some s' := g3'
        rw [g3] at g3'
        cases g3'
        rw [g5, g5']
      subst this
      exact hr.comp h0 h3 h4 h5
  · refine h.best.congr fun i2 j2 => ⟨fun hp => hp.imp_right fun hp => ⟨hp.1, (take_mem ht).2 (.inl hp.2)⟩, fun hp => hp.imp_right fun hp => ⟨hp.1, ?_⟩⟩
    rcases (take_mem ht).1 hp.2 with h1 | h1
    · exact h1
    · cases h1
      exact absurd rfl hq0
/-- A trail that takes no byte. -/
theorem InI.pass {b : List UInt8} {B : Bst} {fr at' : Nat} {T : List (Nat × Nat)} {k i q : Nat} {rch : List Nat} {tr : List (Nat × Nat)} {is : Bool} {g z : Nat} (h : InI b B fr at' T k rch tr is g z) (ht : T[k]? = some (i, q)) (hq0 : q ≠ 0) (hno : ∀ r, ¬ tak b B q at' r) : InI b B fr at' T (k + 1) rch tr is g z := by
  refine ⟨h.wk, h.snd, h.sorted, fun t h1 u h2 => h.lt t h1 u (drop_sub h2), fun t h1 r2 h2 => ?_, ?_⟩
  · rcases (take_mem ht).1 h1 with h1 | rfl
    · exact h.cmp t h1 r2 h2
    · exact absurd h2 (hno r2)
  · refine h.best.congr fun i2 j2 => ⟨fun hp => hp.imp_right fun hp => ⟨hp.1, (take_mem ht).2 (.inl hp.2)⟩, fun hp => hp.imp_right fun hp => ⟨hp.1, ?_⟩⟩
    rcases (take_mem ht).1 hp.2 with h1 | h1
    · exact h1
    · cases h1
      exact absurd rfl hq0
/-- A place is done: all its trails are, or those left begin behind what was found. -/
theorem InI.done {b : List UInt8} {B : Bst} (hB : Okb B) {fr at' : Nat} {T : List (Nat × Nat)} {k : Nat} {rch rch0 : List Nat} {tr : List (Nat × Nat)} {is is0 : Bool} {g z g0 z0 : Nat} (h0 : HdI b B fr at' (at' + 1) rch0 T is0 g0 z0) (h : InI b B fr at' T k rch tr is g z) (hk : T.length ≤ k ∨ (is = true ∧ ∃ t, T[k]? = some t ∧ g < t.1)) : HdI b B fr (at' + 1) (at' + 1) rch tr is g z := by
  have hle : is0 = true → is = true ∧ g ≤ g0 := fun e => by
    have h1 := (h0.best.yes e).1
    have hb := h.best
    cases is with
    | true =>
      have := (hb.yes rfl).2 g0 z0 (.inl h1)
      exact ⟨rfl, by omega⟩
    | false =>
      unfold BestP at hb
      rw [if_neg (by simp)] at hb
      exact absurd (.inl h1) (hb.2.2 g0 z0)
  have hin : ∀ t ∈ T, (is = true → t.1 ≤ g) → t ∈ T.take k := fun t ht hg => by
    rcases hk with hk | ⟨hi, u, hu, hlt⟩
    · rw [List.take_of_length_le hk]; exact ht
    · rw [← List.take_append_drop k T] at ht
      rcases List.mem_append.1 ht with ht | ht
      · exact ht
      · exfalso
        have hkl := (List.getElem?_eq_some_iff.1 hu).1
        have h5 : T.drop k = u :: T.drop (k + 1) := by rw [List.drop_eq_getElem_cons hkl, (List.getElem?_eq_some_iff.1 hu).2]
        have h6 : (T.drop k).Pairwise fun s t => s.1 ≤ t.1 := h0.sorted.sublist (List.drop_sublist _ _)
        rw [h5, List.pairwise_cons] at h6
        rw [h5] at ht
        have h7 := hg hi
        rcases List.mem_cons.1 ht with rfl | ht
        · omega
        · have := h6.1 t ht
          omega
  refine ⟨h.wk, h.snd, h.sorted, fun i q s h1 h2 h3 h4 h5 h6 => ?_, ?_⟩
  · obtain ⟨n, hn⟩ := h6
    obtain ⟨q1, r, h7, h8, m, h9⟩ := go_split (a := at') hn (by omega) (by omega)
    obtain ⟨s1, c, p, g1, g2, g3⟩ := h8
    obtain ⟨i1, g4, g5⟩ := h0.cmp i q1 s1 h1 (by omega) (fun e => by have := hle e; have := h3 this.1; omega) g1 (by omega) h7
    have g6 := hin _ g5 (fun e => by have := h3 e; show i1 ≤ g; omega)
    obtain ⟨i', g7, g8⟩ := h.cmp _ g6 r ⟨s1, c, p, g1, g2, g3⟩ m q s (go_same h9) h4 h5
    exact ⟨i', Nat.le_trans g7 g4, g8⟩
  · obtain ⟨s0, hs0⟩ : ∃ s, B.sts[0]? = some s := ⟨_, List.getElem?_eq_getElem (Nat.lt_of_le_of_lt (Nat.zero_le _) hB.first)⟩
    have hb := h.best
    have hsub : ∀ i j, Pat b B fr at' i j ∨ (j = at' ∧ (i, 0) ∈ T.take k) → Pat b B fr (at' + 1) i j := fun i j hp => by
      rcases hp with ⟨g1, g2, g3⟩ | ⟨rfl, g2⟩
      · exact ⟨g1, by omega, g3⟩
      · have := h0.snd _ (List.mem_of_mem_take g2)
        exact ⟨this.1, by omega, this.2.2⟩
    have hback : ∀ i, fr ≤ i → i < at' + 1 → (is = true → i ≤ g) → acc b B i at' → ∃ i', i' ≤ i ∧ (i', 0) ∈ T.take k := fun i g1 g2 g3 g4 => by
      obtain ⟨i', g5, g6⟩ := h0.cmp i 0 s0 g1 g2 (fun e => by have := hle e; have := g3 this.1; omega) hs0 (by have := (hB.zero 0 s0 hs0).2 rfl; omega) g4
      exact ⟨i', g5, hin _ g6 (fun e => by have := g3 e; show i' ≤ g; omega)⟩
    unfold BestP at hb ⊢
    split
    · rename_i hi
      rw [if_pos hi] at hb
      refine ⟨hsub _ _ hb.1, fun i j hp => ?_⟩
      by_cases hj : j < at'
      · exact hb.2 i j (.inl ⟨hp.1, hj, hp.2.2⟩)
      · have hj : j = at' := by have := hp.2.1; omega
        subst hj
        by_cases hg : i ≤ g
        · obtain ⟨i', g5, g6⟩ := hback i hp.1 (by have := goS_end hp.2.2; omega) (fun _ => hg) hp.2.2
          have := hb.2 i' j (.inr ⟨rfl, g6⟩)
          omega
        · exact .inl (by omega)
    · rename_i hi
      rw [if_neg hi] at hb
      refine ⟨hb.1, hb.2.1, fun i j hp => ?_⟩
      by_cases hj : j < at'
      · exact hb.2.2 i j (.inl ⟨hp.1, hj, hp.2.2⟩)
      · have hj : j = at' := by have := hp.2.1; omega
        subst hj
        obtain ⟨i', _, g6⟩ := hback i hp.1 (by have := goS_end hp.2.2; omega) (fun e => absurd e hi) hp.2.2
        exact hb.2.2 i' j (.inr ⟨rfl, g6⟩)
/-- States that stand for an expression. -/
structure Accs (B : Bst) (x : Nd) : Prop where
  ok : Okb B
  st : ∀ (b : List UInt8) (i j : Nat), i ≤ b.length → (acc b B i j ↔ x.st b i j)
theorem Accs.find {B : Bst} {x : Nd} (h : Accs B x) {b : List UInt8} {f : Int} {is : Bool} {g z : Nat} (hb : BestP (Pat b B (fromN f) (b.length + 1)) is g z) : FindS x b f (g : Int) (z : Int) is := by
  have hP : ∀ i j, fromN f ≤ i → i ≤ b.length → x.st b i j → Pat b B (fromN f) (b.length + 1) i j := fun i j h1 h2 h3 => by
    obtain ⟨k, hk⟩ := (h.st b i j h2).2 h3
    exact ⟨h1, Nat.lt_succ_of_le (goN_end hk h2), k, hk⟩
  unfold BestP at hb
  split at hb
  · rename_i hi
    obtain ⟨⟨h1, h2, h3⟩, h4⟩ := hb
    have h5 := goS_end h3
    have hgl : g ≤ b.length := by omega
    refine .inl ⟨hi, g, z, rfl, rfl, h1, hgl, (h.st b g z hgl).1 h3, fun j' hj => ?_, fun i' j' g1 g2 g3 => ?_⟩
    · have := h4 g j' (hP g j' h1 hgl hj)
      omega
    · have := h4 i' j' (hP i' j' g1 (by omega) g3)
      omega
  · rename_i hi
    obtain ⟨h1, h2, h3⟩ := hb
    refine .inr ⟨by simpa using hi, by rw [h1]; rfl, by rw [h2]; rfl, fun i j g1 g2 g3 => h3 i j (hP i j g1 g2 g3)⟩
/-- What was built of a node alone stands for it. -/
theorem does_accs {x : Nd} {s0 : Stt} {B : Bst} (h0 : s0.kind = 0) (h : ∀ b, Does b (x.st b) ⟨[s0], [], 0⟩ B) (hok : Okb B) : Accs B x := by
  refine ⟨hok, fun b i j hi => ?_⟩
  have hd := h b
  have hx : ExtF 1 B B := ⟨fun q s _ h => h, fun q p h => h⟩
  constructor
  · rintro ⟨k, hk⟩
    obtain ⟨m, n, _, h2, h3⟩ := hd.from' B hx k i j hi hk
    have h3 : goN' b B n 0 m 0 j := h3
    cases n with
    | zero =>
      obtain ⟨_, rfl⟩ := h3
      exact h2
    | succ n =>
      obtain ⟨r, y, ⟨s, hs, h4⟩, _⟩ := h3
      have := hd.old 0 s0 rfl
      rw [this] at hs
      cases hs
      rcases h4 with ⟨h4, _⟩ | ⟨h4, _⟩
      · rcases h4 with ⟨h4, _⟩ | ⟨h4, _⟩ | ⟨h4, _⟩ <;> omega
      · omega
  · intro hs
    exact hd.tow B hx i j j hi hs ⟨0, rfl, rfl⟩
end Go.Proofs.YtlekfdkahlobiaaGreat.Re

namespace Go.Proofs.YtlekfdkahlobiaaGreat.Re
open Go.Proofs.YtlekfdkahlobiaaGreat.Tr
open Go.RowKit Go.Maps

/-- States in memory that stand for an expression. -/
def PgP (w : World) (v : Value) (x : Nd) : Prop :=
  ∃ (pb : Nat) (B : Bst) (sv tv : Value), v = ptr pb ∧ w.heap[pb]? = some (.cells #[sv, tv, .int .i64 (B.first : Int)] 51) ∧ w.ownsRow 0 58 4 sv B.sts.length (stCells B.sts) ∧ w.ownsRow 0 40 256 tv B.sets.length (bsCells B.sets) ∧ Accs B x ∧ B.sts.length ≤ 40001 ∧ B.sets.length ≤ 40001
theorem row_base {w : World} {n0 n1 e s n : Nat} {v : Value} {xs : List Value} (h : w.ownsRow n0 e s v n xs) (hn : n1 ≤ n0) : w.ownsRow n1 e s v n xs := by
  refine ⟨h.1, ?_⟩
  rcases h.2 with h2 | ⟨g, cap, cur, h1, hb, r⟩
  · exact .inl h2
  · exact .inr ⟨g, cap, cur, h1, Nat.le_trans hn hb, r⟩
theorem PgP.keep {w w' : World} {v : Value} {x : Nd} (h : PgP w v x) (hb : Below w.heap.size w w') : PgP w' v x := by
  obtain ⟨pb, B, sv, tv, h1, h2, h3, h4, h5⟩ := h
  have hk : ∀ {c : Nat} {o : Obj}, w.heap[c]? = some o → w'.heap[c]? = some o := fun hc => (hb.block _ (h_lt hc)).trans hc
  exact ⟨pb, B, sv, tv, h1, hk h2, row_keep h3 fun _ _ hg => hk hg, row_keep h4 fun _ _ hg => hk hg, h5⟩
section
variable {w0 w : World} {bb pg mb : Nat} {B : Bst} {U : List Tsk}
theorem Bu.done {x : Nd} (h : Bu w0 w bb pg mb B []) (hW : BWay x B []) : PgP w (ptr pg) x ∧ Below w0.heap.size w0 w ∧ isPtr w (ptr pg) := by
  obtain ⟨sv, tv, lv, fs, h1, _, h3⟩ := h
  have hd := hW.run B (by show B = B; rfl)
  refine ⟨⟨pg, B, sv, tv, rfl, h1.pr, row_base h1.st (Nat.zero_le _), row_base h1.se (Nat.zero_le _), does_accs (s0 := ⟨0, 0, 0, 0⟩) rfl hd hW.ok, ?_, ?_⟩, h3, pg, rfl, h_lt h1.pr⟩
  · have := hW.room; omega
  · have := hW.room2; omega
abbrev BdW (w : World) : World := ((w.alloc (.cells #[.slice none 0 0, .slice none 0 0, .int .i64 0] 51)).alloc (.map #[] 0)).alloc (.cells #[ptr w.heap.size, .map (some (w.heap.size + 1)), .slice none 0 0] 72)
theorem bu_start (w : World) : Bu w (BdW w) (w.heap.size + 2) w.heap.size (w.heap.size + 1) ⟨[], [], 0⟩ [] := by
  have hs1 : (w.alloc (.cells #[.slice none 0 0, .slice none 0 0, .int .i64 0] 51)).heap.size = w.heap.size + 1 := al_size _ _
  have hs2 : ((w.alloc (.cells #[.slice none 0 0, .slice none 0 0, .int .i64 0] 51)).alloc (.map #[] 0)).heap.size = w.heap.size + 2 := by rw [al_size, hs1]
  have hm := MapB.made (w.alloc (.cells #[.slice none 0 0, .slice none 0 0, .int .i64 0] 51))
  rw [hs1] at hm
  have k : Only [] ((w.alloc (.cells #[.slice none 0 0, .slice none 0 0, .int .i64 0] 51)).alloc (.map #[] 0)) (BdW w) := Only.of ((Below.refl _ _).alloc (Nat.le_refl _) _)
  refine ⟨.slice none 0 0, .slice none 0 0, .slice none 0 0, [], ⟨?_, ?_, World.ownsRow_nil _ _ _ _, World.ownsRow_nil _ _ _ _, ⟨fun _ => none, k.map hm, fun p v h => by cases h⟩, World.ownsRow_nil _ _ _ _, Nat.le_add_right _ _, Nat.le_refl _, Nat.le_add_right _ _⟩, trivial, ?_⟩
  · have := al_new ((w.alloc (.cells #[.slice none 0 0, .slice none 0 0, .int .i64 0] 51)).alloc (.map #[] 0)) (.cells #[ptr w.heap.size, .map (some (w.heap.size + 1)), .slice none 0 0] 72)
    rw [hs2] at this
    exact this
  · exact (al_old _ _ (by rw [hs2]; omega)).trans ((al_old _ _ (by rw [hs1]; omega)).trans (al_new _ _))
  · exact (((Below.refl _ w).alloc (Nat.le_refl _) _).alloc (by rw [hs1]; omega) _).alloc (by rw [hs2]; omega) _
set_option maxHeartbeats 8000000 in
set_option maxRecDepth 100000 in
theorem build_c {p : Nat} {x : Nd} (hx : NodeP w (ptr p) x) (ho : x.ord) (hw : x.wf = true) (hz : x.size ≤ 10000) :
    Calls Tryz.prog 15 #[ptr p] w fun e w' => ∃ v, e = .returned v ∧ isPtr w' v ∧ PgP w' v x ∧ Below w.heap.size w w' := by
  have hmk : ∀ u : World, (Instr.makeMap 69 none).run Tryz.prog u = .ok (.map (some u.heap.size)) (u.alloc (.map #[] 0)) := fun _ => rfl
  have HX := Lib.hid (And.intro hx (And.intro ho (And.intro hw hz)))
  have HB0 := Lib.hid (put_u (s := ⟨0, 0, 0, 0⟩) (bu_start w) (by show 0 ≤ _; omega))
  clear hx ho hw hz
  go_enter Tryz.func15, Tryz.ntmps15
  go_wp2_with (first
    | (go_at_call 24; refine (show Calls Tryz.prog 24 #[bbP (w.heap.size + 2), stV 0 0 0 0] (BdW w) _ from HB0.out).mono ?_; rintro e w1 ⟨rfl, hq, _⟩; have H1 := Lib.hid hq; clear hq)
    | (go_at_call 25; refine (node_u HX.out.2.2.1 (by show 0 < 1; omega) (by show 1 ≤ _; omega) (by show 0 ≤ _; omega) (by have := sizes_le_size x; have := HX.out.2.2.2; show 0 + _ ≤ _; omega) p H1.out HX.out.1 HX.out.2.1).mono ?_; rintro e w2 ⟨B', T, rfl, hq, _, hS⟩; have H2 : Hid (Bu w w2 (w.heap.size + 2) w.heap.size (w.heap.size + 1) B' T.reverse ∧ BWay x B' T.reverse) := Lib.hid ⟨hq, (BWay.step (U := []) (BWay.start HX.out.2.2.1 HX.out.2.2.2) (task_node (t := tNode x) rfl rfl hS)).1⟩; clear hq hS))
  clear HB0 H1 HX
  go_loopg [4, 5] 50000 (fun gk _ _ wr => ∃ (B : Bst) (U : List Tsk), Hid (Bu w wr (w.heap.size + 2) w.heap.size (w.heap.size + 1) B U ∧ BWay x B U ∧ wTs U ≤ gk))
  case atStart => exact ⟨B', T.reverse, (show _ ∧ _ from ⟨H2.out.1, H2.out.2, by have := H2.out.2.room; omega⟩)⟩
  case round =>
    obtain ⟨B, U, HI⟩ := hrel
    clear H2
    rcases List.eq_nil_or_concat U with rfl | ⟨V, t, e⟩
    · obtain ⟨a, cap, c2⟩ := HI.out.1.none
      obtain ⟨c0, _, _, _⟩ := HI.out.1.cells
      have HF := Lib.hid (HI.out.1.done HI.out.2.1)
      clear HI
      go_wp2_with fail
      go_ret
      exact ⟨_, rfl, HF.out.2.2, HF.out.1, HF.out.2.1⟩
    · rw [List.concat_eq_append] at e
      subst e
      obtain ⟨g, cap, v, c2, hle, hcap, cv, fz, hB, hT⟩ := HI.out.1.pop
      have hW := HI.out.2.1
      have hlen := wTs_len (V ++ [t])
      have hroom := hW.room
      have hroom2 := hW.room2
      have hsum := HI.out.2.2
      have hlen1 := wTs_len V
      rw [wTs_app, wTs_cons, wTs_nil] at hroom hroom2 hsum
      obtain ⟨f, caps, rfl, hcf, hC⟩ := task_u hB hT hW.ok (hW.okT t (by simp)) (hW.wf t (by simp)) (by omega) (by omega) (by omega)
      have hpos := wT_pos t
      obtain ⟨gk, rfl⟩ : ∃ k, gk = k + 1 := ⟨gk - 1, by omega⟩
      have HWy := Lib.hid hW
      have HSum := Lib.hid hsum
      have HC := Lib.hid hC
      have n1 : (0 : Int) < (V.length : Int) + 1 := by omega
      have n2 : (V.length : Int) ≤ (cap : Int) := by omega
      have hV : V.length ≤ 50000 := by omega
      clear HI hB hT hW hlen hroom hroom2 hsum hlen1 hC
      go_wp2_with fail
      refine (show Calls Tryz.prog f caps (wr.setCell ⟨w.heap.size + 2, 2, none⟩ (.slice (some ⟨g, 0, none⟩) V.length cap)) _ from HC.out).mono ?_
      rintro e w3 ⟨B2, T2, rfl, hq, hF⟩
      have HN : Hid (Bu w w3 (w.heap.size + 2) w.heap.size (w.heap.size + 1) B2 (V ++ T2.reverse) ∧ BWay x B2 (V ++ T2.reverse) ∧ wTs (V ++ T2.reverse) ≤ gk) := Lib.hid ⟨hq, (HWy.out.step hF).1, by
        have h1 := (HWy.out.step hF).2
        have h2 := HSum.out
        rw [wTs_app V [t], wTs_cons, wTs_nil] at h1
        omega⟩
      clear hq hF HC HWy HSum
      go_wp2_with fail
      go_roundg gk
      case measure => omega
      case rel => exact ⟨B2, V ++ T2.reverse, HN⟩
end
end Go.Proofs.YtlekfdkahlobiaaGreat.Re
