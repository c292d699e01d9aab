/- What a builder's step keeps besides: states that may be, tasks that may be, and how much there is to do. -/
import Derived.Test.YtlekfdkahlobiaaGreatMTask
import Derived.Test.YtlekfdkahlobiaaGreatMReach
import Derived.Test.YtlekfdkahlobiaaGreatHBuild
namespace Go.Proofs.YtlekfdkahlobiaaGreat.Re

/-- How much there is to do. -/
def wT (t : Tsk) : Nat := if t.kind = 0 then 4 * t.nd.size - 2 else if t.kind = 1 then 4 * t.nd.size else 1
def wTs (U : List Tsk) : Nat := (U.map wT).sum
theorem wTs_nil : wTs [] = 0 := rfl
theorem wTs_cons (t : Tsk) (U : List Tsk) : wTs (t :: U) = wT t + wTs U := by simp [wTs]
theorem wTs_app (U V : List Tsk) : wTs (U ++ V) = wTs U + wTs V := by simp [wTs]
theorem wTs_rev (U : List Tsk) : wTs U.reverse = wTs U := by
  unfold wTs
  rw [List.map_reverse, List.sum_reverse]
theorem fsize_pos : ∀ x : Nd, 1 ≤ x.size
  | ⟨k, p, m, n, l⟩ => by
    rw [Nd.size]
    split <;> omega
theorem wT_pos (t : Tsk) : 1 ≤ wT t := by
  have := fsize_pos t.nd
  unfold wT
  split
  · omega
  · split <;> omega
theorem wTs_len (U : List Tsk) : U.length ≤ wTs U := by
  induction U with
  | nil => exact Nat.le_refl _
  | cons t U ih =>
    have := wT_pos t
    rw [wTs_cons, List.length_cons]
    omega
/-- A task whose states there are. -/
def OkT (B : Bst) (t : Tsk) : Prop := t.kind ≠ 0 → t.a < B.sts.length
/-- A task whose node may be. -/
def WfT (t : Tsk) : Prop := t.kind ≤ 1 → t.nd.wf = true
/-- What is kept by a step that takes the task t away and puts T in its place. -/
structure Fine (t : Tsk) (B B' : Bst) (T : List Tsk) : Prop where
  less : wTs T + 1 ≤ wT t
  ge : B.sts.length ≤ B'.sts.length
  one : B'.sts.length ≤ B.sts.length + 1
  sets : B'.sets.length ≤ B.sets.length + 1
  ok : Okb B → OkT B t → Okb B'
  okT : Okb B → OkT B t → ∀ u ∈ T, OkT B' u
  wf : WfT t → ∀ u ∈ T, WfT u
theorem okb_put {B : Bst} (h : Okb B) {s : Stt} (hk : s.kind ≠ 0 ∧ s.kind ≤ 4) (hn : s.next < B.sts.length) (ho : s.other < B.sts.length) (hs : s.kind = 1 → s.set < B.sets.length) : Okb (B.put s) := by
  have hl : (B.put s).sts.length = B.sts.length + 1 := by simp [Bst.put]
  have hcase : ∀ (q : Nat) (t : Stt), (B.put s).sts[q]? = some t → B.sts[q]? = some t ∨ (q = B.sts.length ∧ t = s) := fun q t hq => by
    by_cases hlt : q < B.sts.length
    · refine .inl ?_
      simp only [Bst.put] at hq
      rw [List.getElem?_append_left hlt] at hq
      exact hq
    · have hb := (List.getElem?_eq_some_iff.1 hq).1
      have e : q = B.sts.length := by omega
      subst e
      rw [put_get] at hq
      exact .inr ⟨rfl, (Option.some.inj hq).symm⟩
  have hf := h.first
  refine ⟨by rw [hl]; exact Nat.lt_succ_self _, fun q t hq => ?_, fun q t hq => ?_, fun q t hq => ?_, fun q t hq => ?_, fun q t hq h1 => ?_⟩
  · rcases hcase q t hq with h1 | ⟨rfl, rfl⟩
    · exact h.zero q t h1
    · exact ⟨fun e => absurd e hk.1, fun e => by omega⟩
  · rcases hcase q t hq with h1 | ⟨_, rfl⟩
    · exact h.kind q t h1
    · exact hk.2
  · rw [hl]
    rcases hcase q t hq with h2 | ⟨_, rfl⟩
    · have := h.next q t h2; omega
    · omega
  · rw [hl]
    rcases hcase q t hq with h2 | ⟨_, rfl⟩
    · have := h.other q t h2; omega
    · omega
  · rcases hcase q t hq with h2 | ⟨_, rfl⟩
    · exact h.set q t h2 h1
    · exact hs h1
theorem okb_at {B : Bst} (h : Okb B) {f : Nat} (hf : f < B.sts.length) : Okb (B.at f) := ⟨hf, h.zero, h.kind, h.next, h.other, h.set⟩
theorem okb_add {B : Bst} (h : Okb B) (p : UInt8 → Bool) : Okb (B.addSet p) := ⟨h.first, h.zero, h.kind, h.next, h.other, fun q s hq h1 => by
  have := h.set q s hq h1
  show _ < (B.sets ++ [p]).length
  rw [List.length_append]
  omega⟩
theorem okb_patch {B : Bst} (h : Okb B) {a : Nat} {s : Stt} (hs : B.sts[a]? = some s) {n f : Nat} (hn : n < B.sts.length) (hf : f < B.sts.length) : Okb (B.patch a ⟨s.kind, s.set, n, s.other⟩ f) := by
  have hl : (B.patch a ⟨s.kind, s.set, n, s.other⟩ f).sts.length = B.sts.length := by simp [Bst.patch]
  have hcase : ∀ (q : Nat) (t : Stt), (B.patch a ⟨s.kind, s.set, n, s.other⟩ f).sts[q]? = some t → B.sts[q]? = some t ∨ (q = a ∧ t = ⟨s.kind, s.set, n, s.other⟩) := fun q t hq => by
    simp only [Bst.patch] at hq
    rw [List.getElem?_set] at hq
    by_cases e : a = q
    · rw [if_pos e] at hq
      split at hq
      · exact .inr ⟨e.symm, (Option.some.inj hq).symm⟩
      · cases hq
    · rw [if_neg e] at hq
      exact .inl hq
  refine ⟨by rw [hl]; exact hf, fun q t hq => ?_, fun q t hq => ?_, fun q t hq => ?_, fun q t hq => ?_, fun q t hq h1 => ?_⟩
  · rcases hcase q t hq with h1 | ⟨rfl, rfl⟩
    · exact h.zero q t h1
    · exact h.zero q s hs
  · rcases hcase q t hq with h1 | ⟨rfl, rfl⟩
    · exact h.kind q t h1
    · exact h.kind q s hs
  · rw [hl]
    rcases hcase q t hq with h2 | ⟨_, rfl⟩
    · exact h.next q t h2
    · exact hn
  · rw [hl]
    rcases hcase q t hq with h2 | ⟨rfl, rfl⟩
    · exact h.other q t h2
    · exact h.other q s hs
  · rcases hcase q t hq with h2 | ⟨rfl, rfl⟩
    · exact h.set q t h2 h1
    · exact h.set q s hs h1
theorem wf_kids {k : Nat} {p : UInt8 → Bool} {m n : Int} {l : List Nd} (h : (⟨k, p, m, n, l⟩ : Nd).wf = true) : ∀ x ∈ l, x.wf = true := by
  rw [Nd.wf, Bool.and_eq_true] at h
  exact wfs_iff.1 h.2
theorem wT_node (x : Nd) : wT (tNode x) = 4 * x.size - 2 := rfl
theorem okT_node (B : Bst) (x : Nd) : OkT B (tNode x) := fun h => absurd rfl h
theorem fsizes_cons (x : Nd) (l : List Nd) : Nd.size.sizes (x :: l) = x.size + Nd.size.sizes l := by rw [Nd.size.sizes]
theorem fsizes_app : ∀ (l l' : List Nd), Nd.size.sizes (l ++ l') = Nd.size.sizes l + Nd.size.sizes l'
  | [], l' => by rw [List.nil_append, Nd.size.sizes]; omega
  | x :: l, l' => by rw [List.cons_append, fsizes_cons, fsizes_cons, fsizes_app l l']; omega
theorem wTs_nodes : ∀ l : List Nd, wTs (l.map tNode) ≤ 4 * Nd.size.sizes l
  | [] => by simp [wTs]
  | x :: l => by
    have := wTs_nodes l
    rw [List.map_cons, wTs_cons, wT_node, fsizes_cons]
    omega
theorem fine_cat {p : UInt8 → Bool} {m n : Int} (B : Bst) (l : List Nd) : Fine (tNode ⟨4, p, m, n, l⟩) B B (l.reverse.map tNode) := by
  refine ⟨?_, Nat.le_refl _, Nat.le_succ _, Nat.le_succ _, fun h _ => h, fun _ _ u hu => ?_, fun h u hu => ?_⟩
  · have := wTs_nodes l
    rw [List.map_reverse, wTs_rev, wT_node]
    have e : (⟨4, p, m, n, l⟩ : Nd).size = 1 + Nd.size.sizes l := by rw [Nd.size]; rfl
    rw [e]
    omega
  · obtain ⟨x, _, rfl⟩ := List.mem_map.1 hu
    exact okT_node B x
  · obtain ⟨x, hx, rfl⟩ := List.mem_map.1 hu
    exact fun _ => wf_kids (h (Nat.zero_le _)) x (List.mem_reverse.1 hx)
theorem fine_alt {p : UInt8 → Bool} {m n : Int} (B : Bst) (l : List Nd) (x : Nd) : Fine (tNode ⟨5, p, m, n, l ++ [x]⟩) B B (tNode x :: l.reverse.map fun k => tBranch k B.first) := by
  have hw : wTs (l.map fun k => tBranch k B.first) = 4 * Nd.size.sizes l := by
    induction l with
    | nil => simp [wTs, Nd.size.sizes]
    | cons y l ih =>
      rw [List.map_cons, wTs_cons, ih, fsizes_cons]
      show 4 * y.size + _ = _
      omega
  refine ⟨?_, Nat.le_refl _, Nat.le_succ _, Nat.le_succ _, fun h _ => h, fun h _ u hu => ?_, fun h u hu => ?_⟩
  · have e : (⟨5, p, m, n, l ++ [x]⟩ : Nd).size = 1 + Nd.size.sizes (l ++ [x]) := by rw [Nd.size]; rfl
    have e2 : Nd.size.sizes [x] = x.size := by rw [fsizes_cons, Nd.size.sizes]; rfl
    have := fsize_pos x
    rw [wTs_cons, List.map_reverse, wTs_rev, hw, wT_node, wT_node, e, fsizes_app, e2]
    omega
  · rcases List.mem_cons.1 hu with rfl | hu
    · exact okT_node B x
    · obtain ⟨y, _, rfl⟩ := List.mem_map.1 hu
      exact fun _ => h.first
  · have hk := wf_kids (h (Nat.zero_le _))
    rcases List.mem_cons.1 hu with rfl | hu
    · exact fun _ => hk x (by simp)
    · obtain ⟨y, hy, rfl⟩ := List.mem_map.1 hu
      exact fun _ => hk y (by simp [List.mem_reverse.1 hy])
theorem fine_none {x : Nd} (B : Bst) : Fine (tNode x) B B [] := by
  refine ⟨?_, Nat.le_refl _, Nat.le_succ _, Nat.le_succ _, fun h _ => h, fun _ _ u hu => (by cases hu), fun _ u hu => (by cases hu)⟩
  have := fsize_pos x
  rw [wT_node, wTs_nil]
  omega
theorem put_len (B : Bst) (s : Stt) : (B.put s).sts.length = B.sts.length + 1 := by simp [Bst.put]
theorem fine_put {x : Nd} (B : Bst) (k : Nat) (hk : k = 2 ∨ k = 3) : Fine (tNode x) B (B.put ⟨k, 0, B.first, 0⟩) [] := by
  refine ⟨?_, by rw [put_len]; omega, by rw [put_len]; exact Nat.le_refl _, Nat.le_succ _, fun h _ => ?_, fun _ _ u hu => (by cases hu), fun _ u hu => (by cases hu)⟩
  · have := fsize_pos x
    rw [wT_node, wTs_nil]
    omega
  · refine okb_put h ?_ h.first (Nat.lt_of_le_of_lt (Nat.zero_le _) h.first) (fun e => ?_)
    · rcases hk with rfl | rfl
      · exact ⟨(by show (2 : Nat) ≠ 0; decide), (by show (2 : Nat) ≤ 4; decide)⟩
      · exact ⟨(by show (3 : Nat) ≠ 0; decide), (by show (3 : Nat) ≤ 4; decide)⟩
    · have e : k = 1 := e
      omega
theorem fine_set {x : Nd} (B B' : Bst) {p : UInt8 → Bool} (hB : B' = B ∨ B' = B.addSet p) {i : Nat} (hi : B'.sets[i]? = some p) : Fine (tNode x) B (B'.put ⟨1, i, B.first, 0⟩) [] := by
  have hl : B'.sts.length = B.sts.length := by rcases hB with rfl | rfl <;> rfl
  have hl2 : B'.sets.length ≤ B.sets.length + 1 := by
    rcases hB with rfl | rfl
    · exact Nat.le_succ _
    · simp [Bst.addSet]
  refine ⟨?_, by rw [put_len]; omega, by rw [put_len]; omega, hl2, fun h _ => ?_, fun _ _ u hu => (by cases hu), fun _ u hu => (by cases hu)⟩
  · have := fsize_pos x
    rw [wT_node, wTs_nil]
    omega
  · have h2 : Okb B' := by
      rcases hB with rfl | rfl
      · exact h
      · exact okb_add h p
    exact okb_put h2 ⟨(by show (1 : Nat) ≠ 0; decide), (by show (1 : Nat) ≤ 4; decide)⟩ (by show B.first < _; rw [hl]; exact h.first) (Nat.lt_of_le_of_lt (Nat.zero_le _) h2.first) (fun _ => (List.getElem?_eq_some_iff.1 hi).1)
theorem fsize_rep {p : UInt8 → Bool} {m : Nat} {n : Int} {x : Nd} : (⟨6, p, m, n, [x]⟩ : Nd).size = 1 + x.size * max 1 (if n < 0 then (m : Int) else n).toNat := by
  rw [Nd.size, if_pos rfl, fsizes_cons, Nd.size.sizes, Nat.add_zero]
theorem wTs_reps (x : Nd) (m : Nat) : wTs (List.replicate m (tNode x)) = m * (4 * x.size - 2) := by
  induction m with
  | zero => simp [wTs]
  | succ m ih => rw [List.replicate_succ, wTs_cons, ih, wT_node, Nat.add_mul m 1, Nat.one_mul]; omega
theorem wTs_maybe (x : Nd) (f m : Nat) : wTs (List.replicate m [tNode x, tFork f]).flatten = m * (4 * x.size - 2 + 1) := by
  induction m with
  | zero => simp [wTs]
  | succ m ih =>
    rw [List.replicate_succ, List.flatten_cons, wTs_app, ih, wTs_cons, wTs_cons, wTs_nil, wT_node, Nat.add_mul m 1, Nat.one_mul]
    show 4 * x.size - 2 + (1 + 0) + _ = _
    omega
theorem fine_rep {p : UInt8 → Bool} {m n : Nat} {x : Nd} (B : Bst) (hmn : m ≤ n) : Fine (tNode ⟨6, p, m, n, [x]⟩) B B ((List.replicate (n - m) [tNode x, tFork B.first]).flatten ++ List.replicate m (tNode x)) := by
  have hmem : ∀ u ∈ ((List.replicate (n - m) [tNode x, tFork B.first]).flatten ++ List.replicate m (tNode x)), u = tNode x ∨ u = tFork B.first := fun u hu => by
    rcases List.mem_append.1 hu with hu | hu
    · obtain ⟨l, hl, hu⟩ := List.mem_flatten.1 hu
      rw [(List.mem_replicate.1 hl).2] at hu
      simpa using hu
    · exact .inl (List.mem_replicate.1 hu).2
  refine ⟨?_, Nat.le_refl _, Nat.le_succ _, Nat.le_succ _, fun h _ => h, fun h _ u hu => ?_, fun h u hu => ?_⟩
  · have hs := fsize_pos x
    rw [wTs_app, wTs_maybe, wTs_reps, wT_node, fsize_rep, if_neg (by omega)]
    obtain ⟨d, rfl⟩ : ∃ d, n = m + d := ⟨n - m, by omega⟩
    obtain ⟨s, hs2⟩ : ∃ s, x.size = s + 1 := ⟨x.size - 1, by omega⟩
    rw [hs2]
    have e1 : m + d - m = d := by omega
    have e2 : 4 * (s + 1) - 2 = 4 * s + 2 := by omega
    have e3 : ((m + d : Nat) : Int).toNat = m + d := by omega
    rw [e1, e2, e3]
    have h1 : (s + 1) * (m + d) ≤ (s + 1) * max 1 (m + d) := Nat.mul_le_mul_left _ (Nat.le_max_right _ _)
    have h2 : d * (4 * s + 2 + 1) ≤ d * (4 * (s + 1)) := Nat.mul_le_mul_left _ (by omega)
    have h3 : m * (4 * s + 2) ≤ m * (4 * (s + 1)) := Nat.mul_le_mul_left _ (by omega)
    have h4 : 4 * ((s + 1) * (m + d)) = d * (4 * (s + 1)) + m * (4 * (s + 1)) := by
      rw [← Nat.add_mul, Nat.add_comm d m, Nat.mul_comm (m + d), Nat.mul_assoc]
    omega
  · rcases hmem u hu with rfl | rfl
    · exact okT_node B x
    · exact fun _ => h.first
  · rcases hmem u hu with rfl | rfl
    · exact fun _ => wf_kids (h (Nat.zero_le _)) x (by simp)
    · exact fun e => by cases e with | step e => cases e
theorem fine_loop {p : UInt8 → Bool} {m : Nat} {n : Int} (hn : n < 0) {x : Nd} (B : Bst) : Fine (tNode ⟨6, p, m, n, [x]⟩) B (B.put ⟨4, 0, 0, B.first⟩) (tNode x :: tLoop B.sts.length m :: List.replicate (m - 1) (tNode x)) := by
  refine ⟨?_, by rw [put_len]; omega, by rw [put_len]; exact Nat.le_refl _, Nat.le_succ _, fun h _ => okb_put h ⟨(by show (4 : Nat) ≠ 0; decide), (by show (4 : Nat) ≤ 4; decide)⟩ (Nat.lt_of_le_of_lt (Nat.zero_le _) h.first) h.first (fun e => by cases e), fun h _ u hu => ?_, fun h u hu => ?_⟩
  · have hs := fsize_pos x
    rw [wTs_cons, wTs_cons, wTs_reps, wT_node, wT_node, fsize_rep, if_pos hn]
    show 4 * x.size - 2 + (1 + _) + 1 ≤ _
    obtain ⟨s, hs2⟩ : ∃ s, x.size = s + 1 := ⟨x.size - 1, by omega⟩
    rw [hs2]
    have e2 : 4 * (s + 1) - 2 = 4 * s + 2 := by omega
    have e3 : (m : Int).toNat = m := by omega
    rw [e2, e3]
    cases m with
    | zero => simp; omega
    | succ m =>
      have h1 : max 1 (m + 1) = m + 1 := by omega
      have h2 : m * (4 * s + 2) ≤ m * (4 * (s + 1)) := Nat.mul_le_mul_left _ (by omega)
      have h3 : 4 * ((s + 1) * (m + 1)) = m * (4 * (s + 1)) + 4 * (s + 1) := by
        rw [Nat.mul_succ, Nat.mul_add, ← Nat.mul_assoc, Nat.mul_comm]
      rw [h1]
      show 4 * s + 2 + (1 + (m + 1 - 1) * (4 * s + 2)) + 1 ≤ _
      rw [show m + 1 - 1 = m by omega]
      omega
  · rcases List.mem_cons.1 hu with rfl | hu
    · exact okT_node _ x
    · rcases List.mem_cons.1 hu with rfl | hu
      · exact fun _ => by rw [put_len]; exact Nat.lt_succ_self _
      · rw [(List.mem_replicate.1 hu).2]
        exact okT_node _ x
  · have hx : WfT (tNode x) := fun _ => wf_kids (h (Nat.zero_le _)) x (by simp)
    rcases List.mem_cons.1 hu with rfl | hu
    · exact hx
    · rcases List.mem_cons.1 hu with rfl | hu
      · exact fun e => by cases e with | step e => cases e
      · rw [(List.mem_replicate.1 hu).2]
        exact hx
/-- What 'node' makes of a node. -/
def StepF (x : Nd) (B B' : Bst) (T : List Tsk) : Prop := Steps x B B' T ∧ Fine (tNode x) B B' T
/-- What a task that is done comes to. -/
def TaskF (t : Tsk) (B B' : Bst) (T : List Tsk) : Prop := (∀ B1, RunT T B' B1 → Ex t B B1) ∧ Fine t B B' T
theorem task_node {x : Nd} {B B' : Bst} {T : List Tsk} {t : Tsk} (ht : t.kind = 0) (hx : t.nd = x) (h : StepF x B B' T) : TaskF t B B' T := by
  subst hx
  refine ⟨fun B1 h1 => ?_, ?_⟩
  · unfold Ex
    rw [if_pos ht]
    exact h.1 B1 h1
  · have e : wT (tNode t.nd) = wT t := by
      unfold wT
      rw [if_pos ht]
      rfl
    have f := h.2
    exact ⟨by rw [← e]; exact f.less, f.ge, f.one, f.sets, fun h1 _ => f.ok h1 (okT_node B _), fun h1 _ => f.okT h1 (okT_node B _), fun h1 => f.wf fun _ => h1 (by omega)⟩
theorem task_branch {B B' : Bst} {T : List Tsk} {t : Tsk} (ht : t.kind = 1) (h : StepF t.nd (B.at t.a) B' T) : TaskF t B B' (T ++ [tFork B.first]) := by
  refine ⟨fun B1 h1 => ?_, ?_⟩
  · unfold Ex
    rw [if_neg (by omega), if_pos ht]
    obtain ⟨B2, h2, B3, h3, h4⟩ := run_app.1 h1
    have h4 : B1 = B3 := h4
    subst h4
    exact ⟨B2, h.1 B2 h2, h3⟩
  · have f := h.2
    have e : wT t = 4 * t.nd.size := by
      unfold wT
      rw [if_neg (by omega), if_pos ht]
    have h1 := f.less
    rw [wT_node] at h1
    have hs := fsize_pos t.nd
    refine ⟨?_, f.ge, f.one, f.sets, fun h1 h2 => f.ok (okb_at h1 (h2 (by omega))) (okT_node _ _), fun h1 h2 u hu => ?_, fun h1 u hu => ?_⟩
    · rw [wTs_app, wTs_cons, wTs_nil, e]
      show wTs T + (1 + 0) + 1 ≤ _
      omega
    · rcases List.mem_append.1 hu with hu | hu
      · exact f.okT (okb_at h1 (h2 (by omega))) (okT_node _ _) u hu
      · rw [List.mem_singleton.1 hu]
        exact fun _ => Nat.lt_of_lt_of_le h1.first f.ge
    · rcases List.mem_append.1 hu with hu | hu
      · exact f.wf (fun _ => h1 (by omega)) u hu
      · rw [List.mem_singleton.1 hu]
        exact fun e => by cases e with | step e => cases e
theorem task_fork {B : Bst} {t : Tsk} (ht : t.kind = 2) : TaskF t B (B.put ⟨4, 0, B.first, t.a⟩) [] := by
  refine ⟨fun B1 h1 => ?_, ?_⟩
  · unfold Ex
    rw [if_neg (by omega), if_neg (by omega), if_pos ht]
    exact h1
  · refine ⟨?_, by rw [put_len]; omega, by rw [put_len]; exact Nat.le_refl _, Nat.le_succ _, fun h h2 => okb_put h ⟨(by show (4 : Nat) ≠ 0; decide), (by show (4 : Nat) ≤ 4; decide)⟩ h.first (h2 (by omega)) (fun e => by cases e), fun _ _ u hu => (by cases hu), fun _ u hu => (by cases hu)⟩
    have := wT_pos t
    rw [wTs_nil]
    omega
theorem task_loop {B : Bst} {t : Tsk} (ht : t.kind = 3) {s : Stt} (hs : B.sts[t.a]? = some s) : TaskF t B (B.patch t.a ⟨s.kind, s.set, B.first, s.other⟩ (if t.least = 0 then t.a else B.first)) [] := by
  have hl : (B.patch t.a ⟨s.kind, s.set, B.first, s.other⟩ (if t.least = 0 then t.a else B.first)).sts.length = B.sts.length := by simp [Bst.patch]
  refine ⟨fun B1 h1 => ?_, ?_⟩
  · unfold Ex
    rw [if_neg (by omega), if_neg (by omega), if_neg (by omega)]
    exact ⟨s, hs, h1⟩
  · refine ⟨?_, by rw [hl]; exact Nat.le_refl _, by rw [hl]; exact Nat.le_succ _, Nat.le_succ _, fun h h2 => okb_patch h hs h.first ?_, fun _ _ u hu => (by cases hu), fun _ u hu => (by cases hu)⟩
    · have := wT_pos t
      rw [wTs_nil]
      omega
    · split
      · exact h2 (by omega)
      · exact h.first
/-- On the way: what is left to do makes of the beginning what the root stands for. -/
structure BWay (x : Nd) (B : Bst) (U : List Tsk) : Prop where
  run : ∀ Bf, RunT U.reverse B Bf → DoesA x ⟨[⟨0, 0, 0, 0⟩], [], 0⟩ Bf
  ok : Okb B
  okT : ∀ u ∈ U, OkT B u
  wf : ∀ u ∈ U, WfT u
  room : B.sts.length + wTs U ≤ 40001
  room2 : B.sets.length + wTs U ≤ 40001
theorem BWay.start {x : Nd} (hw : x.wf = true) (hz : x.size ≤ 10000) : BWay x ⟨[⟨0, 0, 0, 0⟩], [], 0⟩ [tNode x] := by
  have h1 : ∀ (q : Nat) (s : Stt), [(⟨0, 0, 0, 0⟩ : Stt)][q]? = some s → q = 0 ∧ s = ⟨0, 0, 0, 0⟩ := fun q s h => by
    cases q with
    | zero => exact ⟨rfl, (Option.some.inj h).symm⟩
    | succ q => cases h
  refine ⟨fun Bf h => ?_, ⟨by decide, fun q s h => ?_, fun q s h => ?_, fun q s h => ?_, fun q s h => ?_, fun q s h e => ?_⟩, fun u hu => ?_, fun u hu => ?_, ?_, ?_⟩
  · obtain ⟨B1, h2, h3⟩ := h
    have h3 : Bf = B1 := h3
    subst h3
    exact ex_node.1 h2
  · obtain ⟨rfl, rfl⟩ := h1 q s h
    exact ⟨fun _ => rfl, fun _ => rfl⟩
  · obtain ⟨rfl, rfl⟩ := h1 q s h
    decide
  · obtain ⟨rfl, rfl⟩ := h1 q s h
    decide
  · obtain ⟨rfl, rfl⟩ := h1 q s h
    decide
  · obtain ⟨rfl, rfl⟩ := h1 q s h
    cases e
  · rw [List.mem_singleton.1 hu]
    exact okT_node _ _
  · rw [List.mem_singleton.1 hu]
    exact fun _ => hw
  · rw [wTs_cons, wTs_nil, wT_node]
    show 1 + _ ≤ _
    omega
  · rw [wTs_cons, wTs_nil, wT_node]
    show 0 + _ ≤ _
    omega
/-- The last task is done. -/
theorem BWay.step {x : Nd} {B B' : Bst} {U : List Tsk} {t : Tsk} {T : List Tsk} (h : BWay x B (U ++ [t])) (ht : TaskF t B B' T) : BWay x B' (U ++ T.reverse) ∧ wTs (U ++ T.reverse) < wTs (U ++ [t]) := by
  have f := ht.2
  have hm : t ∈ U ++ [t] := by simp
  have hok := h.okT t hm
  have h1 := f.less
  have h2 := h.room
  have h3 := h.room2
  have h4 := f.one
  have h5 := f.sets
  rw [wTs_app, wTs_cons, wTs_nil] at h2 h3
  refine ⟨⟨fun Bf hr => h.run Bf ?_, f.ok h.ok hok, fun u hu => ?_, fun u hu => ?_, ?_, ?_⟩, ?_⟩
  · rw [List.reverse_append, List.reverse_reverse] at hr
    obtain ⟨B1, h6, h7⟩ := run_app.1 hr
    rw [List.reverse_append]
    exact ⟨B1, ht.1 B1 h6, h7⟩
  · rcases List.mem_append.1 hu with hu | hu
    · exact fun e => Nat.lt_of_lt_of_le (h.okT u (List.mem_append.2 (.inl hu)) e) f.ge
    · exact f.okT h.ok hok u (List.mem_reverse.1 hu)
  · rcases List.mem_append.1 hu with hu | hu
    · exact h.wf u (List.mem_append.2 (.inl hu))
    · exact f.wf (h.wf t hm) u (List.mem_reverse.1 hu)
  · rw [wTs_app, wTs_rev]; omega
  · rw [wTs_app, wTs_rev]; omega
  · rw [wTs_app, wTs_rev, wTs_app, wTs_cons, wTs_nil]; omega
end Go.Proofs.YtlekfdkahlobiaaGreat.Re

namespace Go.Proofs.YtlekfdkahlobiaaGreat.Re
open Go.Proofs.YtlekfdkahlobiaaGreat.Tr
open Go.RowKit Go.Maps

section
variable {w0 w : World} {bb pg mb : Nat} {B : Bst} {U : List Tsk}
/-- The first state is another one. -/
theorem Bu.first (h : Bu w0 w bb pg mb B U) (f : Nat) : Bu w0 (w.setCell ⟨pg, 2, none⟩ (.int .i64 (f : Int))) bb pg mb (B.at f) U ∧ Only bTys w (w.setCell ⟨pg, 2, none⟩ (.int .i64 (f : Int))) := by
  obtain ⟨sv, tv, lv, fs, h1, h2, h3⟩ := h
  have k : Only [51] w (w.setCell ⟨pg, 2, none⟩ (.int .i64 (f : Int))) := Only.set h1.pr (by decide) _ _
  have k2 := k.more (S' := bTys) (by decide)
  obtain ⟨g, m1, m2⟩ := h1.mp
  exact ⟨⟨sv, tv, lv, fs, ⟨k.cells h1.bd (by decide), (show _ = some (Obj.cells #[sv, tv, .int .i64 (f : Int)] 51) by simpa using h_set h1.pr 2 (.int .i64 (f : Int))), k.row h1.st (by decide), k.row h1.se (by decide), ⟨g, k.map m1, m2⟩, k.row h1.lf (by decide), h1.gb, h1.gp, h1.gm⟩, TasksV.keep k2 h2, h3.setCell (p := ⟨pg, 2, none⟩) h1.gp _⟩, k2⟩
theorem Bu.fz (h : Bu w0 w bb pg mb B U) : w.frozen? ⟨pg, 2, none⟩ = false := let ⟨_, _, _, _, h1, _, _⟩ := h; h_fz h1.pr 2
/-- A node that is done: what the function 'node' is asked for. -/
def NodeO (w0 w : World) (bb pg mb : Nat) (x : Nd) (B : Bst) (U : List Tsk) (e : Ending) (w' : World) : Prop :=
  ∃ B' T, e = .returned (.tuple #[]) ∧ Bu w0 w' bb pg mb B' (U ++ T.reverse) ∧ OnlyC bTys w w' ∧ StepF x B B' T
def NodeC (w0 w : World) (bb pg mb : Nat) (x : Nd) (B : Bst) (U : List Tsk) : Prop := ∀ p, Bu w0 w bb pg mb B U → NodeP w0 (ptr p) x → x.ord →
  Calls Tryz.prog 25 #[bbP bb, ptr p] w (NodeO w0 w bb pg mb x B U)
set_option maxHeartbeats 1000000 in
theorem clo_node {b c p : Nat} {x : Nd} (h : Bu w0 w bb pg mb B U) (hx : NodeP w0 (ptr p) x) (ho : x.ord) (hN : NodeC w0 w bb pg mb x B U) (hb : BxB w b bb) (hc : BxN w c p) {f : Nat} (hf : f = 41 ∨ f = 45) :
    Calls Tryz.prog f #[ptr b, ptr c] w (NodeO w0 w bb pg mb x B U) := by
  have hp := hN p h hx ho
  have c0 := h_cell hb 0 rfl
  have c1 := h_cell hc 0 rfl
  clear h hb hc hN hx ho
  rcases hf with rfl | rfl
  · go_enter Tryz.func41, Tryz.ntmps41
    go_wp2_with (go_at_call 25; refine hp.mono ?_; rintro e w1 ⟨B', T, rfl, hq⟩)
    go_end0
    exact ⟨B', T, rfl, hq⟩
  · go_enter Tryz.func45, Tryz.ntmps45
    go_wp2_with (go_at_call 25; refine hp.mono ?_; rintro e w1 ⟨B', T, rfl, hq⟩)
    go_end0
    exact ⟨B', T, rfl, hq⟩
set_option maxHeartbeats 1000000 in
theorem clo_fork {b c o : Nat} (h : Bu w0 w bb pg mb B U) (hn : B.sts.length ≤ 1099511627776) (hb : BxB w b bb) (hc : BxI w c o) {f : Nat} (hf : f = 43 ∨ f = 47) :
    Calls Tryz.prog f #[ptr b, ptr c] w (BuO w0 w bb pg mb (B.put ⟨4, 0, B.first, o⟩) U) := by
  have hp := fork_u (o := o) h hn
  have c0 := h_cell hb 0 rfl
  have c1 := h_cell hc 0 rfl
  clear h hb hc
  rcases hf with rfl | rfl
  · go_enter Tryz.func43, Tryz.ntmps43
    go_wp2_with (go_at_call 44; refine hp.mono ?_; rintro e w1 ⟨rfl, hq⟩)
    go_end0
    exact ⟨rfl, hq⟩
  · go_enter Tryz.func47, Tryz.ntmps47
    go_wp2_with (go_at_call 44; refine hp.mono ?_; rintro e w1 ⟨rfl, hq⟩)
    go_end0
    exact ⟨rfl, hq⟩
set_option maxHeartbeats 4000000 in
set_option maxRecDepth 100000 in
theorem clo_branch {b c d p o : Nat} {x : Nd} (h : Bu w0 w bb pg mb B U) (hx : NodeP w0 (ptr p) x) (ho : x.ord) (hN : ∀ w', NodeC w0 w' bb pg mb x (B.at o) (U ++ [tFork B.first])) (hb : BxB w b bb) (hc : BxI w c o) (hd : BxN w d p) (hn : U.length ≤ 1099511627776) :
    Calls Tryz.prog 42 #[ptr b, ptr c, ptr d] w fun e w' => ∃ B' T, e = .returned (.tuple #[]) ∧ Bu w0 w' bb pg mb B' (U ++ [tFork B.first] ++ T.reverse) ∧ OnlyC bTys w w' ∧ StepF x (B.at o) B' T := by
  have hO1 : Only bTys w (w.alloc (.cells #[.int .i64 (B.first : Int)] 3)) := Only.of ((Below.refl _ w).alloc (Nat.le_refl _) _)
  have hB1 := h.alloc (.cells #[.int .i64 (B.first : Int)] 3)
  have hn1 : BxI (w.alloc (.cells #[.int .i64 (B.first : Int)] 3)) w.heap.size B.first := al_new _ _
  have hb1 := hO1.cells hb (by decide)
  have hc1 := hO1.cells hc (by decide)
  have hd1 := hO1.cells hd (by decide)
  have c0 := h_cell hb 0 rfl
  have d0 := h_cell hb1 0 rfl
  have d1 := h_cell hc1 0 rfl
  obtain ⟨e0, e2, _, _⟩ := h.cells
  obtain ⟨f0, f2, _, _⟩ := hB1.cells
  have fz := hB1.fz
  obtain ⟨hB2, hO2⟩ := hB1.first o
  generalize hV : (w.alloc (.cells #[.int .i64 (B.first : Int)] 3)).setCell ⟨pg, 2, none⟩ (.int .i64 (o : Int)) = V at *
  have HH : Hid (Bu w0 V.drew bb pg mb (B.at o) U ∧ Only bTys w V.drew ∧ BxB V.drew b bb ∧ BxI V.drew w.heap.size B.first ∧ BxN V.drew d p) := Lib.hid ⟨hB2.draw, ⟨(hO1.trans hO2).size, (hO1.trans hO2).blk⟩, hO2.cells hb1 (by decide), hO2.cells hn1 (by decide), hO2.cells hd1 (by decide)⟩
  have HL := Lib.hid (later_u (fn := .func 43) (fa := #[]) (fc := #[ptr b, ptr w.heap.size]) (t := tFork B.first) HH.out.1 (.inr (.inr (.inl ⟨_, b, w.heap.size, .inl rfl, rfl, HH.out.2.2.1, HH.out.2.2.2.1, rfl⟩))) hn)
  have HX := Lib.hid (And.intro hx (And.intro ho hN))
  clear h hO1 hB1 hn1 hb1 hc1 hd1 hB2 hO2 hb hc hd hx ho hN
  go_enter Tryz.func42, Tryz.ntmps42
  go_upto_region 1 with fail
  go_region_law (fail)
  all_goals
    clear hV c0 d0 d1 e0 e2 f0 f2 fz
    have g0 := h_cell HH.out.2.2.1 0 rfl
    go_wp2_with (first
      | (go_at_call 40; refine HL.out.mono ?_; rintro e w1 ⟨rfl, hq, hO3⟩; have k0 := h_cell (hO3.cells HH.out.2.2.1 (by decide)) 0 rfl; have k1 := h_cell (hO3.cells HH.out.2.2.2.2 (by decide)) 0 rfl; have H3 := Lib.hid (And.intro hq hO3); clear hq hO3)
      | (go_at_call 25; refine (HX.out.2.2 _ p H3.out.1 HX.out.1 HX.out.2.1).mono ?_; rintro e w2 ⟨B', T, rfl, hq⟩; have H4 := Lib.hid hq; clear hq))
    go_end0
    exact ⟨B', T, rfl, H4.out.1, (HH.out.2.1.trans H3.out.2).c.trans H4.out.2.1, H4.out.2.2⟩
end
end Go.Proofs.YtlekfdkahlobiaaGreat.Re

namespace Go.Proofs.YtlekfdkahlobiaaGreat.Re
open Go.Proofs.YtlekfdkahlobiaaGreat.Tr
open Go.RowKit

def hsetP (p : UInt8 → Bool) (i : Nat) (v : Bool) : UInt8 → Bool := fun c => if c.toNat = i then v else p c
theorem hofNat_toNat {i : Nat} (h : i < 256) : (UInt8.ofNat i).toNat = i := by simp; omega
theorem hboolsL_set (p : UInt8 → Bool) (i : Nat) (v : Bool) : (boolsL p).set i (.bool v) = boolsL (hsetP p i v) := by
  apply List.ext_getElem?
  intro j
  rw [List.getElem?_set]
  by_cases hj : j < 256
  · by_cases hij : i = j
    · subst hij
      rw [if_pos rfl, if_pos (by rw [boolsL_len]; exact hj)]
      simp [boolsL, hj, hsetP]
    · rw [if_neg hij]
      simp [boolsL, hj, hsetP]
      omega
  · have h1 : (boolsL p)[j]? = none := List.getElem?_eq_none (by rw [boolsL_len]; omega)
    have h2 : (boolsL (hsetP p i v))[j]? = none := List.getElem?_eq_none (by rw [boolsL_len]; omega)
    rw [h1, h2]
    split
    · rw [if_neg (by rw [boolsL_len]; omega)]
    · rfl
/-- Letters below one are folded. -/
def hfoldU (p : UInt8 → Bool) (c : Nat) : UInt8 → Bool := fun x => if (65 ≤ x.toNat ∧ x.toNat < c) ∨ (97 ≤ x.toNat ∧ x.toNat < c + 32) then p x || p (otherC x) else p x
theorem hup_other {x : UInt8} (h : 65 ≤ x.toNat ∧ x.toNat ≤ 90) : (otherC x).toNat = x.toNat + 32 := by
  unfold otherC
  rw [if_neg (by unfold lowerB within; simp; omega), if_pos (by unfold upperB within; simp; omega), UInt8.toNat_add]
  show (x.toNat + 32) % 256 = _
  omega
theorem hlow_other {x : UInt8} (h : 97 ≤ x.toNat ∧ x.toNat ≤ 122) : (otherC x).toNat = x.toNat - 32 := by
  unfold otherC
  rw [if_pos (by unfold lowerB within; simp; omega), UInt8.toNat_sub]
  show (256 - 32 + x.toNat) % 256 = _
  omega
theorem hno_other {x : UInt8} (h : ¬ (65 ≤ x.toNat ∧ x.toNat ≤ 90)) (h2 : ¬ (97 ≤ x.toNat ∧ x.toNat ≤ 122)) : otherC x = x := by
  unfold otherC
  rw [if_neg (by unfold lowerB within; simp; omega), if_neg (by unfold upperB within; simp; omega)]
theorem hof_toNat {x : UInt8} {i : Nat} (h : x.toNat = i) : x = UInt8.ofNat i := by rw [← h]; simp
theorem hfoldU_0 (p : UInt8 → Bool) : hfoldU p 65 = p := by
  funext x
  unfold hfoldU
  rw [if_neg (by omega)]
theorem hfoldU_end (p : UInt8 → Bool) : hfoldU p 91 = foldP true p := by
  funext x
  unfold hfoldU foldP
  by_cases h1 : 65 ≤ x.toNat ∧ x.toNat ≤ 90
  · rw [if_pos (by omega)]; simp
  · by_cases h2 : 97 ≤ x.toNat ∧ x.toNat ≤ 122
    · rw [if_pos (by omega)]; simp
    · rw [if_neg (by omega), hno_other h1 h2]; simp
theorem hfoldU_both {p : UInt8 → Bool} {c : Nat} (h1 : 65 ≤ c) (h2 : c ≤ 90) : (hfoldU p c (UInt8.ofNat c) || hfoldU p c (UInt8.ofNat (c + 32))) = (p (UInt8.ofNat c) || p (UInt8.ofNat (c + 32))) := by
  unfold hfoldU
  rw [if_neg (by rw [hofNat_toNat (by omega)]; omega), if_neg (by rw [hofNat_toNat (by omega)]; omega)]
theorem hfoldU_next {p : UInt8 → Bool} {c : Nat} (h1 : 65 ≤ c) (h2 : c ≤ 90) (v : Bool) (hv : v = (hfoldU p c (UInt8.ofNat c) || hfoldU p c (UInt8.ofNat (c + 32)))) : hsetP (hsetP (hfoldU p c) c v) (c + 32) v = hfoldU p (c + 1) := by
  rw [hfoldU_both h1 h2] at hv
  funext x
  unfold hsetP
  by_cases hx : x.toNat = c + 32
  · rw [if_pos hx, hv]
    unfold hfoldU
    rw [if_pos (by omega)]
    have e1 : otherC x = UInt8.ofNat c := hof_toNat (by rw [hlow_other (by omega)]; omega)
    rw [e1, hof_toNat hx, Bool.or_comm]
  · rw [if_neg hx]
    by_cases hc : x.toNat = c
    · rw [if_pos hc, hv]
      unfold hfoldU
      rw [if_pos (by omega)]
      have e1 : otherC x = UInt8.ofNat (c + 32) := hof_toNat (by rw [hup_other (by omega)]; omega)
      rw [e1, hof_toNat hc]
    · rw [if_neg hc]
      unfold hfoldU
      by_cases hq : (65 ≤ x.toNat ∧ x.toNat < c) ∨ (97 ≤ x.toNat ∧ x.toNat < c + 32)
      · rw [if_pos hq, if_pos (by omega)]
      · rw [if_neg hq, if_neg (by omega)]
theorem hfoldP_false (p : UInt8 → Bool) : foldP false p = p := by funext x; unfold foldP; simp
/-- A set in its box. -/
abbrev BlP (w : World) (b : Nat) (p : UInt8 → Bool) : Prop := w.heap[b]? = some (.cells (boolsL p).toArray 40)
theorem bl_size (p : UInt8 → Bool) : (boolsL p).toArray.size = 256 := by simp [boolsL_len]
theorem bl_at (p : UInt8 → Bool) (i : Nat) (h : i < 256) : (boolsL p).toArray[i]? = some (.bool (p (UInt8.ofNat i))) := by simp [boolsL, h]
theorem bl_one (p : UInt8 → Bool) : (boolsL p).toArray.all (·.oneCell') = true := by
  rw [Array.all_eq_true_iff_forall_mem]
  intro v hv
  simp [boolsL] at hv
  obtain ⟨i, _, rfl⟩ := hv
  rfl
theorem bl_set {w : World} {b : Nat} {p : UInt8 → Bool} (h : BlP w b p) (i : Nat) (v : Bool) : BlP (w.setCell ⟨b, i, none⟩ (.bool v)) b (hsetP p i v) := by
  have := h_set h i (.bool v)
  rw [List.setIfInBounds_toArray, hboolsL_set] at this
  exact this
theorem bl_zero : Tryz.zeroCells40 = (boolsL noB).toArray := by kernel_rfl
/-- A store of a whole array. -/
theorem store_arr {P : Program} {w : World} {g : Nat} {t : TypeId} {old cs : Array Value} (hg : w.heap[g]? = some (.cells old t (0, 0))) (ho : old.size = cs.size) (h1 : cs.all (·.oneCell') = true) : (storeCells ⟨g, 0, none⟩ cs.toList).run P w = .ok () (w.setRow g cs) := by
  have := run_storeCells_from (P := P) g t cs.toList 0 old w hg (by simp; omega) (fun v hv => (Array.all_eq_true_iff_forall_mem.1 h1) v (by simpa using hv))
  simpa using this
abbrev bl (p : UInt8 → Bool) : Value := .agg (boolsL p).toArray
theorem box_bl (w : World) (p : UInt8 → Bool) : BlP ((w.alloc (.cells (boolsL p).toArray 40)).alloc (.cells Tryz.zeroCells40 40)) w.heap.size p ∧ BlP ((w.alloc (.cells (boolsL p).toArray 40)).alloc (.cells Tryz.zeroCells40 40)) (w.heap.size + 1) noB ∧ Below w.heap.size w ((w.alloc (.cells (boolsL p).toArray 40)).alloc (.cells Tryz.zeroCells40 40)) := by
  refine ⟨(al_old _ _ (by rw [al_size]; omega)).trans (al_new _ _), ?_, ((Below.refl _ w).alloc (Nat.le_refl _) _).alloc (by simp) _⟩
  have := al_new (w.alloc (.cells (boolsL p).toArray 40)) (.cells (boolsL noB).toArray 40)
  rw [al_size] at this
  rw [bl_zero]
  exact this
end Go.Proofs.YtlekfdkahlobiaaGreat.Re
