/- What is put off: a task more. -/
import Derived.Test.YtlekfdkahlobiaaGreatMState
import Derived.Test.YtlekfdkahlobiaaGreatMPut
import Derived.Test.YtlekfdkahlobiaaGreatMTask
namespace Go.Proofs.YtlekfdkahlobiaaGreat.Re
open Go.Proofs.YtlekfdkahlobiaaGreat.Tr
open Go.RowKit Go.Maps

theorem info_fn : (Tryz.prog.info? 1).map (fun i => (i.zero, i.size, i.bytes)) = some (some .nilFunc, 1, 8) := by kernel_rfl
section
variable {w : World} {n0 bb pg mb : Nat} {sv tv lv : Value} {fs : List Value} {B : Bst}
/-- What a step leaves that puts tasks. -/
def LatO (w : World) (n0 bb pg mb : Nat) (sv tv : Value) (fs : List Value) (B : Bst) (e : Ending) (w' : World) : Prop :=
  e = .returned (.tuple #[]) ∧ ∃ lv', BM w' n0 bb pg mb sv tv lv' fs B ∧ Only [72, 1] w w' ∧ Below n0 w w'
theorem cell_one' (W : World) (a : Value) (T : Nat) : ∀ j u, [a][j]? = some u → (W.alloc (.cells #[a] T)).cell? ((⟨W.heap.size, 0, none⟩ : Addr).add j) = some u := by
  intro j u h
  have hn := al_new W (.cells #[a] T)
  rw [Addr.add_lit]
  exact h_cell hn _ (by rw [Nat.zero_add]; simpa using h)
theorem BM.task {w w2 w3 : World} {lv' f : Value} (h : BM w n0 bb pg mb sv tv lv fs B) (k : Only [72, 1] w w3)
    (hp : w3.heap[bb]? = some (.cells #[ptr pg, .map (some mb), lv'] 72)) (hr : w2.ownsRow n0 1 1 lv' (fs.length + 1) (fs ++ [f])) (k2 : Only [72] w2 w3) : BM w3 n0 bb pg mb sv tv lv' (fs ++ [f]) B :=
  let ⟨g, h1, h2⟩ := h.mp
  ⟨hp, k.cells h.pr (by decide), k.row h.st (by decide), k.row h.se (by decide), ⟨g, k.map h1, h2⟩, by
    have := k2.row hr (by decide)
    rw [List.length_append]
    exact this, h.gb, h.gp, h.gm⟩
set_option maxHeartbeats 40000000 in
set_option maxRecDepth 100000 in
theorem later_c {fn : Fn} {fa fc : Array Value} (h : BM w n0 bb pg mb sv tv lv fs B) (hn : fs.length ≤ 1099511627776) :
    Calls Tryz.prog 40 #[bbP bb, .func fn fa fc] w (LatO w n0 bb pg mb sv tv (fs ++ [.func fn fa fc]) B) := by
  have HD := Lib.hid h
  obtain ⟨pa, pc, rfl⟩ := own_sh h.lf
  have hb0 := h.bd
  have hbl := h_lt hb0
  have c2 := h_cell hb0 2 rfl
  have hgb := h.gb
  obtain ⟨i0, hi, hz0, hz1, hz2⟩ := p_info info_fn
  have HK : Hid (∀ o w2, (w.alloc o).grownBy w2 (Value.slice pa fs.length pc).ownBlock → w2.heap[bb]? = some (.cells #[ptr pg, .map (some mb), .slice pa fs.length pc] 72)) := fun o w2 hg => grown_other ((show w.ownsRow _ _ _ _ _ _ from HD.out.lf).alloc o) hg (by decide) ((al_old w o hbl).trans hb0)
  have HF : Hid (∀ o w2 gg cap2, w2.ownsRow n0 1 1 (.slice (some ⟨gg, 0, none⟩) (fs.length + 1) cap2) (fs.length + 1) (fs ++ [.func fn fa fc]) → (w.alloc o).grownBy w2 (Value.slice pa fs.length pc).ownBlock → LatO w n0 bb pg mb sv tv (fs ++ [.func fn fa fc]) B (.returned (.tuple #[])) (w2.setCell ⟨bb, 2, none⟩ (.slice (some ⟨gg, 0, none⟩) (fs.length + 1) cap2))) := fun o w2 gg cap2 ho hg => by
    have hrow := (show w.ownsRow _ _ _ _ _ _ from HD.out.lf).alloc o
    have hp3 := HK.out o w2 hg
    have hx1 : Only [72, 1] w (w.alloc o) := Only.of ((Below.refl _ w).alloc (Nat.le_refl _) o)
    have hx2 : Only [72, 1] (w.alloc o) w2 := Only.grown hrow hg (by decide)
    have hx3 : Only [72] w2 (w2.setCell ⟨bb, 2, none⟩ (.slice (some ⟨gg, 0, none⟩) (fs.length + 1) cap2)) := Only.set hp3 (by decide) _ _
    have hxx := (hx1.trans hx2).trans (hx3.more (S' := [72, 1]) (by decide))
    have hy1 : Below n0 w (w.alloc o) := (Below.refl _ w).alloc (Nat.le_trans hgb (Nat.le_of_lt hbl)) o
    have hy2 : Below n0 (w.alloc o) w2 := ⟨hg.os, hg.tape, hg.output, hg.size, fun j hj => hg.block j (by rw [al_size]; show j < w.heap.size + 1; omega) (fun e => by
      have := HD.out.lf.lt j e.symm
      omega)⟩
    refine ⟨rfl, _, HD.out.task hxx ?_ ho hx3, hxx, (hy1.trans hy2).setCell (p := ⟨bb, 2, none⟩) hgb _⟩
    simpa using h_set hp3 2 (.slice (some ⟨gg, 0, none⟩) (fs.length + 1) cap2)
  have hus : n0 ≤ w.heap.size := by omega
  clear h hb0
  go_enter Tryz.func40, Tryz.ntmps40
  go_wp2_with (at_builtin; go_loud (refine wpList_append_lies _ rfl _ _ 70 rfl n0 1 i0 .nilFunc 1 8 Tryz.underlying70 hi hz0 hz1 hz2 rfl (by decide) (.slice pa fs.length pc) fs.length fs rfl (HD.out.lf.alloc _) ⟨w.heap.size, 0, none⟩ 1 1 [.func fn fa fc] rfl rfl (cell_one' w _ _) (by simp [Value.oneCell']) (by decide) (by unfold maxLen; omega) (by omega) (by simp; omega) _ rfl ?_; intro gg cap2 w2 hown2 hgrow2 hat hlt2; have hR2 := HK.out _ w2 hgrow2; have hk6 := h_cell hR2 2 rfl; have hz6 := h_fz hR2 2; have H2 := Lib.hid (And.intro hown2 hgrow2); clear hown2 hgrow2 hat hlt2 hR2))
  go_end0
  exact HF.out _ w2 _ _ H2.out.1 H2.out.2
end
end Go.Proofs.YtlekfdkahlobiaaGreat.Re

namespace Go.Proofs.YtlekfdkahlobiaaGreat.Re
open Go.Proofs.YtlekfdkahlobiaaGreat.Tr
open Go.RowKit Go.Maps

/-- A box that a task holds. -/
abbrev BxB (w : World) (b bb : Nat) : Prop := w.heap[b]? = some (.cells #[bbP bb] 68)
abbrev BxN (w : World) (b p : Nat) : Prop := w.heap[b]? = some (.cells #[ptr p] 36)
abbrev BxI (w : World) (b : Nat) (i : Nat) : Prop := w.heap[b]? = some (.cells #[.int .i64 (i : Int)] 3)
/-- A function value is a task. w0: the world where the nodes lie. -/
def TaskV (w0 w : World) (bb : Nat) (v : Value) (t : Tsk) : Prop :=
  (∃ f b c p, (f = 41 ∨ f = 45) ∧ v = .func (.func f) #[] #[ptr b, ptr c] ∧ BxB w b bb ∧ BxN w c p ∧ NodeP w0 (ptr p) t.nd ∧ t.nd.ord ∧ t.kind = 0) ∨
  (∃ b c d p, v = .func (.func 42) #[] #[ptr b, ptr c, ptr d] ∧ BxB w b bb ∧ BxI w c t.a ∧ BxN w d p ∧ NodeP w0 (ptr p) t.nd ∧ t.nd.ord ∧ t.kind = 1) ∨
  (∃ f b c, (f = 43 ∨ f = 47) ∧ v = .func (.func f) #[] #[ptr b, ptr c] ∧ BxB w b bb ∧ BxI w c t.a ∧ t.kind = 2) ∨
  (∃ b c d, v = .func (.func 61) #[] #[ptr b, ptr c, ptr d] ∧ BxB w b bb ∧ BxI w c t.a ∧ BxI w d t.least ∧ t.kind = 3)
/-- Only blocks of these types are turned, and maps. -/
structure OnlyC (S : List Nat) (w w' : World) : Prop where
  size : w.heap.size ≤ w'.heap.size
  cells : ∀ {b : Nat} {cs : Array Value} {T : Nat}, w.heap[b]? = some (.cells cs T) → T ∉ S → w'.heap[b]? = some (.cells cs T)
theorem Only.c {S : List Nat} {w w' : World} (h : Only S w w') : OnlyC S w w' := ⟨h.size, fun hb hT => h.cells hb hT⟩
theorem OnlyC.trans {S : List Nat} {u v w : World} (h : OnlyC S u v) (k : OnlyC S v w) : OnlyC S u w := ⟨Nat.le_trans h.size k.size, fun hb hT => k.cells (h.cells hb hT) hT⟩
/-- The types that the builder turns. -/
abbrev bTys : List Nat := [72, 51, 58, 40, 1]
theorem TaskV.keep {w0 w w' : World} {bb : Nat} {v : Value} {t : Tsk} (h : TaskV w0 w bb v t) (k : Only bTys w w') : TaskV w0 w' bb v t := by
  rcases h with ⟨f, b, c, p, h1, h2, h3, h4, h5⟩ | ⟨b, c, d, p, h2, h3, h4, h5, h6⟩ | ⟨f, b, c, h1, h2, h3, h4, h5⟩ | ⟨b, c, d, h2, h3, h4, h5, h6⟩
  · exact .inl ⟨f, b, c, p, h1, h2, k.cells h3 (by decide), k.cells h4 (by decide), h5⟩
  · exact .inr (.inl ⟨b, c, d, p, h2, k.cells h3 (by decide), k.cells h4 (by decide), k.cells h5 (by decide), h6⟩)
  · exact .inr (.inr (.inl ⟨f, b, c, h1, h2, k.cells h3 (by decide), k.cells h4 (by decide), h5⟩))
  · exact .inr (.inr (.inr ⟨b, c, d, h2, k.cells h3 (by decide), k.cells h4 (by decide), k.cells h5 (by decide), h6⟩))
theorem TaskV.keepC {w0 w w' : World} {bb : Nat} {v : Value} {t : Tsk} (h : TaskV w0 w bb v t) (k : OnlyC bTys w w') : TaskV w0 w' bb v t := by
  rcases h with ⟨f, b, c, p, h1, h2, h3, h4, h5⟩ | ⟨b, c, d, p, h2, h3, h4, h5, h6⟩ | ⟨f, b, c, h1, h2, h3, h4, h5⟩ | ⟨b, c, d, h2, h3, h4, h5, h6⟩
  · exact .inl ⟨f, b, c, p, h1, h2, k.cells h3 (by decide), k.cells h4 (by decide), h5⟩
  · exact .inr (.inl ⟨b, c, d, p, h2, k.cells h3 (by decide), k.cells h4 (by decide), k.cells h5 (by decide), h6⟩)
  · exact .inr (.inr (.inl ⟨f, b, c, h1, h2, k.cells h3 (by decide), k.cells h4 (by decide), h5⟩))
  · exact .inr (.inr (.inr ⟨b, c, d, h2, k.cells h3 (by decide), k.cells h4 (by decide), k.cells h5 (by decide), h6⟩))
/-- The tasks, the last one is done next. -/
def TasksV (w0 w : World) (bb : Nat) : List Value → List Tsk → Prop
  | [], [] => True
  | v :: fs, t :: U => TaskV w0 w bb v t ∧ TasksV w0 w bb fs U
  | [], _ :: _ => False
  | _ :: _, [] => False
theorem TasksV.keep {w0 w w' : World} {bb : Nat} (k : Only bTys w w') : ∀ {fs : List Value} {U : List Tsk}, TasksV w0 w bb fs U → TasksV w0 w' bb fs U
  | [], [], _ => trivial
  | _ :: _, _ :: _, h => ⟨h.1.keep k, TasksV.keep k h.2⟩
  | [], _ :: _, h => False.elim h
  | _ :: _, [], h => False.elim h
theorem TasksV.keepC {w0 w w' : World} {bb : Nat} (k : OnlyC bTys w w') : ∀ {fs : List Value} {U : List Tsk}, TasksV w0 w bb fs U → TasksV w0 w' bb fs U
  | [], [], _ => trivial
  | _ :: _, _ :: _, h => ⟨h.1.keepC k, TasksV.keepC k h.2⟩
  | [], _ :: _, h => False.elim h
  | _ :: _, [], h => False.elim h
theorem TasksV.push {w0 w : World} {bb : Nat} {v : Value} {t : Tsk} (hv : TaskV w0 w bb v t) : ∀ {fs : List Value} {U : List Tsk}, TasksV w0 w bb fs U → TasksV w0 w bb (fs ++ [v]) (U ++ [t])
  | [], [], _ => ⟨hv, trivial⟩
  | _ :: _, _ :: _, h => ⟨h.1, TasksV.push hv h.2⟩
  | [], _ :: _, h => False.elim h
  | _ :: _, [], h => False.elim h
theorem TasksV.len {w0 w : World} {bb : Nat} : ∀ {fs : List Value} {U : List Tsk}, TasksV w0 w bb fs U → fs.length = U.length
  | [], [], _ => rfl
  | _ :: _, _ :: _, h => by rw [List.length_cons, List.length_cons, TasksV.len h.2]
  | [], _ :: _, h => False.elim h
  | _ :: _, [], h => False.elim h
theorem TasksV.pop {w0 w : World} {bb : Nat} : ∀ {fs : List Value} {U : List Tsk}, TasksV w0 w bb fs U → fs ≠ [] → ∃ gs V v t, fs = gs ++ [v] ∧ U = V ++ [t] ∧ TasksV w0 w bb gs V ∧ TaskV w0 w bb v t
  | [], _, _, hf => absurd rfl hf
  | [v], [t], h, _ => ⟨[], [], v, t, rfl, rfl, trivial, h.1⟩
  | [_], _ :: _ :: _, h, _ => False.elim h.2
  | v :: x :: fs, t :: U, h, _ =>
    have ⟨gs, V, v', t', e1, e2, h3, h4⟩ := TasksV.pop h.2 (by simp)
    ⟨v :: gs, t :: V, v', t', by rw [e1]; rfl, by rw [e2]; rfl, ⟨h.1, h3⟩, h4⟩
  | _ :: _, [], h, _ => False.elim h
/-- The whole builder: its states, and what is to be done. -/
def Bu (w0 w : World) (bb pg mb : Nat) (B : Bst) (U : List Tsk) : Prop :=
  ∃ sv tv lv fs, BM w w0.heap.size bb pg mb sv tv lv fs B ∧ TasksV w0 w bb fs U ∧ Below w0.heap.size w0 w
/-- What a step of the builder leaves. -/
def BuO (w0 w : World) (bb pg mb : Nat) (B : Bst) (U : List Tsk) (e : Ending) (w' : World) : Prop :=
  e = .returned (.tuple #[]) ∧ Bu w0 w' bb pg mb B U ∧ Only bTys w w'
section
variable {w0 w : World} {bb pg mb : Nat} {B : Bst} {U : List Tsk}
/-- New boxes leave the builder as it is. -/
theorem Bu.alloc (h : Bu w0 w bb pg mb B U) (o : Obj) : Bu w0 (w.alloc o) bb pg mb B U :=
  let ⟨sv, tv, lv, fs, h1, h2, h3⟩ := h
  have k : Only [] w (w.alloc o) := Only.of ((Below.refl _ w).alloc (Nat.le_refl _) _)
  ⟨sv, tv, lv, fs, h1.only k (by decide), TasksV.keep (k.more (by simp)) h2, h3.alloc h3.size _⟩
theorem Bu.draw (h : Bu w0 w bb pg mb B U) : Bu w0 w.drew bb pg mb B U :=
  let ⟨sv, tv, lv, fs, h1, h2, h3⟩ := h
  have k : Only [] w w.drew := ⟨Nat.le_refl _, fun _ _ h _ => h⟩
  ⟨sv, tv, lv, fs, h1.only k (by decide), TasksV.keep (k.more (by simp)) h2, below_drew h3⟩
theorem put_u {s : Stt} (h : Bu w0 w bb pg mb B U) (hn : B.sts.length ≤ 1099511627776) :
    Calls Tryz.prog 24 #[bbP bb, stV s.kind s.set s.next s.other] w (BuO w0 w bb pg mb (B.put s) U) := by
  obtain ⟨sv, tv, lv, fs, h1, h2, h3⟩ := h
  refine (put_c h1 hn).mono fun e w' hq => ?_
  obtain ⟨he, sv', h4, h5, h6⟩ := hq
  exact ⟨he, ⟨sv', tv, lv, fs, h4, TasksV.keep (h5.more (by decide)) h2, h3.trans h6⟩, h5.more (by decide)⟩
theorem later_u {fn : Fn} {fa fc : Array Value} {t : Tsk} (h : Bu w0 w bb pg mb B U) (ht : TaskV w0 w bb (.func fn fa fc) t) (hn : U.length ≤ 1099511627776) :
    Calls Tryz.prog 40 #[bbP bb, .func fn fa fc] w (BuO w0 w bb pg mb B (U ++ [t])) := by
  obtain ⟨sv, tv, lv, fs, h1, h2, h3⟩ := h
  refine (later_c h1 (by rw [TasksV.len h2]; exact hn)).mono fun e w' hq => ?_
  obtain ⟨he, lv', h4, h5, h6⟩ := hq
  have k := h5.more (S' := bTys) (by decide)
  exact ⟨he, ⟨sv, tv, lv', _, h4, TasksV.push (ht.keep k) (TasksV.keep k h2), h3.trans h6⟩, k⟩
/-- What a function reads of the builder. -/
theorem Bu.cells (h : Bu w0 w bb pg mb B U) : w.cell? ⟨bb, 0, none⟩ = some (ptr pg) ∧ w.cell? ⟨pg, 2, none⟩ = some (.int .i64 (B.first : Int)) ∧ bb < w.heap.size ∧ pg < w.heap.size :=
  let ⟨_, _, _, _, h1, _, _⟩ := h
  ⟨h_cell h1.bd 0 rfl, h_cell h1.pr 2 rfl, h_lt h1.bd, h_lt h1.pr⟩
set_option maxHeartbeats 1000000 in
theorem fork_u {o : Nat} (h : Bu w0 w bb pg mb B U) (hn : B.sts.length ≤ 1099511627776) :
    Calls Tryz.prog 44 #[bbP bb, .int .i64 (o : Int)] w (BuO w0 w bb pg mb (B.put ⟨4, 0, B.first, o⟩) U) := by
  have hp := put_u (s := ⟨4, 0, B.first, o⟩) h hn
  obtain ⟨c0, c2, _, _⟩ := h.cells
  clear h
  go_enter Tryz.func44, Tryz.ntmps44
  go_wp2_with (go_at_call 24; refine (show Calls Tryz.prog 24 #[bbP bb, stV 4 0 B.first o] w _ from hp).mono ?_; rintro e w1 ⟨rfl, hq⟩)
  go_end0
  exact ⟨rfl, hq⟩
end
end Go.Proofs.YtlekfdkahlobiaaGreat.Re

namespace Go.Proofs.YtlekfdkahlobiaaGreat.Re

/-- States that may be: they lead to states that there are. -/
structure Okb (B : Bst) : Prop where
  first : B.first < B.sts.length
  zero : ∀ (q : Nat) (s : Stt), B.sts[q]? = some s → (s.kind = 0 ↔ q = 0)
  kind : ∀ (q : Nat) (s : Stt), B.sts[q]? = some s → s.kind ≤ 4
  next : ∀ (q : Nat) (s : Stt), B.sts[q]? = some s → s.next < B.sts.length
  other : ∀ (q : Nat) (s : Stt), B.sts[q]? = some s → s.other < B.sts.length
  set : ∀ (q : Nat) (s : Stt), B.sts[q]? = some s → s.kind = 1 → s.set < B.sets.length
/-- So many steps without a byte. -/
def epsN (n : Nat) (B : Bst) (a : Nat) : Nat → Nat → Nat → Prop
  | 0, q, q' => q = q'
  | k + 1, q, q' => ∃ s r, B.sts[q]? = some s ∧ epsS n s a r ∧ epsN n B a k r q'
theorem epsN_snoc {n : Nat} {B : Bst} {a : Nat} : ∀ {k q r q' : Nat} {s : Stt}, epsN n B a k q r → B.sts[r]? = some s → epsS n s a q' → epsN n B a (k + 1) q q'
  | 0, q, r, q', s, e, hs, h => by
    cases e
    exact ⟨s, q', hs, h, rfl⟩
  | k + 1, q, r, q', s, ⟨t, u, h1, h2, h3⟩, hs, h => ⟨t, u, h1, h2, epsN_snoc h3 hs h⟩
/-- How many states were not come to yet. -/
def unm (a : Nat) (rch : List Nat) : Nat := rch.countP fun v => decide (v ≠ a + 1)
theorem unm_le (a : Nat) (rch : List Nat) : unm a rch ≤ rch.length := List.countP_le_length
theorem unm_set {a : Nat} : ∀ {rch : List Nat} {q v : Nat}, rch[q]? = some v → v ≠ a + 1 → unm a (rch.set q (a + 1)) + 1 = unm a rch
  | [], _, _, h, _ => by cases h
  | x :: l, 0, v, h, hv => by
    cases h
    show (List.countP _ ((a + 1) :: l)) + 1 = List.countP _ (x :: l)
    rw [List.countP_cons, List.countP_cons]
    simp [hv]
  | x :: l, q + 1, v, h, hv => by
    have ih := unm_set (rch := l) (q := q) h hv
    unfold unm at ih ⊢
    rw [List.set_cons_succ, List.countP_cons, List.countP_cons]
    omega
/-- Where a state leads to at a place, the last one first. -/
def outs (n : Nat) (s : Stt) (a : Nat) : List Nat :=
  if s.kind = 2 then (if a = 0 then [s.next] else []) else if s.kind = 3 then (if a = n then [s.next] else []) else if s.kind = 4 then [s.other, s.next] else []
theorem outs_iff {n : Nat} {s : Stt} {a q : Nat} : epsS n s a q ↔ q ∈ outs n s a := by
  unfold epsS outs
  split
  · rename_i h
    split <;> simp_all
  · split
    · rename_i h
      split <;> simp_all
    · split
      · rename_i h
        simp_all [or_comm]
      · simp_all
theorem outs_len (n : Nat) (s : Stt) (a : Nat) : (outs n s a).length ≤ 2 := by
  unfold outs
  split
  · split <;> simp
  · split
    · split <;> simp
    · split <;> simp
def trsS (s : Stt) (i q : Nat) : List (Nat × Nat) := if s.kind ≤ 1 then [(i, q)] else []
/-- What was come to at a place: marks, trails; l: what is to be come to yet. -/
structure WkI (n : Nat) (B : Bst) (a : Nat) (rch : List Nat) (tr : List (Nat × Nat)) (l : List Nat) : Prop where
  len : rch.length = B.sts.length
  le : ∀ (q v : Nat), rch[q]? = some v → v ≤ a + 1
  tr1 : ∀ (i q : Nat), (i, q) ∈ tr → rch[q]? = some (a + 1) ∧ ∃ s, B.sts[q]? = some s ∧ s.kind ≤ 1
  tr2 : ∀ (q : Nat) (s : Stt), rch[q]? = some (a + 1) → B.sts[q]? = some s → s.kind ≤ 1 → ∃ i, (i, q) ∈ tr
  cl : ∀ (q : Nat) (s : Stt) (q' : Nat), rch[q]? = some (a + 1) → B.sts[q]? = some s → epsS n s a q' → rch[q']? = some (a + 1) ∨ q' ∈ l
  dis : (tr.map (·.2)).Nodup
  lt : ∀ q ∈ l, q < B.sts.length
  cnt : tr.length + unm a rch ≤ B.sts.length
/-- On the way: from the state q0 on, by the begin i. -/
structure RcI (n : Nat) (B : Bst) (a i q0 : Nat) (rch0 : List Nat) (tr0 : List (Nat × Nat)) (rch : List Nat) (tr : List (Nat × Nat)) (l : List Nat) : Prop where
  wk : WkI n B a rch tr l
  new : ∃ nw, tr = tr0 ++ nw ∧ ∀ t ∈ nw, t.1 = i ∧ ∃ k, epsN n B a k q0 t.2
  from' : ∀ q ∈ l, ∃ k, epsN n B a k q0 q
  mono : ∀ (q : Nat), rch0[q]? = some (a + 1) → rch[q]? = some (a + 1)
  at0 : rch[q0]? = some (a + 1) ∨ q0 ∈ l
  room : 2 * unm a rch + l.length ≤ 2 * B.sts.length + 1
theorem RcI.start {n : Nat} {B : Bst} {a i q0 : Nat} {rch : List Nat} {tr : List (Nat × Nat)} (h : WkI n B a rch tr []) (hq : q0 < B.sts.length) : RcI n B a i q0 rch tr rch tr [q0] :=
  ⟨⟨h.len, h.le, h.tr1, h.tr2, fun q s q' h1 h2 h3 => (h.cl q s q' h1 h2 h3).imp_right (fun h => by cases h), h.dis, fun q hm => by rw [List.mem_singleton.1 hm]; exact hq, h.cnt⟩,
    ⟨[], by simp, fun t ht => by cases ht⟩, fun q hm => by rw [List.mem_singleton.1 hm]; exact ⟨0, rfl⟩, fun q h => h, .inr (by simp), by
      have := unm_le a rch
      rw [h.len] at this
      simp; omega⟩
theorem mem_popN {q : Nat} {l : List Nat} {x : Nat} : x ∈ l ++ [q] ↔ x ∈ l ∨ x = q := by simp
/-- A state that was come to is passed over. -/
theorem RcI.skip {n : Nat} {B : Bst} {a i q0 : Nat} {rch0 rch : List Nat} {tr0 tr : List (Nat × Nat)} {l : List Nat} {q : Nat} (h : RcI n B a i q0 rch0 tr0 rch tr (l ++ [q])) (hq : rch[q]? = some (a + 1)) : RcI n B a i q0 rch0 tr0 rch tr l := by
  have w := h.wk
  refine ⟨⟨w.len, w.le, w.tr1, w.tr2, fun p s q' h1 h2 h3 => ?_, w.dis, fun p hp => w.lt p (by simp [hp]), w.cnt⟩, h.new, fun p hp => h.from' p (by simp [hp]), h.mono, ?_, ?_⟩
  · rcases w.cl p s q' h1 h2 h3 with h | h
    · exact .inl h
    · rcases mem_popN.1 h with h | rfl
      · exact .inr h
      · exact .inl hq
  · rcases h.at0 with h | h
    · exact .inl h
    · rcases mem_popN.1 h with h | rfl
      · exact .inr h
      · exact .inl hq
  · have := h.room
    simp at this
    omega
/-- A state is come to. -/
theorem RcI.mark {n : Nat} {B : Bst} (hB : Okb B) {a i q0 : Nat} {rch0 rch : List Nat} {tr0 tr : List (Nat × Nat)} {l : List Nat} {q v : Nat} {s : Stt} (h : RcI n B a i q0 rch0 tr0 rch tr (l ++ [q])) (hv : rch[q]? = some v) (hne : v ≠ a + 1) (hs : B.sts[q]? = some s) : RcI n B a i q0 rch0 tr0 (rch.set q (a + 1)) (tr ++ trsS s i q) (l ++ outs n s a) := by
  have w := h.wk
  have hlt := (List.getElem?_eq_some_iff.1 hv).1
  have hself : (rch.set q (a + 1))[q]? = some (a + 1) := by rw [List.getElem?_set, if_pos rfl, if_pos hlt]
  have hget : ∀ p, p ≠ q → (rch.set q (a + 1))[p]? = rch[p]? := fun p hp => by rw [List.getElem?_set, if_neg (fun e => hp e.symm)]
  have hmono : ∀ p, rch[p]? = some (a + 1) → (rch.set q (a + 1))[p]? = some (a + 1) := fun p hp => by
    by_cases e : p = q
    · subst e; exact hself
    · rw [hget p e]; exact hp
  have hun := unm_set hv hne
  have htm : ∀ t, t ∈ trsS s i q → t = (i, q) ∧ s.kind ≤ 1 := fun t ht => by
    unfold trsS at ht
    split at ht
    · rename_i h1; exact ⟨by simpa using ht, h1⟩
    · cases ht
  have hnq : ∀ j, (j, q) ∉ tr := fun j hj => by
    have := (w.tr1 j q hj).1
    rw [hv] at this
    exact hne (Option.some.inj this)
  obtain ⟨kq, hkq⟩ := h.from' q (by simp)
  refine ⟨⟨by rw [List.length_set]; exact w.len, fun p u hp => ?_, fun j p hm => ?_, fun p t h1 h2 h3 => ?_, fun p t q' h1 h2 h3 => ?_, ?_, fun p hp => ?_, ?_⟩, ?_, fun p hp => ?_, fun p hp => hmono p (h.mono p hp), ?_, ?_⟩
  · by_cases e : p = q
    · subst e; rw [hself] at hp; cases hp; exact Nat.le_refl _
    · rw [hget p e] at hp; exact w.le p u hp
  · rcases List.mem_append.1 hm with hm | hm
    · have := w.tr1 j p hm
      exact ⟨hmono p this.1, this.2⟩
    · obtain ⟨e, h1⟩ := htm _ hm
      cases e
      exact ⟨hself, s, hs, h1⟩
  · by_cases e : p = q
    · subst e
      rw [hs] at h2
      cases h2
      exact ⟨i, List.mem_append.2 (.inr (by unfold trsS; rw [if_pos h3]; simp))⟩
    · rw [hget p e] at h1
      obtain ⟨j, hj⟩ := w.tr2 p t h1 h2 h3
      exact ⟨j, List.mem_append.2 (.inl hj)⟩
  · by_cases e : p = q
    · subst e
      rw [hs] at h2
      cases h2
      exact .inr (List.mem_append.2 (.inr (outs_iff.1 h3)))
    · rw [hget p e] at h1
      rcases w.cl p t q' h1 h2 h3 with g | g
      · exact .inl (hmono q' g)
      · rcases mem_popN.1 g with g | rfl
        · exact .inr (List.mem_append.2 (.inl g))
        · exact .inl hself
  · rw [List.map_append, List.nodup_append]
    refine ⟨w.dis, ?_, ?_⟩
    · unfold trsS
      split <;> simp
    · intro x hx y hy e
      subst e
      obtain ⟨t, ht, rfl⟩ := List.mem_map.1 hx
      obtain ⟨u, hu, e⟩ := List.mem_map.1 hy
      obtain ⟨rfl, _⟩ := htm u hu
      have e : q = t.2 := e
      exact hnq t.1 (by rw [e]; exact ht)
  · rcases List.mem_append.1 hp with hp | hp
    · exact w.lt p (by simp [hp])
    · have := outs_iff.2 hp
      rcases this with ⟨_, _, rfl⟩ | ⟨_, _, rfl⟩ | ⟨_, rfl | rfl⟩
      · exact hB.next q s hs
      · exact hB.next q s hs
      · exact hB.next q s hs
      · exact hB.other q s hs
  · have h1 := w.cnt
    have h2 : (trsS s i q).length ≤ 1 := by unfold trsS; split <;> simp
    rw [List.length_append]
    omega
  · obtain ⟨nw, e, hn⟩ := h.new
    refine ⟨nw ++ trsS s i q, by rw [e, List.append_assoc], fun t ht => ?_⟩
    rcases List.mem_append.1 ht with ht | ht
    · exact hn t ht
    · obtain ⟨rfl, _⟩ := htm t ht
      exact ⟨rfl, kq, hkq⟩
  · rcases List.mem_append.1 hp with hp | hp
    · exact h.from' p (by simp [hp])
    · exact ⟨kq + 1, epsN_snoc hkq hs (outs_iff.2 hp)⟩
  · rcases h.at0 with g | g
    · exact .inl (hmono q0 g)
    · rcases mem_popN.1 g with g | rfl
      · exact .inr (List.mem_append.2 (.inl g))
      · exact .inl hself
  · have h1 := h.room
    have h2 := outs_len n s a
    rw [List.length_append] at h1 ⊢
    simp at h1
    omega
/-- All was come to: what 'reach' leaves. -/
structure RcO (n : Nat) (B : Bst) (a i q0 : Nat) (tr0 : List (Nat × Nat)) (rch : List Nat) (tr : List (Nat × Nat)) : Prop where
  wk : WkI n B a rch tr []
  new : ∃ nw, tr = tr0 ++ nw ∧ ∀ t ∈ nw, t.1 = i ∧ ∃ k, epsN n B a k q0 t.2
  at0 : rch[q0]? = some (a + 1)
theorem RcI.fin {n : Nat} {B : Bst} {a i q0 : Nat} {rch0 rch : List Nat} {tr0 tr : List (Nat × Nat)} (h : RcI n B a i q0 rch0 tr0 rch tr []) : RcO n B a i q0 tr0 rch tr := ⟨h.wk, h.new, h.at0.elim id (fun h => by cases h)⟩
theorem WkI.closed {n : Nat} {B : Bst} {a : Nat} {rch : List Nat} {tr : List (Nat × Nat)} (h : WkI n B a rch tr []) : ∀ {k q q' : Nat}, rch[q]? = some (a + 1) → epsN n B a k q q' → rch[q']? = some (a + 1)
  | 0, q, q', h1, e => by cases e; exact h1
  | k + 1, q, q', h1, ⟨s, r, h2, h3, h4⟩ => by
    rcases h.cl q s r h1 h2 h3 with g | g
    · exact WkI.closed h g h4
    · cases g
/-- What can be come to from there has a trail that does not begin behind it. -/
theorem RcO.comp {n : Nat} {B : Bst} {a i q0 : Nat} {rch : List Nat} {tr0 tr : List (Nat × Nat)} (h : RcO n B a i q0 tr0 rch tr) (h0 : ∀ t ∈ tr0, t.1 ≤ i) {k q : Nat} {s : Stt} (hk : epsN n B a k q0 q) (hs : B.sts[q]? = some s) (h1 : s.kind ≤ 1) : ∃ i', i' ≤ i ∧ (i', q) ∈ tr := by
  obtain ⟨j, hj⟩ := h.wk.tr2 q s (h.wk.closed h.at0 hk) hs h1
  obtain ⟨nw, rfl, hn⟩ := h.new
  refine ⟨j, ?_, hj⟩
  rcases List.mem_append.1 hj with hj | hj
  · exact h0 _ hj
  · have := (hn _ hj).1
    have e : j = i := this
    omega
/-- At the next place nothing was come to yet. -/
theorem WkI.next {n : Nat} {B : Bst} {a : Nat} {rch : List Nat} (hl : rch.length = B.sts.length) (hv : ∀ (q v : Nat), rch[q]? = some v → v ≤ a) : WkI n B a rch [] [] := by
  have hno : ∀ q, rch[q]? ≠ some (a + 1) := fun q h => by have := hv q _ h; omega
  refine ⟨hl, fun q v h => Nat.le_succ_of_le (hv q v h), fun i q h => by (cases h), fun q s h => absurd h (hno q), fun q s q' h => absurd h (hno q), List.nodup_nil, fun q h => by (cases h), ?_⟩
  have := unm_le a rch
  simp
  omega
end Go.Proofs.YtlekfdkahlobiaaGreat.Re
