/- New. -/
import Derived.Test.YtlekfdkahlobiaaGreatMBuild
import Derived.Test.YtlekfdkahlobiaaGreatHNodeM
import Derived.WalkSmall
import Derived.Test.YtlekfdkahlobiaaGreatMTail
import Derived.Laws.MakeOwn
namespace Go.Proofs.YtlekfdkahlobiaaGreat.Re
open Go.Proofs.YtlekfdkahlobiaaGreat.Tr
open Go.RowKit

set_option maxHeartbeats 2000000 in
set_option maxRecDepth 100000 in
theorem new_p {w : World} {v : Value} {x : Nd} (h : ReP w v x) (ho : x.ord = true) (hw : x.wf = true) (hz : x.size ≤ 10000) :
    Calls Tryz.prog 7 #[v] w fun e w' => ∃ p, e = .returned p ∧ isPtr w' p ∧ PgP w' p x ∧ Below w.heap.size w w' := by
  have hN := node_c h (by omega)
  have HX := Lib.hid (And.intro ho (And.intro hw hz))
  obtain ⟨rb, v0, rfl, _, _⟩ := h
  clear ho hw hz
  go_enter Tryz.func7, Tryz.ntmps7
  go_upto_region 1 with fail
  go_wp2_with (first
    | (go_at_call 16; refine hN.mono ?_; rintro e w1 ⟨u, rfl, hn, hB⟩; obtain ⟨p, rfl, _⟩ := hn.ptr; have H1 := Lib.hid (And.intro hn hB); clear hn hB)
    | (go_at_call 15; refine (build_c H1.out.1 HX.out.1 HX.out.2.1 HX.out.2.2).mono ?_; rintro e w2 ⟨q, rfl, hp, hq, hB2⟩; have H2 : Hid (isPtr w2 q ∧ PgP w2 q x ∧ Below w.heap.size w w2) := Lib.hid ⟨hp, hq, H1.out.2.trans (hB2.mono H1.out.2.size)⟩; obtain ⟨qb, rfl, _⟩ := hp; clear hq hB2))
  go_ret
  exact ⟨_, rfl, H2.out⟩
end Go.Proofs.YtlekfdkahlobiaaGreat.Re

namespace Go.Proofs.YtlekfdkahlobiaaGreat.Re
open Go.Proofs.YtlekfdkahlobiaaGreat.Tr
open Go.RowKit Go.Maps

def trCells (l : List (Nat × Nat)) : List Value := l.flatMap fun t => [.int .i64 (t.1 : Int), .int .i64 (t.2 : Int)]
theorem trCells_app (a b : List (Nat × Nat)) : trCells (a ++ b) = trCells a ++ trCells b := by simp [trCells]
theorem trCells_one (t : Nat × Nat) : trCells [t] = [.int .i64 (t.1 : Int), .int .i64 (t.2 : Int)] := by simp [trCells]
theorem trCells_get : ∀ {l : List (Nat × Nat)} {k : Nat} {t : Nat × Nat}, l[k]? = some t → (trCells l)[k * 2]? = some (.int .i64 (t.1 : Int)) ∧ (trCells l)[k * 2 + 1]? = some (.int .i64 (t.2 : Int))
  | [], k, t, h => by cases h
  | x :: l, 0, t, h => by cases h; exact ⟨rfl, rfl⟩
  | x :: l, k + 1, t, h => by
    have ih := trCells_get (l := l) (k := k) (t := t) h
    have e : trCells (x :: l) = .int .i64 (x.1 : Int) :: .int .i64 (x.2 : Int) :: trCells l := rfl
    rw [e, show (k + 1) * 2 = k * 2 + 1 + 1 by omega]
    exact ⟨by rw [List.getElem?_cons_succ, List.getElem?_cons_succ]; exact ih.1, by rw [List.getElem?_cons_succ, List.getElem?_cons_succ]; exact ih.2⟩
def inCells (l : List Nat) : List Value := l.map fun (n : Nat) => .int .i64 (n : Int)
theorem inCells_len (l : List Nat) : (inCells l).length = l.length := by simp [inCells]
theorem inCells_app (a b : List Nat) : inCells (a ++ b) = inCells a ++ inCells b := by simp [inCells]
theorem inCells_set (l : List Nat) (k v : Nat) : (inCells l).set k (.int .i64 (v : Int)) = inCells (l.set k v) := by simp [inCells, List.map_set]
theorem inCells_get {l : List Nat} {k v : Nat} (h : l[k]? = some v) : (inCells l)[k]? = some (.int .i64 (v : Int)) := by simp [inCells, h]
/-- The walk, its rows. -/
structure WM (w : World) (n0 wb rb rcap : Nat) (sv : Value) (n : Nat) (tv rv lv : Value) (tr rm : List (Nat × Nat)) (rch lf : List Nat) : Prop where
  wk : w.heap[wb]? = some (.cells #[sv, .int .i64 (n : Int), tv, rv, .slice (some ⟨rb, 0, none⟩) rch.length rcap, lv] 78)
  tr : w.ownsRow n0 55 2 tv tr.length (trCells tr)
  rm : w.ownsRow n0 55 2 rv rm.length (trCells rm)
  rc : w.ownsRow n0 3 1 (.slice (some ⟨rb, 0, none⟩) rch.length rcap) rch.length (inCells rch)
  lf : w.ownsRow n0 3 1 lv lf.length (inCells lf)
  gw : n0 ≤ wb
  sepT : ∀ g, tv.ownBlock = some g → rv.ownBlock ≠ some g
  sepL : lv.ownBlock ≠ some rb
theorem own_blk {w : World} {base e s n : Nat} {v : Value} {xs : List Value} (h : w.ownsRow base e s v n xs) {g : Nat} (hg : v.ownBlock = some g) : ∃ cur, w.heap[g]? = some (.cells cur e) := by
  rcases h.2 with ⟨rfl, _⟩ | ⟨g', cap, cur, rfl, _, hg', _⟩
  · cases hg
  · have e : g' = g := by simpa [Value.ownBlock] using hg
    subst e
    exact ⟨cur, hg'⟩
/-- A row of its own block is as it was, where another row has grown. -/
theorem row_grown {w w' : World} {base e s n : Nat} {v v' : Value} {xs : List Value} (h : w.ownsRow base e s v n xs) (hg : w.grownBy w' v'.ownBlock) (hs : ∀ g, v.ownBlock = some g → v'.ownBlock ≠ some g) : w'.ownsRow base e s v n xs := by
  refine ⟨h.1, ?_⟩
  rcases h.2 with hn | ⟨g, cap, cur, h1, hb, hg', r⟩
  · exact .inl hn
  · exact .inr ⟨g, cap, cur, h1, hb, (hg.block g (h_lt hg') (fun e => hs g (by rw [h1]; rfl) e.symm)).trans hg', r⟩
theorem row_alloc {w : World} {base e s n : Nat} {v : Value} {xs : List Value} (h : w.ownsRow base e s v n xs) (o : Obj) : (w.alloc o).ownsRow base e s v n xs := row_keep h fun _ _ hg => (al_old w o (h_lt hg)).trans hg
theorem wrow_set {w : World} {base e s n b i T : Nat} {v u : Value} {xs : List Value} {cs : Array Value} (h : w.ownsRow base e s v n xs) (hb : w.heap[b]? = some (.cells cs T)) (hT : T ≠ e) : (w.setCell ⟨b, i, none⟩ u).ownsRow base e s v n xs := row_keep h fun g cur hg => by
  simp only [World.setCell, Array.getElem?_modify]
  rw [if_neg (fun e1 => by
    subst e1
    rw [hb] at hg
    injection hg with hg
    injection hg with _ h2 _
    exact hT h2)]
  exact hg
theorem row_set2 {w : World} {base e s n b i : Nat} {v u : Value} {xs : List Value} (h : w.ownsRow base e s v n xs) (hb : v.ownBlock ≠ some b) : (w.setCell ⟨b, i, none⟩ u).ownsRow base e s v n xs := by
  refine ⟨h.1, ?_⟩
  rcases h.2 with hn | ⟨g, cap, cur, h1, h2, hg', r⟩
  · exact .inl hn
  · refine .inr ⟨g, cap, cur, h1, h2, ?_, r⟩
    simp only [World.setCell, Array.getElem?_modify]
    rw [if_neg (fun e1 => hb (by rw [h1, e1]; rfl))]
    exact hg'
section
variable {w : World} {n0 wb rb rcap n : Nat} {sv tv rv lv : Value} {tr rm : List (Nat × Nat)} {rch lf : List Nat}
theorem WM.drew (h : WM w n0 wb rb rcap sv n tv rv lv tr rm rch lf) : WM w.drew n0 wb rb rcap sv n tv rv lv tr rm rch lf := ⟨h.wk, h.tr, h.rm, h.rc, h.lf, h.gw, h.sepT, h.sepL⟩
theorem below_grown {w w2 : World} {e s k : Nat} {v : Value} {xs : List Value} (h : w.ownsRow n0 e s v k xs) (hn : n0 ≤ w.heap.size) (o : Obj) (hg : (w.alloc o).grownBy w2 v.ownBlock) : Below n0 w w2 :=
  ((Below.refl _ w).alloc hn o).trans ⟨hg.os, hg.tape, hg.output, hg.size, fun j hj => hg.block j (by rw [al_size]; omega) (fun e => by
    have := (h.lt j e.symm).1
    omega)⟩
/-- More is to be come to. -/
theorem WM.pushL (h : WM w n0 wb rb rcap sv n tv rv lv tr rm rch lf) {o : Obj} {w2 : World} {gg cap2 m : Nat} {news : List Nat} (hm : m = news.length) (ho : w2.ownsRow n0 3 1 (.slice (some ⟨gg, 0, none⟩) (lf.length + m) cap2) (lf.length + m) (inCells lf ++ inCells news)) (hg : (w.alloc o).grownBy w2 lv.ownBlock) (ha : lv.ownBlock = some gg ∨ gg = (w.alloc o).heap.size) :
    w2.cell? ⟨wb, 5, none⟩ = some lv ∧ w2.frozen? ⟨wb, 5, none⟩ = false ∧ WM (w2.setCell ⟨wb, 5, none⟩ (.slice (some ⟨gg, 0, none⟩) (lf.length + m) cap2)) n0 wb rb rcap sv n tv rv (.slice (some ⟨gg, 0, none⟩) (lf.length + m) cap2) tr rm rch (lf ++ news) ∧ Below n0 w (w2.setCell ⟨wb, 5, none⟩ (.slice (some ⟨gg, 0, none⟩) (lf.length + m) cap2)) := by
  subst hm
  have hl := h_lt h.wk
  have hlf := row_alloc h.lf o
  have hw2 : w2.heap[wb]? = some (.cells #[sv, .int .i64 (n : Int), tv, rv, .slice (some ⟨rb, 0, none⟩) rch.length rcap, lv] 78) := grown_other hlf hg (by decide) ((al_old w o hl).trans h.wk)
  have hne : ∀ (v : Value) (m : Nat) (xs : List Value), (w.alloc o).ownsRow n0 55 2 v m xs → ∀ g, v.ownBlock = some g → lv.ownBlock ≠ some g := fun v m xs hv g e1 e2 => by
    obtain ⟨c1, h1⟩ := own_blk hv e1
    obtain ⟨c2, h2⟩ := own_blk hlf e2
    rw [h1] at h2
    injection h2 with h2
    injection h2 with _ h3 _
    exact absurd h3 (by decide)
  have htr := row_grown (row_alloc h.tr o) hg (hne _ _ _ (row_alloc h.tr o))
  have hrm := row_grown (row_alloc h.rm o) hg (hne _ _ _ (row_alloc h.rm o))
  have hrc := row_grown (row_alloc h.rc o) hg (fun g e1 e2 => by
    have e1 : rb = g := by simpa [Value.ownBlock] using e1
    subst e1
    exact h.sepL e2)
  have hrb : rb < w.heap.size := (h.rc.lt rb rfl).2
  have hgr : gg ≠ rb := fun e => by
    subst e
    rcases ha with ha | ha
    · exact h.sepL ha
    · rw [al_size] at ha
      omega
  refine ⟨h_cell hw2 5 rfl, h_fz hw2 5, ⟨?_, wrow_set htr hw2 (by decide), wrow_set hrm hw2 (by decide), wrow_set hrc hw2 (by decide), ?_, h.gw, h.sepT, fun e => hgr (by simpa [Value.ownBlock] using e)⟩, (below_grown h.lf (Nat.le_trans h.gw (Nat.le_of_lt hl)) o hg).setCell (p := ⟨wb, 5, none⟩) h.gw _⟩
  · simpa using h_set hw2 5 (.slice (some ⟨gg, 0, none⟩) (lf.length + news.length) cap2)
  · have := wrow_set (i := 5) (u := .slice (some ⟨gg, 0, none⟩) (lf.length + news.length) cap2) ho hw2 (by decide)
    rw [inCells_app, List.length_append]
    exact this
/-- The last one is taken off. -/
theorem WM.popL {q : Nat} {l : List Nat} (h : WM w n0 wb rb rcap sv n tv rv lv tr rm rch (l ++ [q])) : ∃ g cap, lv = .slice (some ⟨g, 0, none⟩) (l.length + 1) cap ∧ l.length + 1 ≤ cap ∧ cap ≤ 9223372036854775807 ∧ w.cell? ⟨g, l.length, none⟩ = some (.int .i64 (q : Int)) ∧ WM (w.setCell ⟨wb, 5, none⟩ (.slice (some ⟨g, 0, none⟩) l.length cap)) n0 wb rb rcap sv n tv rv (.slice (some ⟨g, 0, none⟩) l.length cap) tr rm rch l ∧ Below n0 w (w.setCell ⟨wb, 5, none⟩ (.slice (some ⟨g, 0, none⟩) l.length cap)) := by
  have hlf := h.lf
  rw [List.length_append, List.length_cons, List.length_nil, Nat.zero_add, inCells_app] at hlf
  rcases hlf.2 with ⟨_, e0⟩ | ⟨g, cap, cur, rfl, hb, hg, hle, hcap, hsz, ht⟩
  · omega
  have hpop := ownsRow_pop (size := 1) (by rw [inCells_len, Nat.mul_one]) hlf
  refine ⟨g, cap, rfl, hle, by unfold maxLen at hcap; exact hcap, ?_, ⟨?_, wrow_set h.tr h.wk (by decide), wrow_set h.rm h.wk (by decide), wrow_set h.rc h.wk (by decide), wrow_set hpop h.wk (by decide), h.gw, h.sepT, fun e => h.sepL (by simpa [Value.ownBlock] using e)⟩, (Below.refl _ w).setCell (p := ⟨wb, 5, none⟩) h.gw _⟩
  · refine h_cell hg _ ?_
    have e5 : (inCells l ++ inCells [q])[l.length]? = some (.int .i64 (q : Int)) := by
      rw [List.getElem?_append_right (by rw [inCells_len]; exact Nat.le_refl _), inCells_len, Nat.sub_self]
      rfl
    rw [← ht, List.getElem?_take, if_pos (by omega), Array.getElem?_toList] at e5
    exact e5
  · simpa using h_set h.wk 5 (.slice (some ⟨g, 0, none⟩) l.length cap)
/-- A mark. -/
theorem WM.mark (h : WM w n0 wb rb rcap sv n tv rv lv tr rm rch lf) {q v0 : Nat} (hq : rch[q]? = some v0) (v : Nat) : w.cell? ⟨rb, q, none⟩ = some (.int .i64 (v0 : Int)) ∧ w.frozen? ⟨rb, q, none⟩ = false ∧ q < rch.length ∧ rch.length ≤ rcap ∧ rcap ≤ 9223372036854775807 ∧ WM (w.setCell ⟨rb, q, none⟩ (.int .i64 (v : Int))) n0 wb rb rcap sv n tv rv lv tr rm (rch.set q v) lf ∧ Below n0 w (w.setCell ⟨rb, q, none⟩ (.int .i64 (v : Int))) := by
  have hql := (List.getElem?_eq_some_iff.1 hq).1
  rcases h.rc.2 with ⟨e0, _⟩ | ⟨g, cap, cur, e1, hb, hg, hle, hcap, hsz, ht⟩
  · cases e0
  cases e1
  have hwr : wb ≠ rb := fun e => by
    have := h.wk
    rw [e, hg] at this
    injection this with this
    injection this with _ h2 _
    exact absurd h2 (by decide)
  refine ⟨h_cell hg _ ?_, h_fz hg _, hql, hle, by unfold maxLen at hcap; exact hcap, ⟨?_, wrow_set h.tr hg (by decide), wrow_set h.rm hg (by decide), ?_, row_set2 h.lf h.sepL, h.gw, h.sepT, h.sepL⟩, (Below.refl _ w).setCell (p := ⟨rb, q, none⟩) hb _⟩
  · have e5 := inCells_get hq
    rw [← ht, List.getElem?_take, if_pos (by omega), Array.getElem?_toList] at e5
    exact e5
  · simp only [World.setCell, Array.getElem?_modify]
    rw [if_neg (fun e => hwr e.symm), List.length_set]
    exact h.wk
  · have := mrow_set h.rc (k := q) (.int .i64 (v : Int))
    rw [inCells_set] at this
    rw [List.length_set]
    exact this
/-- A trail more. -/
theorem WM.pushT (h : WM w n0 wb rb rcap sv n tv rv lv tr rm rch lf) {o : Obj} {w2 : World} {gg cap2 : Nat} {t : Nat × Nat} (ho : w2.ownsRow n0 55 2 (.slice (some ⟨gg, 0, none⟩) (tr.length + 1) cap2) (tr.length + 1) (trCells tr ++ [.int .i64 (t.1 : Int), .int .i64 (t.2 : Int)])) (hg : (w.alloc o).grownBy w2 tv.ownBlock) (ha : tv.ownBlock = some gg ∨ gg = (w.alloc o).heap.size) :
    w2.cell? ⟨wb, 2, none⟩ = some tv ∧ w2.frozen? ⟨wb, 2, none⟩ = false ∧ WM (w2.setCell ⟨wb, 2, none⟩ (.slice (some ⟨gg, 0, none⟩) (tr.length + 1) cap2)) n0 wb rb rcap sv n (.slice (some ⟨gg, 0, none⟩) (tr.length + 1) cap2) rv lv (tr ++ [t]) rm rch lf ∧ Below n0 w (w2.setCell ⟨wb, 2, none⟩ (.slice (some ⟨gg, 0, none⟩) (tr.length + 1) cap2)) := by
  have hl := h_lt h.wk
  have htr := row_alloc h.tr o
  have hw2 : w2.heap[wb]? = some (.cells #[sv, .int .i64 (n : Int), tv, rv, .slice (some ⟨rb, 0, none⟩) rch.length rcap, lv] 78) := grown_other htr hg (by decide) ((al_old w o hl).trans h.wk)
  have hne : ∀ (v : Value) (m : Nat) (xs : List Value), (w.alloc o).ownsRow n0 3 1 v m xs → ∀ g, v.ownBlock = some g → tv.ownBlock ≠ some g := fun v m xs hv g e1 e2 => by
    obtain ⟨c1, h1⟩ := own_blk hv e1
    obtain ⟨c2, h2⟩ := own_blk htr e2
    rw [h1] at h2
    injection h2 with h2
    injection h2 with _ h3 _
    exact absurd h3 (by decide)
  have hlf := row_grown (row_alloc h.lf o) hg (hne _ _ _ (row_alloc h.lf o))
  have hrc := row_grown (row_alloc h.rc o) hg (hne _ _ _ (row_alloc h.rc o))
  have hrm := row_grown (row_alloc h.rm o) hg (fun g e1 e2 => h.sepT g e2 e1)
  refine ⟨h_cell hw2 2 rfl, h_fz hw2 2, ⟨?_, ?_, wrow_set hrm hw2 (by decide), wrow_set hrc hw2 (by decide), wrow_set hlf hw2 (by decide), h.gw, fun g e1 e2 => ?_, h.sepL⟩, (below_grown h.tr (Nat.le_trans h.gw (Nat.le_of_lt hl)) o hg).setCell (p := ⟨wb, 2, none⟩) h.gw _⟩
  · simpa using h_set hw2 2 (.slice (some ⟨gg, 0, none⟩) (tr.length + 1) cap2)
  · have := wrow_set (i := 2) (u := .slice (some ⟨gg, 0, none⟩) (tr.length + 1) cap2) ho hw2 (by decide)
    rw [trCells_app, trCells_one, List.length_append]
    exact this
  · have e1 : gg = g := by simpa [Value.ownBlock] using e1
    subst e1
    rcases ha with ha | ha
    · exact h.sepT _ ha e2
    · have := (h.rm.lt gg e2).2
      rw [al_size] at ha
      omega
/-- The trails are taken; what comes from then on goes into the other row. -/
theorem WM.swap (h : WM w n0 wb rb rcap sv n tv rv lv tr rm rch lf) : ∃ a c, rv = .slice a rm.length c ∧ 0 ≤ c ∧ c ≤ 9223372036854775807 ∧ WM ((w.setCell ⟨wb, 2, none⟩ (.slice a 0 c)).setCell ⟨wb, 3, none⟩ tv) n0 wb rb rcap sv n (.slice a 0 c) tv lv [] tr rch lf ∧ Below n0 w ((w.setCell ⟨wb, 2, none⟩ (.slice a 0 c)).setCell ⟨wb, 3, none⟩ tv) := by
  obtain ⟨a, c, e⟩ := own_sh h.rm
  subst e
  have hb1 : (w.setCell ⟨wb, 2, none⟩ (.slice a 0 c)).heap[wb]? = some (.cells #[sv, .int .i64 (n : Int), .slice a 0 c, .slice a rm.length c, .slice (some ⟨rb, 0, none⟩) rch.length rcap, lv] 78) := by simpa using h_set h.wk 2 (.slice a 0 c)
  have h0 : w.ownsRow n0 55 2 (.slice a 0 c) 0 (trCells []) ∧ c ≤ 9223372036854775807 := by
    rcases h.rm.2 with ⟨e, e0⟩ | ⟨g, cap, cur, e, hb, hg, hle, hcap, hsz, ht⟩
    · injection e with e1 e2 e3
      subst e1; subst e3
      exact ⟨World.ownsRow_nil _ _ _ _, by omega⟩
    · injection e with e1 e2 e3
      subst e1; subst e3
      exact ⟨⟨rfl, .inr ⟨g, c, cur, rfl, hb, hg, Nat.zero_le _, hcap, hsz, by simp [trCells]⟩⟩, by unfold maxLen at hcap; exact hcap⟩
  have hob : (Value.slice a 0 c).ownBlock = (Value.slice a rm.length c).ownBlock := by cases a <;> rfl
  refine ⟨a, c, rfl, Nat.zero_le _, h0.2, ⟨?_, wrow_set (wrow_set h0.1 h.wk (by decide)) hb1 (by decide), wrow_set (wrow_set h.tr h.wk (by decide)) hb1 (by decide), wrow_set (wrow_set h.rc h.wk (by decide)) hb1 (by decide), wrow_set (wrow_set h.lf h.wk (by decide)) hb1 (by decide), h.gw, fun g e1 e2 => ?_, h.sepL⟩, ((Below.refl _ w).setCell (p := ⟨wb, 2, none⟩) h.gw _).setCell (p := ⟨wb, 3, none⟩) h.gw _⟩
  · simpa using h_set hb1 3 tv
  · rw [hob] at e1
    exact h.sepT g e2 e1
end
end Go.Proofs.YtlekfdkahlobiaaGreat.Re

namespace Go.Proofs.YtlekfdkahlobiaaGreat.Re
open Go.Proofs.YtlekfdkahlobiaaGreat.Tr
open Go.RowKit Go.Maps

theorem info_int : (Tryz.prog.info? 3).map (fun i => (i.zero, i.size, i.bytes)) = some (some (.int .i64 0), 1, 8) := by kernel_rfl
theorem info_tr : (Tryz.prog.info? 55).map (fun i => (i.zero, i.size, i.bytes)) = some (some (.agg #[.int .i64 0, .int .i64 0]), 2, 16) := by kernel_rfl
theorem make_marks (n : Nat) (hn : n ≤ 50000) : ∃ C : Array Value, C.toList = inCells (List.replicate n 0) ∧ ∀ u : World, (Instr.makeSlice 76 (.int .i64 (n : Int)) (.int .i64 (n : Int))).run Tryz.prog u = .ok (.slice (some ⟨u.heap.size, 0, none⟩) n n) (u.alloc (.cells C 3)) := by
  obtain ⟨i0, hi, hz0, hz1, hz2⟩ := p_info info_int
  refine ⟨madeCells (Value.int .i64 0).cells n, ?_, fun u => ?_⟩
  · unfold madeCells inCells
    rw [Array.toList_map, Array.toList_range, List.map_replicate]
    refine List.ext_getElem (by simp) fun i h1 h2 => ?_
    rw [List.getElem_map, List.getElem_replicate]
    simp [Value.cells, Nat.mod_one]
  · have h := run_makeSlice (P := Tryz.prog) (w := u) 76 3 i0 (.int .i64 0) Tryz.underlying76 hi hz0 .i64 .i64 (n : Int) (n : Int) (by omega) (by omega) (by rw [hz1]; omega) (by rw [hz2]; omega) (by omega)
    rw [hz1] at h
    simpa using h
section
variable {w : World}
set_option maxHeartbeats 4000000 in
set_option maxRecDepth 100000 in
theorem walk_c {pb len vc N sc first : Nat} {sa va : Option Addr} {tv : Value} (hp : w.heap[pb]? = some (.cells #[.slice sa N sc, tv, .int .i64 (first : Int)] 51)) (hN : N ≤ 50000) :
    Calls Tryz.prog 17 #[ptr pb, .slice va len vc] w fun e w' => ∃ wb rb, e = .returned (ptr wb) ∧ WM w' w.heap.size wb rb N (.slice sa N sc) len (.slice none 0 0) (.slice none 0 0) (.slice none 0 0) [] [] (List.replicate N 0) [] ∧ Below w.heap.size w w' := by
  obtain ⟨C, hC, hmk⟩ := make_marks N hN
  have c0 := h_cell hp 0 rfl
  have hCs : C.size = N := by rw [← Array.length_toList, hC, inCells_len, List.length_replicate]
  have n1 : (0 : Int) ≤ (N : Int) := by omega
  have HF : Hid (WM ((w.drew.alloc (.cells C 3)).alloc (.cells #[.slice sa N sc, .int .i64 (len : Int), .slice none 0 0, .slice none 0 0, .slice (some ⟨w.heap.size, 0, none⟩) N N, .slice none 0 0] 78)) w.heap.size (w.heap.size + 1) w.heap.size N (.slice sa N sc) len (.slice none 0 0) (.slice none 0 0) (.slice none 0 0) [] [] (List.replicate N 0) [] ∧ Below w.heap.size w ((w.drew.alloc (.cells C 3)).alloc (.cells #[.slice sa N sc, .int .i64 (len : Int), .slice none 0 0, .slice none 0 0, .slice (some ⟨w.heap.size, 0, none⟩) N N, .slice none 0 0] 78))) := by
    refine ⟨⟨?_, World.ownsRow_nil _ _ _ _, World.ownsRow_nil _ _ _ _, ?_, World.ownsRow_nil _ _ _ _, Nat.le_succ _, fun g e => (by cases e), fun e => (by cases e)⟩, ((Below.refl _ w).drew.alloc (Nat.le_refl _) _).alloc (by rw [al_size]; exact Nat.le_succ _) _⟩
    · have := al_new (w.drew.alloc (.cells C 3)) (.cells #[.slice sa N sc, .int .i64 (len : Int), .slice none 0 0, .slice none 0 0, .slice (some ⟨w.heap.size, 0, none⟩) N N, .slice none 0 0] 78)
      rw [al_size] at this
      rw [List.length_replicate]
      exact this
    · rw [List.length_replicate]
      refine ⟨by rw [inCells_len, List.length_replicate, Nat.mul_one], .inr ⟨w.heap.size, N, C, rfl, Nat.le_refl _, al_old2 w.drew _ _, Nat.le_refl _, by unfold maxLen; omega, by rw [hCs, Nat.mul_one], ?_⟩⟩
      rw [hC, List.take_of_length_le (by rw [inCells_len, List.length_replicate]; omega)]
  clear hp hC hCs
  go_enter Tryz.func17, Tryz.ntmps17
  go_upto_region 1 with fail
  go_region_held3 (fun w' => w'.cell? ⟨pb, 0, none⟩ = some (.slice sa N sc)) (first | exact c0 | go_keep) (fail)
  all_goals
    go_wp2_with fail
    go_ret
    exact ⟨_, _, rfl, HF.out⟩
/-- The cells of a walk. -/
theorem WM.cells {n0 wb rb rcap n : Nat} {sv tv rv lv : Value} {tr rm : List (Nat × Nat)} {rch lf : List Nat} (h : WM w n0 wb rb rcap sv n tv rv lv tr rm rch lf) :
    w.cell? ⟨wb, 0, none⟩ = some sv ∧ w.cell? ⟨wb, 1, none⟩ = some (.int .i64 (n : Int)) ∧ w.cell? ⟨wb, 2, none⟩ = some tv ∧ w.cell? ⟨wb, 3, none⟩ = some rv ∧ w.cell? ⟨wb, 4, none⟩ = some (.slice (some ⟨rb, 0, none⟩) rch.length rcap) ∧ w.cell? ⟨wb, 5, none⟩ = some lv :=
  ⟨h_cell h.wk 0 rfl, h_cell h.wk 1 rfl, h_cell h.wk 2 rfl, h_cell h.wk 3 rfl, h_cell h.wk 4 rfl, h_cell h.wk 5 rfl⟩
set_option maxHeartbeats 4000000 in
set_option maxRecDepth 100000 in
theorem next_c {n0 wb rb rcap n : Nat} {sv tv rv lv : Value} {tr rm : List (Nat × Nat)} {rch lf : List Nat} (h : WM w n0 wb rb rcap sv n tv rv lv tr rm rch lf) :
    Calls Tryz.prog 19 #[ptr wb] w fun e w' => e = .returned tv ∧ ∃ tv', WM w' n0 wb rb rcap sv n tv' tv lv [] tr rch lf ∧ Below n0 w w' := by
  obtain ⟨ta, tc, rfl⟩ := own_sh h.tr
  obtain ⟨a, c, rfl, hc0, hc1, hW, hB⟩ := h.swap
  obtain ⟨_, _, c2, c3, _, _⟩ := h.cells
  have z2 := h_fz h.wk 2
  have z3 := h_fz h.wk 3
  have HF := Lib.hid (And.intro hW hB)
  clear h hW hB
  go_enter Tryz.func19, Tryz.ntmps19
  go_wp2_with fail
  go_ret
  exact ⟨rfl, _, HF.out⟩
theorem WM.below {w' : World} {n0 wb rb rcap n : Nat} {sv tv rv lv : Value} {tr rm : List (Nat × Nat)} {rch lf : List Nat} (h : WM w n0 wb rb rcap sv n tv rv lv tr rm rch lf) (hb : Below w.heap.size w w') : WM w' n0 wb rb rcap sv n tv rv lv tr rm rch lf := by
  have hk : ∀ {c : Nat} {o : Obj}, w.heap[c]? = some o → w'.heap[c]? = some o := fun hc => (hb.block _ (h_lt hc)).trans hc
  exact ⟨hk h.wk, row_keep h.tr fun _ _ hg => hk hg, row_keep h.rm fun _ _ hg => hk hg, row_keep h.rc fun _ _ hg => hk hg, row_keep h.lf fun _ _ hg => hk hg, h.gw, h.sepT, h.sepL⟩
end
end Go.Proofs.YtlekfdkahlobiaaGreat.Re
