/- The builder's rows in memory. -/
import Derived.Test.YtlekfdkahlobiaaGreatHMake2
import Derived.DeepKeys4
import Derived.Maps.OwnSet
import Derived.Maps.Views
import Derived.Test.YtlekfdkahlobiaaGreatHBuild
namespace Go.Proofs.YtlekfdkahlobiaaGreat.Re
open Go.RowKit

def reCells (l : List (Value × Nd)) : List Value := l.flatMap fun p => [p.1, .int .i64 (szI p.2)]
theorem reCells_len (l : List (Value × Nd)) : (reCells l).length = l.length * 2 := by
  induction l with
  | nil => rfl
  | cons p l ih => simp only [reCells, List.flatMap_cons, List.length_append, List.length_cons, List.length_nil] at ih ⊢; omega
theorem reCells_app (a b : List (Value × Nd)) : reCells (a ++ b) = reCells a ++ reCells b := by simp [reCells]
theorem reCells_at {l : List (Value × Nd)} : ∀ {i : Nat} {p : Value × Nd}, l[i]? = some p → (reCells l)[i * 2]? = some p.1 ∧ (reCells l)[i * 2 + 1]? = some (.int .i64 (szI p.2)) := by
  induction l with
  | nil => intro i p h; simp at h
  | cons q l ih =>
    intro i p h
    cases i with
    | zero => cases h; exact ⟨rfl, rfl⟩
    | succ i =>
      have := ih (i := i) (p := p) (by simpa using h)
      have e : reCells (q :: l) = q.1 :: .int .i64 (szI q.2) :: reCells l := rfl
      rw [e, show (i + 1) * 2 = i * 2 + 2 by omega]
      exact this
theorem reCells_take (l : List (Value × Nd)) (k : Nat) : (reCells l).take (k * 2) = reCells (l.take k) := by
  by_cases hk : k ≤ l.length
  · conv => lhs; rw [← List.take_append_drop k l, reCells_app]
    rw [List.take_append_of_le_length (by rw [reCells_len]; simp; omega), List.take_of_length_le (by rw [reCells_len]; simp; omega)]
  · rw [List.take_of_length_le (by rw [reCells_len]; omega), List.take_of_length_le (by omega)]
def spCells (l : List (Nat × Nat)) : List Value := l.flatMap fun p => [.int .i64 (p.1 : Int), .int .i64 (p.2 : Int)]
theorem spCells_len (l : List (Nat × Nat)) : (spCells l).length = l.length * 2 := by
  induction l with
  | nil => rfl
  | cons p l ih => simp only [spCells, List.flatMap_cons, List.length_append, List.length_cons, List.length_nil] at ih ⊢; omega
theorem spCells_app (a b : List (Nat × Nat)) : spCells (a ++ b) = spCells a ++ spCells b := by simp [spCells]
/-- What has not become part of another one: branches and pieces, the outermost first. -/
def flat : List Fr → List Nd
  | [] => []
  | f :: t => flat t ++ (f.1 ++ f.2)
def spansF : List Fr → List (Nat × Nat)
  | [] => []
  | f :: t => spansF t ++ [((flat t).length, (flat t).length + f.1.length)]
theorem spansF_len : ∀ fs : List Fr, (spansF fs).length = fs.length
  | [] => rfl
  | f :: t => by rw [spansF, List.length_append, spansF_len t]; rfl
/-- A row that is kept. -/
theorem row_keep {w w' : World} {base e s n : Nat} {v : Value} {xs : List Value} (h : w.ownsRow base e s v n xs) (hk : ∀ (g : Nat) (cur : Array Value), w.heap[g]? = some (.cells cur e (0, 0)) → w'.heap[g]? = some (.cells cur e (0, 0))) : w'.ownsRow base e s v n xs := by
  refine ⟨h.1, ?_⟩
  rcases h.2 with hn | ⟨g, cap, cur, h1, hb, hg, r⟩
  · exact .inl hn
  · exact .inr ⟨g, cap, cur, h1, hb, hk g cur hg, r⟩
/-- All blocks of a type that is none of a reader's own are as they were. -/
structure AKeep (w w' : World) : Prop where
  size : w.heap.size ≤ w'.heap.size
  blk : ∀ (b : Nat) (cs : Array Value) (T : Nat), T ≠ 90 → w.heap[b]? = some (.cells cs T) → w'.heap[b]? = some (.cells cs T)
theorem AKeep.nkeep {w w' : World} (h : AKeep w w') : NKeep w w' := ⟨h.size, fun b cs T hT hb => h.blk b cs T (by rcases hT with rfl | rfl | rfl <;> decide) hb⟩
theorem AKeep.refl (w : World) : AKeep w w := ⟨Nat.le_refl _, fun _ _ _ _ h => h⟩
theorem AKeep.trans {u v w : World} (h : AKeep u v) (k : AKeep v w) : AKeep u w := ⟨Nat.le_trans h.size k.size, fun b cs T hT hb => k.blk b cs T hT (h.blk b cs T hT hb)⟩
theorem AKeep.of {w w' : World} (h : Below w.heap.size w w') : AKeep w w' := ⟨h.size, fun b _ _ _ hb => (h.block b (h_lt hb)).trans hb⟩
theorem AKeep.bar {w w' : World} {b : Nat} {cs : Array Value} (h : Bar b w w') (hb : w.heap[b]? = some (.cells cs 90)) : AKeep w w' := ⟨h.size, fun c _ T hT hc => (h.block c (h_lt hc) (fun e => by
  rw [e, hb] at hc
  injection hc with hc
  injection hc with _ h2 _
  exact hT h2.symm)).trans hc⟩
/-- The builder's rows. -/
structure BdR (w : World) (rb : Nat) (pv ov : Value) (made : Int) (fs : List Fr) : Prop where
  m0 : 0 ≤ made
  m1 : made ≤ 10001
  wt : made ≤ (Nd.size.sizes (flat fs) : Int)
  cnt : ((flat fs).length : Int) ≤ made
  row : ∃ l : List (Value × Nd), w.ownsRow (rb + 1) 38 2 pv l.length (reCells l) ∧ l.map Prod.snd = flat fs ∧ ∀ (i : Nat) (p : Value × Nd), l[i]? = some p → NodeP w p.1 p.2
  opn : w.ownsRow (rb + 1) 111 2 ov fs.length (spCells (spansF fs))
theorem BdR.keep {w w' : World} {rb : Nat} {pv ov : Value} {made : Int} {fs : List Fr} (h : BdR w rb pv ov made fs) (hk : AKeep w w') : BdR w' rb pv ov made fs := by
  obtain ⟨l, h1, h2, h3⟩ := h.row
  exact ⟨h.m0, h.m1, h.wt, h.cnt, ⟨l, row_keep h1 (fun g cur hg => hk.blk g cur _ (by decide) hg), h2, fun i p hp => (h3 i p hp).keep hk.nkeep⟩, row_keep h.opn (fun g cur hg => hk.blk g cur _ (by decide) hg)⟩
/-- A part of a row, as a slice. -/
theorem row_from {w : World} {base : Nat} {v : Value} {l : List (Value × Nd)} (h : w.ownsRow base 38 2 v l.length (reCells l)) (hn : ∀ (i : Nat) (p : Value × Nd), l[i]? = some p → NodeP w p.1 p.2) (hl : l ≠ []) : ∃ g cap, v = .slice (some ⟨g, 0, none⟩) l.length cap ∧ base ≤ g ∧ g < w.heap.size ∧ l.length ≤ cap ∧ cap ≤ 9223372036854775807 ∧ ∀ k, RowI w g (k * 2) (l.drop k) := by
  rcases h.2 with ⟨_, h0⟩ | ⟨g, cap, cur, rfl, hb, hg, hle, hcap, hsz, ht⟩
  · exact absurd (List.length_eq_zero_iff.1 h0) hl
  · refine ⟨g, cap, rfl, hb, h_lt hg, hle, by unfold maxLen at hcap; exact hcap, fun k => ⟨fun _ => h_lt hg, fun i p hp => ?_, fun i p hp => ?_, fun i p hp => hn (k + i) p (by rw [List.getElem?_drop] at hp; exact hp)⟩⟩
    · rw [List.getElem?_drop] at hp
      have hi := (List.getElem?_eq_some_iff.1 hp).1
      have h2 := (reCells_at hp).1
      rw [← ht, List.getElem?_take, if_pos (by omega)] at h2
      rw [show k * 2 + i * 2 = (k + i) * 2 by omega]
      exact h_cell hg _ (by simpa using h2)
    · rw [List.getElem?_drop] at hp
      have hi := (List.getElem?_eq_some_iff.1 hp).1
      have h2 := (reCells_at hp).2
      rw [← ht, List.getElem?_take, if_pos (by omega)] at h2
      rw [show k * 2 + i * 2 + 1 = (k + i) * 2 + 1 by omega]
      exact h_cell hg _ (by simpa using h2)
/-- The first ones of a row. -/
theorem row_take {w : World} {base e n cap g : Nat} {xs : List Value} (h : w.ownsRow base e 2 (.slice (some ⟨g, 0, none⟩) n cap) n xs) {k : Nat} (hk : k ≤ n) : w.ownsRow base e 2 (.slice (some ⟨g, 0, none⟩) k cap) k (xs.take (k * 2)) := by
  refine ⟨by rw [List.length_take, h.1]; omega, ?_⟩
  rcases h.2 with ⟨e1, _⟩ | ⟨g', cap', cur, e1, hb, hg, hle, hcap, hsz, ht⟩
  · cases e1
  · cases e1
    exact .inr ⟨g, cap, cur, rfl, hb, hg, by omega, hcap, hsz, by rw [← ht, List.take_take, Nat.min_eq_left (by omega)]⟩
/-- Blocks of another type than a row's are as they were when the row has grown. -/
theorem grown_other {w w' : World} {base e s n : Nat} {v : Value} {xs : List Value} (h : w.ownsRow base e s v n xs) (hg : w.grownBy w' v.ownBlock) {b : Nat} {cs : Array Value} {T : Nat} (hT : T ≠ e) (hb : w.heap[b]? = some (.cells cs T)) : w'.heap[b]? = some (.cells cs T) := by
  refine (hg.block b (h_lt hb) fun e1 => ?_).trans hb
  rcases h.2 with ⟨rfl, _⟩ | ⟨g, cap, cur, rfl, _, hg', _⟩
  · cases e1
  · have e2 : b = g := by simpa [Value.ownBlock] using e1
    rw [e2, hg'] at hb
    injection hb with hb
    injection hb with _ h2 _
    exact hT h2.symm
end Go.Proofs.YtlekfdkahlobiaaGreat.Re

namespace Go.Proofs.YtlekfdkahlobiaaGreat.Re
open Go.RowKit Go.Maps

theorem laidOutM : laidOutB Tryz.prog = true := by kernel_rfl
theorem keyedB : Keyed Tryz.prog 40 := Keyed.of_law (deep_law_laid laidOutM (m := 4) (by decide) (of_decide_eq_true (by kernel_rfl)) (by kernel_rfl) (by kernel_rfl))
abbrev blV (p : UInt8 → Bool) : Value := .agg (boolsL p).toArray
theorem boolsL_inj {p q : UInt8 → Bool} (h : boolsL p = boolsL q) : p = q := by
  funext c
  have hc := c.toNat_lt
  have h1 := congrArg (fun l => l[c.toNat]?) h
  simp only [boolsL, List.getElem?_map, List.getElem?_range hc, Option.map_some, Option.some.injEq, Value.bool.injEq] at h1
  simpa using h1
theorem lits_arr {P : Program} {d : Nat} {t e : TypeId} {n : Nat} {cs : List Value} (h : P.underlying t = some (.array n e)) (hl : cs.length = P.cellsOf t) :
    P.keyLits (d + 1) t cs = ((List.range n).mapM fun i => P.keyLits d e ((cs.drop (i * P.cellsOf e)).take (P.cellsOf e))).map List.flatten := by
  conv => lhs; unfold Program.keyLits
  split
  all_goals (rename_i h1; first | (rw [h] at h1; simp at h1; done) | skip)
  · rw [h] at h1
    injection h1 with h1
    injection h1 with h1 h2
    subst h1; subst h2
    rw [if_pos hl]
  · rename_i h2 _ _ _
    exact absurd h (h2 n e)
theorem lits_bool {P : Program} {d : Nat} {t : TypeId} {b : Bool} (h : P.underlying t = some .bool) : P.keyLits (d + 1) t [.bool b] = some [.bool b] := by
  unfold Program.keyLits
  simp only [h]
theorem lits_bools (d : Nat) (p : UInt8 → Bool) : Tryz.prog.keyLits (d + 2) 40 (boolsL p) = some ((List.range 256).map fun i => [Lit.bool (p (UInt8.ofNat i))]).flatten := by
  have hc4 : Tryz.prog.cellsOf 4 = 1 := by kernel_rfl
  have hc : Tryz.prog.cellsOf 40 = 256 := by kernel_rfl
  rw [lits_arr Tryz.underlying40 (by rw [hc, boolsL_len])]
  have key : ∀ (l : List Nat), (∀ i ∈ l, i < 256) → (l.mapM fun i => Tryz.prog.keyLits (d + 1) 4 (((boolsL p).drop (i * 1)).take 1)) = some (l.map fun i => [Lit.bool (p (UInt8.ofNat i))]) := by
    intro l
    induction l with
    | nil => intro _; rfl
    | cons a l ih =>
      intro h
      have ha := h a (List.mem_cons_self ..)
      have e : ((boolsL p).drop (a * 1)).take 1 = [.bool (p (UInt8.ofNat a))] := by
        rw [Nat.mul_one, List.drop_eq_getElem_cons (by rw [boolsL_len]; exact ha)]
        simp [boolsL]
      rw [List.mapM_cons, e, ih fun i hi => h i (List.mem_cons_of_mem _ hi), lits_bool Tryz.underlying4]
      rfl
  rw [hc4, key _ fun i hi => List.mem_range.1 hi]
  rfl
def kB (p : UInt8 → Bool) : Lit := .string (keyBytes ((List.range 256).map fun i => [Lit.bool (p (UInt8.ofNat i))]).flatten)
theorem keyOf_arr {P : Program} {k e : TypeId} {n : Nat} {v : Value} (h : P.underlying k = some (.array n e)) (hk : P.keyType k = true) (hf : v.formed P k = true) : keyOf P k v = (P.keyLits (P.types.size + 1) k v.cells.toList).map fun ls => .string (keyBytes ls) := by
  unfold keyOf
  simp only [h, hk, hf, Bool.and_self, if_true]
theorem kB_key (p : UInt8 → Bool) : keyOf Tryz.prog 40 (blV p) = some (kB p) := by
  have h1 : Tryz.prog.keyType 40 = true := by kernel_rfl
  have hc : Tryz.prog.cellsOf 40 = 256 := by kernel_rfl
  have h2 : (blV p).formed Tryz.prog 40 = true := by
    simp only [Value.formed, Tryz.underlying40, hc]
    simp [boolsL_len]
  obtain ⟨d, hd⟩ : ∃ d, Tryz.prog.types.size + 1 = d + 2 := ⟨Tryz.prog.types.size - 1, by
    have : 1 < Tryz.prog.types.size := of_decide_eq_true (by kernel_rfl)
    omega⟩
  rw [keyOf_arr Tryz.underlying40 h1 h2, hd]
  have e : (blV p).cells.toList = boolsL p := by simp [Value.cells]
  rw [e, lits_bools]
  rfl
theorem kB_inj {p q : UInt8 → Bool} (h : kB p = kB q) : p = q := by
  have h1 := keyedB.inj (kB_key p) (by rw [h]; exact kB_key q)
  injection h1 with h1
  exact boolsL_inj (by simpa using congrArg Array.toList h1)
/-- An element of a map is told as the value that it is. -/
def Rm (v : Value) : Option (DataW Value × List MemPlace) := some (.held v, [])
/-- A map of at most n entries, that holds for a set what f tells. -/
def MapB (w : World) (b n : Nat) (f : (UInt8 → Bool) → Option Value) : Prop :=
  ∃ D : DataW Value, w.ownsMap Tryz.prog 40 Rm b n D ∧ IsMap D ∧ ∀ s, Maps.has D (kB s) = (f s).isSome ∧ ∀ z, D.atKey (kB s) (.held z) = .held ((f s).getD z)
theorem MapB.made (w : World) : MapB (w.alloc (.map #[] 0)) w.heap.size 0 (fun _ => none) :=
  ⟨_, World.ownsMap_made w Tryz.prog 40 Rm, isMap_empty, fun c => ⟨rfl, fun z => by simp [DataW.atKey]⟩⟩
theorem MapB.kept {w w' : World} {b n : Nat} {f : (UInt8 → Bool) → Option Value} {row : Option Nat} (h : MapB w b n f) (hg : w.grownBy w' row) (hne : some b ≠ row) : MapB w' b n f :=
  let ⟨D, h1, h2⟩ := h; ⟨D, h1.kept hg hne, h2⟩
theorem MapB.lt {w : World} {b n : Nat} {f : (UInt8 → Bool) → Option Value} (h : MapB w b n f) : b < w.heap.size := let ⟨_, h1, _⟩ := h; h1.lt
/-- 'v, ok := m[s]'. -/
theorem MapB.look {w : World} {b n : Nat} {f : (UInt8 → Bool) → Option Value} (h : MapB w b n f) {t e : TypeId} (ht : Tryz.prog.underlying t = some (.map 40 e)) {z : Value} (hz : (zeroValue e).run Tryz.prog w = .ok z w) (s : UInt8 → Bool) :
    (Instr.lookup t (.map (some b)) (blV s) true).run Tryz.prog w = .ok (.tuple #[(f s).getD z, .bool (f s).isSome]) w := by
  obtain ⟨D, h1, _, h3⟩ := h
  obtain ⟨v, ps, hr, hv⟩ := h1.look_ok keyedB ht hz (zd := .held z) (zp := []) rfl (kB_key s)
  rw [(h3 s).2 z] at hv
  have e1 : v = (f s).getD z := by
    simp only [Rm, Option.some.injEq, Prod.mk.injEq, DataW.held.injEq] at hv; exact hv.1
  rw [hr, e1, (h3 s).1]
/-- 'm[s] = v'. -/
theorem MapB.put {w : World} {b n : Nat} {f : (UInt8 → Bool) → Option Value} (h : MapB w b n f) {t e : TypeId} (ht : Tryz.prog.underlying t = some (.map 40 e)) (hn : n < maxLen) (s : UInt8 → Bool) (v : Value) :
    ∃ w', (Instr.mapUpdate t (.map (some b)) (blV s) v).run Tryz.prog w = .ok () w' ∧ (∃ g, MapB w' b (n + 1) g ∧ g s = some v ∧ ∀ d, d ≠ s → g d = f d) ∧ w.grownBy w' (some b) := by
  classical
  obtain ⟨D, h1, h2, h3⟩ := h
  obtain ⟨w', hr, ho, hg⟩ := h1.update keyedB ht hn (key := blV s) (val := v) (d := .held v) (ps := []) (kB_key s) rfl
  refine ⟨w', hr, ⟨fun d => if d = s then some v else f d, ⟨_, ho, ho.isMap, fun d => ?_⟩, if_pos rfl, fun d hd => if_neg hd⟩, hg⟩
  have hk : ∀ d, WideAt.IsKeyLit (kB d) := fun d => keyedB.key (kB_key d)
  by_cases hd : d = s
  · subst hd
    rw [has_put_same h2 (hk d)]
    refine ⟨by simp, fun z => ?_⟩
    rw [atKey_put_same h2 (hk d)]; simp
  · have hne : kB d ≠ kB s := fun e => hd (kB_inj e)
    simp only [has_put_other hne, if_neg hd]
    exact ⟨(h3 d).1, fun z => by rw [atKey_put_other hne]; exact (h3 d).2 z⟩
end Go.Proofs.YtlekfdkahlobiaaGreat.Re

namespace Go.Proofs.YtlekfdkahlobiaaGreat.Re

abbrev Rl := Nat → Nat → Prop
def catR : List Rl → Rl
  | [] => fun i j => i = j
  | r :: l => fun i j => ∃ k, r i k ∧ catR l k j
def altR : List Rl → Rl
  | [] => fun _ _ => False
  | r :: l => fun i j => r i j ∨ altR l i j
def iterR (r : Rl) : Nat → Rl
  | 0 => fun i j => i = j
  | c + 1 => fun i j => ∃ k, r i k ∧ iterR r c k j
def repR (m n : Int) (r : Rl) : Rl := fun i j => ∃ c : Nat, m ≤ (c : Int) ∧ (n < 0 ∨ (c : Int) ≤ n) ∧ iterR r c i j
def headR (l : List Rl) : Rl := l.headD fun _ _ => False
/-- P16.1: a node stands from a place to another one. -/
def Nd.st (b : List UInt8) : Nd → Rl
  | ⟨k, p, m, n, l⟩ =>
    if k = 0 then fun i j => i = j
    else if k = 1 then fun i j => (∃ c, b[i]? = some c ∧ p c = true) ∧ j = i + 1
    else if k = 2 then fun i j => i = 0 ∧ j = 0
    else if k = 3 then fun i j => i = b.length ∧ j = b.length
    else if k = 4 then catR (sts b l)
    else if k = 5 then altR (sts b l)
    else repR m n (headR (sts b l))
  where sts (b : List UInt8) : List Nd → List Rl
  | [] => []
  | x :: l => x.st b :: sts b l
theorem st_kinds (b : List UInt8) (p : UInt8 → Bool) (m n : Int) (l : List Nd) : (⟨0, p, m, n, l⟩ : Nd).st b = (fun i j => i = j) ∧ (⟨1, p, m, n, l⟩ : Nd).st b = (fun i j => (∃ c, b[i]? = some c ∧ p c = true) ∧ j = i + 1) ∧ (⟨2, p, m, n, l⟩ : Nd).st b = (fun i j => i = 0 ∧ j = 0) ∧ (⟨3, p, m, n, l⟩ : Nd).st b = (fun i j => i = b.length ∧ j = b.length) ∧ (⟨4, p, m, n, l⟩ : Nd).st b = catR (Nd.st.sts b l) ∧ (⟨5, p, m, n, l⟩ : Nd).st b = altR (Nd.st.sts b l) ∧ (⟨6, p, m, n, l⟩ : Nd).st b = repR m n (headR (Nd.st.sts b l)) := by
  refine ⟨?_, ?_, ?_, ?_, ?_, ?_, ?_⟩ <;> rw [Nd.st] <;> simp
theorem sts_map (b : List UInt8) : ∀ l : List Nd, Nd.st.sts b l = l.map (Nd.st b)
  | [] => rfl
  | x :: l => by rw [Nd.st.sts, sts_map b l]; rfl
/-- A relation that goes on, and not behind the end. -/
def Fwd (n : Nat) (r : Rl) : Prop := ∀ i j, r i j → i ≤ n → i ≤ j ∧ j ≤ n
theorem fwd_cat {n : Nat} : ∀ {l : List Rl}, (∀ r ∈ l, Fwd n r) → Fwd n (catR l)
  | [], _ => fun i j h hi => by cases h; exact ⟨Nat.le_refl _, hi⟩
  | r :: l, h => fun i j ⟨k, h1, h2⟩ hi => by
    have a := h r (by simp) i k h1 hi
    have b := fwd_cat (fun r' hr => h r' (by simp [hr])) k j h2 a.2
    omega
theorem fwd_alt {n : Nat} : ∀ {l : List Rl}, (∀ r ∈ l, Fwd n r) → Fwd n (altR l)
  | [], _ => fun i j h _ => by cases h
  | r :: l, h => fun i j h1 hi => by
    rcases h1 with h1 | h1
    · exact h r (by simp) i j h1 hi
    · exact fwd_alt (fun r' hr => h r' (by simp [hr])) i j h1 hi
theorem fwd_iter {n : Nat} {r : Rl} (h : Fwd n r) : ∀ c, Fwd n (iterR r c)
  | 0 => fun i j h hi => by cases h; exact ⟨Nat.le_refl _, hi⟩
  | c + 1 => fun i j ⟨k, h1, h2⟩ hi => by
    have a := h i k h1 hi
    have b := fwd_iter h c k j h2 a.2
    omega
theorem fwd_rep {n : Nat} {m k : Int} {r : Rl} (h : Fwd n r) : Fwd n (repR m k r) := fun i j ⟨c, _, _, h1⟩ hi => fwd_iter h c i j h1 hi
theorem fwd_head {n : Nat} {l : List Rl} (h : ∀ r ∈ l, Fwd n r) : Fwd n (headR l) := by
  cases l with
  | nil => exact fun i j h _ => by cases h
  | cons r l => exact h r (by simp)
theorem st_fwd (b : List UInt8) : ∀ x : Nd, Fwd b.length (x.st b)
  | ⟨k, p, m, n, l⟩ => by
    have hl := sts l
    rw [Nd.st]
    by_cases h0 : k = 0
    · rw [if_pos h0]; exact fun i j h hi => by cases h; exact ⟨Nat.le_refl _, hi⟩
    rw [if_neg h0]
    by_cases h1 : k = 1
    · rw [if_pos h1]
      exact fun i j ⟨⟨c, hc, _⟩, hj⟩ hi => by have := lt_of_some hc; omega
    rw [if_neg h1]
    by_cases h2 : k = 2
    · rw [if_pos h2]; exact fun i j ⟨h, hj⟩ hi => by omega
    rw [if_neg h2]
    by_cases h3 : k = 3
    · rw [if_pos h3]; exact fun i j ⟨h, hj⟩ hi => by omega
    rw [if_neg h3]
    by_cases h4 : k = 4
    · rw [if_pos h4]; exact fwd_cat hl
    rw [if_neg h4]
    by_cases h5 : k = 5
    · rw [if_pos h5]; exact fwd_alt hl
    rw [if_neg h5]
    exact fwd_rep (fwd_head hl)
  where sts : ∀ l : List Nd, ∀ r ∈ Nd.st.sts b l, Fwd b.length r
  | [], _, h => by cases h
  | x :: l, r, h => by
    rw [Nd.st.sts] at h
    rcases List.mem_cons.1 h with rfl | h
    · exact st_fwd b x
    · exact sts l r h
/-- From a place on. -/
def fromN (f : Int) : Nat := f.toNat
/-- P16.2. -/
def FindS (x : Nd) (b : List UInt8) (f : Int) (a z : Int) (is : Bool) : Prop :=
  (is = true ∧ ∃ i j : Nat, a = (i : Int) ∧ z = (j : Int) ∧ fromN f ≤ i ∧ i ≤ b.length ∧ x.st b i j ∧ (∀ j', x.st b i j' → j' ≤ j) ∧ ∀ i' j', fromN f ≤ i' → i' < i → ¬ x.st b i' j') ∨
  (is = false ∧ a = 0 ∧ z = 0 ∧ ∀ i j, fromN f ≤ i → i ≤ b.length → ¬ x.st b i j)
theorem find_same {x : Nd} {b : List UInt8} {f a z a' z' : Int} {is is' : Bool} (h : FindS x b f a z is) (h' : FindS x b f a' z' is') : a = a' ∧ z = z' ∧ is = is' := by
  rcases h with ⟨rfl, i, j, rfl, rfl, h1, h2, h3, h4, h5⟩ | ⟨rfl, rfl, rfl, h1⟩
  · rcases h' with ⟨rfl, i', j', rfl, rfl, g1, g2, g3, g4, g5⟩ | ⟨rfl, rfl, rfl, g1⟩
    · have e : i = i' := by
        rcases Nat.lt_trichotomy i i' with h | h | h
        · exact absurd h3 (g5 i j h1 h)
        · exact h
        · exact absurd g3 (h5 i' j' g1 h)
      subst e
      have e : j = j' := Nat.le_antisymm (g4 j h3) (h4 j' g3)
      exact ⟨rfl, by rw [e], rfl⟩
    · exact absurd h3 (g1 i j h1 h2)
  · rcases h' with ⟨rfl, i', j', rfl, rfl, g1, g2, g3, g4, g5⟩ | ⟨rfl, rfl, rfl, g1⟩
    · exact absurd g3 (h1 i' j' g1 g2)
    · exact ⟨rfl, rfl, rfl⟩
theorem st_one (b : List UInt8) (c : UInt8) (i j : Nat) : (oneN false c).st b i j ↔ b[i]? = some c ∧ j = i + 1 := by
  unfold oneN setN
  rw [(st_kinds b _ 0 0 []).2.1]
  constructor
  · rintro ⟨⟨d, h1, h2⟩, hj⟩
    have : d = c := by simpa [foldP] using h2
    rw [← this]; exact ⟨h1, hj⟩
  · rintro ⟨h, hj⟩
    exact ⟨⟨c, h, by simp [foldP]⟩, hj⟩
theorem cat_lit (b : List UInt8) : ∀ (s : List UInt8) (i j : Nat), catR ((s.map (oneN false)).map (Nd.st b)) i j ↔ (b.drop i).take s.length = s ∧ (s = [] ∨ i ≤ b.length) ∧ j = i + s.length
  | [], i, j => by simp [catR, eq_comm]
  | c :: s, i, j => by
    simp only [List.map_cons, catR]
    constructor
    · rintro ⟨k, h1, h2⟩
      obtain ⟨hc, rfl⟩ := (st_one b c i k).1 h1
      obtain ⟨h3, _, h5⟩ := (cat_lit b s (i + 1) j).1 h2
      have hl := lt_of_some hc
      refine ⟨?_, .inr (by omega), by simp; omega⟩
      rw [List.drop_eq_getElem_cons hl, List.length_cons, List.take_succ_cons, h3]
      rw [List.getElem?_eq_getElem hl] at hc
      rw [Option.some.inj hc]
    · rintro ⟨h1, _, h3⟩
      have hl : i < b.length := by
        rcases Nat.lt_or_ge i b.length with h | h
        · exact h
        · rw [List.drop_eq_nil_of_le h] at h1; simp at h1
      rw [List.drop_eq_getElem_cons hl, List.length_cons, List.take_succ_cons, List.cons.injEq] at h1
      refine ⟨i + 1, (st_one b c i _).2 ⟨by rw [List.getElem?_eq_getElem hl, h1.1], rfl⟩, (cat_lit b s (i + 1) j).2 ⟨h1.2, .inr hl, by simp at h3; omega⟩⟩
theorem st_lit (b s : List UInt8) (i j : Nat) (hi : i ≤ b.length) : (literalS false s).st b i j ↔ (b.drop i).take s.length = s ∧ j = i + s.length := by
  unfold literalS
  have h := cat_lit b s i j
  match s with
  | [] =>
    simp only [List.map_nil, joinN]
    unfold emptyN ndK
    rw [(st_kinds b _ 0 0 []).1]
    simp [eq_comm]
  | [c] =>
    simp only [List.map_cons, List.map_nil, joinN]
    rw [st_one]
    simp only [List.map_cons, List.map_nil, catR] at h
    constructor
    · rintro ⟨h1, h2⟩
      have := h.1 ⟨j, (st_one b c i j).2 ⟨h1, h2⟩, rfl⟩
      exact ⟨this.1, this.2.2⟩
    · rintro ⟨h1, h2⟩
      obtain ⟨k, h3, rfl⟩ := h.2 ⟨h1, .inr hi, h2⟩
      exact (st_one b c i k).1 h3
  | c :: d :: s =>
    simp only [List.map_cons, joinN]
    unfold ndK
    rw [(st_kinds b _ 0 0 _).2.2.2.2.1, sts_map]
    simp only [List.map_cons] at h
    rw [show (oneN false c :: oneN false d :: s.map (oneN false)).map (Nd.st b) = (oneN false c).st b :: (oneN false d).st b :: (s.map (oneN false)).map (Nd.st b) from rfl]
    rw [h]
    exact ⟨fun h => ⟨h.1, h.2.2⟩, fun h => ⟨h.1, .inr hi, h.2⟩⟩

-- one or the other
theorem st_alt (b : List UInt8) (x y : Nd) (i j : Nat) : (ndK 5 [x, y]).st b i j ↔ x.st b i j ∨ y.st b i j := by
  unfold ndK
  rw [(st_kinds b _ 0 0 _).2.2.2.2.2.1, sts_map]
  simp [altR]

-- without anchors: others around
def Nd.free : Nd → Prop
  | ⟨k, _, _, _, l⟩ => k ≠ 2 ∧ k ≠ 3 ∧ frees l
  where frees : List Nd → Prop
  | [] => True
  | x :: l => x.free ∧ frees l
end Go.Proofs.YtlekfdkahlobiaaGreat.Re

namespace Go.Proofs.YtlekfdkahlobiaaGreat.Re

/-- A state. kind 0: all has stood; 1: a byte of a set is next; 2: the beginning; 3: the end; 4: one of two ways. -/
structure Stt where
  kind : Nat
  set : Nat
  next : Nat
  other : Nat
/-- What is put together: states, sets, the first state. -/
structure Bst where
  sts : List Stt
  sets : List (UInt8 → Bool)
  first : Nat
/-- Where a state leads to without a byte, at a place. -/
def epsS (n : Nat) (s : Stt) (i q : Nat) : Prop :=
  (s.kind = 2 ∧ i = 0 ∧ q = s.next) ∨ (s.kind = 3 ∧ i = n ∧ q = s.next) ∨ (s.kind = 4 ∧ (q = s.next ∨ q = s.other))
/-- One step: from a state at a place to another one at another place. -/
def stepS (b : List UInt8) (B : Bst) (q i q' i' : Nat) : Prop :=
  ∃ s, B.sts[q]? = some s ∧ ((epsS b.length s i q' ∧ i' = i) ∨ (s.kind = 1 ∧ q' = s.next ∧ i' = i + 1 ∧ ∃ c p, b[i]? = some c ∧ B.sets[s.set]? = some p ∧ p c = true))
/-- So many steps. -/
def goN' (b : List UInt8) (B : Bst) : Nat → Nat → Nat → Nat → Nat → Prop
  | 0, q, i, q', i' => q = q' ∧ i = i'
  | k + 1, q, i, q', i' => ∃ r j, stepS b B q i r j ∧ goN' b B k r j q' i'
def goS' (b : List UInt8) (B : Bst) (q i q' i' : Nat) : Prop := ∃ k, goN' b B k q i q' i'
theorem goN_trans {b : List UInt8} {B : Bst} : ∀ {k l q i r j t m : Nat}, goN' b B k q i r j → goN' b B l r j t m → goN' b B (k + l) q i t m
  | 0, l, q, i, r, j, t, m, h1, h2 => by
    obtain ⟨rfl, rfl⟩ := h1
    rw [Nat.zero_add]; exact h2
  | k + 1, l, q, i, r, j, t, m, ⟨s, x, h1, h3⟩, h2 => by
    rw [show k + 1 + l = (k + l) + 1 by omega]
    exact ⟨s, x, h1, goN_trans h3 h2⟩
theorem goS_refl (b : List UInt8) (B : Bst) (q i : Nat) : goS' b B q i q i := ⟨0, rfl, rfl⟩
theorem goS_trans {b : List UInt8} {B : Bst} {q i r j t m : Nat} (h1 : goS' b B q i r j) (h2 : goS' b B r j t m) : goS' b B q i t m := by
  obtain ⟨k, hk⟩ := h1
  obtain ⟨l, hl⟩ := h2
  exact ⟨k + l, goN_trans hk hl⟩
theorem goS_step {b : List UInt8} {B : Bst} {q i r j : Nat} (h : stepS b B q i r j) : goS' b B q i r j := ⟨1, r, j, h, rfl, rfl⟩
/-- It stands from here to the end: the state 0 is come to. -/
abbrev AccN (b : List UInt8) (B : Bst) (k q i j : Nat) : Prop := goN' b B k q i 0 j
/-- A state is put ahead. -/
def Bst.put (B : Bst) (s : Stt) : Bst := ⟨B.sts ++ [s], B.sets, B.sts.length⟩
/-- States from one on are there, and sets. -/
def ExtF (n : Nat) (B F : Bst) : Prop := (∀ (q : Nat) (s : Stt), n ≤ q → B.sts[q]? = some s → F.sts[q]? = some s) ∧ ∀ (q : Nat) (p : UInt8 → Bool), B.sets[q]? = some p → F.sets[q]? = some p
/-- What a builder's work comes to: a relation of places that stands ahead of what stood. -/
structure Does (b : List UInt8) (r : Rl) (B B' : Bst) : Prop where
  ge : B.sts.length ≤ B'.sts.length
  sets : ∀ (q : Nat) (p : UInt8 → Bool), B.sets[q]? = some p → B'.sets[q]? = some p
  old : ∀ (q : Nat) (s : Stt), B.sts[q]? = some s → B'.sts[q]? = some s
  first : B'.first = B.first ∨ (B.sts.length ≤ B'.first ∧ B'.first < B'.sts.length)
  tow : ∀ F, ExtF B.sts.length B' F → ∀ i k j, i ≤ b.length → r i k → (∃ n, AccN b F n B.first k j) → ∃ n, AccN b F n B'.first i j
  from' : ∀ F, ExtF B.sts.length B' F → ∀ n i j, i ≤ b.length → AccN b F n B'.first i j → ∃ k m, m ≤ n ∧ r i k ∧ AccN b F m B.first k j
theorem ExtF.weak {n n' : Nat} {B F : Bst} (h : ExtF n B F) (hn : n ≤ n') : ExtF n' B F := ⟨fun q s hq => h.1 q s (by omega), h.2⟩
theorem ExtF.old {n : Nat} {B B' F : Bst} (h : ExtF n B' F) (ho : ∀ (q : Nat) (s : Stt), B.sts[q]? = some s → B'.sts[q]? = some s) (hs : ∀ (q : Nat) (p : UInt8 → Bool), B.sets[q]? = some p → B'.sets[q]? = some p) : ExtF n B F := ⟨fun q s hn hq => h.1 q s hn (ho q s hq), fun q p hq => h.2 q p (hs q p hq)⟩
theorem Does.refl (b : List UInt8) (B : Bst) : Does b (fun i j => i = j) B B :=
  ⟨Nat.le_refl _, fun _ _ h => h, fun _ _ h => h, .inl rfl, fun _ _ i k j _ e h => by cases e; exact h, fun _ _ n i j _ h => ⟨i, n, Nat.le_refl _, rfl, h⟩⟩
/-- One thing ahead of the other. -/
theorem Does.seq {b : List UInt8} {r r' : Rl} {B B' B'' : Bst} (hr : Fwd b.length r') (h1 : Does b r B B') (h2 : Does b r' B' B'') : Does b (fun i j => ∃ k, r' i k ∧ r k j) B B'' := by
  have hF : ∀ {F}, ExtF B.sts.length B'' F → ExtF B.sts.length B' F ∧ ExtF B'.sts.length B'' F := fun h => ⟨h.old h2.old h2.sets, h.weak h1.ge⟩
  refine ⟨Nat.le_trans h1.ge h2.ge, fun q p h => h2.sets q p (h1.sets q p h), fun q s h => h2.old q s (h1.old q s h), ?_, ?_, ?_⟩
  · rcases h2.first with h | ⟨h, h'⟩
    · rw [h]
      rcases h1.first with g | ⟨g, g'⟩
      · exact .inl g
      · exact .inr ⟨g, Nat.lt_of_lt_of_le g' h2.ge⟩
    · exact .inr ⟨Nat.le_trans h1.ge h, h'⟩
  · rintro F hx i k j hi ⟨m, h3, h4⟩ hn
    have hm := (hr i m h3 hi).2
    exact h2.tow F (hF hx).2 i m j hi h3 (h1.tow F (hF hx).1 m k j hm h4 hn)
  · intro F hx n i j hi h
    obtain ⟨m, n1, hn1, h3, h4⟩ := h2.from' F (hF hx).2 n i j hi h
    obtain ⟨k, n2, hn2, h5, h6⟩ := h1.from' F (hF hx).1 n1 m j (hr i m h3 hi).2 h4
    exact ⟨k, n2, by omega, ⟨m, h3, h5⟩, h6⟩
theorem put_get (B : Bst) (s : Stt) : (B.put s).sts[B.sts.length]? = some s := by simp [Bst.put]
theorem put_old (B : Bst) (s : Stt) {q : Nat} {t : Stt} (h : B.sts[q]? = some t) : (B.put s).sts[q]? = some t := by
  have := (List.getElem?_eq_some_iff.1 h).1
  simp only [Bst.put]
  rw [List.getElem?_append_left this, h]
/-- A state of one way. -/
theorem Does.put {b : List UInt8} {r : Rl} (B : Bst) (s : Stt) (tow : ∀ F, F.sts[B.sts.length]? = some s → (∀ (q : Nat) (p : UInt8 → Bool), B.sets[q]? = some p → F.sets[q]? = some p) → ∀ i k, i ≤ b.length → r i k → stepS b F B.sts.length i B.first k) (fr : ∀ F, F.sts[B.sts.length]? = some s → (∀ (q : Nat) (p : UInt8 → Bool), B.sets[q]? = some p → F.sets[q]? = some p) → ∀ i q k, stepS b F B.sts.length i q k → q = B.first ∧ r i k) (h0 : 0 < B.sts.length) : Does b r B (B.put s) := by
  have hl : (B.put s).sts.length = B.sts.length + 1 := by simp [Bst.put]
  refine ⟨by omega, fun q p h => h, fun q t h => put_old B s h, .inr ⟨Nat.le_refl _, by rw [hl]; exact Nat.lt_succ_self _⟩, ?_, ?_⟩
  · rintro F hx i k j hi hr ⟨n, hn⟩
    exact ⟨n + 1, B.first, k, tow F (hx.1 _ _ (Nat.le_refl _) (put_get B s)) hx.2 i k hi hr, hn⟩
  · intro F hx n i j _ h
    cases n with
    | zero =>
      obtain ⟨e, _⟩ := h
      have e : B.sts.length = 0 := e
      omega
    | succ n =>
      obtain ⟨q, k, h1, h2⟩ := h
      obtain ⟨rfl, hr⟩ := fr F (hx.1 _ _ (Nat.le_refl _) (put_get B s)) hx.2 i q k h1
      exact ⟨k, n, by omega, hr, h2⟩
end Go.Proofs.YtlekfdkahlobiaaGreat.Re
