/- What is asked of the program's options, and the walk of the first law over it. -/
import Derived.Maps.AppendAt
import Derived.Test.YtgppaclfgekknaaOSame
namespace Go.Proofs.Ytgppaclfgekknaa
open Go.RowKit

def codeOf (r : Option (Opts × List ByteArray)) : Int := match r with | none => 19 | some _ => 0
def optsOf (r : Option (Opts × List ByteArray)) : Opts := match r with | none => [] | some p => p.1
def restOf (r : Option (Opts × List ByteArray)) : List ByteArray := match r with | none => [] | some p => p.2

theorem told_ref {w : World} {r : Option (Opts × List ByteArray)} {e : Ending} {w' : World} (h : Told w r e w') : ∃ lv ov, e = .returned (.tuple #[lv, ov, .int .i64 (codeOf r)]) ∧ OptsAt w' w.heap.size lv (optsOf r) ∧ StrsAt w' ov (restOf r) := by
  cases r with
  | none => exact ⟨_, _, h, World.ownsRow_nil _ _ _ _, .inl ⟨rfl, rfl⟩⟩
  | some p => exact h

/-- Strings in memory of their own, or none. -/
def RestAt (w : World) (base : Nat) (v : Value) (o : List ByteArray) : Prop := StrsAt w v o ∧ (o = [] ∨ w.ownsRow base 9 1 v o.length (o.map .string))
/-- What the program's Parse is to answer. -/
def ToldC (w : World) (r : Option (Opts × List ByteArray)) (e : Ending) (w' : World) : Prop :=
  ∃ lv ov, e = .returned (.tuple #[lv, ov, .int .i64 (codeOf r)]) ∧ OptsAt w' w.heap.size lv (optsOf r) ∧ RestAt w' w.heap.size ov (restOf r)

structure Says : Prop where
  parse : ∀ (v : Value) (args : List ByteArray) (spec : ByteArray) (w : World), spec.size ≤ 2097152 → tot args ≤ 2097152 → args.length ≤ 2097152 → StrsAt w v args →
    Calls Try.prog 6 #[v, .string spec] w fun e w' => ToldC w (parseS spec [] args) e w' ∧ Below w.heap.size w w'
  has : ∀ (base : Nat) (v : Value) (l : Opts) (c : UInt8) (w : World), l.length ≤ 2097152 → OptsAt w base v l →
    Calls Try.prog 9 #[v, .int .u8 (c.toNat : Int)] w fun e w' => e = .returned (.bool (hasS l c)) ∧ Below w.heap.size w w'
  last : ∀ (base : Nat) (v : Value) (l : Opts) (c : UInt8) (w : World), l.length ≤ 2097152 → OptsAt w base v l →
    Calls Try.prog 11 #[v, .int .u8 (c.toNat : Int)] w fun e w' => e = .returned (lastV (lastS l c)) ∧ Below w.heap.size w w'
def Wakes : Prop := ∀ w : World, Calls Try.prog 5 #[] w fun e w' => e = .returned (.bool true) ∧ Below w.heap.size w w'

theorem own_below {w w' : World} {base e s n : Nat} {v : Value} {xs : List Value} (h : w.ownsRow base e s v n xs) (hb : Below w.heap.size w w') : w'.ownsRow base e s v n xs := by
  refine ⟨h.1, ?_⟩
  rcases h.2 with h | ⟨g, cap, cur, h1, h2, h3, h4⟩
  · exact .inl h
  · exact .inr ⟨g, cap, cur, h1, h2, (hb.block g (Array.getElem?_eq_some_iff.1 h3).1).trans h3, h4⟩
theorem RestAt.below {w w' : World} {base : Nat} {v : Value} {o : List ByteArray} (h : RestAt w base v o) (hb : Below w.heap.size w w') : RestAt w' base v o :=
  ⟨h.1.below hb, h.2.imp id fun h => own_below h hb⟩
theorem below_drewN2 {B : Nat} {a w : World} (h : Below B a w) (m : Nat) : Below B a (w.drewN m) := ⟨h.os, h.tape, h.output, h.size, h.block⟩
theorem strs_own {w : World} {base : Nat} {v : Value} {o : List ByteArray} (h : w.ownsRow base 9 1 v o.length (o.map .string)) : StrsAt w v o := by
  rcases h.2 with ⟨rfl, h0⟩ | ⟨g, cap, cur, rfl, hb, hg, hle, hcap, hsz, ht⟩
  · exact .inl ⟨rfl, List.length_eq_zero_iff.1 h0⟩
  · refine .inr ⟨g, 0, cap, rfl, ⟨hle, by unfold maxLen at hcap; exact hcap⟩, (Array.getElem?_eq_some_iff.1 hg).1, fun j hj => ?_⟩
    have := own_cell2 h j (by omega)
    rw [Nat.zero_add, this, List.getElem?_map, nth]
    simp [hj]

theorem group_le (spec : ByteArray) : ∀ (g : List UInt8) (l : Opts) (rest : List ByteArray) (p : Opts × List ByteArray), groupS spec l g rest = some p → p.1.length ≤ l.length + g.length ∧ tot p.2 ≤ tot rest
  | [], l, rest, p, h => by simp only [groupS, Option.some.injEq] at h; rw [← h]; simp
  | c :: r, l, rest, p, h => by
    rw [groupS] at h
    split at h
    · cases h
    split at h
    · have := group_le spec r _ rest p h
      simp at this ⊢; omega
    split at h
    · simp only [Option.some.injEq] at h; rw [← h]; simp
    · cases rest with
      | nil => cases h
      | cons s rest => simp only [nextS, Option.some.injEq] at h; rw [← h]; simp [tot_cons]
theorem parse_le (spec : ByteArray) : ∀ (n : Nat) (l : Opts) (args : List ByteArray) (p : Opts × List ByteArray), args.length ≤ n → parseS spec l args = some p → p.1.length ≤ l.length + tot args ∧ p.2.length ≤ args.length
  | n, l, [], p, _, h => by rw [parseS_nil, Option.some.injEq] at h; rw [← h]; simp
  | n + 1, l, a :: rest, p, hn, h => by
    by_cases h1 : a = dashes
    · rw [parseS_dd _ _ _ _ h1, Option.some.injEq] at h; rw [← h]; simp
    by_cases h2 : a.size < 2 ∨ a.data.toList.head? ≠ some 45
    · rw [parseS_stop _ _ _ _ h1 h2, Option.some.injEq] at h; rw [← h]; simp
    rw [parseS_go _ _ _ _ h1 h2] at h
    cases hg : groupS spec l (a.data.toList.drop 1) rest with
    | none => rw [hg] at h; cases h
    | some q =>
      rw [hg] at h
      have h3 := groupS_le _ _ _ _ _ hg
      have h4 := group_le _ _ _ _ _ hg
      have h5 := parse_le spec n q.1 q.2 p (by simp at hn; omega) h
      have h6 : (a.data.toList.drop 1).length ≤ a.size := by rw [List.length_drop]; exact Nat.sub_le _ _
      rw [tot_cons]; simp; omega
theorem opts_le (spec : ByteArray) (args : List ByteArray) : (optsOf (parseS spec [] args)).length ≤ tot args := by
  cases h : parseS spec [] args with
  | none => simp [optsOf]
  | some p => have := parse_le spec args.length [] args p (Nat.le_refl _) h; simpa [optsOf] using this.1
theorem rest_le (spec : ByteArray) (args : List ByteArray) : (restOf (parseS spec [] args)).length ≤ args.length := by
  cases h : parseS spec [] args with
  | none => simp [restOf]
  | some p => exact (parse_le spec args.length [] args p (Nat.le_refl _) h).2

theorem strs_one (l : List ByteArray) : ∀ u ∈ l.map Value.string, u.oneCell' = true := by
  intro u hu; obtain ⟨s, _, rfl⟩ := List.mem_map.1 hu; rfl
theorem strs_news {w : World} {b off n : Nat} {args : List ByteArray} (hc : ∀ j, j < n → w.cell? ⟨b, off + j, none⟩ = some (.string (nth args j))) (hn : args.length = n) : ∀ j u, (args.map Value.string)[j]? = some u → w.cell? ((⟨b, off, none⟩ : Addr).add j) = some u := by
  intro j u hu
  have hj : j < args.length := by have := (List.getElem?_eq_some_iff.1 hu).1; simpa using this
  rw [Addr.add_lit, hc j (by omega), ← hu, List.getElem?_map, nth]
  simp [hj]
/-- The world behind the two answers, from the world w2 in which 'own' lies. -/
structure Mid (w2 w' : World) (la lb va vb : Value) (l : Opts) (o : List ByteArray) : Prop where
  a : ∃ base, OptsAt w' base la l
  b : ∃ base, OptsAt w' base lb l
  c : RestAt w' w2.heap.size va o
  d : StrsAt w' vb o
  bl : Below w2.heap.size w2 w'
theorem Mid.below {w2 w' w'' : World} {la lb va vb : Value} {l : Opts} {o : List ByteArray} (h : Mid w2 w' la lb va vb l o) (hb : Below w'.heap.size w' w'') : Mid w2 w'' la lb va vb l o :=
  ⟨let ⟨x, hx⟩ := h.a; ⟨x, own_below hx hb⟩, let ⟨x, hx⟩ := h.b; ⟨x, own_below hx hb⟩, h.c.below hb, h.d.below hb, h.bl.trans (hb.mono h.bl.size)⟩
theorem own_zero {w : World} {base e s n : Nat} {v : Value} {xs : List Value} (h : w.ownsRow base e s v n xs) : w.ownsRow 0 e s v n xs := by
  refine ⟨h.1, ?_⟩
  rcases h.2 with h | ⟨g, cap, cur, h1, h2, h3⟩
  · exact .inl h
  · exact .inr ⟨g, cap, cur, h1, Nat.zero_le _, h3⟩
theorem below_new {w w' : World} {o : Obj} (h : Below (w.alloc o).heap.size (w.alloc o) w') : Below w.heap.size w w' :=
  ((Below.refl w.heap.size w).alloc (Nat.le_refl _) o).trans (h.mono (by simp))
/-- A row that may be written over. -/
def RowAt (w : World) (base : Nat) (xa : Option Addr) (K : Nat) : Prop := 0 < K → ∃ g cur, xa = some ⟨g, 0, none⟩ ∧ base ≤ g ∧ w.heap[g]? = some (.cells cur 9) ∧ K ≤ cur.size
theorem mid_row {w2 w' : World} {la lb vb : Value} {xa : Option Addr} {ca K : Nat} {l : Opts} {o : List ByteArray} (h : Mid w2 w' la lb (.slice xa K ca) vb l o) (hK : K = o.length) : RowAt w' w2.heap.size xa K := by
  intro h0
  rcases h.c.2 with h1 | h1
  · rw [h1] at hK; simp at hK; omega
  · rcases h1.2 with ⟨_, h3⟩ | ⟨g, cap, cur, h2, h3, h4, h5, h6, h7, h8⟩
    · omega
    · cases h2
      exact ⟨g, cur, rfl, h3, h4, by omega⟩
end Go.Proofs.Ytgppaclfgekknaa
