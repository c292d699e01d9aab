/- Nodes in memory; the ranges of a set, step by step. -/
import Derived.Test.YtlekfdkahlobiaaGreatDoorGBase
import Derived.Test.YtlekfdkahlobiaaGreatDoorGMach
import Derived.Laws.Tables
import Derived.Deep.WholeRow
import Derived.Laws.Rows
import Derived.Laws.CopyOwn
import Derived.Laws.ResultCell
import Derived.Deep.DeepCutAuto
import Derived.Deep.CutBlock
import Derived.Laws.OwnMore
namespace Go.Proofs.YtlekfdkahlobiaaGreatDoor.Re
open Go.RowKit

def boolsL (p : UInt8 → Bool) : List Value := (List.range 256).map fun i => .bool (p (UInt8.ofNat i))
theorem boolsL_len (p : UInt8 → Bool) : (boolsL p).length = 256 := by simp [boolsL]
/-- The cells of a node. -/
def ndC (k : Nat) (p : UInt8 → Bool) (m n : Int) (kv : Value) : Array Value := (.int .i64 (k : Int) :: (boolsL p ++ [.int .i64 m, .int .i64 n, kv])).toArray
section
variable (k : Nat) (p : UInt8 → Bool) (m n : Int) (kv : Value)
theorem ndC_size : (ndC k p m n kv).size = 260 := by simp [ndC, boolsL_len]
theorem ndC_0 : (ndC k p m n kv)[0]? = some (.int .i64 (k : Int)) := rfl
theorem ndC_has (i : Nat) (h : i < 256) : (ndC k p m n kv)[1 + i]? = some (.bool (p (UInt8.ofNat i))) := by
  simp only [ndC, List.getElem?_toArray, Nat.add_comm 1 i, List.getElem?_cons_succ]
  rw [List.getElem?_append_left (by rw [boolsL_len]; exact h)]
  simp [boolsL, h]
theorem ndC_m : (ndC k p m n kv)[257]? = some (.int .i64 m) := by
  simp only [ndC, List.getElem?_toArray, List.getElem?_cons_succ]
  rw [List.getElem?_append_right (by rw [boolsL_len]; omega), boolsL_len]; rfl
theorem ndC_n : (ndC k p m n kv)[258]? = some (.int .i64 n) := by
  simp only [ndC, List.getElem?_toArray, List.getElem?_cons_succ]
  rw [List.getElem?_append_right (by rw [boolsL_len]; omega), boolsL_len]; rfl
theorem ndC_kv : (ndC k p m n kv)[259]? = some kv := by
  simp only [ndC, List.getElem?_toArray, List.getElem?_cons_succ]
  rw [List.getElem?_append_right (by rw [boolsL_len]; omega), boolsL_len]; rfl
end
/-- A block that is a node of a type T. -/
abbrev BlkAt (T : Nat) (w : World) (b k : Nat) (p : UInt8 → Bool) (m n : Int) (kv : Value) : Prop := w.heap[b]? = some (.cells (ndC k p m n kv) T)
/-- A node, with all that it is made of. -/
def NodeAt (T : Nat) (w : World) : Value → Nd → Prop
  | v, ⟨k, p, m, n, l⟩ => ∃ b kv, v = ptr b ∧ BlkAt T w b k p m n kv ∧
      ((kv = .slice none 0 0 ∧ l = []) ∨ ∃ kb off cap, kv = .slice (some ⟨kb, off, none⟩) l.length cap ∧ (l.length ≤ cap ∧ cap ≤ 9223372036854775807) ∧ kidsAt kb off 0 l)
  where kidsAt (kb off : Nat) : Nat → List Nd → Prop
  | _, [] => True
  | j, x :: l => (∃ v, w.cell? ⟨kb, off + j, none⟩ = some v ∧ NodeAt T w v x) ∧ kidsAt kb off (j + 1) l
theorem cell_below {w w' : World} (hb : Below w.heap.size w w') {a : Addr} {v : Value} (h : w.cell? a = some v) : w'.cell? a = some v := (hb.cell (World.block_lt_of_cell? w a h)).trans h
theorem NodeAt.below {T : Nat} {w w' : World} (hb : Below w.heap.size w w') : ∀ {v : Value} {x : Nd}, NodeAt T w v x → NodeAt T w' v x
  | v, ⟨k, p, m, n, l⟩, h => by
    rw [NodeAt] at h ⊢
    obtain ⟨b, kv, hv, hB, hk⟩ := h
    refine ⟨b, kv, hv, (hb.block b (h_lt hB)).trans hB, ?_⟩
    rcases hk with hk | ⟨kb, off, cap, h1, h2, h3⟩
    · exact .inl hk
    · exact .inr ⟨kb, off, cap, h1, h2, kids l 0 kb off h3⟩
  where kids : ∀ (l : List Nd) (j kb off : Nat), NodeAt.kidsAt T w kb off j l → NodeAt.kidsAt T w' kb off j l
  | [], _, _, _, _ => by rw [NodeAt.kidsAt]; trivial
  | x :: l, j, kb, off, h => by
    rw [NodeAt.kidsAt] at h ⊢
    obtain ⟨⟨v, h1, h2⟩, h3⟩ := h
    exact ⟨⟨v, cell_below hb h1, NodeAt.below hb h2⟩, kids l (j + 1) kb off h3⟩
/-- A kid by its number. -/
theorem kid_at {T : Nat} {w : World} : ∀ {l : List Nd} {j kb off : Nat}, NodeAt.kidsAt T w kb off j l → ∀ (i : Nat) (x : Nd), l[i]? = some x → ∃ v, w.cell? ⟨kb, off + (j + i), none⟩ = some v ∧ NodeAt T w v x
  | [], _, _, _, _, i, x, h => by simp at h
  | y :: l, j, kb, off, hk, i, x, h => by
    rw [NodeAt.kidsAt] at hk
    cases i with
    | zero => cases h; exact hk.1
    | succ i =>
      have := kid_at hk.2 i x (by simpa using h)
      rw [show j + (i + 1) = j + 1 + i by omega]
      exact this
theorem NodeAt.ptr {T : Nat} {w : World} {v : Value} {x : Nd} (h : NodeAt T w v x) : isPtr w v := by
  cases x
  rw [NodeAt] at h
  obtain ⟨b, kv, hv, hB, _⟩ := h
  exact ⟨b, hv, h_lt hB⟩

-- ranges, step by step
theorem runE_enough (p : UInt8 → Bool) : ∀ (f g c : Nat), 255 - c ≤ f → 255 - c ≤ g → runE p f c = runE p g c
  | 0, 0, _, _, _ => rfl
  | 0, g + 1, c, h, _ => by rw [runE, runE, if_neg (by omega)]
  | f + 1, 0, c, _, h => by rw [runE, runE, if_neg (by omega)]
  | f + 1, g + 1, c, h, h' => by
    rw [runE, runE]
    split
    · exact runE_enough p f g (c + 1) (by omega) (by omega)
    · rfl
def runF (p : UInt8 → Bool) (c : Nat) : Nat := runE p 256 c
theorem runF_go {p : UInt8 → Bool} {c : Nat} (h : c < 255) (hp : p (UInt8.ofNat (c + 1)) = true) : runF p c = runF p (c + 1) := by
  unfold runF
  rw [runE, if_pos ⟨h, hp⟩]
  exact runE_enough p _ _ _ (by omega) (by omega)
theorem runF_end {p : UInt8 → Bool} {c : Nat} (h : ¬ (c < 255 ∧ p (UInt8.ofNat (c + 1)) = true)) : runF p c = c := by
  unfold runF
  rw [runE, if_neg h]
theorem runE_in (p : UInt8 → Bool) : ∀ (f c : Nat), c ≤ 255 → c ≤ runE p f c ∧ runE p f c ≤ 255
  | 0, c, h => ⟨Nat.le_refl _, h⟩
  | f + 1, c, h => by
    rw [runE]
    split
    · rename_i hc
      have := runE_in p f (c + 1) (by omega)
      omega
    · exact ⟨Nat.le_refl _, h⟩
theorem rangesS_enough (p : UInt8 → Bool) : ∀ (f g c : Nat) (sep : List UInt8), 257 - c ≤ f → 257 - c ≤ g → rangesS p f c sep = rangesS p g c sep
  | 0, 0, _, _, _, _ => rfl
  | 0, g + 1, c, sep, h, _ => by rw [rangesS, rangesS, if_pos (by omega)]
  | f + 1, 0, c, sep, _, h => by rw [rangesS, rangesS, if_pos (by omega)]
  | f + 1, g + 1, c, sep, h, h' => by
    rw [rangesS, rangesS]
    split
    · rfl
    rename_i hc
    have h2 := runE_in p 256 c (by omega)
    split
    · rw [rangesS_enough p f g _ _ (by omega) (by omega)]
    · exact rangesS_enough p f g _ _ (by omega) (by omega)
def rangesF (p : UInt8 → Bool) (c : Nat) (sep : List UInt8) : List UInt8 := rangesS p 257 c sep
theorem rangesF_end {p : UInt8 → Bool} {c : Nat} {sep : List UInt8} (h : 256 ≤ c) : rangesF p c sep = [] := by
  unfold rangesF; rw [rangesS, if_pos h]
theorem rangesF_yes {p : UInt8 → Bool} {c : Nat} {sep : List UInt8} (h : c < 256) (hp : p (UInt8.ofNat c) = true) : rangesF p c sep = sep ++ rangeS c (runF p c) ++ rangesF p (runF p c + 1) [44] := by
  unfold rangesF
  rw [rangesS, if_neg (by omega), if_pos hp, rangesS_enough p 256 257 _ _ (by have := runE_in p 256 c (by omega); omega) (by omega)]
  rfl
theorem rangesF_no {p : UInt8 → Bool} {c : Nat} {sep : List UInt8} (h : c < 256) (hp : p (UInt8.ofNat c) = false) : rangesF p c sep = rangesF p (c + 1) sep := by
  unfold rangesF
  rw [rangesS, if_neg (by omega), if_neg (by rw [hp]; simp), rangesS_enough p 256 257 _ _ (by omega) (by omega)]
theorem setT_F (p : UInt8 → Bool) : setT p = 60 :: (rangesF p 0 [] ++ [62]) := rfl
end Go.Proofs.YtlekfdkahlobiaaGreatDoor.Re

namespace Go.Proofs.YtlekfdkahlobiaaGreatDoor.Re
open Go.Proofs.YtlekfdkahlobiaaGreatDoor.Tr
open Go.RowKit

/-- Of what was there nothing has turned but one block. -/
structure Bar (b : Nat) (w w' : World) : Prop where
  os : w'.os = w.os
  tape : w'.tape = w.tape
  output : w'.output = w.output
  size : w.heap.size ≤ w'.heap.size
  block : ∀ j, j < w.heap.size → j ≠ b → w'.heap[j]? = w.heap[j]?
theorem Bar.refl (b : Nat) (w : World) : Bar b w w := ⟨rfl, rfl, rfl, Nat.le_refl _, fun _ _ _ => rfl⟩
theorem Bar.trans {b : Nat} {u v w : World} (h : Bar b u v) (k : Bar b v w) : Bar b u w := ⟨k.os.trans h.os, k.tape.trans h.tape, k.output.trans h.output, Nat.le_trans h.size k.size, fun j hj hb => (k.block j (Nat.lt_of_lt_of_le hj h.size) hb).trans (h.block j hj hb)⟩
theorem Bar.of {b : Nat} {w w' : World} (h : Below w.heap.size w w') : Bar b w w' := ⟨h.os, h.tape, h.output, h.size, fun j hj _ => h.block j hj⟩
theorem Bar.set (b i : Nat) (w : World) (v : Value) : Bar b w (w.setCell ⟨b, i, none⟩ v) := ⟨rfl, rfl, rfl, by simp [World.setCell], fun j _ hb => Below.heap_setCell _ _ _ _ (fun e => hb (by simpa using e))⟩
theorem Bar.drewN {b : Nat} {u w : World} {q : Nat} (h : Bar b u w) : Bar b u (w.drewN q) := ⟨h.os, h.tape, h.output, h.size, h.block⟩
theorem Bar.drew {b : Nat} {u w : World} (h : Bar b u w) : Bar b u w.drew := ⟨h.os, h.tape, h.output, h.size, h.block⟩
theorem Bar.below {b : Nat} {u w : World} (h : Bar b u w) (hb : b ≤ u.heap.size) : Below b u w := ⟨h.os, h.tape, h.output, h.size, fun j hj => h.block j (by omega) (by omega)⟩
/-- A node, with all that it is made of; its row of kids is a row of pointers to nodes. -/
def NodeP (w : World) : Value → Nd → Prop
  | v, ⟨k, p, m, n, l⟩ => ∃ b kv, v = ptr b ∧ BlkAt 54 w b k p m n kv ∧
      ((kv = .slice none 0 0 ∧ l = []) ∨ ∃ kb off cap cs, kv = .slice (some ⟨kb, off, none⟩) l.length cap ∧ (l.length ≤ cap ∧ cap ≤ 9223372036854775807) ∧ w.heap[kb]? = some (.cells cs 30) ∧ kidsP cs off 0 l)
  where kidsP (cs : Array Value) (off : Nat) : Nat → List Nd → Prop
  | _, [] => True
  | j, x :: l => (∃ v, cs[off + j]? = some v ∧ NodeP w v x) ∧ kidsP cs off (j + 1) l
/-- Nodes, and rows of pointers to nodes, are as they were. -/
structure NKeep (w w' : World) : Prop where
  size : w.heap.size ≤ w'.heap.size
  blk : ∀ (b : Nat) (cs : Array Value) (T : Nat), T = 54 ∨ T = 30 ∨ T = 51 → w.heap[b]? = some (.cells cs T) → w'.heap[b]? = some (.cells cs T)
theorem NKeep.refl (w : World) : NKeep w w := ⟨Nat.le_refl _, fun _ _ _ _ h => h⟩
theorem NKeep.trans {u v w : World} (h : NKeep u v) (k : NKeep v w) : NKeep u w := ⟨Nat.le_trans h.size k.size, fun b cs T hT hb => k.blk b cs T hT (h.blk b cs T hT hb)⟩
theorem NKeep.of {w w' : World} (h : Below w.heap.size w w') : NKeep w w' := ⟨h.size, fun b _ _ _ hb => (h.block b (h_lt hb)).trans hb⟩
theorem NKeep.bar {w w' : World} {b : Nat} {cs : Array Value} {T : Nat} {fz : Nat × Nat} (h : Bar b w w') (hb : w.heap[b]? = some (.cells cs T fz)) (hT : T ≠ 54 ∧ T ≠ 30 ∧ T ≠ 51) : NKeep w w' := ⟨h.size, fun c _ T' hT' hc => (h.block c (h_lt hc) (fun e => by
  rw [e, hb] at hc
  injection hc with hc
  injection hc with _ h2 _
  rcases hT' with h' | h' | h'
  · exact hT.1 (h2.trans h')
  · exact hT.2.1 (h2.trans h')
  · exact hT.2.2 (h2.trans h'))).trans hc⟩
theorem NodeP.keep {w w' : World} (hb : NKeep w w') : ∀ {v : Value} {x : Nd}, NodeP w v x → NodeP w' v x
  | v, ⟨k, p, m, n, l⟩, h => by
    rw [NodeP] at h ⊢
    obtain ⟨b, kv, hv, hB, hk⟩ := h
    refine ⟨b, kv, hv, hb.blk b _ _ (.inl rfl) hB, ?_⟩
    rcases hk with hk | ⟨kb, off, cap, cs, h1, h2, h3, h4⟩
    · exact .inl hk
    · exact .inr ⟨kb, off, cap, cs, h1, h2, hb.blk kb _ _ (.inr (.inl rfl)) h3, kids l 0 cs off h4⟩
  where kids : ∀ (l : List Nd) (j : Nat) (cs : Array Value) (off : Nat), NodeP.kidsP w cs off j l → NodeP.kidsP w' cs off j l
  | [], _, _, _, _ => by rw [NodeP.kidsP]; trivial
  | x :: l, j, cs, off, h => by
    rw [NodeP.kidsP] at h ⊢
    obtain ⟨⟨v, h1, h2⟩, h3⟩ := h
    exact ⟨⟨v, h1, NodeP.keep hb h2⟩, kids l (j + 1) cs off h3⟩
theorem NodeP.node {w : World} : ∀ {v : Value} {x : Nd}, NodeP w v x → NodeAt 54 w v x
  | v, ⟨k, p, m, n, l⟩, h => by
    rw [NodeP] at h
    rw [NodeAt]
    obtain ⟨b, kv, hv, hB, hk⟩ := h
    refine ⟨b, kv, hv, hB, ?_⟩
    rcases hk with hk | ⟨kb, off, cap, cs, h1, h2, h3, h4⟩
    · exact .inl hk
    · exact .inr ⟨kb, off, cap, h1, h2, kids l 0 kb cs off h3 h4⟩
  where kids : ∀ (l : List Nd) (j kb : Nat) (cs : Array Value) (off : Nat), w.heap[kb]? = some (.cells cs 30) → NodeP.kidsP w cs off j l → NodeAt.kidsAt 54 w kb off j l
  | [], _, _, _, _, _, _ => by rw [NodeAt.kidsAt]; trivial
  | x :: l, j, kb, cs, off, hb, h => by
    rw [NodeP.kidsP] at h
    rw [NodeAt.kidsAt]
    obtain ⟨⟨v, h1, h2⟩, h3⟩ := h
    exact ⟨⟨v, h_cell hb _ h1, NodeP.node h2⟩, kids l (j + 1) kb cs off hb h3⟩
theorem kidsP_of {w : World} : ∀ {l : List Nd} {j : Nat} {cs : Array Value} {off : Nat}, (∀ (i : Nat) (x : Nd), l[i]? = some x → ∃ v, cs[off + (j + i)]? = some v ∧ NodeP w v x) → NodeP.kidsP w cs off j l
  | [], _, _, _, _ => by rw [NodeP.kidsP]; trivial
  | y :: l, j, cs, off, h => by
    rw [NodeP.kidsP]
    refine ⟨h 0 y rfl, kidsP_of fun i x hx => ?_⟩
    have := h (i + 1) x (by simpa using hx)
    rw [show j + 1 + i = j + (i + 1) by omega]
    exact this
theorem NodeP.ptr {w : World} {v : Value} {x : Nd} (h : NodeP w v x) : isPtr w v := h.node.ptr

/-- The reader. -/
abbrev Rd (w : World) (rb : Nat) (l : List UInt8) (ext fold : Bool) (last depth : Int) (cl : Bool) (pv ov : Value) (made : Int) : Prop :=
  w.heap[rb]? = some (.cells #[.string (bs l), .bool ext, .bool fold, .int .i64 last, .int .i64 depth, .bool cl, pv, ov, .int .i64 made] 83)
section
variable {w w' : World} {rb : Nat} {l : List UInt8} {ext fold cl : Bool} {last depth made : Int} {pv ov : Value}
theorem Rd.left (h : Rd w rb l ext fold last depth cl pv ov made) (t : List UInt8) : Rd (w.setCell ⟨rb, 0, none⟩ (.string (bs t))) rb t ext fold last depth cl pv ov made := by simpa using h_set h 0 (.string (bs t))
theorem Rd.keep (h : Rd w rb l ext fold last depth cl pv ov made) (hB : Below w.heap.size w w') : Rd w' rb l ext fold last depth cl pv ov made := (hB.block rb (h_lt h)).trans h
theorem Rd.nkeep (h : Rd w rb l ext fold last depth cl pv ov made) (hB : Bar rb w w') : NKeep w w' := NKeep.bar hB h (by decide)
end
/-- What a reader gives up by. -/
def gaveUp : List PanicEntry := [{ v := .iface 97 (.agg #[]), recovered := false }]
theorem panic_not (w : World) : (Instr.panic (.iface 97 (.agg #[]))).run Tryz.prog w = .halt (.panic (.iface 97 (.agg #[]))) w := by kernel_rfl
theorem giveUp_c (w : World) : Calls Tryz.prog 38 #[] w fun e w' => e = .panicked gaveUp ∧ w' = w := by
  have q1 := panic_not w
  go_enter Tryz.func38, Tryz.ntmps38
  go_wp2_with fail
  exact ⟨rfl, rfl, rfl⟩
theorem bs_cons (c : UInt8) (r : List UInt8) : (bs (c :: r)).size = r.length + 1 := by simp [bs_size]
theorem bs_drop (l : List UInt8) (k : Nat) : (bs l).extract k (bs l).size = bs (l.drop k) := by
  apply ByteArray.ext
  apply Array.ext'
  rw [ByteArray.data_extract, Array.toList_extract]
  show (l.drop k).take _ = l.drop k
  rw [List.take_of_length_le]
  simp [bs_size]
end Go.Proofs.YtlekfdkahlobiaaGreatDoor.Re

namespace Go.Proofs.YtlekfdkahlobiaaGreatDoor.Re
open Go.RowKit

theorem p_set_one (cs : Array Value) (i : Nat) (v : Value) (h : i < cs.size) : (cs.setIfInBounds i v).toList = cs.toList.take i ++ [v] ++ cs.toList.drop (i + 1) := by
  rw [Array.toList_setIfInBounds, List.set_eq_take_append_cons_drop, if_pos (by simpa using h)]
  simp
theorem p_fold_set : ∀ (l : List Value) (s off : Nat) (cs : Array Value), off + s + l.length ≤ cs.size → ((l.zipIdx s).foldl (fun cs (q : Value × Nat) => cs.setIfInBounds (off + q.2) q.1) cs).toList = cs.toList.take (off + s) ++ l ++ cs.toList.drop (off + s + l.length)
  | [], s, off, cs, _ => by simp
  | v :: l, s, off, cs, h => by
    have hs : (cs.setIfInBounds (off + s) v).size = cs.size := by simp
    simp only [List.length_cons] at h
    rw [List.zipIdx_cons, List.foldl_cons, p_fold_set l (s + 1) off _ (by rw [hs]; omega), p_set_one cs (off + s) v (by omega)]
    have hl : (cs.toList.take (off + s)).length = off + s := by simp; omega
    have e1 : (cs.toList.take (off + s) ++ [v] ++ cs.toList.drop (off + s + 1)).take (off + (s + 1)) = cs.toList.take (off + s) ++ [v] := by
      rw [List.take_append_of_le_length (by simp; omega), List.take_of_length_le (by simp; omega)]
    have e2 : (cs.toList.take (off + s) ++ [v] ++ cs.toList.drop (off + s + 1)).drop (off + (s + 1) + l.length) = cs.toList.drop (off + s + (l.length + 1)) := by
      rw [List.drop_append, List.drop_eq_nil_of_le (by simp; omega), List.nil_append, List.drop_drop]
      congr 1
      simp
      omega
    rw [e1, e2]
    simp
theorem p_ndC_list (k : Nat) (p : UInt8 → Bool) (m n : Int) (kv : Value) : (ndC k p m n kv).toList = .int .i64 (k : Int) :: (boolsL p ++ [.int .i64 m, .int .i64 n, kv]) := rfl
set_option maxRecDepth 100000 in
theorem p_ndC_setkv (k : Nat) (p : UInt8 → Bool) (m n : Int) (kv v : Value) : (ndC k p m n kv).setIfInBounds 259 v = ndC k p m n v := by
  apply Array.ext'
  rw [p_set_one _ _ _ (by rw [ndC_size]; omega), p_ndC_list, p_ndC_list]
  rfl
/-- How great, as far as a number goes. -/
def szI (x : Nd) : Int := if (x.size : Int) ≤ 9223372036854775807 then (x.size : Int) else 9223372036854775807
theorem szI_in (x : Nd) : 0 ≤ szI x ∧ szI x ≤ 9223372036854775807 := by unfold szI; split <;> omega
abbrev reV (v : Value) (x : Nd) : Value := .agg #[v, .int .i64 (szI x)]
/-- An expression as it lies in its box. -/
abbrev ReB (w : World) (b : Nat) (v : Value) (z : Int) : Prop := w.heap[b]? = some (.cells #[v, .int .i64 z] 48)
theorem infoRe : (Tryz.prog.info? 48).map (·.size) = some 2 := by kernel_rfl
theorem res_re {fn : Func} {p : Tmp} (h : fn.results = #[.cell p 48]) {tmps : Array Value} {w : World} {b : Nat} {v : Value} {z : Int} (hp : tmps.getD p undef = .pointer (some ⟨b, 0, none⟩)) (hg : ReB w b v z) : (results fn tmps).run Tryz.prog w = .ok (.agg #[v, .int .i64 z]) w :=
  results_cell_row h _ _ b 48 #[v, .int .i64 z] (0, 0) _ hp hg Tryz.underlying48 rfl infoRe
/-- What makes an expression answers. -/
def MkO (x : Nd) (w : World) (e : Ending) (w' : World) : Prop := ∃ v, e = .returned (reV v x) ∧ NodeP w' v x ∧ Below w.heap.size w w'
theorem p_zeroC : Tryz.zeroCells54 = ndC 0 noB 0 0 (.slice none 0 0) := by kernel_rfl
theorem p_set0 (k k' : Nat) (p : UInt8 → Bool) (m n : Int) (kv : Value) : (ndC k p m n kv).setIfInBounds 0 (.int .i64 (k' : Int)) = ndC k' p m n kv := by
  apply Array.ext'
  rw [p_set_one _ _ _ (by rw [ndC_size]; omega), p_ndC_list, p_ndC_list]
  rfl
theorem sz_leaf {k : Nat} (hk : k < 6) (p : UInt8 → Bool) : szI ⟨k, p, 0, 0, []⟩ = 1 := by
  have h : Nd.size ⟨k, p, 0, 0, []⟩ = 1 := by
    rw [Nd.size, if_neg (by omega)]; rfl
  unfold szI
  rw [h]
  rfl
theorem al_old (w : World) (o : Obj) {b : Nat} (h : b < w.heap.size) : (w.alloc o).heap[b]? = w.heap[b]? := by show (w.heap.push _)[b]? = _; rw [Array.getElem?_push_lt h, Array.getElem?_eq_getElem h]
theorem al_size (w : World) (o : Obj) : (w.alloc o).heap.size = w.heap.size + 1 := by show (w.heap.push _).size = _; simp
theorem nodeP_leaf {w : World} {b k : Nat} {p : UInt8 → Bool} (h : BlkAt 54 w b k p 0 0 (.slice none 0 0)) : NodeP w (ptr b) ⟨k, p, 0, 0, []⟩ := by
  rw [NodeP]
  exact ⟨b, _, rfl, h, .inl ⟨rfl, rfl⟩⟩
set_option maxHeartbeats 1000000 in
theorem leaf_c (k : Nat) (hk : k < 6) (w : World) : Calls Tryz.prog 33 #[.int .i64 (k : Int)] w (MkO (ndK k []) w) := by
  go_enter Tryz.func33, Tryz.ntmps33
  go_wp2_with fail
  rw [p_zeroC, p_set0]
  refine bodyPost_ret (res_re rfl (b := w.heap.size) (v := ptr (w.heap.size + 1)) (z := 1) rfl ?_) rfl ?_
  · exact (al_old _ _ (by rw [al_size]; omega)).trans (al_new _ _)
  · refine ⟨ptr (w.heap.size + 1), by unfold reV; rw [show szI (ndK k []) = 1 from sz_leaf hk _], nodeP_leaf ?_, ((Below.refl _ w).alloc (Nat.le_refl _) _).alloc (by simp) _⟩
    have := al_new (w.alloc (.cells #[.pointer (some ⟨w.heap.size + 1, 0, none⟩), .int .i64 1] 48)) (.cells (ndC k noB 0 0 (.slice none 0 0)) 54)
    rw [al_size] at this
    exact this
theorem wp_load_arr {P : Program} {o : Oper} {a : Act} {w : World} {K : Act → World → Prop} {Q : Exit → Act → World → Prop} (ty : TypeId) (x : Operand) (ho : o.op = .load ty x) (g : Nat) (cs : Array Value) (hx : a.eval x = .pointer (some ⟨g, 0, none⟩)) (t : TypeId) {fr : Nat × Nat} {d : TypeDesc}
    (hg : w.heap[g]? = some (.cells cs t fr)) (hu : P.underlying ty = some d) (ha : (match d with | .struct _ | .array _ _ => true | _ => false) = true) (hi : (P.info? ty).map (·.size) = some cs.size) (h : K (a.put o.dst (.agg cs)) w) : o.wp P a w K Q := by
  unfold Oper.wp execOp
  simp only [ho, hx, Instr.loadAt, Instr.sureAddr, Sem.run_bind, Sem.run_pure, Result.andThen_ok, run_loadVar_row w g t ty cs fr d hg hu ha hi]
  exact h
theorem info256 : (Tryz.prog.info? 51).map (·.size) = some 256 := by kernel_rfl
theorem fold_has (p : UInt8 → Bool) : Array.foldl (fun cs (x : Value × Nat) => cs.setIfInBounds (1 + x.snd) x.fst) (Tryz.zeroCells54.setIfInBounds 0 (.int .i64 1)) (boolsL p).toArray.zipIdx 0 256 = ndC 1 p 0 0 (.slice none 0 0) := by
  have e := p_set0 0 1 noB 0 0 (.slice none 0 0)
  rw [p_zeroC, show (Value.int .i64 1) = .int .i64 ((1 : Nat) : Int) from rfl, e]
  have hz : (boolsL p).toArray.zipIdx.size = 256 := by simp [boolsL_len]
  apply Array.ext'
  have h2 : ∀ (f : Array Value → Value × Nat → Array Value) (i : Array Value) (a : Array (Value × Nat)), a.size = 256 → Array.foldl f i a 0 256 = a.toList.foldl f i := fun f i a h => by
    rw [Array.foldl_toList, ← h]
  rw [h2 _ _ _ hz, Array.toList_zipIdx]
  have := p_fold_set (boolsL p) 0 1 (ndC 1 noB 0 0 (.slice none 0 0)) (by rw [ndC_size, boolsL_len]; omega)
  rw [this, boolsL_len]
  rfl
set_option maxHeartbeats 1000000 in
set_option maxRecDepth 100000 in
theorem ofSet_c (p : UInt8 → Bool) (w : World) : Calls Tryz.prog 28 #[.agg (boolsL p).toArray] w (MkO (setN p) w) := by
  have HF := Lib.hid (fold_has p)
  have hsz : (boolsL p).toArray.size = 256 := by simp [boolsL_len]
  generalize (boolsL p).toArray = cs at *
  go_enter Tryz.func28, Tryz.ntmps28
  go_wp2_with fail
  refine wp_load_arr 51 (.tmp 1) rfl w.heap.size cs rfl 51 ((al_old _ _ (by rw [al_size]; omega)).trans (al_new _ _)) Tryz.underlying51 rfl (by rw [hsz]; exact info256) ?_
  go_wp2_with fail
  rw [HF.out]
  refine bodyPost_ret (res_re rfl (b := w.heap.size + 1) (v := ptr (w.heap.size + 2)) (z := 1) rfl ?_) rfl ?_
  · refine (al_old _ _ (by rw [al_size, al_size]; omega)).trans ?_
    have := al_new (w.alloc (.cells cs 51)) (.cells #[.pointer (some ⟨w.heap.size + 1 + 1, 0, none⟩), .int .i64 1] 48)
    rw [al_size] at this
    exact this
  · refine ⟨ptr (w.heap.size + 2), by unfold reV; rw [show szI (setN p) = 1 from sz_leaf (by omega) _], nodeP_leaf ?_, (((Below.refl _ w).alloc (Nat.le_refl _) _).alloc (by simp) _).alloc (by simp; omega) _⟩
    have := al_new ((w.alloc (.cells cs 51)).alloc (.cells #[.pointer (some ⟨w.heap.size + 1 + 1, 0, none⟩), .int .i64 1] 48)) (.cells (ndC 1 p 0 0 (.slice none 0 0)) 54)
    rw [al_size, al_size] at this
    exact this
end Go.Proofs.YtlekfdkahlobiaaGreatDoor.Re

namespace Go.Proofs.YtlekfdkahlobiaaGreatDoor.Re
open Go.RowKit

def satI (n : Int) : Int := if n ≤ 9223372036854775807 then n else 9223372036854775807
theorem szI_sat (x : Nd) : szI x = satI (x.size : Int) := rfl
theorem sat_in {n : Int} (h : 0 ≤ n) : 0 ≤ satI n ∧ satI n ≤ 9223372036854775807 := by unfold satI; split <;> omega
theorem sat_sum {a b : Int} (ha : 0 ≤ a) (hb : 0 ≤ b) : satI (satI a + satI b) = satI (a + b) := by
  unfold satI
  repeat' split
  all_goals omega
theorem sat_sum1 {a b : Int} (ha : 0 ≤ a) (h1 : a ≤ 9223372036854775807) : satI (a + satI b) = satI (a + b) := by
  unfold satI
  repeat' split
  all_goals omega
theorem sat_mul {a b : Int} (ha : 0 ≤ a) (hb : 1 ≤ b) : satI (satI a * b) = satI (a * b) := by
  by_cases h : a ≤ 9223372036854775807
  · rw [show satI a = a from if_pos h]
  · rw [show satI a = 9223372036854775807 from if_neg h]
    have h1 : a ≤ a * b := by
      have := Int.mul_le_mul_of_nonneg_left hb ha
      rw [Int.mul_one] at this
      exact this
    have h2 : (9223372036854775807 : Int) ≤ 9223372036854775807 * b := by omega
    unfold satI
    repeat' split
    all_goals omega
theorem sum_c (a b : Int) (w : World) (ha : 0 ≤ a ∧ a ≤ 9223372036854775807) (hb : 0 ≤ b ∧ b ≤ 9223372036854775807) : Calls Tryz.prog 64 #[.int .i64 a, .int .i64 b] w fun e w' => e = .returned (.int .i64 (satI (a + b))) ∧ w' = w := by
  have w1 : IntKind.i64.wrap (9223372036854775807 - b) = 9223372036854775807 - b := IntWalk.i64_in _ (by omega)
  by_cases h : 9223372036854775807 - b < a
  · have HE : Hid (satI (a + b) = 9223372036854775807) := if_neg (by omega)
    go_enter Tryz.func64, Tryz.ntmps64
    go_wp2_with fail
    go_ret
    exact ⟨by rw [HE.out]; rfl, rfl⟩
  · have HE : Hid (satI (a + b) = a + b) := if_pos (by omega)
    have w2 : IntKind.i64.wrap (a + b) = a + b := IntWalk.i64_in _ (by omega)
    go_enter Tryz.func64, Tryz.ntmps64
    go_wp2_with fail
    go_ret
    exact ⟨by rw [HE.out]; rfl, rfl⟩
theorem div_gt {a b : Int} (hb : 1 ≤ b) : (9223372036854775807 : Int) / b < a ↔ ¬ a * b ≤ 9223372036854775807 := by
  rw [Int.ediv_lt_iff_lt_mul (by omega)]; omega
theorem product_c (a b : Int) (w : World) (ha : 0 ≤ a ∧ a ≤ 9223372036854775807) (hb : 1 ≤ b ∧ b ≤ 255) : Calls Tryz.prog 96 #[.int .i64 a, .int .i64 b] w fun e w' => e = .returned (.int .i64 (satI (a * b))) ∧ w' = w := by
  have hq : (9223372036854775807 : Int).tdiv b = 9223372036854775807 / b := Int.tdiv_eq_ediv_of_nonneg (by omega)
  have hq0 : (0 : Int) ≤ 9223372036854775807 / b := Int.ediv_nonneg (by omega) (by omega)
  have hq1 : (9223372036854775807 : Int) / b ≤ 9223372036854775807 := Int.ediv_le_self _ (by omega)
  have w1 : IntKind.i64.wrap ((9223372036854775807 : Int).tdiv b) = 9223372036854775807 / b := by rw [hq]; exact IntWalk.i64_in _ (by omega)
  have hz : ¬ b = 0 := by omega
  by_cases h : (9223372036854775807 : Int) / b < a
  · have HE : Hid (satI (a * b) = 9223372036854775807) := if_neg (div_gt hb.1 |>.1 h)
    clear hq hq0 hq1
    go_enter Tryz.func96, Tryz.ntmps96
    go_wp2_with fail
    go_ret
    exact ⟨by rw [HE.out]; rfl, rfl⟩
  · have h2 : a * b ≤ 9223372036854775807 := by
      by_cases h3 : a * b ≤ 9223372036854775807
      · exact h3
      · exact absurd ((div_gt hb.1).2 h3) h
    have h4 : 0 ≤ a * b := Int.mul_nonneg ha.1 (by omega)
    have HE : Hid (satI (a * b) = a * b) := if_pos h2
    have w2 : IntKind.i64.wrap (a * b) = a * b := IntWalk.i64_in _ (by omega)
    clear hq hq0 hq1 h2 h4
    go_enter Tryz.func96, Tryz.ntmps96
    go_wp2_with fail
    go_ret
    exact ⟨by rw [HE.out]; rfl, rfl⟩
end Go.Proofs.YtlekfdkahlobiaaGreatDoor.Re
