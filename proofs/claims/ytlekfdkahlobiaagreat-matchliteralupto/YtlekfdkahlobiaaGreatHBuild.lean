/- Regular expressions: nodes that may be, without marks of parentheses; texts that stand for themselves; numbers in braces. -/
import Derived.Test.YtlekfdkahlobiaaGreatGLoc
import Derived.WalkKit
import Derived.WalkSpells
import Derived.Lib.Hide
import Derived.Deep.AppendLies
import Derived.Deep.RegionLaw
import Derived.Deep.QuietTactic
import Derived.Deep.RegionWith
import Derived.Maps.AppendAt
import Derived.BigQuiet
import Derived.Test.YtlekfdkahlobiaaGreatProg
import Derived.Test.YtlekfdkahlobiaaGreatGMach
import Derived.Laws.Tables
import Derived.Deep.WholeRow
import Derived.Laws.Rows
import Derived.Laws.CopyOwn
import Derived.Laws.ResultCell
namespace Go.Proofs.YtlekfdkahlobiaaGreat.Re
open Go.Proofs.YtlekfdkahlobiaaGreat.Tr

/-- A node as the reading makes it. -/
def Nd.wf : Nd → Bool
  | ⟨k, _, m, n, l⟩ => decide (k ≤ 6) && decide (0 ≤ m ∧ m ≤ 255 ∧ -1 ≤ n ∧ n ≤ 255) && (decide (k ≠ 6) || decide (l.length = 1)) && (decide (4 ≤ k) || l.isEmpty) && wfs l
  where wfs : List Nd → Bool
  | [] => true
  | x :: l => x.wf && wfs l
theorem wfs_iff : ∀ {l : List Nd}, Nd.wf.wfs l = true ↔ ∀ x ∈ l, x.wf = true
  | [] => by simp [Nd.wf.wfs]
  | x :: l => by rw [Nd.wf.wfs, Bool.and_eq_true, wfs_iff (l := l)]; simp
theorem wf_join {k : Nat} (hk : k = 4 ∨ k = 5) : ∀ {l : List Nd}, (∀ x ∈ l, x.wf = true) → (joinN k l).wf = true
  | [], _ => rfl
  | [x], h => h x (by simp)
  | x :: y :: l, h => by
    show Nd.wf ⟨k, noB, 0, 0, x :: y :: l⟩ = true
    rw [Nd.wf, wfs_iff.2 h]
    rcases hk with rfl | rfl <;> rfl
theorem wf_rep {m n : Int} {x : Nd} (h : 0 ≤ m ∧ m ≤ 255 ∧ -1 ≤ n ∧ n ≤ 255) (hx : x.wf = true) : (repN m n x).wf = true := by
  show Nd.wf ⟨6, noB, m, n, [x]⟩ = true
  rw [Nd.wf, Nd.wf.wfs, Nd.wf.wfs, hx, decide_eq_true h]
  rfl
theorem rd_in {b most : Int} (hb : 0 < b) (hm : 0 ≤ most) : ∀ (s : List UInt8) (n : Int), 0 ≤ n → n ≤ most → 0 ≤ (rd b most s n).1 ∧ (rd b most s n).1 ≤ most
  | [], n, h0, h1 => ⟨h0, h1⟩
  | c :: cs, n, h0, h1 => by
    rw [rd]
    split
    · exact ⟨Int.le_refl _, hm⟩
    · rename_i hc
      have h2 : n ≤ (most - ((c.toNat : Int) - 48)) / b := by omega
      have h3 := (Int.le_ediv_iff_mul_le hb).1 h2
      have h4 : 0 ≤ n * b := Int.mul_nonneg h0 (by omega)
      exact rd_in hb hm cs _ (by omega) (by omega)
theorem rdAll_in (s : List UInt8) : 0 ≤ (rdAll 10 255 s).1 ∧ (rdAll 10 255 s).1 ≤ 255 := by
  unfold rdAll
  split
  · exact ⟨by decide, by decide⟩
  · exact rd_in (by decide) (by decide) s 0 (by decide) (by decide)
def TmIn (q : Int × Int × List UInt8) : Prop := 0 ≤ q.1 ∧ q.1 ≤ 255 ∧ -1 ≤ q.2.1 ∧ q.2.1 ≤ 255
theorem braceS_in {shut s : List UInt8} {q : Int × Int × List UInt8} (h : braceS shut s = some q) : TmIn q := by
  unfold braceS at h
  simp only at h
  have h1 := rdAll_in (s.takeWhile isDec)
  split at h
  · cases h
  split at h
  · unfold brace2 at h
    simp only at h
    split at h
    · cases h; exact ⟨h1.1, h1.2, by simp⟩
    split at h
    · cases h
      have h2 := rdAll_in (((s.drop (s.takeWhile isDec).length).drop 1).takeWhile isDec)
      exact ⟨h1.1, h1.2, by simp only; omega, h2.2⟩
    · cases h
  · split at h
    · cases h; exact ⟨h1.1, h1.2, by simp only; omega, h1.2⟩
    · cases h
theorem timesS_in {ext : Bool} {s : List UInt8} {q : Int × Int × List UInt8} (h : timesS ext s = some (some q)) : TmIn q := by
  unfold timesS at h
  split at h
  · cases h; exact ⟨by simp, by simp, by simp, by simp⟩
  split at h
  · split at h
    · cases h; exact ⟨by simp, by simp, by simp, by simp⟩
    split at h
    · cases h; exact ⟨by simp, by simp, by simp, by simp⟩
    split at h
    · exact braceS_in (Option.some.inj h)
    · cases h
  · split at h
    · exact braceS_in (Option.some.inj h)
    · cases h
theorem repS_wf {ext : Bool} {x : Nd} {s : List UInt8} {q : Nd × List UInt8} (hx : x.wf = true) (h : repS ext x s = some q) : q.1.wf = true := by
  unfold repS at h
  split at h
  · cases h; exact hx
  · cases h
  · rename_i u hu
    split at h
    · cases h
    · cases h; exact wf_rep (timesS_in hu) hx
theorem bracketS_wf {fold : Bool} {s : List UInt8} {q : Nd × List UInt8} (h : bracketS fold s = some q) : q.1.wf = true := by
  unfold bracketS at h
  cases hp : partsS (s.length + 1) true noB (behindNot s) with
  | none => rw [hp] at h; cases h
  | some u => rw [hp] at h; cases h; rfl
def WfG (G : Nat → List UInt8 → RL) : Prop := ∀ m s q, G m s = some q → ∀ x ∈ q.1, x.wf = true
section
variable {mk : Nd → Nd} {fold : Bool} {G : Nat → List UInt8 → RL}
theorem closeS_wf (hmk : ∀ x, x.wf = true → (mk x).wf = true) {k : Nat} (hk : k = 4 ∨ k = 5) {shut : List UInt8} {r : RL} {q : Nd × List UInt8} (hr : ∀ t, r = some t → ∀ x ∈ t.1, x.wf = true) (h : closeS mk k shut r = some q) : q.1.wf = true := by
  unfold closeS at h
  cases r with
  | none => cases h
  | some t =>
    rw [Option.bind_some] at h
    split at h
    · cases h; exact hmk _ (wf_join hk (hr t rfl))
    · cases h
theorem atomE_wf (hmk : ∀ x, x.wf = true → (mk x).wf = true) (hG : WfG G) {c : UInt8} {r : List UInt8} {q : Nd × List UInt8} (h : atomE mk fold G c r = some q) : q.1.wf = true := by
  unfold atomE at h
  split at h
  · exact closeS_wf hmk (.inr rfl) (fun t ht => hG _ _ _ ht) h
  split at h
  · exact bracketS_wf h
  split at h
  · cases h; rfl
  split at h
  · cases h; rfl
  split at h
  · cases h; rfl
  split at h
  · cases r with
    | nil => cases h
    | cons d t =>
      rw [quoteE] at h
      split at h
      · cases h
      · cases h; rfl
  split at h
  · cases h
  · cases h; rfl
theorem pieceE_wf (hmk : ∀ x, x.wf = true → (mk x).wf = true) (hG : WfG G) {c : UInt8} {r : List UInt8} {q : Nd × List UInt8} (h : pieceE mk fold G c r = some q) : q.1.wf = true := by
  unfold pieceE at h
  cases ha : atomE mk fold G c r with
  | none => rw [ha] at h; cases h
  | some u =>
    have h1 := atomE_wf hmk hG ha
    rw [ha, Option.bind_some] at h
    split at h
    · split at h
      · cases h
      · cases h; exact h1
    · exact repS_wf h1 h
theorem plainB_wf (hmk : ∀ x, x.wf = true → (mk x).wf = true) (hG : WfG G) {c : UInt8} {r : List UInt8} {q : Nd × List UInt8} (h : plainB mk fold G c r = some q) : q.1.wf = true := by
  unfold plainB at h
  split at h
  · exact bracketS_wf h
  split at h
  · cases h; rfl
  split at h
  · cases r with
    | nil => cases h
    | cons d t =>
      rw [quoteB] at h
      split at h
      · exact closeS_wf hmk (.inl rfl) (fun t ht => hG _ _ _ ht) h
      split at h
      · cases h
      · cases h; rfl
  · cases h; rfl
theorem consR_wf {x : Nd} {r : RL} {q : List Nd × List UInt8} (hx : x.wf = true) (hr : ∀ t, r = some t → ∀ y ∈ t.1, y.wf = true) (h : consR x r = some q) : ∀ y ∈ q.1, y.wf = true := by
  unfold consR at h
  cases r with
  | none => cases h
  | some t =>
    cases h
    intro y hy
    rcases List.mem_cons.1 hy with rfl | hy
    · exact hx
    · exact hr t rfl y hy
theorem step_wf (hmk : ∀ x, x.wf = true → (mk x).wf = true) (hG : WfG G) : WfG (step mk fold G) := by
  intro m s q h
  unfold step at h
  split at h
  · cases h1 : G 1 s with
    | none => rw [h1] at h; cases h
    | some u =>
      have hu := wf_join (.inl rfl) (hG _ _ _ h1)
      rw [h1, Option.bind_some] at h
      unfold stepA at h
      split at h
      · cases h
      split at h
      · exact consR_wf hu (fun t ht => hG _ _ _ ht) h
      · cases h; intro x hx; rw [List.mem_singleton.1 hx]; exact hu
  split at h
  · cases s with
    | nil => cases h; intro x hx; cases hx
    | cons c r =>
      rw [stepE] at h
      split at h
      · cases h; intro x hx; cases hx
      · cases hp : pieceE mk fold G c r with
        | none => rw [hp] at h; cases h
        | some u => rw [hp, Option.bind_some] at h; exact consR_wf (pieceE_wf hmk hG hp) (fun t ht => hG _ _ _ ht) h
  · cases s with
    | nil => cases h; intro x hx; cases hx
    | cons c r =>
      rw [stepB] at h
      split at h
      · cases h; intro x hx; cases hx
      split at h
      · exact consR_wf rfl (fun t ht => hG _ _ _ ht) h
      split at h
      · exact consR_wf rfl (fun t ht => hG _ _ _ ht) h
      split at h
      · cases h
      · cases hp : plainB mk fold G c r with
        | none => rw [hp] at h; cases h
        | some u =>
          rw [hp, Option.bind_some] at h
          cases hr : repS false u.1 u.2 with
          | none => rw [hr] at h; cases h
          | some t => rw [hr, Option.bind_some] at h; exact consR_wf (repS_wf (plainB_wf hmk hG hp) hr) (fun t ht => hG _ _ _ ht) h
theorem goN_wf (hmk : ∀ x, x.wf = true → (mk x).wf = true) : ∀ n, WfG (goN mk fold n)
  | 0 => fun _ _ _ h => by cases h
  | n + 1 => step_wf hmk (goN_wf hmk n)
theorem goS_wf (hmk : ∀ x, x.wf = true → (mk x).wf = true) : WfG (goS mk fold) := fun m s q h => goN_wf hmk _ m s q h
end
theorem read_wf {ext fold : Bool} {s : List UInt8} {x : Nd} (h : readS id ext fold s = some x) : x.wf = true := by
  unfold readS at h
  cases hu : goS id fold (if ext = true then 0 else 2) s with
  | none => rw [hu] at h; cases h
  | some u =>
    rw [hu, Option.bind_some] at h
    split at h
    · cases h; exact wf_join (by cases ext <;> simp) (goS_wf (fun x hx => hx) _ _ _ hu)
    · cases h
theorem parse_wf {ext fold : Bool} {s : List UInt8} {x : Nd} (h : parseS ext fold s = .ok x) : x.wf = true ∧ x.size ≤ 10000 ∧ readS id ext fold s = some x := by
  unfold parseS at h
  split at h
  · cases h
  · rename_i y hy
    split at h
    · cases h
    · rename_i hz
      cases h
      exact ⟨read_wf hy, by omega, hy⟩
section
variable {fold : Bool} {G G' : Nat → List UInt8 → RL}
end
end Go.Proofs.YtlekfdkahlobiaaGreat.Re

namespace Go.Proofs.YtlekfdkahlobiaaGreat.Re
open Go.Proofs.YtlekfdkahlobiaaGreat.Tr

def quoX (c : UInt8) : List UInt8 := if alnumB c = true then [c] else [92, c]
def sp1 : List UInt8 := [40, 41, 42, 43, 46, 63, 91, 92, 94, 36, 123, 124]
theorem alnum_sp : ∀ c ∈ sp1, alnumB c = false := by decide
theorem alnum_ne {c d : UInt8} (h : alnumB c = true) (hd : d ∈ sp1) : c ≠ d := by
  rintro rfl
  rw [alnum_sp _ hd] at h
  cases h
theorem headX (s : List UInt8) : (s.flatMap quoX)[0]? = none ∨ (s.flatMap quoX)[0]? = some 92 ∨ ∃ c, (s.flatMap quoX)[0]? = some c ∧ alnumB c = true := by
  cases s with
  | nil => exact .inl rfl
  | cons c r =>
    rw [List.flatMap_cons, quoX]
    split
    · rename_i h; exact .inr (.inr ⟨c, rfl, h⟩)
    · exact .inr (.inl rfl)
theorem timesX (s : List UInt8) : timesS true (s.flatMap quoX) = none := by
  unfold timesS
  rcases headX s with h | h | ⟨c, h, hc⟩
  · rw [h]; rfl
  · rw [h]; rfl
  · rw [h, if_neg (fun e => alnum_ne hc (by decide : (42 : UInt8) ∈ sp1) (Option.some.inj e)), if_pos rfl, if_neg (fun e => alnum_ne hc (by decide : (43 : UInt8) ∈ sp1) (Option.some.inj e)), if_neg (fun e => alnum_ne hc (by decide : (63 : UInt8) ∈ sp1) (Option.some.inj e)), if_neg (fun e => alnum_ne hc (by decide : (123 : UInt8) ∈ sp1) (Option.some.inj e))]
section
variable {fold : Bool} {G : Nat → List UInt8 → RL}
end
theorem size_two {k : Nat} (hk : k ≠ 6) (x y : Nd) : (ndK k [x, y]).size = 1 + (x.size + y.size) := by
  show Nd.size ⟨k, noB, 0, 0, [x, y]⟩ = _
  rw [Nd.size, if_neg hk]
  rfl
theorem size_pos (x : Nd) : 1 ≤ x.size := by
  cases x
  rw [Nd.size]
  split <;> omega
end Go.Proofs.YtlekfdkahlobiaaGreat.Re

namespace Go.Proofs.YtlekfdkahlobiaaGreat.Re
open Go.RowKit

theorem h_cell {w : World} {b T : Nat} {cs : Array Value} {fz : Nat × Nat} (h : w.heap[b]? = some (.cells cs T fz)) (i : Nat) {v : Value} (hi : cs[i]? = some v) : w.cell? ⟨b, i, none⟩ = some v := by simp [World.cell?, h, hi]
theorem h_fz {w : World} {b T : Nat} {cs : Array Value} (h : w.heap[b]? = some (.cells cs T)) (i : Nat) : w.frozen? ⟨b, i, none⟩ = false := by simp [World.frozen?, h]
theorem h_lt {w : World} {b : Nat} {o : Obj} (h : w.heap[b]? = some o) : b < w.heap.size := (Array.getElem?_eq_some_iff.1 h).1
theorem h_set {w : World} {b T : Nat} {cs : Array Value} (h : w.heap[b]? = some (.cells cs T)) (i : Nat) (v : Value) : (w.setCell ⟨b, i, none⟩ v).heap[b]? = some (.cells (cs.setIfInBounds i v) T) := by
  simp [World.setCell, Array.getElem?_modify, h]
theorem al_new (w : World) (o : Obj) : (w.alloc o).heap[w.heap.size]? = some o := by show (w.heap.push _)[w.heap.size]? = _; simp
theorem below_drewN {n : Nat} {w : World} {q : Nat} : Below n w (w.drewN q) := ⟨rfl, rfl, rfl, Nat.le_refl _, fun _ _ => rfl⟩
theorem below_drew {n : Nat} {a b : World} (h : Below n a b) : Below n a b.drew := h.trans ⟨rfl, rfl, rfl, Nat.le_refl _, fun _ _ => rfl⟩
abbrev ptr (b : Nat) : Value := .pointer (some ⟨b, 0, none⟩)
/-- A value that points somewhere. -/
def isPtr (w : World) (v : Value) : Prop := ∃ b, v = ptr b ∧ b < w.heap.size
def bs (l : List UInt8) : ByteArray := ⟨l.toArray⟩
theorem bs_size (l : List UInt8) : (bs l).size = l.length := rfl
end Go.Proofs.YtlekfdkahlobiaaGreat.Re

namespace Go.Proofs.YtlekfdkahlobiaaGreat.Re
open Go.RowKit

def boolsL (p : UInt8 → Bool) : List Value := (List.range 256).map fun i => .bool (p (UInt8.ofNat i))
theorem boolsL_len (p : UInt8 → Bool) : (boolsL p).length = 256 := by simp [boolsL]
/-- The cells of a node. -/
def ndC (k : Nat) (p : UInt8 → Bool) (m n : Int) (kv : Value) : Array Value := (.int .i64 (k : Int) :: (boolsL p ++ [.int .i64 m, .int .i64 n, kv])).toArray
section
variable (k : Nat) (p : UInt8 → Bool) (m n : Int) (kv : Value)
theorem ndC_size : (ndC k p m n kv).size = 260 := by simp [ndC, boolsL_len]
theorem ndC_0 : (ndC k p m n kv)[0]? = some (.int .i64 (k : Int)) := rfl
theorem ndC_has (i : Nat) (h : i < 256) : (ndC k p m n kv)[1 + i]? = some (.bool (p (UInt8.ofNat i))) := by
  simp only [ndC, List.getElem?_toArray, Nat.add_comm 1 i, List.getElem?_cons_succ]
  rw [List.getElem?_append_left (by rw [boolsL_len]; exact h)]
  simp [boolsL, h]
theorem ndC_m : (ndC k p m n kv)[257]? = some (.int .i64 m) := by
  simp only [ndC, List.getElem?_toArray, List.getElem?_cons_succ]
  rw [List.getElem?_append_right (by rw [boolsL_len]; omega), boolsL_len]; rfl
theorem ndC_n : (ndC k p m n kv)[258]? = some (.int .i64 n) := by
  simp only [ndC, List.getElem?_toArray, List.getElem?_cons_succ]
  rw [List.getElem?_append_right (by rw [boolsL_len]; omega), boolsL_len]; rfl
theorem ndC_kv : (ndC k p m n kv)[259]? = some kv := by
  simp only [ndC, List.getElem?_toArray, List.getElem?_cons_succ]
  rw [List.getElem?_append_right (by rw [boolsL_len]; omega), boolsL_len]; rfl
end
/-- A block that is a node of a type T. -/
abbrev BlkAt (T : Nat) (w : World) (b k : Nat) (p : UInt8 → Bool) (m n : Int) (kv : Value) : Prop := w.heap[b]? = some (.cells (ndC k p m n kv) T)
/-- A node, with all that it is made of. -/
def NodeAt (T : Nat) (w : World) : Value → Nd → Prop
  | v, ⟨k, p, m, n, l⟩ => ∃ b kv, v = ptr b ∧ BlkAt T w b k p m n kv ∧
      ((kv = .slice none 0 0 ∧ l = []) ∨ ∃ kb off cap, kv = .slice (some ⟨kb, off, none⟩) l.length cap ∧ (l.length ≤ cap ∧ cap ≤ 9223372036854775807) ∧ kidsAt kb off 0 l)
  where kidsAt (kb off : Nat) : Nat → List Nd → Prop
  | _, [] => True
  | j, x :: l => (∃ v, w.cell? ⟨kb, off + j, none⟩ = some v ∧ NodeAt T w v x) ∧ kidsAt kb off (j + 1) l
theorem cell_below {w w' : World} (hb : Below w.heap.size w w') {a : Addr} {v : Value} (h : w.cell? a = some v) : w'.cell? a = some v := (hb.cell (World.block_lt_of_cell? w a h)).trans h
theorem NodeAt.below {T : Nat} {w w' : World} (hb : Below w.heap.size w w') : ∀ {v : Value} {x : Nd}, NodeAt T w v x → NodeAt T w' v x
  | v, ⟨k, p, m, n, l⟩, h => by
    rw [NodeAt] at h ⊢
    obtain ⟨b, kv, hv, hB, hk⟩ := h
    refine ⟨b, kv, hv, (hb.block b (h_lt hB)).trans hB, ?_⟩
    rcases hk with hk | ⟨kb, off, cap, h1, h2, h3⟩
    · exact .inl hk
    · exact .inr ⟨kb, off, cap, h1, h2, kids l 0 kb off h3⟩
  where kids : ∀ (l : List Nd) (j kb off : Nat), NodeAt.kidsAt T w kb off j l → NodeAt.kidsAt T w' kb off j l
  | [], _, _, _, _ => by rw [NodeAt.kidsAt]; trivial
  | x :: l, j, kb, off, h => by
    rw [NodeAt.kidsAt] at h ⊢
    obtain ⟨⟨v, h1, h2⟩, h3⟩ := h
    exact ⟨⟨v, cell_below hb h1, NodeAt.below hb h2⟩, kids l (j + 1) kb off h3⟩
theorem NodeAt.ptr {T : Nat} {w : World} {v : Value} {x : Nd} (h : NodeAt T w v x) : isPtr w v := by
  cases x
  rw [NodeAt] at h
  obtain ⟨b, kv, hv, hB, _⟩ := h
  exact ⟨b, hv, h_lt hB⟩

-- ranges, step by step
end Go.Proofs.YtlekfdkahlobiaaGreat.Re

namespace Go.Proofs.YtlekfdkahlobiaaGreat.Re
open Go.Proofs.YtlekfdkahlobiaaGreat.Tr
open Go.RowKit

/-- Of what was there nothing has turned but one block. -/
structure Bar (b : Nat) (w w' : World) : Prop where
  os : w'.os = w.os
  tape : w'.tape = w.tape
  output : w'.output = w.output
  size : w.heap.size ≤ w'.heap.size
  block : ∀ j, j < w.heap.size → j ≠ b → w'.heap[j]? = w.heap[j]?
theorem Bar.refl (b : Nat) (w : World) : Bar b w w := ⟨rfl, rfl, rfl, Nat.le_refl _, fun _ _ _ => rfl⟩
theorem Bar.trans {b : Nat} {u v w : World} (h : Bar b u v) (k : Bar b v w) : Bar b u w := ⟨k.os.trans h.os, k.tape.trans h.tape, k.output.trans h.output, Nat.le_trans h.size k.size, fun j hj hb => (k.block j (Nat.lt_of_lt_of_le hj h.size) hb).trans (h.block j hj hb)⟩
theorem Bar.of {b : Nat} {w w' : World} (h : Below w.heap.size w w') : Bar b w w' := ⟨h.os, h.tape, h.output, h.size, fun j hj _ => h.block j hj⟩
theorem Bar.set (b i : Nat) (w : World) (v : Value) : Bar b w (w.setCell ⟨b, i, none⟩ v) := ⟨rfl, rfl, rfl, by simp [World.setCell], fun j _ hb => Below.heap_setCell _ _ _ _ (fun e => hb (by simpa using e))⟩
theorem Bar.drewN {b : Nat} {u w : World} {q : Nat} (h : Bar b u w) : Bar b u (w.drewN q) := ⟨h.os, h.tape, h.output, h.size, h.block⟩
theorem Bar.drew {b : Nat} {u w : World} (h : Bar b u w) : Bar b u w.drew := ⟨h.os, h.tape, h.output, h.size, h.block⟩
theorem Bar.below {b : Nat} {u w : World} (h : Bar b u w) (hb : b ≤ u.heap.size) : Below b u w := ⟨h.os, h.tape, h.output, h.size, fun j hj => h.block j (by omega) (by omega)⟩
/-- A node, with all that it is made of; its row of kids is a row of pointers to nodes. -/
def NodeP (w : World) : Value → Nd → Prop
  | v, ⟨k, p, m, n, l⟩ => ∃ b kv, v = ptr b ∧ BlkAt 64 w b k p m n kv ∧
      ((kv = .slice none 0 0 ∧ l = []) ∨ ∃ kb off cap cs, kv = .slice (some ⟨kb, off, none⟩) l.length cap ∧ (l.length ≤ cap ∧ cap ≤ 9223372036854775807) ∧ w.heap[kb]? = some (.cells cs 36) ∧ kidsP cs off 0 l)
  where kidsP (cs : Array Value) (off : Nat) : Nat → List Nd → Prop
  | _, [] => True
  | j, x :: l => (∃ v, cs[off + j]? = some v ∧ NodeP w v x) ∧ kidsP cs off (j + 1) l
/-- Nodes, and rows of pointers to nodes, are as they were. -/
structure NKeep (w w' : World) : Prop where
  size : w.heap.size ≤ w'.heap.size
  blk : ∀ (b : Nat) (cs : Array Value) (T : Nat), T = 64 ∨ T = 36 ∨ T = 40 → w.heap[b]? = some (.cells cs T) → w'.heap[b]? = some (.cells cs T)
theorem NKeep.refl (w : World) : NKeep w w := ⟨Nat.le_refl _, fun _ _ _ _ h => h⟩
theorem NKeep.trans {u v w : World} (h : NKeep u v) (k : NKeep v w) : NKeep u w := ⟨Nat.le_trans h.size k.size, fun b cs T hT hb => k.blk b cs T hT (h.blk b cs T hT hb)⟩
theorem NKeep.of {w w' : World} (h : Below w.heap.size w w') : NKeep w w' := ⟨h.size, fun b _ _ _ hb => (h.block b (h_lt hb)).trans hb⟩
theorem NKeep.bar {w w' : World} {b : Nat} {cs : Array Value} {T : Nat} {fz : Nat × Nat} (h : Bar b w w') (hb : w.heap[b]? = some (.cells cs T fz)) (hT : T ≠ 64 ∧ T ≠ 36 ∧ T ≠ 40) : NKeep w w' := ⟨h.size, fun c _ T' hT' hc => (h.block c (h_lt hc) (fun e => by
  rw [e, hb] at hc
  injection hc with hc
  injection hc with _ h2 _
  rcases hT' with h' | h' | h'
  · exact hT.1 (h2.trans h')
  · exact hT.2.1 (h2.trans h')
  · exact hT.2.2 (h2.trans h'))).trans hc⟩
theorem NodeP.keep {w w' : World} (hb : NKeep w w') : ∀ {v : Value} {x : Nd}, NodeP w v x → NodeP w' v x
  | v, ⟨k, p, m, n, l⟩, h => by
    rw [NodeP] at h ⊢
    obtain ⟨b, kv, hv, hB, hk⟩ := h
    refine ⟨b, kv, hv, hb.blk b _ _ (.inl rfl) hB, ?_⟩
    rcases hk with hk | ⟨kb, off, cap, cs, h1, h2, h3, h4⟩
    · exact .inl hk
    · exact .inr ⟨kb, off, cap, cs, h1, h2, hb.blk kb _ _ (.inr (.inl rfl)) h3, kids l 0 cs off h4⟩
  where kids : ∀ (l : List Nd) (j : Nat) (cs : Array Value) (off : Nat), NodeP.kidsP w cs off j l → NodeP.kidsP w' cs off j l
  | [], _, _, _, _ => by rw [NodeP.kidsP]; trivial
  | x :: l, j, cs, off, h => by
    rw [NodeP.kidsP] at h ⊢
    obtain ⟨⟨v, h1, h2⟩, h3⟩ := h
    exact ⟨⟨v, h1, NodeP.keep hb h2⟩, kids l (j + 1) cs off h3⟩
theorem NodeP.node {w : World} : ∀ {v : Value} {x : Nd}, NodeP w v x → NodeAt 64 w v x
  | v, ⟨k, p, m, n, l⟩, h => by
    rw [NodeP] at h
    rw [NodeAt]
    obtain ⟨b, kv, hv, hB, hk⟩ := h
    refine ⟨b, kv, hv, hB, ?_⟩
    rcases hk with hk | ⟨kb, off, cap, cs, h1, h2, h3, h4⟩
    · exact .inl hk
    · exact .inr ⟨kb, off, cap, h1, h2, kids l 0 kb cs off h3 h4⟩
  where kids : ∀ (l : List Nd) (j kb : Nat) (cs : Array Value) (off : Nat), w.heap[kb]? = some (.cells cs 36) → NodeP.kidsP w cs off j l → NodeAt.kidsAt 64 w kb off j l
  | [], _, _, _, _, _, _ => by rw [NodeAt.kidsAt]; trivial
  | x :: l, j, kb, cs, off, hb, h => by
    rw [NodeP.kidsP] at h
    rw [NodeAt.kidsAt]
    obtain ⟨⟨v, h1, h2⟩, h3⟩ := h
    exact ⟨⟨v, h_cell hb _ h1, NodeP.node h2⟩, kids l (j + 1) kb cs off hb h3⟩
theorem kidsP_of {w : World} : ∀ {l : List Nd} {j : Nat} {cs : Array Value} {off : Nat}, (∀ (i : Nat) (x : Nd), l[i]? = some x → ∃ v, cs[off + (j + i)]? = some v ∧ NodeP w v x) → NodeP.kidsP w cs off j l
  | [], _, _, _, _ => by rw [NodeP.kidsP]; trivial
  | y :: l, j, cs, off, h => by
    rw [NodeP.kidsP]
    refine ⟨h 0 y rfl, kidsP_of fun i x hx => ?_⟩
    have := h (i + 1) x (by simpa using hx)
    rw [show j + 1 + i = j + (i + 1) by omega]
    exact this
theorem NodeP.ptr {w : World} {v : Value} {x : Nd} (h : NodeP w v x) : isPtr w v := h.node.ptr

/-- The reader. -/
abbrev Rd (w : World) (rb : Nat) (l : List UInt8) (ext fold : Bool) (last depth : Int) (cl : Bool) (pv ov : Value) (made : Int) : Prop :=
  w.heap[rb]? = some (.cells #[.string (bs l), .bool ext, .bool fold, .int .i64 last, .int .i64 depth, .bool cl, pv, ov, .int .i64 made] 90)
section
variable {w w' : World} {rb : Nat} {l : List UInt8} {ext fold cl : Bool} {last depth made : Int} {pv ov : Value}
theorem Rd.left (h : Rd w rb l ext fold last depth cl pv ov made) (t : List UInt8) : Rd (w.setCell ⟨rb, 0, none⟩ (.string (bs t))) rb t ext fold last depth cl pv ov made := by simpa using h_set h 0 (.string (bs t))
theorem Rd.keep (h : Rd w rb l ext fold last depth cl pv ov made) (hB : Below w.heap.size w w') : Rd w' rb l ext fold last depth cl pv ov made := (hB.block rb (h_lt h)).trans h
theorem Rd.nkeep (h : Rd w rb l ext fold last depth cl pv ov made) (hB : Bar rb w w') : NKeep w w' := NKeep.bar hB h (by decide)
end
/-- What a reader gives up by. -/
def gaveUp : List PanicEntry := [{ v := .iface 103 (.agg #[]), recovered := false }]
theorem panic_not (w : World) : (Instr.panic (.iface 103 (.agg #[]))).run Tryz.prog w = .halt (.panic (.iface 103 (.agg #[]))) w := by kernel_rfl
theorem giveUp_c (w : World) : Calls Tryz.prog 38 #[] w fun e w' => e = .panicked gaveUp ∧ w' = w := by
  have q1 := panic_not w
  go_enter Tryz.func38, Tryz.ntmps38
  go_wp2_with fail
  exact ⟨rfl, rfl, rfl⟩
theorem bs_cons (c : UInt8) (r : List UInt8) : (bs (c :: r)).size = r.length + 1 := by simp [bs_size]
theorem bs_drop (l : List UInt8) (k : Nat) : (bs l).extract k (bs l).size = bs (l.drop k) := by
  apply ByteArray.ext
  apply Array.ext'
  rw [ByteArray.data_extract, Array.toList_extract]
  show (l.drop k).take _ = l.drop k
  rw [List.take_of_length_le]
  simp [bs_size]
end Go.Proofs.YtlekfdkahlobiaaGreat.Re

namespace Go.Proofs.YtlekfdkahlobiaaGreat.Re
open Go.RowKit

theorem p_set_one (cs : Array Value) (i : Nat) (v : Value) (h : i < cs.size) : (cs.setIfInBounds i v).toList = cs.toList.take i ++ [v] ++ cs.toList.drop (i + 1) := by
  rw [Array.toList_setIfInBounds, List.set_eq_take_append_cons_drop, if_pos (by simpa using h)]
  simp
theorem p_fold_set : ∀ (l : List Value) (s off : Nat) (cs : Array Value), off + s + l.length ≤ cs.size → ((l.zipIdx s).foldl (fun cs (q : Value × Nat) => cs.setIfInBounds (off + q.2) q.1) cs).toList = cs.toList.take (off + s) ++ l ++ cs.toList.drop (off + s + l.length)
  | [], s, off, cs, _ => by simp
  | v :: l, s, off, cs, h => by
    have hs : (cs.setIfInBounds (off + s) v).size = cs.size := by simp
    simp only [List.length_cons] at h
    rw [List.zipIdx_cons, List.foldl_cons, p_fold_set l (s + 1) off _ (by rw [hs]; omega), p_set_one cs (off + s) v (by omega)]
    have hl : (cs.toList.take (off + s)).length = off + s := by simp; omega
    have e1 : (cs.toList.take (off + s) ++ [v] ++ cs.toList.drop (off + s + 1)).take (off + (s + 1)) = cs.toList.take (off + s) ++ [v] := by
      rw [List.take_append_of_le_length (by simp; omega), List.take_of_length_le (by simp; omega)]
    have e2 : (cs.toList.take (off + s) ++ [v] ++ cs.toList.drop (off + s + 1)).drop (off + (s + 1) + l.length) = cs.toList.drop (off + s + (l.length + 1)) := by
      rw [List.drop_append, List.drop_eq_nil_of_le (by simp; omega), List.nil_append, List.drop_drop]
      congr 1
      simp
      omega
    rw [e1, e2]
    simp
theorem p_ndC_list (k : Nat) (p : UInt8 → Bool) (m n : Int) (kv : Value) : (ndC k p m n kv).toList = .int .i64 (k : Int) :: (boolsL p ++ [.int .i64 m, .int .i64 n, kv]) := rfl
set_option maxRecDepth 100000 in
theorem p_ndC_setkv (k : Nat) (p : UInt8 → Bool) (m n : Int) (kv v : Value) : (ndC k p m n kv).setIfInBounds 259 v = ndC k p m n v := by
  apply Array.ext'
  rw [p_set_one _ _ _ (by rw [ndC_size]; omega), p_ndC_list, p_ndC_list]
  rfl
/-- How great, as far as a number goes. -/
def szI (x : Nd) : Int := if (x.size : Int) ≤ 9223372036854775807 then (x.size : Int) else 9223372036854775807
theorem szI_in (x : Nd) : 0 ≤ szI x ∧ szI x ≤ 9223372036854775807 := by unfold szI; split <;> omega
abbrev reV (v : Value) (x : Nd) : Value := .agg #[v, .int .i64 (szI x)]
/-- An expression as it lies in its box. -/
abbrev ReB (w : World) (b : Nat) (v : Value) (z : Int) : Prop := w.heap[b]? = some (.cells #[v, .int .i64 z] 38)
theorem infoRe : (Tryz.prog.info? 38).map (·.size) = some 2 := by kernel_rfl
theorem res_re {fn : Func} {p : Tmp} (h : fn.results = #[.cell p 38]) {tmps : Array Value} {w : World} {b : Nat} {v : Value} {z : Int} (hp : tmps.getD p undef = .pointer (some ⟨b, 0, none⟩)) (hg : ReB w b v z) : (results fn tmps).run Tryz.prog w = .ok (.agg #[v, .int .i64 z]) w :=
  results_cell_row h _ _ b 38 #[v, .int .i64 z] (0, 0) _ hp hg Tryz.underlying38 rfl infoRe
/-- What makes an expression answers. -/
def MkO (x : Nd) (w : World) (e : Ending) (w' : World) : Prop := ∃ v, e = .returned (reV v x) ∧ NodeP w' v x ∧ Below w.heap.size w w'
theorem p_zeroC : Tryz.zeroCells64 = ndC 0 noB 0 0 (.slice none 0 0) := by kernel_rfl
theorem p_set0 (k k' : Nat) (p : UInt8 → Bool) (m n : Int) (kv : Value) : (ndC k p m n kv).setIfInBounds 0 (.int .i64 (k' : Int)) = ndC k' p m n kv := by
  apply Array.ext'
  rw [p_set_one _ _ _ (by rw [ndC_size]; omega), p_ndC_list, p_ndC_list]
  rfl
theorem sz_leaf {k : Nat} (hk : k < 6) (p : UInt8 → Bool) : szI ⟨k, p, 0, 0, []⟩ = 1 := by
  have h : Nd.size ⟨k, p, 0, 0, []⟩ = 1 := by
    rw [Nd.size, if_neg (by omega)]; rfl
  unfold szI
  rw [h]
  rfl
theorem al_old (w : World) (o : Obj) {b : Nat} (h : b < w.heap.size) : (w.alloc o).heap[b]? = w.heap[b]? := by show (w.heap.push _)[b]? = _; rw [Array.getElem?_push_lt h, Array.getElem?_eq_getElem h]
theorem al_size (w : World) (o : Obj) : (w.alloc o).heap.size = w.heap.size + 1 := by show (w.heap.push _).size = _; simp
theorem nodeP_leaf {w : World} {b k : Nat} {p : UInt8 → Bool} (h : BlkAt 64 w b k p 0 0 (.slice none 0 0)) : NodeP w (ptr b) ⟨k, p, 0, 0, []⟩ := by
  rw [NodeP]
  exact ⟨b, _, rfl, h, .inl ⟨rfl, rfl⟩⟩
set_option maxHeartbeats 1000000 in
theorem leaf_c (k : Nat) (hk : k < 6) (w : World) : Calls Tryz.prog 22 #[.int .i64 (k : Int)] w (MkO (ndK k []) w) := by
  go_enter Tryz.func22, Tryz.ntmps22
  go_wp2_with fail
  rw [p_zeroC, p_set0]
  refine bodyPost_ret (res_re rfl (b := w.heap.size) (v := ptr (w.heap.size + 1)) (z := 1) rfl ?_) rfl ?_
  · exact (al_old _ _ (by rw [al_size]; omega)).trans (al_new _ _)
  · refine ⟨ptr (w.heap.size + 1), by unfold reV; rw [show szI (ndK k []) = 1 from sz_leaf hk _], nodeP_leaf ?_, ((Below.refl _ w).alloc (Nat.le_refl _) _).alloc (by simp) _⟩
    have := al_new (w.alloc (.cells #[.pointer (some ⟨w.heap.size + 1, 0, none⟩), .int .i64 1] 38)) (.cells (ndC k noB 0 0 (.slice none 0 0)) 64)
    rw [al_size] at this
    exact this
theorem wp_load_arr {P : Program} {o : Oper} {a : Act} {w : World} {K : Act → World → Prop} {Q : Exit → Act → World → Prop} (ty : TypeId) (x : Operand) (ho : o.op = .load ty x) (g : Nat) (cs : Array Value) (hx : a.eval x = .pointer (some ⟨g, 0, none⟩)) (t : TypeId) {fr : Nat × Nat} {d : TypeDesc}
    (hg : w.heap[g]? = some (.cells cs t fr)) (hu : P.underlying ty = some d) (ha : (match d with | .struct _ | .array _ _ => true | _ => false) = true) (hi : (P.info? ty).map (·.size) = some cs.size) (h : K (a.put o.dst (.agg cs)) w) : o.wp P a w K Q := by
  unfold Oper.wp execOp
  simp only [ho, hx, Instr.loadAt, Instr.sureAddr, Sem.run_bind, Sem.run_pure, Result.andThen_ok, run_loadVar_row w g t ty cs fr d hg hu ha hi]
  exact h
theorem info256 : (Tryz.prog.info? 40).map (·.size) = some 256 := by kernel_rfl
theorem fold_has (p : UInt8 → Bool) : Array.foldl (fun cs (x : Value × Nat) => cs.setIfInBounds (1 + x.snd) x.fst) (Tryz.zeroCells64.setIfInBounds 0 (.int .i64 1)) (boolsL p).toArray.zipIdx 0 256 = ndC 1 p 0 0 (.slice none 0 0) := by
  have e := p_set0 0 1 noB 0 0 (.slice none 0 0)
  rw [p_zeroC, show (Value.int .i64 1) = .int .i64 ((1 : Nat) : Int) from rfl, e]
  have hz : (boolsL p).toArray.zipIdx.size = 256 := by simp [boolsL_len]
  apply Array.ext'
  have h2 : ∀ (f : Array Value → Value × Nat → Array Value) (i : Array Value) (a : Array (Value × Nat)), a.size = 256 → Array.foldl f i a 0 256 = a.toList.foldl f i := fun f i a h => by
    rw [Array.foldl_toList, ← h]
  rw [h2 _ _ _ hz, Array.toList_zipIdx]
  have := p_fold_set (boolsL p) 0 1 (ndC 1 noB 0 0 (.slice none 0 0)) (by rw [ndC_size, boolsL_len]; omega)
  rw [this, boolsL_len]
  rfl
set_option maxHeartbeats 1000000 in
set_option maxRecDepth 100000 in
theorem ofSet_c (p : UInt8 → Bool) (w : World) : Calls Tryz.prog 12 #[.agg (boolsL p).toArray] w (MkO (setN p) w) := by
  have HF := Lib.hid (fold_has p)
  have hsz : (boolsL p).toArray.size = 256 := by simp [boolsL_len]
  generalize (boolsL p).toArray = cs at *
  go_enter Tryz.func12, Tryz.ntmps12
  go_wp2_with fail
  refine wp_load_arr 40 (.tmp 1) rfl w.heap.size cs rfl 40 ((al_old _ _ (by rw [al_size]; omega)).trans (al_new _ _)) Tryz.underlying40 rfl (by rw [hsz]; exact info256) ?_
  go_wp2_with fail
  rw [HF.out]
  refine bodyPost_ret (res_re rfl (b := w.heap.size + 1) (v := ptr (w.heap.size + 2)) (z := 1) rfl ?_) rfl ?_
  · refine (al_old _ _ (by rw [al_size, al_size]; omega)).trans ?_
    have := al_new (w.alloc (.cells cs 40)) (.cells #[.pointer (some ⟨w.heap.size + 1 + 1, 0, none⟩), .int .i64 1] 38)
    rw [al_size] at this
    exact this
  · refine ⟨ptr (w.heap.size + 2), by unfold reV; rw [show szI (setN p) = 1 from sz_leaf (by omega) _], nodeP_leaf ?_, (((Below.refl _ w).alloc (Nat.le_refl _) _).alloc (by simp) _).alloc (by simp; omega) _⟩
    have := al_new ((w.alloc (.cells cs 40)).alloc (.cells #[.pointer (some ⟨w.heap.size + 1 + 1, 0, none⟩), .int .i64 1] 38)) (.cells (ndC 1 p 0 0 (.slice none 0 0)) 64)
    rw [al_size, al_size] at this
    exact this
end Go.Proofs.YtlekfdkahlobiaaGreat.Re
