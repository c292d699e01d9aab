/- How a kernel, its tables and what is open lie in memory. -/
import Derived.Lib.IfaceEq
import Derived.WalkKit
import Derived.BigQuiet
import Derived.BigRegion
import Derived.Deep.RegionWith
import Derived.Deep.QuietTactic
import Derived.Deep.RegionHeld
import Derived.Test.YtbbmihlabllliaaGreatDoorTurn
namespace Go.Proofs.YtbbmihlabllliaaGreatDoor
open Go.RowKit Go.Maps

section
variable {w : World} {b T : Nat} {cs : Array Value}
theorem h_cell {fz : Nat × Nat} (h : w.heap[b]? = some (.cells cs T fz)) (i : Nat) {v : Value} (hi : cs[i]? = some v) : w.cell? ⟨b, i, none⟩ = some v := by simp [World.cell?, h, hi]
theorem h_fz (h : w.heap[b]? = some (.cells cs T)) (i : Nat) : w.frozen? ⟨b, i, none⟩ = false := by simp [World.frozen?, h]
theorem h_lt {o : Obj} (h : w.heap[b]? = some o) : b < w.heap.size := (Array.getElem?_eq_some_iff.1 h).1
theorem h_set (h : w.heap[b]? = some (.cells cs T)) (i : Nat) (v : Value) : (w.setCell ⟨b, i, none⟩ v).heap[b]? = some (.cells (cs.setIfInBounds i v) T) := by
  simp [World.setCell, Array.getElem?_modify, h]
theorem h_ne {b2 T2 : Nat} {cs2 : Array Value} {fz fz2 : Nat × Nat} (h : w.heap[b]? = some (.cells cs T fz)) (h2 : w.heap[b2]? = some (.cells cs2 T2 fz2)) (ht : T ≠ T2) : b ≠ b2 := fun e => by
  subst e; rw [h] at h2; cases h2; exact ht rfl
theorem h_ne_map {b2 : Nat} {es : Array MapEntry} {c : Nat} {fz : Nat × Nat} (h : w.heap[b]? = some (.cells cs T fz)) (h2 : w.heap[b2]? = some (.map es c)) : b ≠ b2 := fun e => by
  subst e; rw [h] at h2; cases h2
end
theorem Turn.ob {S : List Nat} {w w' : World} (hu : Turn S w w') {b : Nat} {o : Obj} (h : w.heap[b]? = some o) (hb : b ∉ S) : w'.heap[b]? = some o := (hu.block b (h_lt h) hb).trans h
theorem s_other {w : World} {b c i : Nat} {v : Value} {o : Obj} (h : w.heap[b]? = some o) (hne : b ≠ c) : (w.setCell ⟨c, i, none⟩ v).heap[b]? = some o := (Below.heap_setCell w ⟨c, i, none⟩ v b hne).trans h

theorem al_cell {w : World} {a : Addr} {v : Value} (o : Obj) (h : w.cell? a = some v) : (w.alloc o).cell? a = some v := (Turn.alloc (S := []) w o).cell h (by simp)
theorem st_cell {w : World} {a : Addr} {v : Value} (b i : Nat) (x : Value) (h : w.cell? a = some v) (hne : a.block ≠ b) : (w.setCell ⟨b, i, none⟩ x).cell? a = some v := (Turn.set (S := [b]) w b i x (by simp)).cell h (by simpa using hne)

/-- The kernel's own cells. -/
abbrev KnAt (w : World) (k : Nat) (tr fs : Value) (used now : Int) (th : Nat) (last : Int) : Prop := w.heap[k]? = some (.cells #[tr, fs, .int .i64 used, .int .i64 now, .map (some th), .int .i64 last] 116)
/-- A table: its kernel, what its sixteen descriptors have. -/
abbrev TbAt (w : World) (t k : Nat) (hs : Array Value) : Prop := w.heap[t]? = some (.cells (#[ptr k] ++ hs) 119)
abbrev PpAt (w : World) (p : Nat) (data : Value) (re we : Nat) : Prop := w.heap[p]? = some (.cells #[data, ptr re, ptr we] 99)
abbrev ReAt (w : World) (e : Nat) (c : Int) (p : Nat) : Prop := w.heap[e]? = some (.cells #[.int .i64 c, ptr p] 103)
abbrev WeAt (w : World) (e : Nat) (c : Int) (p : Nat) : Prop := w.heap[e]? = some (.cells #[.int .i64 c, ptr p] 104)
abbrev SoAt (w : World) (e : Nat) (c : Int) (rest : Value) : Prop := w.heap[e]? = some (.cells #[.int .i64 c, rest] 138)
abbrev FiAt (w : World) (e : Nat) (c num ino how place : Int) : Prop := w.heap[e]? = some (.cells #[.int .i64 c, .int .i64 num, .int .i64 ino, .int .i64 how, .int .i64 place] 193)
abbrev iRe (e : Nat) : Value := .iface 96 (ptr e)
abbrev iWe (e : Nat) : Value := .iface 97 (ptr e)
abbrev iSo (e : Nat) : Value := .iface 135 (ptr e)
abbrev iFi (e : Nat) : Value := .iface 191 (ptr e)

theorem tb_cell {w : World} {t k : Nat} {hs : Array Value} (h : TbAt w t k hs) (i : Nat) {v : Value} (hi : hs[i]? = some v) : w.cell? ⟨t, 1 + i, none⟩ = some v := by
  refine h_cell h (1 + i) ?_
  rw [Array.getElem?_append_right (by simp)]
  simpa using hi
theorem tb_kern {w : World} {t k : Nat} {hs : Array Value} (h : TbAt w t k hs) : w.cell? ⟨t, 0, none⟩ = some (ptr k) := h_cell h 0 (by rw [Array.getElem?_append_left (by simp)]; rfl)
theorem tb_set {w : World} {t k : Nat} {hs : Array Value} (h : TbAt w t k hs) (i : Nat) (v : Value) : TbAt (w.setCell ⟨t, 1 + i, none⟩ v) t k (hs.setIfInBounds i v) := by
  have := h_set h (1 + i) v
  rw [show (#[ptr k] ++ hs).setIfInBounds (1 + i) v = #[ptr k] ++ hs.setIfInBounds i v from ?_] at this
  · exact this
  · rw [Array.setIfInBounds_append_right (by simp)]
    simp
/-- What a type switch finds, by the kind of what is open. -/
theorem ta_re_re (v : Value) (w : World) : (Instr.typeAssert (.iface 96 v) 108 96 true).run Tryz.prog w = .ok (.tuple #[v, .bool true]) w := by kernel_rfl
theorem ta_re_we (v : Value) (w : World) : (Instr.typeAssert (.iface 96 v) 108 97 true).run Tryz.prog w = .ok (.tuple #[.pointer none, .bool false]) w := by kernel_rfl
theorem ta_re_so (v : Value) (w : World) : (Instr.typeAssert (.iface 96 v) 108 135 true).run Tryz.prog w = .ok (.tuple #[.pointer none, .bool false]) w := by kernel_rfl
theorem ta_re_fi (v : Value) (w : World) : (Instr.typeAssert (.iface 96 v) 108 191 true).run Tryz.prog w = .ok (.tuple #[.pointer none, .bool false]) w := by kernel_rfl
theorem ta_re_sk (v : Value) (w : World) : (Instr.typeAssert (.iface 96 v) 108 211 true).run Tryz.prog w = .ok (.tuple #[.pointer none, .bool false]) w := by kernel_rfl
theorem ta_re_di (v : Value) (w : World) : (Instr.typeAssert (.iface 96 v) 108 188 true).run Tryz.prog w = .ok (.tuple #[.pointer none, .bool false]) w := by kernel_rfl
theorem ta_we_re (v : Value) (w : World) : (Instr.typeAssert (.iface 97 v) 108 96 true).run Tryz.prog w = .ok (.tuple #[.pointer none, .bool false]) w := by kernel_rfl
theorem ta_we_we (v : Value) (w : World) : (Instr.typeAssert (.iface 97 v) 108 97 true).run Tryz.prog w = .ok (.tuple #[v, .bool true]) w := by kernel_rfl
theorem ta_we_so (v : Value) (w : World) : (Instr.typeAssert (.iface 97 v) 108 135 true).run Tryz.prog w = .ok (.tuple #[.pointer none, .bool false]) w := by kernel_rfl
theorem ta_we_fi (v : Value) (w : World) : (Instr.typeAssert (.iface 97 v) 108 191 true).run Tryz.prog w = .ok (.tuple #[.pointer none, .bool false]) w := by kernel_rfl
theorem ta_we_sk (v : Value) (w : World) : (Instr.typeAssert (.iface 97 v) 108 211 true).run Tryz.prog w = .ok (.tuple #[.pointer none, .bool false]) w := by kernel_rfl
theorem ta_we_di (v : Value) (w : World) : (Instr.typeAssert (.iface 97 v) 108 188 true).run Tryz.prog w = .ok (.tuple #[.pointer none, .bool false]) w := by kernel_rfl
theorem ta_so_re (v : Value) (w : World) : (Instr.typeAssert (.iface 135 v) 108 96 true).run Tryz.prog w = .ok (.tuple #[.pointer none, .bool false]) w := by kernel_rfl
theorem ta_so_we (v : Value) (w : World) : (Instr.typeAssert (.iface 135 v) 108 97 true).run Tryz.prog w = .ok (.tuple #[.pointer none, .bool false]) w := by kernel_rfl
theorem ta_so_so (v : Value) (w : World) : (Instr.typeAssert (.iface 135 v) 108 135 true).run Tryz.prog w = .ok (.tuple #[v, .bool true]) w := by kernel_rfl
theorem ta_so_fi (v : Value) (w : World) : (Instr.typeAssert (.iface 135 v) 108 191 true).run Tryz.prog w = .ok (.tuple #[.pointer none, .bool false]) w := by kernel_rfl
theorem ta_so_sk (v : Value) (w : World) : (Instr.typeAssert (.iface 135 v) 108 211 true).run Tryz.prog w = .ok (.tuple #[.pointer none, .bool false]) w := by kernel_rfl
theorem ta_so_di (v : Value) (w : World) : (Instr.typeAssert (.iface 135 v) 108 188 true).run Tryz.prog w = .ok (.tuple #[.pointer none, .bool false]) w := by kernel_rfl
theorem ta_fi_re (v : Value) (w : World) : (Instr.typeAssert (.iface 191 v) 108 96 true).run Tryz.prog w = .ok (.tuple #[.pointer none, .bool false]) w := by kernel_rfl
theorem ta_fi_we (v : Value) (w : World) : (Instr.typeAssert (.iface 191 v) 108 97 true).run Tryz.prog w = .ok (.tuple #[.pointer none, .bool false]) w := by kernel_rfl
theorem ta_fi_so (v : Value) (w : World) : (Instr.typeAssert (.iface 191 v) 108 135 true).run Tryz.prog w = .ok (.tuple #[.pointer none, .bool false]) w := by kernel_rfl
theorem ta_fi_fi (v : Value) (w : World) : (Instr.typeAssert (.iface 191 v) 108 191 true).run Tryz.prog w = .ok (.tuple #[v, .bool true]) w := by kernel_rfl
theorem ta_fi_sk (v : Value) (w : World) : (Instr.typeAssert (.iface 191 v) 108 211 true).run Tryz.prog w = .ok (.tuple #[.pointer none, .bool false]) w := by kernel_rfl
theorem ta_fi_di (v : Value) (w : World) : (Instr.typeAssert (.iface 191 v) 108 188 true).run Tryz.prog w = .ok (.tuple #[.pointer none, .bool false]) w := by kernel_rfl
theorem ta_sk_re (v : Value) (w : World) : (Instr.typeAssert (.iface 211 v) 108 96 true).run Tryz.prog w = .ok (.tuple #[.pointer none, .bool false]) w := by kernel_rfl
theorem ta_sk_we (v : Value) (w : World) : (Instr.typeAssert (.iface 211 v) 108 97 true).run Tryz.prog w = .ok (.tuple #[.pointer none, .bool false]) w := by kernel_rfl
theorem ta_sk_so (v : Value) (w : World) : (Instr.typeAssert (.iface 211 v) 108 135 true).run Tryz.prog w = .ok (.tuple #[.pointer none, .bool false]) w := by kernel_rfl
theorem ta_sk_fi (v : Value) (w : World) : (Instr.typeAssert (.iface 211 v) 108 191 true).run Tryz.prog w = .ok (.tuple #[.pointer none, .bool false]) w := by kernel_rfl
theorem ta_sk_sk (v : Value) (w : World) : (Instr.typeAssert (.iface 211 v) 108 211 true).run Tryz.prog w = .ok (.tuple #[v, .bool true]) w := by kernel_rfl
theorem ta_sk_di (v : Value) (w : World) : (Instr.typeAssert (.iface 211 v) 108 188 true).run Tryz.prog w = .ok (.tuple #[.pointer none, .bool false]) w := by kernel_rfl
theorem ta_di_re (v : Value) (w : World) : (Instr.typeAssert (.iface 188 v) 108 96 true).run Tryz.prog w = .ok (.tuple #[.pointer none, .bool false]) w := by kernel_rfl
theorem ta_di_we (v : Value) (w : World) : (Instr.typeAssert (.iface 188 v) 108 97 true).run Tryz.prog w = .ok (.tuple #[.pointer none, .bool false]) w := by kernel_rfl
theorem ta_di_so (v : Value) (w : World) : (Instr.typeAssert (.iface 188 v) 108 135 true).run Tryz.prog w = .ok (.tuple #[.pointer none, .bool false]) w := by kernel_rfl
theorem ta_di_fi (v : Value) (w : World) : (Instr.typeAssert (.iface 188 v) 108 191 true).run Tryz.prog w = .ok (.tuple #[.pointer none, .bool false]) w := by kernel_rfl
theorem ta_di_sk (v : Value) (w : World) : (Instr.typeAssert (.iface 188 v) 108 211 true).run Tryz.prog w = .ok (.tuple #[.pointer none, .bool false]) w := by kernel_rfl
theorem ta_di_di (v : Value) (w : World) : (Instr.typeAssert (.iface 188 v) 108 188 true).run Tryz.prog w = .ok (.tuple #[v, .bool true]) w := by kernel_rfl
theorem nil_eq (T : Nat) (v : Value) (w : World) : (binOp .eql 108 (.iface T v) .nilIface).run Tryz.prog w = .ok (.bool false) w := by kernel_rfl
theorem nil_nil (w : World) : (binOp .eql 108 .nilIface .nilIface).run Tryz.prog w = .ok (.bool true) w := by kernel_rfl
theorem nil_neq (T : Nat) (v : Value) (w : World) : (binOp .neq 108 (.iface T v) .nilIface).run Tryz.prog w = .ok (.bool true) w := by kernel_rfl
theorem nil_nnil (w : World) : (binOp .neq 108 .nilIface .nilIface).run Tryz.prog w = .ok (.bool false) w := by kernel_rfl
end Go.Proofs.YtbbmihlabllliaaGreatDoor
