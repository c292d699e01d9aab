/- What a call has turned, by blocks. -/
import Derived.Maps.OwnOps
import Derived.BigQuiet
import Derived.Deep.QuietTactic
import Derived.Test.YtbbmihlabllliaaGreatDoorBase
namespace Go.Proofs.YtbbmihlabllliaaGreatDoor
open Go.RowKit Go.Maps

/-- Of what was there nothing has turned but the blocks of S. -/
structure Turn (S : List Nat) (w w' : World) : Prop where
  os : w'.os = w.os
  tape : w'.tape = w.tape
  output : w'.output = w.output
  size : w.heap.size ≤ w'.heap.size
  block : ∀ k, k < w.heap.size → k ∉ S → w'.heap[k]? = w.heap[k]?
theorem Turn.refl (S : List Nat) (w : World) : Turn S w w := ⟨rfl, rfl, rfl, Nat.le_refl _, fun _ _ _ => rfl⟩
theorem Turn.trans {S : List Nat} {a b c : World} (h : Turn S a b) (k : Turn S b c) : Turn S a c :=
  ⟨k.os.trans h.os, k.tape.trans h.tape, k.output.trans h.output, Nat.le_trans h.size k.size, fun i hi hs => (k.block i (Nat.lt_of_lt_of_le hi h.size) hs).trans (h.block i hi hs)⟩
theorem Turn.mono {S S' : List Nat} {w w' : World} (h : Turn S w w') (hs : ∀ k, k ∈ S → k ∈ S') : Turn S' w w' := ⟨h.os, h.tape, h.output, h.size, fun k hk hn => h.block k hk (fun e => hn (hs k e))⟩
theorem Turn.below {S : List Nat} {w w' : World} (h : Below w.heap.size w w') : Turn S w w' := ⟨h.os, h.tape, h.output, h.size, fun k hk _ => h.block k hk⟩
theorem Turn.grown {S : List Nat} {w w' : World} {b : Nat} (h : w.grownBy w' (some b)) (hb : b ∈ S) : Turn S w w' := ⟨h.os, h.tape, h.output, h.size, fun k hk hn => h.block k hk (fun e => by cases e; exact hn hb)⟩
theorem Turn.set {S : List Nat} (w : World) (b i : Nat) (v : Value) (hb : b ∈ S) : Turn S w (w.setCell ⟨b, i, none⟩ v) :=
  ⟨rfl, rfl, rfl, by simp [World.setCell], fun k hk hn => Below.heap_setCell _ _ _ _ (fun e => by simp at e; rw [e] at hn; exact hn hb)⟩
theorem Turn.alloc {S : List Nat} (w : World) (o : Obj) : Turn S w (w.alloc o) := Turn.below ((Below.refl _ w).alloc (Nat.le_refl _) _)
theorem Turn.drew {S : List Nat} {a w : World} (h : Turn S a w) : Turn S a w.drew := ⟨h.os, h.tape, h.output, h.size, h.block⟩
section
variable {S : List Nat} {w w' : World} (hu : Turn S w w')
include hu
theorem Turn.nd {b : Nat} {x : Nd} (h : NdAt w b x) (hb : b ∉ S) : NdAt w' b x := (hu.block b h.lt hb).trans h
theorem Turn.tr {t : Nat} {r f n l : Value} (h : TrAt w t r f n l) (hb : t ∉ S) : TrAt w' t r f n l := (hu.block t h.lt hb).trans h
theorem Turn.cell {a : Addr} {v : Value} (h : w.cell? a = some v) (hb : a.block ∉ S) : w'.cell? a = some v := (World.cell?_of_block (hu.block a.block (World.block_lt_of_cell? w a h) hb)).trans h
theorem Turn.map {k b n : Nat} {D : DataW Value} (h : w.ownsMap Tryz.prog k R b n D) (hb : b ∉ S) : w'.ownsMap Tryz.prog k R b n D := by
  have hlt := h.lt
  obtain ⟨es, c, e, rest⟩ := h
  exact ⟨es, c, (hu.block b hlt hb).trans e, rest⟩
end
theorem nd_setCell {w : World} {b : Nat} {x : Nd} (h : NdAt w b x) {a : Addr} (v : Value) (hne : b ≠ a.block) : NdAt (w.setCell a v) b x := (Below.heap_setCell w a v b hne).trans h
theorem nd_alloc {w : World} {b : Nat} {x : Nd} (h : NdAt w b x) (o : Obj) : NdAt (w.alloc o) b x := al_old o h
theorem tr_alloc {w : World} {t : Nat} {r f n l : Value} (h : TrAt w t r f n l) (o : Obj) : TrAt (w.alloc o) t r f n l := al_old o h
theorem tr_setCell {w : World} {t : Nat} {r f n l : Value} (h : TrAt w t r f n l) {a : Addr} (v : Value) (hne : t ≠ a.block) : TrAt (w.setCell a v) t r f n l := (Below.heap_setCell w a v t hne).trans h

theorem Turn.drewN {S : List Nat} {a w : World} (h : Turn S a w) (n : Nat) : Turn S a (w.drewN n) := ⟨h.os, h.tape, h.output, h.size, h.block⟩
theorem below_undrew {n : Nat} {w w2 : World} (h : Below n w.drew w2) : Below n w w2 := ⟨h.os, h.tape, h.output, h.size, h.block⟩
end Go.Proofs.YtbbmihlabllliaaGreatDoor
