/- How a tree lies in memory, and where a path leads: the words of the contracts. -/
import Derived.Maps.OwnSet
import Derived.Maps.Views
import Derived.WalkKit
import Derived.Lib.Hide
import Derived.Test.YtbbmihlabllliaaGreatDoorProg
namespace Go.Proofs.YtbbmihlabllliaaGreatDoor
open Go.RowKit Go.Maps

theorem heap_al (w : World) (o : Obj) (k : Nat) : (w.alloc o).heap[k]? = if k = w.heap.size then some o else w.heap[k]? := by
  show (w.heap.push o)[k]? = _
  rw [Array.getElem?_push]

theorem al_new (w : World) (o : Obj) {k : Nat} (h : k = w.heap.size) : (w.alloc o).heap[k]? = some o := by rw [heap_al, if_pos h]
theorem al_old {w : World} (o : Obj) {k : Nat} {x : Obj} (h : w.heap[k]? = some x) : (w.alloc o).heap[k]? = some x := by
  rw [heap_al, if_neg (by have := (Array.getElem?_eq_some_iff.1 h).1; omega)]; exact h

/-- An element of a map is told as the value that it is. -/
def R (v : Value) : Option (DataW Value × List MemPlace) := some (.held v, [])
def look (D : DataW Value) (kl : Lit) : Value := match D.atKey kl (.held (.pointer none)) with | .held v => v | _ => .pointer none
abbrev ptr (b : Nat) : Value := .pointer (some ⟨b, 0, none⟩)
def isNil : Value → Bool | .pointer none => true | _ => false
def blk : Value → Nat | .pointer (some a) => a.block | _ => 0
abbrev sk (s : ByteArray) : Lit := .string s.data.toList
abbrev ik (i : Int) : Lit := .int .i64 i

theorem keyed9 : Keyed Tryz.prog 9 := string_keyed Tryz.underlying9
theorem keyed3 : Keyed Tryz.prog 3 := int_keyed Tryz.underlying3
theorem zero77 (w : World) : (zeroValue 129).run Tryz.prog w = .ok (.pointer none) w := by kernel_rfl
theorem under80 : Tryz.prog.underlying 132 = some (.map 9 129) := Tryz.underlying132
theorem under62 : Tryz.prog.underlying 139 = some (.map 3 129) := Tryz.underlying139

theorem look_put_same {D : DataW Value} {k : Lit} (hD : IsMap D) (hk : WideAt.IsKeyLit k) (v : Value) : look (D.put k (.held v)) k = v := by
  simp [look, atKey_put_same hD hk]
theorem look_put_other {D : DataW Value} {k k' : Lit} (h : k' ≠ k) (d : DataW Value) : look (D.put k d) k' = look D k' := by simp [look, atKey_put_other h]
theorem look_del_same {D : DataW Value} {k : Lit} : look (D.del k) k = .pointer none := by simp [look, atKey_del_same]
theorem look_del_other {D : DataW Value} {k k' : Lit} (h : k' ≠ k) : look (D.del k) k' = look D k' := by simp [look, atKey_del_other h]
theorem look_empty (k : Lit) : look (.map []) k = .pointer none := rfl

/-- A map's look-up. -/
theorem lookS {w : World} {b n : Nat} {D : DataW Value} (h : w.ownsMap Tryz.prog 9 R b n D) {s : ByteArray} (hs : s.size ≤ maxLen) :
    (Instr.lookup 132 (.map (some b)) (.string s) false).run Tryz.prog w = .ok (look D (sk s)) w := by
  obtain ⟨v, ps, hr, hv⟩ := h.lookup keyed9 under80 (zero77 w) (zd := .held (.pointer none)) (zp := []) rfl (WideMaps.keyOf_string_mk Tryz.underlying9 hs)
  rw [hr]
  simp only [R, Option.some.injEq, Prod.mk.injEq] at hv
  rw [look, ← hv.1]
theorem lookI {w : World} {b n : Nat} {D : DataW Value} (h : w.ownsMap Tryz.prog 3 R b n D) {i : Int} (hi : (Lit.int .i64 i).wf = true) :
    (Instr.lookup 139 (.map (some b)) (.int .i64 i) false).run Tryz.prog w = .ok (look D (ik i)) w := by
  obtain ⟨v, ps, hr, hv⟩ := h.lookup keyed3 under62 (zero77 w) (zd := .held (.pointer none)) (zp := []) rfl (keyOf_int_mk Tryz.underlying3 hi)
  rw [hr]
  simp only [R, Option.some.injEq, Prod.mk.injEq] at hv
  rw [look, ← hv.1]

/-- A file or a directory as it lies in memory. -/
structure Nd where
  ino : Int
  mode : Int
  tick : Int
  dir : Bool
  above : Value
  ents : Value
  data : Value
  links : Int
  holds : Int
def Nd.arr (x : Nd) : Array Value := #[.int .i64 x.ino, .int .i64 x.mode, .int .i64 x.tick, .bool x.dir, x.above, x.ents, x.data, .int .i64 x.links, .int .i64 x.holds]
def NdAt (w : World) (b : Nat) (x : Nd) : Prop := w.heap[b]? = some (.cells x.arr 134)
section
variable {w : World} {b : Nat} {x : Nd} (h : NdAt w b x)
include h
theorem NdAt.c0 : w.cell? ⟨b, 0, none⟩ = some (.int .i64 x.ino) := by simp [World.cell?, show w.heap[b]? = _ from h, Nd.arr]
theorem NdAt.c1 : w.cell? ⟨b, 1, none⟩ = some (.int .i64 x.mode) := by simp [World.cell?, show w.heap[b]? = _ from h, Nd.arr]
theorem NdAt.c2 : w.cell? ⟨b, 2, none⟩ = some (.int .i64 x.tick) := by simp [World.cell?, show w.heap[b]? = _ from h, Nd.arr]
theorem NdAt.c3 : w.cell? ⟨b, 3, none⟩ = some (.bool x.dir) := by simp [World.cell?, show w.heap[b]? = _ from h, Nd.arr]
theorem NdAt.c4 : w.cell? ⟨b, 4, none⟩ = some x.above := by simp [World.cell?, show w.heap[b]? = _ from h, Nd.arr]
theorem NdAt.c5 : w.cell? ⟨b, 5, none⟩ = some x.ents := by simp [World.cell?, show w.heap[b]? = _ from h, Nd.arr]
theorem NdAt.c6 : w.cell? ⟨b, 6, none⟩ = some x.data := by simp [World.cell?, show w.heap[b]? = _ from h, Nd.arr]
theorem NdAt.c7 : w.cell? ⟨b, 7, none⟩ = some (.int .i64 x.links) := by simp [World.cell?, show w.heap[b]? = _ from h, Nd.arr]
theorem NdAt.c8 : w.cell? ⟨b, 8, none⟩ = some (.int .i64 x.holds) := by simp [World.cell?, show w.heap[b]? = _ from h, Nd.arr]
theorem NdAt.fz (i : Nat) : w.frozen? ⟨b, i, none⟩ = false := by simp [World.frozen?, show w.heap[b]? = _ from h]
theorem NdAt.lt : b < w.heap.size := (Array.getElem?_eq_some_iff.1 (show w.heap[b]? = _ from h)).1
theorem NdAt.set (i : Nat) (v : Value) {y : Nd} (e : x.arr.setIfInBounds i v = y.arr) : NdAt (w.setCell ⟨b, i, none⟩ v) b y := by
  show (w.setCell ⟨b, i, none⟩ v).heap[b]? = _
  simp [World.setCell, Array.getElem?_modify, show w.heap[b]? = _ from h, e]
theorem NdAt.below {w' : World} {B : Nat} (hb : Below B w w') (hB : b < B) : NdAt w' b x := (hb.block b hB).trans h
end

/-- The tree's own cells. -/
def TrAt (w : World) (t : Nat) (root fm names last : Value) : Prop := w.heap[t]? = some (.cells #[root, fm, names, last] 169)
section
variable {w : World} {t : Nat} {r f n l : Value} (h : TrAt w t r f n l)
include h
theorem TrAt.c0 : w.cell? ⟨t, 0, none⟩ = some r := by simp [World.cell?, show w.heap[t]? = _ from h]
theorem TrAt.c1 : w.cell? ⟨t, 1, none⟩ = some f := by simp [World.cell?, show w.heap[t]? = _ from h]
theorem TrAt.c2 : w.cell? ⟨t, 2, none⟩ = some n := by simp [World.cell?, show w.heap[t]? = _ from h]
theorem TrAt.c3 : w.cell? ⟨t, 3, none⟩ = some l := by simp [World.cell?, show w.heap[t]? = _ from h]
theorem TrAt.fz (i : Nat) : w.frozen? ⟨t, i, none⟩ = false := by simp [World.frozen?, show w.heap[t]? = _ from h]
theorem TrAt.lt : t < w.heap.size := (Array.getElem?_eq_some_iff.1 (show w.heap[t]? = _ from h)).1
theorem TrAt.set2 (v : Value) : TrAt (w.setCell ⟨t, 2, none⟩ v) t r f v l := by
  show (w.setCell ⟨t, 2, none⟩ v).heap[t]? = _
  simp [World.setCell, Array.getElem?_modify, show w.heap[t]? = _ from h]
theorem TrAt.set3 (v : Value) : TrAt (w.setCell ⟨t, 3, none⟩ v) t r f n v := by
  show (w.setCell ⟨t, 3, none⟩ v).heap[t]? = _
  simp [World.setCell, Array.getElem?_modify, show w.heap[t]? = _ from h]
theorem TrAt.below {w' : World} {B : Nat} (hb : Below B w w') (hB : t < B) : TrAt w' t r f n l := (hb.block t hB).trans h
end

/-- The nodes by their blocks, each with its entries. -/
abbrev Graph := Nat → Option (Nd × DataW Value)
def Gr (w : World) (g : Graph) : Prop := ∀ b x D, g b = some (x, D) → NdAt w b x ∧ (x.dir = true → ∃ mb n, x.ents = .map (some mb) ∧ w.ownsMap Tryz.prog 9 R mb n D)
/-- Wherever an entry or the way up leads, there is a node. -/
def Closed (g : Graph) : Prop := ∀ b x D, g b = some (x, D) → x.dir = true → (∃ u, x.above = ptr u ∧ (g u).isSome = true) ∧ ∀ s : ByteArray, look D (sk s) = .pointer none ∨ ∃ c, look D (sk s) = ptr c ∧ (g c).isSome = true

theorem Gr.below {w w' : World} {g : Graph} (h : Gr w g) (hb : Below w.heap.size w w') : Gr w' g := fun b x D e => by
  obtain ⟨h1, h2⟩ := h b x D e
  refine ⟨h1.below hb h1.lt, fun hd => ?_⟩
  obtain ⟨mb, n, e1, hm⟩ := h2 hd
  exact ⟨mb, n, e1, hm.kept (row := none) ⟨hb.os, hb.tape, hb.output, hb.size, fun k hk _ => hb.block k hk⟩ (by simp)⟩

/-- Is it a name? -/
def plainB (s : ByteArray) : Bool := s.data.toList.all fun c => c != 47 && c != 0
def isDot (s : ByteArray) : Bool := s.toList == [46] || s.toList == [46, 46]
def isNm (s : ByteArray) : Bool := !s.toList.isEmpty && decide (s.size ≤ 32) && !isDot s && plainB s

/-- One part of a path: on from a node, or the error's number. -/
def stepF (g : Graph) (at_ : Nat) (p : ByteArray) : Except Int Nat :=
  match g at_ with
  | none => .error 0
  | some (x, D) =>
    if x.dir = false then .error 3
    else if p = ⟨#[46]⟩ then .ok at_
    else if p = ⟨#[46, 46]⟩ then .ok (blk x.above)
    else if isNm p = false then .error 13
    else if isNil (look D (sk p)) = true then .error 1
    else .ok (blk (look D (sk p)))
def leadF (g : Graph) (at_ : Nat) : List ByteArray → Except Int Nat
  | [] => .ok at_
  | p :: r => match stepF g at_ p with | .ok b => leadF g b r | .error e => .error e

theorem leadF_append (g : Graph) : ∀ (l r : List ByteArray) (at_ : Nat), leadF g at_ (l ++ r) = match leadF g at_ l with | .ok b => leadF g b r | .error e => .error e
  | [], r, a => rfl
  | p :: l, r, a => by
    simp only [List.cons_append, leadF]
    cases stepF g a p with
    | error e => rfl
    | ok b => exact leadF_append g l r b
theorem leadF_snoc (g : Graph) (l : List ByteArray) (p : ByteArray) (a b : Nat) (h : leadF g a l = .ok b) : leadF g a (l ++ [p]) = stepF g b p := by
  rw [leadF_append, h]
  simp only [leadF]
  cases stepF g b p <;> rfl

theorem stepF_some {g : Graph} (hc : Closed g) {a b : Nat} {p : ByteArray} (ha : (g a).isSome = true) (h : stepF g a p = .ok b) : (g b).isSome = true := by
  unfold stepF at h
  cases hg : g a with
  | none => rw [hg] at ha; cases ha
  | some y =>
    obtain ⟨x, D⟩ := y
    rw [hg] at h
    simp only at h
    split at h
    · cases h
    · rename_i hd
      obtain ⟨⟨u, hu, hgu⟩, hl⟩ := hc a x D hg (by simpa using hd)
      split at h
      · cases h; exact ha
      · split at h
        · cases h; rw [hu]; exact hgu
        · split at h
          · cases h
          · split at h
            · cases h
            · rename_i hne
              rcases hl p with h0 | ⟨c, h0, hgc⟩
              · rw [h0] at hne; exact absurd rfl hne
              · cases h; rw [h0]; exact hgc
theorem leadF_some {g : Graph} (hc : Closed g) : ∀ (l : List ByteArray) {a b : Nat}, (g a).isSome = true → leadF g a l = .ok b → (g b).isSome = true
  | [], a, b, ha, h => by cases h; exact ha
  | p :: r, a, b, ha, h => by
    simp only [leadF] at h
    cases hs : stepF g a p with
    | error e => rw [hs] at h; cases h
    | ok c => rw [hs] at h; exact leadF_some hc r (stepF_some hc ha hs) h
end Go.Proofs.YtbbmihlabllliaaGreatDoor
