/- A map whose keys are bytes, whatever its elements are. -/
import Derived.Maps.OwnSet
import Derived.Test.YtgppaclfgekknaaOGroups
namespace Go.Proofs.Ytgppaclfgekknaa
open Go.RowKit Go.Maps

/-- An element is told as the value that it is. -/
def Rh (v : Value) : Option (DataW Value × List MemPlace) := some (.held v, [])
def KeyB (c : UInt8) : Lit := .int .u8 (c.toNat : Int)
theorem keyB_inj {c d : UInt8} (h : KeyB c = KeyB d) : c = d := by
  have : (c.toNat : Int) = (d.toNat : Int) := by simpa [KeyB] using h
  exact UInt8.toNat_inj.1 (by omega)
theorem keyB_wf (c : UInt8) : (KeyB c).wf = true := by
  have := c.toNat_lt
  simp [KeyB, Lit.wf, IntKind.min, IntKind.max, IntKind.signed, IntKind.bits]; omega
theorem keyedB : Keyed Try.prog 5 := int_keyed Try.underlying5
theorem keyB_key (c : UInt8) : WideAt.IsKeyLit (KeyB c) := by simp [WideAt.IsKeyLit, KeyB]

/-- A map of at most n entries, that holds for a byte what f tells. -/
def MapAt (w : World) (b n : Nat) (f : UInt8 → Option Value) : Prop :=
  ∃ D : DataW Value, w.ownsMap Try.prog 5 Rh b n D ∧ IsMap D ∧ ∀ c, Maps.has D (KeyB c) = (f c).isSome ∧ ∀ z, D.atKey (KeyB c) (.held z) = .held ((f c).getD z)
theorem MapAt.made (w : World) : MapAt (w.alloc (.map #[] 0)) w.heap.size 0 (fun _ => none) :=
  ⟨_, World.ownsMap_made w Try.prog 5 Rh, isMap_empty, fun c => ⟨rfl, fun z => by simp [DataW.atKey]⟩⟩
theorem MapAt.kept {w w' : World} {b n : Nat} {f : UInt8 → Option Value} {row : Option Nat} (h : MapAt w b n f) (hg : w.grownBy w' row) (hne : some b ≠ row) : MapAt w' b n f :=
  let ⟨D, h1, h2⟩ := h; ⟨D, h1.kept hg hne, h2⟩
theorem MapAt.lt {w : World} {b n : Nat} {f : UInt8 → Option Value} (h : MapAt w b n f) : b < w.heap.size := let ⟨_, h1, _⟩ := h; h1.lt
theorem MapAt.below {w w' : World} {b n : Nat} {f : UInt8 → Option Value} (h : MapAt w b n f) (hb : Below w.heap.size w w') : MapAt w' b n f :=
  h.kept (row := none) ⟨hb.os, hb.tape, hb.output, hb.size, fun k hk _ => hb.block k hk⟩ (by simp)
/-- 'v, ok := m[c]'. -/
theorem MapAt.look {w : World} {b n : Nat} {f : UInt8 → Option Value} (h : MapAt w b n f) {t e : TypeId} (ht : Try.prog.underlying t = some (.map 5 e)) {z : Value} (hz : (zeroValue e).run Try.prog w = .ok z w) (c : UInt8) :
    (Instr.lookup t (.map (some b)) (.int .u8 (c.toNat : Int)) true).run Try.prog w = .ok (.tuple #[(f c).getD z, .bool (f c).isSome]) w := by
  obtain ⟨D, h1, _, h3⟩ := h
  obtain ⟨v, ps, hr, hv⟩ := h1.look_ok keyedB ht hz (zd := .held z) (zp := []) rfl (keyOf_int_mk Try.underlying5 (keyB_wf c))
  rw [show (Lit.int .u8 (c.toNat : Int)) = KeyB c from rfl, (h3 c).2 z] at hv
  have e1 : v = (f c).getD z := by
    simp only [Rh, Option.some.injEq, Prod.mk.injEq, DataW.held.injEq] at hv; exact hv.1
  rw [hr, e1, show (Lit.int .u8 (c.toNat : Int)) = KeyB c from rfl, (h3 c).1]
/-- 'm[c]'. -/
theorem MapAt.look1 {w : World} {b n : Nat} {f : UInt8 → Option Value} (h : MapAt w b n f) {t e : TypeId} (ht : Try.prog.underlying t = some (.map 5 e)) {z : Value} (hz : (zeroValue e).run Try.prog w = .ok z w) (c : UInt8) :
    (Instr.lookup t (.map (some b)) (.int .u8 (c.toNat : Int)) false).run Try.prog w = .ok ((f c).getD z) w := by
  obtain ⟨D, h1, _, h3⟩ := h
  obtain ⟨v, ps, hr, hv⟩ := h1.lookup keyedB ht hz (zd := .held z) (zp := []) rfl (keyOf_int_mk Try.underlying5 (keyB_wf c))
  rw [show (Lit.int .u8 (c.toNat : Int)) = KeyB c from rfl, (h3 c).2 z] at hv
  have e1 : v = (f c).getD z := by
    simp only [Rh, Option.some.injEq, Prod.mk.injEq, DataW.held.injEq] at hv; exact hv.1
  rw [hr, e1]
/-- 'm[c] = v'. -/
theorem MapAt.put {w : World} {b n : Nat} {f : UInt8 → Option Value} (h : MapAt w b n f) {t e : TypeId} (ht : Try.prog.underlying t = some (.map 5 e)) (hn : n < maxLen) (c : UInt8) (v : Value) :
    ∃ w', (Instr.mapUpdate t (.map (some b)) (.int .u8 (c.toNat : Int)) v).run Try.prog w = .ok () w' ∧ MapAt w' b (n + 1) (fun d => if d = c then some v else f d) ∧ w.grownBy w' (some b) := by
  obtain ⟨D, h1, h2, h3⟩ := h
  obtain ⟨w', hr, ho, hg⟩ := h1.update keyedB ht hn (key := .int .u8 (c.toNat : Int)) (val := v) (d := .held v) (ps := []) (keyOf_int_mk Try.underlying5 (keyB_wf c)) rfl
  refine ⟨w', hr, ⟨_, ho, ho.isMap, fun d => ?_⟩, hg⟩
  rw [show (Lit.int .u8 (c.toNat : Int)) = KeyB c from rfl]
  by_cases hd : d = c
  · subst hd
    rw [has_put_same h2 (keyB_key d)]
    refine ⟨by simp, fun z => ?_⟩
    rw [atKey_put_same h2 (keyB_key d)]; simp
  · have hne : KeyB d ≠ KeyB c := fun e => hd (keyB_inj e)
    simp only [has_put_other hne, if_neg hd]
    exact ⟨(h3 d).1, fun z => by rw [atKey_put_other hne]; exact (h3 d).2 z⟩
end Go.Proofs.Ytgppaclfgekknaa
