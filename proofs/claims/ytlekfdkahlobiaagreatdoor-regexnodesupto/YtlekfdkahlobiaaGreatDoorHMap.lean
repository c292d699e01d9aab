/- A map whose keys are strings, whatever its elements are. -/
import Derived.Maps.OwnSet
import Derived.Maps.Views
import Derived.WalkKit
import Derived.Lib.Hide
import Derived.Test.YtlekfdkahlobiaaGreatDoorProg
namespace Go.Proofs.YtlekfdkahlobiaaGreatDoor.Mp
open Go.RowKit Go.Maps

/-- An element of a map is told as the value that it is. -/
def R (v : Value) : Option (DataW Value × List MemPlace) := some (.held v, [])
abbrev sk (s : ByteArray) : Lit := .string s.data.toList
theorem keyed9 : Keyed Tryz.prog 9 := string_keyed Tryz.underlying9
/-- A map of at most n entries, that holds for a string what f tells. -/
def MapS (w : World) (b n : Nat) (f : ByteArray → Option Value) : Prop :=
  ∃ D : DataW Value, w.ownsMap Tryz.prog 9 R b n D ∧ IsMap D ∧ ∀ s, Maps.has D (sk s) = (f s).isSome ∧ ∀ z, D.atKey (sk s) (.held z) = .held ((f s).getD z)
theorem skS_inj {a b : ByteArray} (h : sk a = sk b) : a = b := by
  have h1 : a.data.toList = b.data.toList := by simpa [sk] using h
  cases a; cases b
  congr
  exact Array.toList_inj.1 h1
theorem MapS.made (w : World) : MapS (w.alloc (.map #[] 0)) w.heap.size 0 (fun _ => none) :=
  ⟨_, World.ownsMap_made w Tryz.prog 9 R, isMap_empty, fun c => ⟨rfl, fun z => by simp [DataW.atKey]⟩⟩
theorem MapS.kept {w w' : World} {b n : Nat} {f : ByteArray → Option Value} {row : Option Nat} (h : MapS w b n f) (hg : w.grownBy w' row) (hne : some b ≠ row) : MapS w' b n f :=
  let ⟨D, h1, h2⟩ := h; ⟨D, h1.kept hg hne, h2⟩
theorem MapS.lt {w : World} {b n : Nat} {f : ByteArray → Option Value} (h : MapS w b n f) : b < w.heap.size := let ⟨_, h1, _⟩ := h; h1.lt
theorem MapS.below {w w' : World} {b n : Nat} {f : ByteArray → Option Value} (h : MapS w b n f) (hb : Below w.heap.size w w') : MapS w' b n f :=
  h.kept (row := none) ⟨hb.os, hb.tape, hb.output, hb.size, fun k hk _ => hb.block k hk⟩ (by simp)
/-- 'v, ok := m[s]'. -/
theorem MapS.look {w : World} {b n : Nat} {f : ByteArray → Option Value} (h : MapS w b n f) {t e : TypeId} (ht : Tryz.prog.underlying t = some (.map 9 e)) {z : Value} (hz : (zeroValue e).run Tryz.prog w = .ok z w) (s : ByteArray) (hs : s.size ≤ maxLen) :
    (Instr.lookup t (.map (some b)) (.string s) true).run Tryz.prog w = .ok (.tuple #[(f s).getD z, .bool (f s).isSome]) w := by
  obtain ⟨D, h1, _, h3⟩ := h
  obtain ⟨v, ps, hr, hv⟩ := h1.look_ok keyed9 ht hz (zd := .held z) (zp := []) rfl (WideMaps.keyOf_string_mk Tryz.underlying9 hs)
  rw [show (Lit.string s.data.toList) = sk s from rfl, (h3 s).2 z] at hv
  have e1 : v = (f s).getD z := by
    simp only [R, Option.some.injEq, Prod.mk.injEq, DataW.held.injEq] at hv; exact hv.1
  rw [hr, e1, show (Lit.string s.data.toList) = sk s from rfl, (h3 s).1]
/-- 'm[s] = v'. -/
theorem MapS.put {w : World} {b n : Nat} {f : ByteArray → Option Value} (h : MapS w b n f) {t e : TypeId} (ht : Tryz.prog.underlying t = some (.map 9 e)) (hn : n < maxLen) (s : ByteArray) (hs : s.size ≤ maxLen) (v : Value) :
    ∃ w', (Instr.mapUpdate t (.map (some b)) (.string s) v).run Tryz.prog w = .ok () w' ∧ MapS w' b (n + 1) (fun d => if d = s then some v else f d) ∧ w.grownBy w' (some b) := by
  obtain ⟨D, h1, h2, h3⟩ := h
  obtain ⟨w', hr, ho, hg⟩ := h1.update keyed9 ht hn (key := .string s) (val := v) (d := .held v) (ps := []) (WideMaps.keyOf_string_mk Tryz.underlying9 hs) rfl
  refine ⟨w', hr, ⟨_, ho, ho.isMap, fun d => ?_⟩, hg⟩
  have hk : ∀ d, WideAt.IsKeyLit (sk d) := fun d => by simp [WideAt.IsKeyLit]
  rw [show (Lit.string s.data.toList) = sk s from rfl]
  by_cases hd : d = s
  · subst hd
    rw [has_put_same h2 (hk d)]
    refine ⟨by simp, fun z => ?_⟩
    rw [atKey_put_same h2 (hk d)]; simp
  · have hne : sk d ≠ sk s := fun e => hd (skS_inj e)
    simp only [has_put_other hne, if_neg hd]
    exact ⟨(h3 d).1, fun z => by rw [atKey_put_other hne]; exact (h3 d).2 z⟩
end Go.Proofs.YtlekfdkahlobiaaGreatDoor.Mp
