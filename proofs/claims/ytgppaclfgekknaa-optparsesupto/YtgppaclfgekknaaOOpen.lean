/- Arguments that are strings and rows of strings, opened; what the bound on their bulk gives. -/
import Derived.Test.YtgppaclfgekknaaRows
import Derived.ProofKit
import Derived.OpenShut
import Derived.JoinedCond
import Derived.Deep.Strs
import Derived.Test.YtgppaclfgekknaaOParses
import Derived.Test.YtgppaclfgekknaaOAwake
namespace Go.Proofs.Ytgppaclfgekknaa
open Go.ChangeShapes Go.WideShapes Go.ChangeAt Go.RowKit
open Go.ChangeMaps (open_string shut_string)

theorem own : ownKnob Try.prog.godebug = none := by kernel_rfl
theorem laidOut : laidOutB Try.prog = true := by kernel_rfl
theorem cellsStr : Try.prog.cellsOf 9 = 1 := by kernel_rfl

theorem bulk_strs {H : Type} (Sx : Nat → ByteArray) : ∀ n, Rows.uptoBulkAll ((List.range n).map fun i => (DataW.lit (.string (Sx i).data.toList) : DataW H)) = tot ((List.range n).map Sx) + n
  | 0 => rfl
  | n + 1 => by
    rw [List.range_succ, List.map_append, List.map_append]
    have h1 : ∀ a b : List (DataW H), Rows.uptoBulkAll (a ++ b) = Rows.uptoBulkAll a + Rows.uptoBulkAll b := by
      intro a b
      induction a with
      | nil => simp [Rows.uptoBulkAll]
      | cons x a ih => simp only [List.cons_append, Rows.uptoBulkAll, ih]; omega
    have h2 : ∀ a b : List ByteArray, tot (a ++ b) = tot a + tot b := by intro a b; simp [tot]
    rw [h1, h2, bulk_strs Sx n]
    have e : (Sx n).data.toList.length = (Sx n).size := rfl
    simp only [List.map_cons, List.map_nil, Rows.uptoBulkAll, Rows.uptoBulk, tot_cons, e]
    simp [tot]; omega

/-- A slice of strings among the arguments. -/
theorem open_row {H : Type} {enc : TypeId × Value → H} {W : World} {base : Nat} {v : Value} {d : DataW H} {ps : List MemPlace}
    (hv : Value.okWide Try.prog W .any base 22 v) (h : DataW.Trod enc Try.prog W 0 (fun _ => true) true 22 v d ps) :
    ∃ ss : List ByteArray, StrsAt W v ss ∧ tot ss + ss.length ≤ Rows.uptoBulk d := by
  obtain ⟨a0, len, cap, rfl⟩ := okWide_slice Try.underlying22 hv
  obtain ⟨fuel, hf⟩ := h
  rcases Deep.open_strs Try.underlying22 Try.underlying9 cellsStr hf with ⟨hcs, hx⟩ | ⟨a, len', cap', m, Sx, hcs, _, hl, hm, hmm, hx, hcell⟩
  · have hcs' : Value.slice a0 len cap = .slice none 0 0 := by simpa [Value.cells] using hcs
    cases hcs'
    exact ⟨[], .inl ⟨rfl, rfl⟩, by simp [tot]⟩
  · have hcs' : Value.slice a0 len cap = .slice (some a) len' cap' := by simpa [Value.cells] using hcs
    cases hcs'
    have hok : len ≤ cap ∧ (cap : Int) ≤ IntKind.i64.max ∧ W.has Try.prog .any base a 9 cap := by
      have h := hv
      simp only [Value.okWide, Cell.okWide, Cell.ok, Try.underlying22] at h
      exact h
    obtain ⟨_, _, _, hspot, row, cells, hshape, _⟩ := hok
    obtain ⟨b, off, spot⟩ := a
    simp only at hspot
    subst hspot
    have hb : b < W.heap.size := by
      rcases Nat.lt_or_ge b W.heap.size with h' | h'
      · exact h'
      · simp [World.shape?, Array.getElem?_eq_none h'] at hshape
    simp only [if_true] at hmm
    have hll : ((List.range len).map Sx).length = len := by simp
    refine ⟨(List.range len).map Sx, .inr ⟨b, off, cap, by rw [hll], ⟨by rw [hll]; exact hl, by unfold maxLen at hm; omega⟩, hb, fun j hj => ?_⟩, ?_⟩
    · rw [hll] at hj
      have := (hcell j (by omega)).1
      rw [add_plain] at this
      rw [this]
      simp [nth, hj]
    · have e : d = _ := congrArg Prod.fst hx
      rw [e, Rows.uptoBulk, hll, bulk_strs]
      omega

theorem u8_of {z : Int} (h : (Lit.int .u8 z).wf = true) : ∃ c : UInt8, z = (c.toNat : Int) := by
  simp [Lit.wf, IntKind.min, IntKind.max, IntKind.signed, IntKind.bits] at h
  refine ⟨UInt8.ofNat z.toNat, ?_⟩
  have e3 : (UInt8.ofNat z.toNat).toNat = z.toNat := Nat.mod_eq_of_lt (by omega)
  rw [e3]; omega
end Go.Proofs.Ytgppaclfgekknaa
