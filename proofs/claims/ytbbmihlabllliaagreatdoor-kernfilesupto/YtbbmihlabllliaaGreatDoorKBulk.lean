/- The arguments, opened; a world for the witness; what the bound on their bulk gives. -/
import Derived.Test.YtbbmihlabllliaaGreatDoorRows
import Derived.ProofKit
import Derived.Deep.DeepHandedRow
import Derived.Lib.LaidTab
import Derived.Deep.SlicePairs
import Derived.OpenShut
import Derived.Test.YtbbmihlabllliaaGreatDoorKPre
namespace Go.Proofs.YtbbmihlabllliaaGreatDoor
open Go.ChangeShapes Go.WideShapes Go.ChangeAt Go.RowKit
open Go.WideMaps Go.WideElems

theorem own : ownKnob Tryz.prog.godebug = none := by kernel_rfl
def cellOf : DataW Unit → Value
  | .lit (.int k z) => .int k z
  | _ => undef
def cellsOfData : DataW Unit → Array Value
  | .agg l => (l.flatMap fun | .agg l2 => l2.map cellOf | d => [cellOf d]).toArray
  | _ => #[]
def layCells (d : DataW Unit) : Obj → Obj
  | .cells _ t frozen => .cells (cellsOfData d) t frozen
  | o => o
/-- Both tables laid. -/
def layAll (w : World) : World :=
  { w with heap := (w.heap.modify 1 (layCells Rows.laid_unicode_utf8_first)).modify 2 (layCells Rows.laid_unicode_utf8_acceptRanges) }
theorem laid_met (os : Os) : laidMet Tryz.prog Rows.kernPipesUptoRow.laid ((layAll (World.holding Tryz.prog os ⟨#[], #[], []⟩)).forCall (fun _ _ => 0) ⟨#[], #[Value.slice none 0 0, Value.slice none 0 0, Value.slice none 0 0], []⟩).memory :=
  laidMet_of_run' 8 (by kernel_rfl) (by kernel_rfl)

theorem cells5 : Tryz.prog.cellsOf 5 = 1 := by kernel_rfl
theorem cells3 : Tryz.prog.cellsOf 3 = 1 := by kernel_rfl
theorem cellsF : Tryz.prog.cellsOf 39 = 2 := by kernel_rfl
theorem laidOut : laidOutB Tryz.prog = true := by kernel_rfl

theorem bulk_one {H : Type} (d : DataW H) : 1 ≤ Rows.uptoBulk d := by
  cases d with
  | lit l => cases l <;> simp [Rows.uptoBulk]
  | nil => simp [Rows.uptoBulk]
  | ptr d => simp [Rows.uptoBulk]
  | slice elems spare => simp [Rows.uptoBulk]
  | agg parts => simp [Rows.uptoBulk]
  | iface t d => simp [Rows.uptoBulk]
  | map entries => simp [Rows.uptoBulk]
  | held h => simp [Rows.uptoBulk]
theorem bulk_length {H : Type} (l : List (DataW H)) : l.length ≤ Rows.uptoBulkAll l := by
  induction l with
  | nil => simp [Rows.uptoBulkAll]
  | cons x r ih => have := bulk_one x; simp only [Rows.uptoBulkAll, List.length_cons]; omega
theorem wf_u8 {z : Int} (h : (Lit.int .u8 z).wf = true) : 0 ≤ z ∧ z ≤ 255 := by
  simp [Lit.wf, IntKind.min, IntKind.max, IntKind.signed, IntKind.bits] at h
  omega

set_option maxRecDepth 100000 in
theorem slice_at {W : World} {base t e : Nat} {a : Addr} {len cap : Nat} (ht : Tryz.prog.underlying t = some (.slice e)) (hv : Value.okWide Tryz.prog W .any base t (.slice (some a) len cap)) : a.spot = none ∧ a.block < W.heap.size := by
  have hok : len ≤ cap ∧ (cap : Int) ≤ IntKind.i64.max ∧ W.has Tryz.prog .any base a e cap := by
    have h := hv
    simp only [Value.okWide, Cell.okWide, Cell.ok, ht] at h
    exact h
  obtain ⟨_, _, _, hspot, row, cells, hshape, _⟩ := hok
  refine ⟨hspot, ?_⟩
  rcases Nat.lt_or_ge a.block W.heap.size with h' | h'
  · exact h'
  · simp [World.shape?, Array.getElem?_eq_none h'] at hshape

set_option maxRecDepth 100000 in
theorem open_bytes {H : Type} {enc : TypeId × Value → H} {W : World} {base : Nat} {v : Value} {d : DataW H} {ps : List MemPlace}
    (hv : Value.okWide Tryz.prog W .any base 33 v) (h : DataW.Trod enc Tryz.prog W 0 (fun _ => true) true 33 v d ps) :
    ∃ bs : List UInt8, bs.length ≤ Rows.uptoBulk d ∧ Bv W.heap.size W v bs := by
  obtain ⟨a0, len, cap, rfl⟩ := okWide_slice Tryz.underlying33 hv
  obtain ⟨fuel, hf⟩ := h
  rcases open_ints Tryz.underlying33 Tryz.underlying5 cells5 hf with ⟨hcs, hx⟩ | ⟨a, len', cap', zs, hcs, _, hl, hm, hz, hx, hcell, hwz⟩
  · have hcs' : Value.slice a0 len cap = .slice none 0 0 := by simpa [Value.cells] using hcs
    cases hcs'
    exact ⟨[], Nat.zero_le _, .inl ⟨rfl, rfl⟩⟩
  · have hcs' : Value.slice a0 len cap = .slice (some a) len' cap' := by simpa [Value.cells] using hcs
    cases hcs'
    obtain ⟨hspot, hb⟩ := slice_at Tryz.underlying33 hv
    obtain ⟨b, off, spot⟩ := a
    simp only at hspot hb
    subst hspot
    simp only [if_true] at hz
    have hlen : ((zs.take len).map fun z => UInt8.ofNat z.toNat).length = len := by rw [List.length_map, List.length_take]; omega
    refine ⟨(zs.take len).map fun z => UInt8.ofNat z.toNat, ?_, .inr ⟨b, off, cap, by rw [hlen], by rw [hlen]; exact hl, hb, fun j hj => ?_⟩⟩
    · have e : d = .slice (lits .u8 (zs.take len)) (lits .u8 (zs.drop len)) := congrArg Prod.fst hx
      rw [e, Rows.uptoBulk, hlen]
      have := bulk_length (lits (H := H) .u8 (zs.take len))
      have hl2 : (lits (H := H) .u8 (zs.take len)).length = len := by simp [lits]; omega
      omega
    · rw [hlen] at hj
      have hc := hcell j (by omega)
      rw [add_plain] at hc
      have hjz : j < zs.length := by omega
      have e : (((zs.take len).map fun z => UInt8.ofNat z.toNat)[j]?.getD 0) = UInt8.ofNat (zs[j]).toNat := by
        rw [List.getElem?_map, List.getElem?_take, if_pos hj, List.getElem?_eq_getElem hjz]; rfl
      have hw := wf_u8 (hwz zs[j] (List.getElem_mem hjz))
      rw [hc, e]
      have e2 : zs.getD j 0 = zs[j] := by simp [List.getD, hjz]
      rw [e2]
      have e3 : (UInt8.ofNat (zs[j]).toNat).toNat = (zs[j]).toNat := Nat.mod_eq_of_lt (by omega)
      rw [e3, Int.toNat_of_nonneg hw.1]

set_option maxRecDepth 100000 in
theorem open_nums {H : Type} {enc : TypeId × Value → H} {W : World} {base : Nat} {v : Value} {d : DataW H} {ps : List MemPlace}
    (hv : Value.okWide Tryz.prog W .any base 37 v) (h : DataW.Trod enc Tryz.prog W 0 (fun _ => true) true 37 v d ps) :
    ∃ ns : List Int, ns.length ≤ Rows.uptoBulk d ∧ Zs W.heap.size W v ns := by
  obtain ⟨a0, len, cap, rfl⟩ := okWide_slice Tryz.underlying37 hv
  obtain ⟨fuel, hf⟩ := h
  rcases open_ints Tryz.underlying37 Tryz.underlying3 cells3 hf with ⟨hcs, hx⟩ | ⟨a, len', cap', zs, hcs, _, hl, hm, hz, hx, hcell, hwz⟩
  · have hcs' : Value.slice a0 len cap = .slice none 0 0 := by simpa [Value.cells] using hcs
    cases hcs'
    exact ⟨[], Nat.zero_le _, none, 0, rfl, .inl rfl⟩
  · have hcs' : Value.slice a0 len cap = .slice (some a) len' cap' := by simpa [Value.cells] using hcs
    cases hcs'
    obtain ⟨hspot, hb⟩ := slice_at Tryz.underlying37 hv
    obtain ⟨b, off, spot⟩ := a
    simp only at hspot hb
    subst hspot
    simp only [if_true] at hz
    have hlen : (zs.take len).length = len := by rw [List.length_take]; omega
    refine ⟨zs.take len, ?_, _, cap, by rw [hlen], .inr ⟨b, off, rfl, hb, fun j hj => ?_⟩⟩
    · have e : d = .slice (lits .i64 (zs.take len)) (lits .i64 (zs.drop len)) := congrArg Prod.fst hx
      rw [e, Rows.uptoBulk, hlen]
      have := bulk_length (lits (H := H) .i64 (zs.take len))
      have hl2 : (lits (H := H) .i64 (zs.take len)).length = len := by simp [lits]; omega
      omega
    · rw [hlen] at hj
      have hc := hcell j (by omega)
      rw [add_plain] at hc
      have hjz : j < zs.length := by omega
      rw [hc, List.getElem?_take, if_pos hj, List.getElem?_eq_getElem hjz]
      simp [List.getD, hjz]

def num : Value → Int | .int _ n => n | _ => 0
set_option maxRecDepth 100000 in
theorem open_faults {H : Type} {enc : TypeId × Value → H} {W : World} {base : Nat} {v : Value} {d : DataW H} {ps : List MemPlace} (h00 : 0 < W.heap.size)
    (hv : Value.okWide Tryz.prog W .any base 23 v) (h : DataW.Trod enc Tryz.prog W 0 (fun _ => true) true 23 v d ps) (hbk : Rows.uptoBulk d ≤ 1048576) :
    ∃ fb l, l.length ≤ 1048576 ∧ Fl W v fb l ∧ fb < W.heap.size := by
  obtain ⟨a0, len, cap, rfl⟩ := okWide_slice Tryz.underlying23 hv
  obtain ⟨fuel, hf⟩ := h
  rcases Deep.open_slice_pairs Tryz.underlying23 Tryz.underlying39 cellsF rfl rfl cells3 cells3 hf with ⟨hcs, hx⟩ | ⟨a, len', cap', mm, nn, V0, V1, D0, D1, P0, P1, hcs, _, hl, hm, hmm, hx, hcell⟩
  · have hcs' : Value.slice a0 len cap = .slice none 0 0 := by simpa [Value.cells] using hcs
    cases hcs'
    exact ⟨0, [], by decide, ⟨none, 0, rfl, Nat.le_refl _, by decide, .inl ⟨rfl, rfl, rfl⟩⟩, h00⟩
  · have hcs' : Value.slice a0 len cap = .slice (some a) len' cap' := by simpa [Value.cells] using hcs
    cases hcs'
    obtain ⟨hspot, hb⟩ := slice_at Tryz.underlying23 hv
    obtain ⟨b, off, spot⟩ := a
    simp only at hspot hb
    subst hspot
    simp only [if_true] at hmm
    have hlen : ((List.range len).map fun i => (num (V0 i), num (V1 i))).length = len := by simp
    have hbul : len ≤ 1048576 := by
      have e : d = .slice ((List.range len).map fun i => .agg [D0 i, D1 i]) ((List.range (mm - len)).map fun j => .agg [D0 (len + j), D1 (len + j)]) := congrArg Prod.fst hx
      rw [e, Rows.uptoBulk] at hbk
      have := bulk_length ((List.range len).map fun i => (DataW.agg [D0 i, D1 i] : DataW H))
      simp at this
      omega
    refine ⟨b, _, by rw [hlen]; exact hbul, ⟨_, cap, by rw [hlen], by rw [hlen]; exact hl, by rw [hlen]; omega, .inr ⟨off, rfl, fun j hj => ?_⟩⟩, hb⟩
    rw [hlen] at hj
    obtain ⟨c0, c1, g0, g1⟩ := hcell j (by omega)
    obtain ⟨n0, e0, _⟩ := DataW.trod_int Tryz.underlying3 g0
    obtain ⟨n1, e1, _⟩ := DataW.trod_int Tryz.underlying3 g1
    simp only [List.cons.injEq, and_true] at e0 e1
    rw [add_plain] at c0 c1
    have e : ((List.range len).map fun i => (num (V0 i), num (V1 i)))[j]?.getD (0, 0) = (num (V0 j), num (V1 j)) := by simp [hj]
    rw [e, e0, e1]
    rw [e0] at c0
    rw [e1] at c1
    exact ⟨c0, by rw [Nat.add_assoc]; exact c1⟩
end Go.Proofs.YtbbmihlabllliaaGreatDoor
