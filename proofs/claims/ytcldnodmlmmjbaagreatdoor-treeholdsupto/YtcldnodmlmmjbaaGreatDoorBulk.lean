/- A slice of bytes that came in, opened; and what the bound on the arguments' bulk gives. -/
import Derived.Test.YtcldnodmlmmjbaaGreatDoorWit
import Derived.Test.YtcldnodmlmmjbaaGreatDoorFile
import Derived.OpenShut
namespace Go.Proofs.YtcldnodmlmmjbaaGreatDoor
open Go.ChangeShapes Go.WideShapes Go.ChangeAt Go.RowKit
open Go.WideMaps Go.WideElems

theorem cells5 : Tryz.prog.cellsOf 5 = 1 := by kernel_rfl
theorem laidOut : laidOutB Tryz.prog = true := by kernel_rfl

theorem bulk_one {H : Type} (d : DataW H) : 1 ≤ Rows.uptoBulk d := by
  cases d with
  | lit l => cases l <;> simp [Rows.uptoBulk]
  | nil => simp [Rows.uptoBulk]
  | ptr d => simp [Rows.uptoBulk]
  | slice elems spare => simp [Rows.uptoBulk]
  | agg parts => simp [Rows.uptoBulk]
  | iface t d => simp [Rows.uptoBulk]
  | map entries => simp [Rows.uptoBulk]
  | held h => simp [Rows.uptoBulk]
theorem bulk_length {H : Type} (l : List (DataW H)) : l.length ≤ Rows.uptoBulkAll l := by
  induction l with
  | nil => simp [Rows.uptoBulkAll]
  | cons x r ih => have := bulk_one x; simp only [Rows.uptoBulkAll, List.length_cons]; omega

theorem wf_u8 {z : Int} (h : (Lit.int .u8 z).wf = true) : 0 ≤ z ∧ z ≤ 255 := by
  simp [Lit.wf, IntKind.min, IntKind.max, IntKind.signed, IntKind.bits] at h
  omega

set_option maxRecDepth 100000 in
/-- A byte slice among the arguments: it holds bytes, in a block that is there; no more of them than its bulk. -/
theorem open_bytes {H : Type} {enc : TypeId × Value → H} {W : World} {base : Nat} {v : Value} {d : DataW H} {ps : List MemPlace}
    (hv : Value.okWide Tryz.prog W .any base 33 v) (h : DataW.Trod enc Tryz.prog W 0 (fun _ => true) true 33 v d ps) :
    ∃ bs : List UInt8, bs.length ≤ Rows.uptoBulk d ∧ Src W.heap.size W v bs := by
  obtain ⟨a0, len, cap, rfl⟩ := okWide_slice Tryz.underlying33 hv
  obtain ⟨fuel, hf⟩ := h
  rcases open_ints Tryz.underlying33 Tryz.underlying5 cells5 hf with ⟨hcs, hx⟩ | ⟨a, len', cap', zs, hcs, _, hl, hm, hz, hx, hcell, hwz⟩
  · have hcs' : Value.slice a0 len cap = .slice none 0 0 := by simpa [Value.cells] using hcs
    cases hcs'
    exact ⟨[], Nat.zero_le _, none, 0, rfl, Nat.le_refl _, .inl rfl⟩
  · have hcs' : Value.slice a0 len cap = .slice (some a) len' cap' := by simpa [Value.cells] using hcs
    cases hcs'
    have hok : len ≤ cap ∧ (cap : Int) ≤ IntKind.i64.max ∧ W.has Tryz.prog .any base a 5 cap := by
      have h := hv
      simp only [Value.okWide, Cell.okWide, Cell.ok, Tryz.underlying33] at h
      exact h
    obtain ⟨_, hcap, _, hspot, row, cells, hshape, _⟩ := hok
    obtain ⟨b, off, spot⟩ := a
    simp only at hspot
    subst hspot
    have hb : b < W.heap.size := by
      rcases Nat.lt_or_ge b W.heap.size with h' | h'
      · exact h'
      · simp [World.shape?, Array.getElem?_eq_none h'] at hshape
    simp only [if_true] at hz
    have hlen : ((zs.take len).map fun z => UInt8.ofNat z.toNat).length = len := by rw [List.length_map, List.length_take]; omega
    refine ⟨(zs.take len).map fun z => UInt8.ofNat z.toNat, ?_, some ⟨b, off, none⟩, cap, by rw [hlen], by rw [hlen]; exact hl, .inr ⟨b, off, rfl, hb, fun j hj => ?_⟩⟩
    · have e : d = .slice (lits .u8 (zs.take len)) (lits .u8 (zs.drop len)) := congrArg Prod.fst hx
      rw [e, Rows.uptoBulk, hlen]
      have := bulk_length (lits (H := H) .u8 (zs.take len))
      have hl2 : (lits (H := H) .u8 (zs.take len)).length = len := by simp [lits]; omega
      omega
    · rw [hlen] at hj
      have hc := hcell j (by omega)
      rw [add_plain] at hc
      have hjz : j < zs.length := by omega
      have e : (((zs.take len).map fun z => UInt8.ofNat z.toNat)[j]?.getD 0) = UInt8.ofNat (zs[j]).toNat := by
        rw [List.getElem?_map, List.getElem?_take, if_pos hj, List.getElem?_eq_getElem hjz]; rfl
      have hw := wf_u8 (hwz zs[j] (List.getElem_mem hjz))
      rw [hc, e]
      have e2 : zs.getD j 0 = zs[j] := by simp [List.getD, hjz]
      rw [e2]
      have e3 : (UInt8.ofNat (zs[j]).toNat).toNat = (zs[j]).toNat := Nat.mod_eq_of_lt (by omega)
      rw [e3, Int.toNat_of_nonneg hw.1]
end Go.Proofs.YtcldnodmlmmjbaaGreatDoor
