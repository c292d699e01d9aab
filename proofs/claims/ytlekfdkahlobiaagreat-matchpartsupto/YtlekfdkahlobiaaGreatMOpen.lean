/- Arguments that are bytes, opened; what the bound on their bulk gives. -/
import Derived.Test.YtlekfdkahlobiaaGreatRows
import Derived.ProofKit
import Derived.OpenShut
import Derived.JoinedCond
import Derived.Deep.DeepHandedRow
import Derived.Deep.Strs
import Derived.Deep.SlicePairs
import Derived.Shelf.Vars
import Derived.Test.YtlekfdkahlobiaaGreatMWalkC
import Derived.Test.YtlekfdkahlobiaaGreatMFindC
import Derived.Test.YtlekfdkahlobiaaGreatHLit
import Derived.Test.YtlekfdkahlobiaaGreatJLit
import Derived.Test.YtlekfdkahlobiaaGreatJParts
import Derived.Test.YtlekfdkahlobiaaGreatMTask
namespace Go.Proofs.YtlekfdkahlobiaaGreat.ReLaid
open Go.Proofs.YtlekfdkahlobiaaGreat.Re Go.Proofs.YtlekfdkahlobiaaGreat.Tr
open Go.ChangeShapes Go.WideShapes Go.ChangeAt Go.RowKit
open Go.ChangeMaps (open_string shut_string)

theorem laidOut : laidOutB Tryz.prog = true := by kernel_rfl
theorem cellsU8 : Tryz.prog.cellsOf 5 = 1 := by kernel_rfl
theorem bulk_one {H : Type} (d : DataW H) : 1 ≤ Rows.uptoBulk d := by
  cases d with
  | lit l => cases l <;> simp [Rows.uptoBulk]
  | nil => simp [Rows.uptoBulk]
  | ptr d => simp [Rows.uptoBulk]
  | slice elems spare => simp [Rows.uptoBulk]
  | agg parts => simp [Rows.uptoBulk]
  | iface t d => simp [Rows.uptoBulk]
  | map entries => simp [Rows.uptoBulk]
  | held h => simp [Rows.uptoBulk]
theorem bulk_length {H : Type} (l : List (DataW H)) : l.length ≤ Rows.uptoBulkAll l := by
  induction l with
  | nil => simp [Rows.uptoBulkAll]
  | cons x r ih => have := bulk_one x; simp only [Rows.uptoBulkAll, List.length_cons]; omega
theorem wf_u8 {z : Int} (h : (Lit.int .u8 z).wf = true) : 0 ≤ z ∧ z ≤ 255 := by
  simp [Lit.wf, IntKind.min, IntKind.max, IntKind.signed, IntKind.bits] at h
  omega
set_option maxRecDepth 100000 in
theorem slice_at {W : World} {base t e : Nat} {a : Addr} {len cap : Nat} (ht : Tryz.prog.underlying t = some (.slice e)) (hv : Value.okWide Tryz.prog W .any base t (.slice (some a) len cap)) : a.spot = none ∧ a.block < W.heap.size := by
  have hok : len ≤ cap ∧ (cap : Int) ≤ IntKind.i64.max ∧ W.has Tryz.prog .any base a e cap := by
    have h := hv
    simp only [Value.okWide, Cell.okWide, Cell.ok, ht] at h
    exact h
  obtain ⟨_, _, _, hspot, row, cells, hshape, _⟩ := hok
  refine ⟨hspot, ?_⟩
  rcases Nat.lt_or_ge a.block W.heap.size with h' | h'
  · exact h'
  · simp [World.shape?, Array.getElem?_eq_none h'] at hshape

set_option maxRecDepth 100000 in
/-- Bytes among the arguments. -/
theorem open_bytes {H : Type} {enc : TypeId × Value → H} {W : World} {base : Nat} {v : Value} {d : DataW H} {ps : List MemPlace}
    (hv : Value.okWide Tryz.prog W .any base 22 v) (h : DataW.Trod enc Tryz.prog W 0 (fun _ => true) true 22 v d ps) :
    ∃ bs : List UInt8, bs.length ≤ Rows.uptoBulk d ∧ ByAt W v bs := by
  obtain ⟨a0, len, cap, rfl⟩ := okWide_slice Tryz.underlying22 hv
  obtain ⟨fuel, hf⟩ := h
  rcases open_ints Tryz.underlying22 Tryz.underlying5 cellsU8 hf with ⟨hcs, hx⟩ | ⟨a, len', cap', zs, hcs, _, hl, hm, hz, hx, hcell, hwz⟩
  · have hcs' : Value.slice a0 len cap = .slice none 0 0 := by simpa [Value.cells] using hcs
    cases hcs'
    exact ⟨[], Nat.zero_le _, .inl ⟨rfl, rfl⟩⟩
  · have hcs' : Value.slice a0 len cap = .slice (some a) len' cap' := by simpa [Value.cells] using hcs
    cases hcs'
    obtain ⟨hspot, hb⟩ := slice_at Tryz.underlying22 hv
    obtain ⟨b, off, spot⟩ := a
    simp only at hspot hb
    subst hspot
    simp only [if_true] at hz
    have hlen : ((zs.take len).map fun z => UInt8.ofNat z.toNat).length = len := by rw [List.length_map, List.length_take]; omega
    refine ⟨(zs.take len).map fun z => UInt8.ofNat z.toNat, ?_, .inr ⟨b, off, cap, by rw [hlen], ⟨by rw [hlen]; exact hl, by unfold maxLen at hm; omega⟩, hb, fun j hj => ?_⟩⟩
    · have e : d = .slice (lits .u8 (zs.take len)) (lits .u8 (zs.drop len)) := congrArg Prod.fst hx
      rw [e, Rows.uptoBulk, hlen]
      have := bulk_length (lits (H := H) .u8 (zs.take len))
      have hl2 : (lits (H := H) .u8 (zs.take len)).length = len := by simp [lits]; omega
      omega
    · rw [hlen] at hj
      have hc := hcell j (by omega)
      rw [add_plain] at hc
      have hjz : j < zs.length := by omega
      have e : (((zs.take len).map fun z => UInt8.ofNat z.toNat)[j]?.getD 0) = UInt8.ofNat (zs[j]).toNat := by
        rw [List.getElem?_map, List.getElem?_take, if_pos hj, List.getElem?_eq_getElem hjz]; rfl
      have hw := wf_u8 (hwz zs[j] (List.getElem_mem hjz))
      rw [hc, e]
      have e2 : zs.getD j 0 = zs[j] := by simp [List.getD, hjz]
      rw [e2]
      have e3 : (UInt8.ofNat (zs[j]).toNat).toNat = (zs[j]).toNat := Nat.mod_eq_of_lt (by omega)
      rw [e3, Int.toNat_of_nonneg hw.1]


theorem wf_i64 {z : Int} (h : (Lit.int .i64 z).wf = true) : IntKind.i64.min ≤ z ∧ z ≤ IntKind.i64.max := by
  simp [Lit.wf, IntKind.min, IntKind.max, IntKind.signed, IntKind.bits] at h ⊢
  omega
/-- What is known of the program's variables. -/
def AmX (w : World) : Prop := 0 < w.heap.size ∧ ∃ m, w.cell? ⟨0, 0, none⟩ = some (.int .i64 m)
/-- An expression in memory, its numbers in order. -/
def ReO (w : World) (v : Value) (x : Nd) : Prop := ReP w v x ∧ x.ord = true
theorem own : ownKnob Tryz.prog.godebug = none := by kernel_rfl
theorem amx {W : World} (h : W.ShapedOpen Tryz.prog) : AmX W := by
  have hm : ∃ m, W.cell? ⟨0, 0, none⟩ = some (.int .i64 m) :=
    Go.Proofs.cell_of_shapedOpen_int (zero := #[.int .i64 0]) (t := 3) h (of_decide_eq_true (by kernel_rfl)) (by kernel_rfl) rfl (by kernel_rfl) (by kernel_rfl) Tryz.underlying3
  obtain ⟨m, hm⟩ := hm
  exact ⟨World.block_lt_of_cell? W _ hm, m, hm⟩
theorem parse_ord {ext fold : Bool} {s : List UInt8} {x : Nd} (h : parseS ext fold s = .ok x) : x.ord = true := by
  unfold parseS at h
  split at h
  · cases h
  · rename_i hr
    split at h
    · cases h
    · cases h
      exact read_ord hr
theorem says_m : SaysM AmX ReO PgP := {
  keep := fun _ _ h hB => let ⟨h1, m, h2⟩ := h; ⟨Nat.lt_of_lt_of_le h1 hB.size, m, cell_below hB h2⟩
  keepR := fun _ _ _ _ h hB => ⟨h.1.keep hB, h.2⟩
  keepP := fun _ _ _ _ h hB => h.keep hB
  parse := fun s ext fold w hA hs => by
    obtain ⟨hG, m, hm⟩ := hA
    have hp := parse_c (w := w) (m := m) s.data.toList ext fold (by have e : s.data.toList.length = s.size := rfl; omega) hG hm
    unfold PsOut
    refine hp.mono fun e w' h => ?_
    cases hR : parseS ext fold s.data.toList with
    | ok x =>
      rw [hR] at h
      obtain ⟨⟨v, h1, h2, h3⟩, h4⟩ := h
      exact ⟨⟨v, h1, h2, h3, parse_ord hR⟩, h4⟩
    | error n => rw [hR] at h; exact h
  new := fun _ _ _ _ _ hr hw hz => new_p hr.1 hr.2 hw hz
  find := fun _ _ _ _ _ _ _ _ hp _ _ hb hl hf => find_p hp hb hl hf }
theorem lit_ord (fold : Bool) (s : List UInt8) : (literalS fold s).ord = true := by
  unfold literalS
  exact ord_join (.inl rfl) fun x hx => by obtain ⟨c, _, rfl⟩ := List.mem_map.1 hx; rfl
theorem lit_says : LitC AmX ReO := fun s fold w _ hs => (literal_c s fold w hs).mono fun _ _ ⟨v, h1, h2, h3, h4⟩ => ⟨v, h1, h2, ⟨h3, lit_ord fold _⟩, h4⟩
end Go.Proofs.YtlekfdkahlobiaaGreat.ReLaid
