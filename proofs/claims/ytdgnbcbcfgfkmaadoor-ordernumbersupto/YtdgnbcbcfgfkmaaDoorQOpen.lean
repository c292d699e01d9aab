/- Arguments that are options, bytes, rows of strings and numbers, opened; what the bound on their bulk gives. -/
import Derived.Test.YtdgnbcbcfgfkmaaDoorRows
import Derived.ProofKit
import Derived.OpenShut
import Derived.JoinedCond
import Derived.Deep.Strs
import Derived.Deep.SlicePairs
import Derived.Test.YtdgnbcbcfgfkmaaDoorQFields
namespace Go.Proofs.YtdgnbcbcfgfkmaaDoor
open Go.ChangeShapes Go.WideShapes Go.ChangeAt Go.RowKit
open Go.ChangeMaps (open_string shut_string)

theorem own : ownKnob Tryd.prog.godebug = none := by kernel_rfl
theorem laidOut : laidOutB Tryd.prog = true := by kernel_rfl
theorem cellsStr : Tryd.prog.cellsOf 9 = 1 := by kernel_rfl
theorem cellsU8 : Tryd.prog.cellsOf 5 = 1 := by kernel_rfl
theorem cellsOpt : Tryd.prog.cellsOf 63 = 2 := by kernel_rfl

theorem bulkAll_append {H : Type} (a b : List (DataW H)) : Rows.uptoBulkAll (a ++ b) = Rows.uptoBulkAll a + Rows.uptoBulkAll b := by
  induction a with
  | nil => simp [Rows.uptoBulkAll]
  | cons x a ih => simp only [List.cons_append, Rows.uptoBulkAll, ih]; omega
theorem bulk_strs {H : Type} (Sx : Nat → ByteArray) : ∀ n, Rows.uptoBulkAll ((List.range n).map fun i => (DataW.lit (.string (Sx i).data.toList) : DataW H)) = tot ((List.range n).map Sx) + n
  | 0 => rfl
  | n + 1 => by
    rw [List.range_succ, List.map_append, List.map_append]
    have h2 : ∀ a b : List ByteArray, tot (a ++ b) = tot a + tot b := by intro a b; simp [tot]
    rw [bulkAll_append, h2, bulk_strs Sx n]
    have e : (Sx n).data.toList.length = (Sx n).size := rfl
    simp only [List.map_cons, List.map_nil, Rows.uptoBulkAll, Rows.uptoBulk, tot_cons, e]
    simp [tot]; omega
theorem bulk_one {H : Type} (d : DataW H) : 1 ≤ Rows.uptoBulk d := by
  cases d with
  | lit l => cases l <;> simp [Rows.uptoBulk]
  | nil => simp [Rows.uptoBulk]
  | ptr d => simp [Rows.uptoBulk]
  | slice elems spare => simp [Rows.uptoBulk]
  | agg parts => simp [Rows.uptoBulk]
  | iface t d => simp [Rows.uptoBulk]
  | map entries => simp [Rows.uptoBulk]
  | held h => simp [Rows.uptoBulk]
theorem bulk_length {H : Type} (l : List (DataW H)) : l.length ≤ Rows.uptoBulkAll l := by
  induction l with
  | nil => simp [Rows.uptoBulkAll]
  | cons x r ih => have := bulk_one x; simp only [Rows.uptoBulkAll, List.length_cons]; omega
theorem bulk_mem {H : Type} {x : DataW H} : ∀ {l : List (DataW H)}, x ∈ l → Rows.uptoBulk x ≤ Rows.uptoBulkAll l
  | y :: r, h => by
    simp only [Rows.uptoBulkAll]
    rcases List.mem_cons.1 h with rfl | h
    · omega
    · have := bulk_mem h; omega
theorem wf_u8 {z : Int} (h : (Lit.int .u8 z).wf = true) : 0 ≤ z ∧ z ≤ 255 := by
  simp [Lit.wf, IntKind.min, IntKind.max, IntKind.signed, IntKind.bits] at h
  omega
theorem i64_ends {z : Int} (h : (Lit.int .i64 z).wf = true) : -9223372036854775808 ≤ z ∧ z ≤ 9223372036854775807 := by
  simp [Lit.wf, IntKind.min, IntKind.max, IntKind.signed, IntKind.bits] at h
  omega
theorem u8_of {z : Int} (h : (Lit.int .u8 z).wf = true) : ∃ c : UInt8, z = (c.toNat : Int) := by
  have h := wf_u8 h
  refine ⟨UInt8.ofNat z.toNat, ?_⟩
  have e3 : (UInt8.ofNat z.toNat).toNat = z.toNat := Nat.mod_eq_of_lt (by omega)
  rw [e3]; omega
set_option maxRecDepth 100000 in
theorem slice_at {W : World} {base t e : Nat} {a : Addr} {len cap : Nat} (ht : Tryd.prog.underlying t = some (.slice e)) (hv : Value.okWide Tryd.prog W .any base t (.slice (some a) len cap)) : a.spot = none ∧ a.block < W.heap.size := by
  have hok : len ≤ cap ∧ (cap : Int) ≤ IntKind.i64.max ∧ W.has Tryd.prog .any base a e cap := by
    have h := hv
    simp only [Value.okWide, Cell.okWide, Cell.ok, ht] at h
    exact h
  obtain ⟨_, _, _, hspot, row, cells, hshape, _⟩ := hok
  refine ⟨hspot, ?_⟩
  rcases Nat.lt_or_ge a.block W.heap.size with h' | h'
  · exact h'
  · simp [World.shape?, Array.getElem?_eq_none h'] at hshape

set_option maxRecDepth 100000 in
/-- A slice of strings among the arguments. -/
theorem open_row {H : Type} {enc : TypeId × Value → H} {W : World} {base : Nat} {v : Value} {d : DataW H} {ps : List MemPlace}
    (hv : Value.okWide Tryd.prog W .any base 38 v) (h : DataW.Trod enc Tryd.prog W 0 (fun _ => true) true 38 v d ps) :
    ∃ ss : List ByteArray, StrsAt W v ss ∧ tot ss + ss.length ≤ Rows.uptoBulk d := by
  obtain ⟨a0, len, cap, rfl⟩ := okWide_slice Tryd.underlying38 hv
  obtain ⟨fuel, hf⟩ := h
  rcases Deep.open_strs Tryd.underlying38 Tryd.underlying9 cellsStr hf with ⟨hcs, hx⟩ | ⟨a, len', cap', m, Sx, hcs, _, hl, hm, hmm, hx, hcell⟩
  · have hcs' : Value.slice a0 len cap = .slice none 0 0 := by simpa [Value.cells] using hcs
    cases hcs'
    exact ⟨[], .inl ⟨rfl, rfl⟩, by simp [tot]⟩
  · have hcs' : Value.slice a0 len cap = .slice (some a) len' cap' := by simpa [Value.cells] using hcs
    cases hcs'
    obtain ⟨hspot, hb⟩ := slice_at Tryd.underlying38 hv
    obtain ⟨b, off, spot⟩ := a
    simp only at hspot hb
    subst hspot
    simp only [if_true] at hmm
    have hll : ((List.range len).map Sx).length = len := by simp
    refine ⟨(List.range len).map Sx, .inr ⟨b, off, cap, by rw [hll], ⟨by rw [hll]; exact hl, by unfold maxLen at hm; omega⟩, hb, fun j hj => ?_⟩, ?_⟩
    · rw [hll] at hj
      have := (hcell j (by omega)).1
      rw [add_plain] at this
      rw [this]
      simp [nth, hj]
    · have e : d = _ := congrArg Prod.fst hx
      rw [e, Rows.uptoBulk, hll, bulk_strs]
      omega
set_option maxRecDepth 100000 in
/-- Bytes among the arguments. -/
theorem open_bytes {H : Type} {enc : TypeId × Value → H} {W : World} {base : Nat} {v : Value} {d : DataW H} {ps : List MemPlace}
    (hv : Value.okWide Tryd.prog W .any base 23 v) (h : DataW.Trod enc Tryd.prog W 0 (fun _ => true) true 23 v d ps) :
    ∃ bs : List UInt8, bs.length ≤ Rows.uptoBulk d ∧ ByAt W v bs := by
  obtain ⟨a0, len, cap, rfl⟩ := okWide_slice Tryd.underlying23 hv
  obtain ⟨fuel, hf⟩ := h
  rcases open_ints Tryd.underlying23 Tryd.underlying5 cellsU8 hf with ⟨hcs, hx⟩ | ⟨a, len', cap', zs, hcs, _, hl, hm, hz, hx, hcell, hwz⟩
  · have hcs' : Value.slice a0 len cap = .slice none 0 0 := by simpa [Value.cells] using hcs
    cases hcs'
    exact ⟨[], Nat.zero_le _, .inl ⟨rfl, rfl⟩⟩
  · have hcs' : Value.slice a0 len cap = .slice (some a) len' cap' := by simpa [Value.cells] using hcs
    cases hcs'
    obtain ⟨hspot, hb⟩ := slice_at Tryd.underlying23 hv
    obtain ⟨b, off, spot⟩ := a
    simp only at hspot hb
    subst hspot
    simp only [if_true] at hz
    have hlen : ((zs.take len).map fun z => UInt8.ofNat z.toNat).length = len := by rw [List.length_map, List.length_take]; omega
    refine ⟨(zs.take len).map fun z => UInt8.ofNat z.toNat, ?_, .inr ⟨b, off, cap, by rw [hlen], ⟨by rw [hlen]; exact hl, by unfold maxLen at hm; omega⟩, hb, fun j hj => ?_⟩⟩
    · have e : d = .slice (lits .u8 (zs.take len)) (lits .u8 (zs.drop len)) := congrArg Prod.fst hx
      rw [e, Rows.uptoBulk, hlen]
      have := bulk_length (lits (H := H) .u8 (zs.take len))
      have hl2 : (lits (H := H) .u8 (zs.take len)).length = len := by simp [lits]; omega
      omega
    · rw [hlen] at hj
      have hc := hcell j (by omega)
      rw [add_plain] at hc
      have hjz : j < zs.length := by omega
      have e : (((zs.take len).map fun z => UInt8.ofNat z.toNat)[j]?.getD 0) = UInt8.ofNat (zs[j]).toNat := by
        rw [List.getElem?_map, List.getElem?_take, if_pos hj, List.getElem?_eq_getElem hjz]; rfl
      have hw := wf_u8 (hwz zs[j] (List.getElem_mem hjz))
      rw [hc, e]
      have e2 : zs.getD j 0 = zs[j] := by simp [List.getD, hjz]
      rw [e2]
      have e3 : (UInt8.ofNat (zs[j]).toNat).toNat = (zs[j]).toNat := Nat.mod_eq_of_lt (by omega)
      rw [e3, Int.toNat_of_nonneg hw.1]
set_option maxRecDepth 100000 in
/-- Options among the arguments. -/
theorem open_opts {H : Type} {enc : TypeId × Value → H} {W : World} {base : Nat} {v : Value} {d : DataW H} {ps : List MemPlace}
    (hv : Value.okWide Tryd.prog W .any base 22 v) (h : DataW.Trod enc Tryd.prog W 0 (fun _ => true) true 22 v d ps) :
    ∃ l : Opts, l.length ≤ Rows.uptoBulk d ∧ (∀ q ∈ l, q.2.size ≤ Rows.uptoBulk d) ∧ OpAt W v l := by
  obtain ⟨a0, len, cap, rfl⟩ := okWide_slice Tryd.underlying22 hv
  obtain ⟨fuel, hf⟩ := h
  rcases Deep.open_slice_pairs Tryd.underlying22 Tryd.underlying63 cellsOpt rfl rfl cellsU8 cellsStr hf with ⟨hcs, hx⟩ | ⟨a, len', cap', mm, nn, V0, V1, D0, D1, P0, P1, hcs, _, hl, hm, hmm, hx, hcell⟩
  · have hcs' : Value.slice a0 len cap = .slice none 0 0 := by simpa [Value.cells] using hcs
    cases hcs'
    exact ⟨[], Nat.zero_le _, by simp, .inl ⟨rfl, rfl⟩⟩
  · have hcs' : Value.slice a0 len cap = .slice (some a) len' cap' := by simpa [Value.cells] using hcs
    cases hcs'
    obtain ⟨hspot, hb⟩ := slice_at Tryd.underlying22 hv
    obtain ⟨b, off, spot⟩ := a
    simp only at hspot hb
    subst hspot
    simp only [if_true] at hmm
    have each : ∀ i, i < len → ∃ q : UInt8 × ByteArray, V0 i = .int .u8 (q.1.toNat : Int) ∧ V1 i = .string q.2 ∧ D1 i = .lit (.string q.2.data.toList) := fun i hi => by
      obtain ⟨_, _, g0, g1⟩ := hcell i (by omega)
      obtain ⟨z, h1, h2, hz⟩ := DataW.trod_int Tryd.underlying5 g0
      obtain ⟨s, h3, h4, _⟩ := DataW.trod_string Tryd.underlying9 g1
      obtain ⟨c, rfl⟩ := u8_of hz
      simp only [Prod.mk.injEq] at h4
      exact ⟨(c, s), by simpa using h1, by simpa using h3, h4.1⟩
    obtain ⟨q, hq⟩ := Deep.choose_lt each
    have hlen : ((List.range len).map q).length = len := by simp
    have e : d = .slice ((List.range len).map fun i => .agg [D0 i, D1 i]) ((List.range (mm - len)).map fun j => .agg [D0 (len + j), D1 (len + j)]) := congrArg Prod.fst hx
    refine ⟨(List.range len).map q, ?_, fun p hp => ?_, .inr ⟨b, off, cap, by rw [hlen], ⟨by rw [hlen]; exact hl, by unfold maxLen at hm; omega⟩, hb, fun j hj => ?_⟩⟩
    · rw [hlen, e, Rows.uptoBulk]
      have := bulk_length ((List.range len).map fun i => (DataW.agg [D0 i, D1 i] : DataW H))
      simp at this
      omega
    · obtain ⟨i, hi, rfl⟩ := List.mem_map.1 hp
      have hi' : i < len := List.mem_range.1 hi
      rw [e, Rows.uptoBulk]
      have h1 := bulk_mem (x := (DataW.agg [D0 i, D1 i] : DataW H)) (l := (List.range len).map fun i => .agg [D0 i, D1 i]) (List.mem_map.2 ⟨i, hi, rfl⟩)
      rw [Rows.uptoBulk, (hq i hi').2.2] at h1
      simp only [Rows.uptoBulkAll, Rows.uptoBulk] at h1
      have e2 : (q i).2.data.toList.length = (q i).2.size := rfl
      omega
    · rw [hlen] at hj
      obtain ⟨c0, c1, _, _⟩ := hcell j (by omega)
      rw [add_plain] at c0 c1
      have en : nthO ((List.range len).map q) j = q j := by simp [nthO, hj]
      rw [en, c0, ← (hq j hj).1, ← (hq j hj).2.1]
      exact ⟨rfl, by simpa [Nat.add_assoc] using c1⟩
end Go.Proofs.YtdgnbcbcfgfkmaaDoor
