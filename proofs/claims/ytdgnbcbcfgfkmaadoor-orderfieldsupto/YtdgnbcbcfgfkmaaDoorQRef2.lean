/- The reference of orders: texts, numbers, what counts of bytes. -/
import Derived.Test.YtdgnbcbcfgfkmaaDoorQFields
namespace Go.Proofs.YtdgnbcbcfgfkmaaDoor
open Go.RowKit

set_option maxHeartbeats 1000000 in
theorem texts_c (x y : ByteArray) (w : World) : Calls Tryd.prog 27 #[.string x, .string y] w fun e w' => e = .returned (.int .i64 (cmpL x.data.toList y.data.toList)) ∧ w' = w := by
  have hr := cmpL_rng x.data.toList y.data.toList
  rcases hr with hr | hr | hr
  · have f1 : Op.bytesLess x.toList y.toList = true := by rw [less_str, hr]; rfl
    rw [hr]
    go_enter Tryd.func27, Tryd.ntmps27
    go_wp2
    go_ret
    exact ⟨rfl, rfl⟩
  · have f1 : Op.bytesLess x.toList y.toList = false := by rw [less_str, hr]; rfl
    have f2 : ∀ w, (binOp .gtr 9 (.string x) (.string y)).run Tryd.prog w = .ok (.bool false) w := fun w => by rw [gtr_str, f1, eq_str, hr]; rfl
    rw [hr]
    go_enter Tryd.func27, Tryd.ntmps27
    go_wp2
    go_ret
    exact ⟨rfl, rfl⟩
  · have f1 : Op.bytesLess x.toList y.toList = false := by rw [less_str, hr]; rfl
    have f2 : ∀ w, (binOp .gtr 9 (.string x) (.string y)).run Tryd.prog w = .ok (.bool true) w := fun w => by rw [gtr_str, f1, eq_str, hr]; rfl
    rw [hr]
    go_enter Tryd.func27, Tryd.ntmps27
    go_wp2
    go_ret
    exact ⟨rfl, rfl⟩

/-- A byte of bytes. -/
theorem by_get {w : World} {b off : Nat} {d : List UInt8} (hc : ∀ j, j < d.length → w.cell? ⟨b, off + j, none⟩ = some (.int .u8 ((d[j]?.getD 0).toNat : Int))) (j : Nat) (hj : j < d.length) : w.cell? ⟨b, off + j, none⟩ = some (.int .u8 ((d[j]).toNat : Int)) := by
  rw [hc j hj]; simp [hj]
theorem ByAt.some {w : World} {x : Option Addr} {n c : Nat} {d : List UInt8} (h : ByAt w (.slice x n c) d) (hn : 0 < d.length) : ∃ b off, x = some ⟨b, off, none⟩ ∧ n = d.length ∧ (d.length ≤ c ∧ c ≤ 9223372036854775807) ∧ b < w.heap.size ∧ ∀ j (hj : j < d.length), w.cell? ⟨b, off + j, none⟩ = some (.int .u8 ((d[j]).toNat : Int)) := by
  rcases h with ⟨_, h0⟩ | ⟨b, off, cap, h1, h2, h3, h4⟩
  · rw [h0] at hn; simp at hn
  · cases h1
    exact ⟨b, off, rfl, rfl, h2, h3, fun j hj => by rw [h4 j hj]; simp [hj]⟩
theorem skipB_step (d : List UInt8) (k : Nat) (h : k < d.length) (hb : isBl d[k] = true) : k + skipB (d.drop k) = (k + 1) + skipB (d.drop (k + 1)) := by
  rw [List.drop_eq_getElem_cons h]
  unfold skipB
  rw [List.takeWhile_cons, if_pos hb, List.length_cons]; omega
theorem skipB_stop (d : List UInt8) (k : Nat) (h : k < d.length) (hb : isBl d[k] = false) : k + skipB (d.drop k) = k := by
  rw [List.drop_eq_getElem_cons h]
  unfold skipB
  rw [List.takeWhile_cons, if_neg (by rw [hb]; simp)]; simp
theorem isBl_yes {c : UInt8} (h : isBl c = true) : ((c.toNat : Int) == 32) = true ∨ (((c.toNat : Int) == 32) = false ∧ ((c.toNat : Int) == 9) = true) := by
  simp only [isBl, decide_eq_true_eq] at h
  by_cases h1 : c = 32
  · exact .inl (u8_yes 32 (by omega) h1)
  · rcases h with h | h
    · exact absurd h h1
    · exact .inr ⟨u8_no 32 (by omega) h1, u8_yes 9 (by omega) h⟩
theorem isBl_no {c : UInt8} (h : isBl c = false) : ((c.toNat : Int) == 32) = false ∧ ((c.toNat : Int) == 9) = false := by
  simp only [isBl, decide_eq_false_iff_not, not_or] at h
  exact ⟨u8_no 32 (by omega) h.1, u8_no 9 (by omega) h.2⟩

theorem arr_u8s (d : List UInt8) : ∀ (k : Nat), (d.map fun c => Value.int .u8 (c.toNat : Int))[k]? = (d[k]?).map fun c => Value.int .u8 (c.toNat : Int) := fun k => by simp
def u8s (d : List UInt8) : List Value := d.map fun c => .int .u8 (c.toNat : Int)
theorem info_u8 : (Tryd.prog.info? 5).map (fun i => (i.zero, i.size, i.bytes)) = some (some (.int .u8 0), 1, 1) := by kernel_rfl
theorem cell_one_new (w : World) (x : Value) (T : Nat) : ∀ j u, [x][j]? = some u → (w.alloc (.cells #[x] T)).cell? ((⟨w.heap.size, 0, none⟩ : Addr).add j) = some u := by
  intro j u h
  have hh : (w.alloc (.cells #[x] T)).heap[w.heap.size]? = some (.cells #[x] T) := by show (w.heap.push _)[w.heap.size]? = _; simp
  rw [Addr.add_lit]
  simp only [World.cell?, hh]
  match j with
  | 0 => simpa using h
  | j + 1 => simp at h
theorem by_own {w : World} {base n : Nat} {v : Value} {d : List UInt8} (h : w.ownsRow base 5 1 v n (u8s d)) (hn : n = d.length) : ByAt w v d := by
  subst hn
  rcases h.2 with ⟨rfl, h0⟩ | ⟨g, cap, cur, rfl, hb, hg, hle, hcap, hsz, ht⟩
  · exact .inl ⟨rfl, List.length_eq_zero_iff.1 h0⟩
  · refine .inr ⟨g, 0, cap, rfl, ⟨hle, by unfold maxLen at hcap; exact hcap⟩, (Array.getElem?_eq_some_iff.1 hg).1, fun j hj => ?_⟩
    rw [Nat.zero_add, own_cell2 h j (by omega)]
    simp [u8s, hj]
theorem keptS_snoc (g : Fg) (d : List UInt8) (k : Nat) (h : k < d.length) : keptS g (d.take (k + 1)) = keptS g (d.take k) ++ (if counts1 g d[k] then [upS g d[k]] else []) := by
  rw [List.take_succ_eq_append_getElem h]
  unfold keptS
  rw [List.filter_append, List.map_append]
  by_cases hc : counts1 g d[k] = true
  · rw [if_pos hc]; simp [hc]
  · rw [if_neg hc]; simp [hc]
def Fg.val (g : Fg) : Value := .agg g.cells.toArray
end Go.Proofs.YtdgnbcbcfgfkmaaDoor
