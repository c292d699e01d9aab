/- Sizes that do not wrap round; nodes that are made of others. -/
import Derived.Deep.DeepCutAuto
import Derived.Deep.CutBlock
import Derived.Laws.OwnMore
import Derived.Test.YtlekfdkahlobiaaGreatHBuild
namespace Go.Proofs.YtlekfdkahlobiaaGreat.Re
open Go.RowKit

def satI (n : Int) : Int := if n ≤ 9223372036854775807 then n else 9223372036854775807
theorem szI_sat (x : Nd) : szI x = satI (x.size : Int) := rfl
theorem sat_in {n : Int} (h : 0 ≤ n) : 0 ≤ satI n ∧ satI n ≤ 9223372036854775807 := by unfold satI; split <;> omega
theorem sat_sum {a b : Int} (ha : 0 ≤ a) (hb : 0 ≤ b) : satI (satI a + satI b) = satI (a + b) := by
  unfold satI
  repeat' split
  all_goals omega
theorem sat_sum1 {a b : Int} (ha : 0 ≤ a) (h1 : a ≤ 9223372036854775807) : satI (a + satI b) = satI (a + b) := by
  unfold satI
  repeat' split
  all_goals omega
theorem sat_mul {a b : Int} (ha : 0 ≤ a) (hb : 1 ≤ b) : satI (satI a * b) = satI (a * b) := by
  by_cases h : a ≤ 9223372036854775807
  · rw [show satI a = a from if_pos h]
  · rw [show satI a = 9223372036854775807 from if_neg h]
    have h1 : a ≤ a * b := by
      have := Int.mul_le_mul_of_nonneg_left hb ha
      rw [Int.mul_one] at this
      exact this
    have h2 : (9223372036854775807 : Int) ≤ 9223372036854775807 * b := by omega
    unfold satI
    repeat' split
    all_goals omega
theorem sum_c (a b : Int) (w : World) (ha : 0 ≤ a ∧ a ≤ 9223372036854775807) (hb : 0 ≤ b ∧ b ≤ 9223372036854775807) : Calls Tryz.prog 29 #[.int .i64 a, .int .i64 b] w fun e w' => e = .returned (.int .i64 (satI (a + b))) ∧ w' = w := by
  have w1 : IntKind.i64.wrap (9223372036854775807 - b) = 9223372036854775807 - b := IntWalk.i64_in _ (by omega)
  by_cases h : 9223372036854775807 - b < a
  · have HE : Hid (satI (a + b) = 9223372036854775807) := if_neg (by omega)
    go_enter Tryz.func29, Tryz.ntmps29
    go_wp2_with fail
    go_ret
    exact ⟨by rw [HE.out]; rfl, rfl⟩
  · have HE : Hid (satI (a + b) = a + b) := if_pos (by omega)
    have w2 : IntKind.i64.wrap (a + b) = a + b := IntWalk.i64_in _ (by omega)
    go_enter Tryz.func29, Tryz.ntmps29
    go_wp2_with fail
    go_ret
    exact ⟨by rw [HE.out]; rfl, rfl⟩
theorem div_gt {a b : Int} (hb : 1 ≤ b) : (9223372036854775807 : Int) / b < a ↔ ¬ a * b ≤ 9223372036854775807 := by
  rw [Int.ediv_lt_iff_lt_mul (by omega)]; omega
theorem product_c (a b : Int) (w : World) (ha : 0 ≤ a ∧ a ≤ 9223372036854775807) (hb : 1 ≤ b ∧ b ≤ 255) : Calls Tryz.prog 80 #[.int .i64 a, .int .i64 b] w fun e w' => e = .returned (.int .i64 (satI (a * b))) ∧ w' = w := by
  have hq : (9223372036854775807 : Int).tdiv b = 9223372036854775807 / b := Int.tdiv_eq_ediv_of_nonneg (by omega)
  have hq0 : (0 : Int) ≤ 9223372036854775807 / b := Int.ediv_nonneg (by omega) (by omega)
  have hq1 : (9223372036854775807 : Int) / b ≤ 9223372036854775807 := Int.ediv_le_self _ (by omega)
  have w1 : IntKind.i64.wrap ((9223372036854775807 : Int).tdiv b) = 9223372036854775807 / b := by rw [hq]; exact IntWalk.i64_in _ (by omega)
  have hz : ¬ b = 0 := by omega
  by_cases h : (9223372036854775807 : Int) / b < a
  · have HE : Hid (satI (a * b) = 9223372036854775807) := if_neg (div_gt hb.1 |>.1 h)
    clear hq hq0 hq1
    go_enter Tryz.func80, Tryz.ntmps80
    go_wp2_with fail
    go_ret
    exact ⟨by rw [HE.out]; rfl, rfl⟩
  · have h2 : a * b ≤ 9223372036854775807 := by
      by_cases h3 : a * b ≤ 9223372036854775807
      · exact h3
      · exact absurd ((div_gt hb.1).2 h3) h
    have h4 : 0 ≤ a * b := Int.mul_nonneg ha.1 (by omega)
    have HE : Hid (satI (a * b) = a * b) := if_pos h2
    have w2 : IntKind.i64.wrap (a * b) = a * b := IntWalk.i64_in _ (by omega)
    clear hq hq0 hq1 h2 h4
    go_enter Tryz.func80, Tryz.ntmps80
    go_wp2_with fail
    go_ret
    exact ⟨by rw [HE.out]; rfl, rfl⟩
end Go.Proofs.YtlekfdkahlobiaaGreat.Re

namespace Go.Proofs.YtlekfdkahlobiaaGreat.Re
open Go.RowKit

/-- Expressions in a row. -/
structure RowI (w : World) (g off : Nat) (l : List (Value × Nd)) : Prop where
  lt : l ≠ [] → g < w.heap.size
  at0 : ∀ (i : Nat) (p : Value × Nd), l[i]? = some p → w.cell? ⟨g, off + i * 2, none⟩ = some p.1
  at1 : ∀ (i : Nat) (p : Value × Nd), l[i]? = some p → w.cell? ⟨g, off + i * 2 + 1, none⟩ = some (.int .i64 (szI p.2))
  nd : ∀ (i : Nat) (p : Value × Nd), l[i]? = some p → NodeP w p.1 p.2
theorem RowI.below {w w' : World} {g off : Nat} {l : List (Value × Nd)} (h : RowI w g off l) (hB : Below w.heap.size w w') : RowI w' g off l :=
  ⟨fun hl => Nat.lt_of_lt_of_le (h.lt hl) hB.size, fun i p hp => cell_below hB (h.at0 i p hp), fun i p hp => cell_below hB (h.at1 i p hp), fun i p hp => (h.nd i p hp).keep (NKeep.of hB)⟩
def kidC (n : Nat) (vs : List Value) : Array Value := (vs ++ List.replicate (n - vs.length) (Value.pointer none)).toArray
theorem kidC_set {n : Nat} {vs : List Value} (h : vs.length < n) (v : Value) : (kidC n vs).setIfInBounds vs.length v = kidC n (vs ++ [v]) := by
  apply Array.ext'
  rw [Array.toList_setIfInBounds]
  unfold kidC
  simp only [List.length_append, List.length_cons, List.length_nil]
  obtain ⟨k, hk⟩ : ∃ k, n - vs.length = k + 1 := ⟨n - vs.length - 1, by omega⟩
  rw [hk, show n - (vs.length + (0 + 1)) = k by omega, List.replicate_succ]
  simp
theorem kidC_at {n : Nat} {vs : List Value} {i : Nat} {v : Value} (h : vs[i]? = some v) : (kidC n vs)[i]? = some v := by
  unfold kidC
  have hi := (List.getElem?_eq_some_iff.1 h).1
  rw [List.getElem?_toArray, List.getElem?_append_left hi, h]
theorem kidC_in {n : Nat} {vs : List Value} {i : Nat} (h : i < n) (hv : vs.length ≤ n) : ∃ v, (kidC n vs)[i]? = some v := by
  have : i < (kidC n vs).size := by unfold kidC; simp; omega
  exact ⟨_, Array.getElem?_eq_getElem this⟩
theorem info_pn : (Tryz.prog.info? 36).map (fun i => (i.zero, i.size, i.bytes)) = some (some (.pointer none), 1, 8) := by kernel_rfl
theorem p_info {P : Program} {t : Nat} {z : Option Value} {s b : Nat} (h : (P.info? t).map (fun i => (i.zero, i.size, i.bytes)) = some (z, s, b)) : ∃ i, P.info? t = some i ∧ i.zero = z ∧ i.size = s ∧ i.bytes = b := by
  cases hi : P.info? t with
  | none => rw [hi] at h; cases h
  | some i => rw [hi] at h; simp only [Option.map_some, Option.some.injEq, Prod.mk.injEq] at h; exact ⟨i, rfl, h.1, h.2.1, h.2.2⟩
theorem make_pn (n : Nat) (w : World) (hn : n ≤ 2097152) : ∃ w', (Instr.makeSlice 62 (.int .i64 (n : Int)) (.int .i64 (n : Int))).run Tryz.prog w = .ok (.slice (some ⟨w.heap.size, 0, none⟩) n n) w' ∧ w'.heap[w.heap.size]? = some (.cells (kidC n []) 36) ∧ Below w.heap.size w w' := by
  obtain ⟨i0, hi, hz0, hz1, hz2⟩ := p_info info_pn
  obtain ⟨w2, hrun, hown, hgrow⟩ := run_make_full (P := Tryz.prog) w w.heap.size 62 36 i0 (.pointer none) 1 Tryz.underlying62 hi hz0 hz1 .i64 .i64 n (by rw [hz2]; omega) (by unfold maxLen; omega) (Nat.le_refl _)
  refine ⟨w2, hrun, ?_, ⟨hgrow.os, hgrow.tape, hgrow.output, hgrow.size, fun k hk => hgrow.block k hk (by simp)⟩⟩
  rcases hown.2 with ⟨e, _⟩ | ⟨g, cap, cur, e, hb, hg, hle, hcap, hsz, ht⟩
  · cases e
  · cases e
    have h1 : cur.toList.take (n * 1) = cur.toList := List.take_of_length_le (by simp [hsz])
    rw [h1] at ht
    have h2 : cur = kidC n [] := by
      apply Array.ext'
      rw [ht]
      have hm : ∀ j, (Value.pointer none).cells[j % (Value.pointer none).cells.size]! = .pointer none := fun j => by
        have : j % (Value.pointer none).cells.size = 0 := Nat.mod_one j
        rw [this]
        rfl
      unfold kidC
      simp only [madeCells, hm, Nat.mul_one, Array.toList_map, Array.toList_range, List.nil_append, List.length_nil, Nat.sub_zero]
      rw [List.map_const']
      simp
    show w2.heap[w.heap.size]? = _
    rw [hg, h2]
def sumS : List (Value × Nd) → Nat
  | [] => 0
  | p :: l => p.2.size + sumS l
theorem sumS_take (l : List (Value × Nd)) (i : Nat) (p : Value × Nd) (h : l[i]? = some p) : sumS (l.take (i + 1)) = sumS (l.take i) + p.2.size := by
  induction l generalizing i with
  | nil => simp at h
  | cons a l ih =>
    cases i with
    | zero => cases h; simp [sumS]
    | succ i =>
      have := ih i (by simpa using h)
      simp only [List.take_succ_cons, sumS] at this ⊢
      omega
theorem sumS_sizes : ∀ l : List (Value × Nd), Nd.size.sizes (l.map Prod.snd) = sumS l
  | [] => rfl
  | p :: l => by
    rw [List.map_cons, Nd.size.sizes, sumS_sizes l]; rfl
theorem size_nd {k : Nat} (hk : k ≠ 6) (l : List Nd) : (ndK k l).size = 1 + Nd.size.sizes l := by
  unfold ndK
  rw [Nd.size, if_neg hk]
theorem info_re : (Tryz.prog.info? 38).map (fun i => (i.zero, i.size, i.bytes)) = some (some (.agg #[.pointer none, .int .i64 0]), 2, 16) := by kernel_rfl
theorem cell_al {w : World} {a : Addr} {v : Value} (h : w.cell? a = some v) (o : Obj) : (w.alloc o).cell? a = some v := cell_below ((Below.refl _ w).alloc (Nat.le_refl _) _) h
set_option maxHeartbeats 1000000 in
set_option maxRecDepth 100000 in
theorem join_one (k g off cap : Nat) (p : Value × Nd) (w : World) (hR : RowI w g off [p]) : Calls Tryz.prog 23 #[.int .i64 (k : Int), .slice (some ⟨g, off, none⟩) 1 cap] w (MkO p.2 w) := by
  have c0 := cell_al (hR.at0 0 p rfl)
  have c1 := cell_al (hR.at1 0 p rfl)
  have HN := Lib.hid (hR.nd 0 p rfl)
  have hpt := HN.out.ptr
  obtain ⟨v, x⟩ := p
  obtain ⟨pb, rfl, hpl⟩ := hpt
  simp only [Nat.zero_mul, Nat.add_zero] at c0 c1
  clear hR
  go_enter Tryz.func23, Tryz.ntmps23
  go_wp2_with fail
  refine bodyPost_ret (res_re rfl (b := w.heap.size) (v := ptr pb) (z := szI x) rfl ?_) rfl ?_
  · exact al_new _ _
  · exact ⟨ptr pb, rfl, HN.out.keep (NKeep.of ((Below.refl _ w).alloc (Nat.le_refl _) _)), (Below.refl _ w).alloc (Nat.le_refl _) _⟩
end Go.Proofs.YtlekfdkahlobiaaGreat.Re

namespace Go.Proofs.YtlekfdkahlobiaaGreat.Re
open Go.RowKit

theorem p_kids0 (k : Nat) (kv : Value) : ((ndC 0 noB 0 0 (.slice none 0 0)).setIfInBounds 0 (.int .i64 (k : Int))).setIfInBounds 259 kv = ndC k noB 0 0 kv := by
  rw [p_set0, p_ndC_setkv]
/-- A loop's state: so many kids are in the row. -/
structure JnI (w wr : World) (g off n : Nat) (l : List (Value × Nd)) (i : Nat) : Prop where
  row : wr.heap[w.heap.size + 1]? = some (.cells (kidC n ((l.take i).map Prod.fst)) 36)
  out : ReB wr w.heap.size (.pointer none) 0
  bel : Below w.heap.size w wr
  siz : w.heap.size + 2 ≤ wr.heap.size
set_option maxHeartbeats 2000000 in
set_option maxRecDepth 100000 in
theorem join_many (k g off cap : Nat) (l : List (Value × Nd)) (w : World) (hk : k ≠ 6) (hn : l.length ≠ 1) (hl : l.length ≤ 1048577) (hc : cap ≤ 9223372036854775807 ∧ l.length ≤ cap) (hR : RowI w g off l) : Calls Tryz.prog 23 #[.int .i64 (k : Int), .slice (some ⟨g, off, none⟩) l.length cap] w (MkO (ndK k (l.map Prod.snd)) w) := by
  have HR := Lib.hid hR
  have g1 : ((l.length : Int) == 1) = false := by rw [beq_eq_false_iff_ne]; omega
  have hmk := fun u => make_pn l.length u (by omega)
  clear hR
  go_enter Tryz.func23, Tryz.ntmps23
  have hm0 := hmk (w.alloc (.cells #[.pointer none, .int .i64 0] 38))
  rw [al_size] at hm0
  obtain ⟨w2, hrun, ho, hB⟩ := hm0
  have HI : Hid (JnI w w2 g off l.length l 0) := ⟨ho, (hB.block _ (by omega)).trans (al_new _ _), ((Below.refl _ w).alloc (Nat.le_refl _) _).trans (hB.mono (by omega)), h_lt ho⟩
  clear ho hB hmk
  go_wp2_with fail
  go_loopw [6, 20] (fun v6 v20 wr => ∃ i : Nat, i ≤ l.length ∧ v20 = .int .i64 (i : Int) ∧ v6 = .int .i64 (satI (1 + (sumS (l.take i) : Int))) ∧ Hid (JnI w wr g off l.length l i)) (fun _ v20 _ => l.length - (intOf v20).toNat)
  case atStart => exact ⟨0, by omega, rfl, rfl, HI⟩
  case round =>
    obtain ⟨i, hi, rfl, rfl, HJ⟩ := hrel
    by_cases hlt : i < l.length
    · have n1 : (i : Int) < (l.length : Int) := by omega
      obtain ⟨p, hp⟩ : ∃ p, l[i]? = some p := ⟨_, List.getElem?_eq_getElem hlt⟩
      have hRw := HR.out.below (HJ.out.bel)
      have c0 := hRw.at0 i p hp
      have c1 := hRw.at1 i p hp
      have hpt := (hRw.nd i p hp).ptr
      have hvs : ((l.take i).map Prod.fst).length = i := by simp; omega
      obtain ⟨old, hold⟩ := kidC_in (n := l.length) (vs := (l.take i).map Prod.fst) hlt (by omega)
      have c5 := cell_al (h_cell HJ.out.row i hold)
      have z5 : ∀ o, (wr.alloc o).frozen? ⟨w.heap.size + 1, i, none⟩ = false := fun o => h_fz ((al_old wr o (h_lt HJ.out.row)).trans HJ.out.row) i
      have HP := Lib.hid hp
      have hs1 := sat_in (n := 1 + (sumS (l.take i) : Int)) (by omega)
      have hs2 := szI_in p.2
      have hne : wr.heap.size ≠ w.heap.size + 1 := by have := HJ.out.siz; omega
      have HS : Hid (satI (satI (1 + (sumS (l.take i) : Int)) + szI p.2) = satI (1 + (sumS (l.take (i + 1)) : Int))) := by
        show _ = _
        rw [szI_sat, sat_sum (by omega) (by omega), sumS_take l i p hp]
        congr 1
        omega
      have HNx : Hid (∀ z, JnI w ((wr.alloc (.cells #[p.1, z] 38)).setCell ⟨w.heap.size + 1, i, none⟩ p.1) g off l.length l (i + 1)) := fun z => by
        have hsz := HJ.out.siz
        refine ⟨?_, ?_, ?_, ?_⟩
        · have h1 := h_set ((al_old wr (.cells #[p.1, z] 38) (h_lt HJ.out.row)).trans HJ.out.row) i p.1
          have h2 := kidC_set (n := l.length) (vs := (l.take i).map Prod.fst) (by omega) p.1
          rw [hvs] at h2
          rw [h2] at h1
          rw [List.take_succ_eq_append_getElem hlt, List.map_append]
          have e : l[i] = p := by rw [List.getElem?_eq_getElem hlt] at hp; exact Option.some.inj hp
          rw [e]
          exact h1
        · exact (Below.heap_setCell _ _ _ _ (by simp)).trans ((al_old _ _ (by omega)).trans HJ.out.out)
        · exact (HJ.out.bel.alloc HJ.out.bel.size _).setCell (p := ⟨w.heap.size + 1, i, none⟩) (by show w.heap.size ≤ w.heap.size + 1; omega) _
        · show _ ≤ (World.heap _).size
          simp [World.setCell]
          omega
      have hsum := fun u => sum_c (satI (1 + (sumS (l.take i) : Int))) (szI p.2) u hs1 hs2
      obtain ⟨v, x⟩ := p
      obtain ⟨pb, rfl, hpl⟩ := hpt
      have c6 : ∀ z y, (((wr.alloc (.cells #[y, z] 38)).setCell ⟨w.heap.size + 1, i, none⟩ (ptr pb))).cell? ⟨wr.heap.size, 1, none⟩ = some z := fun z y => by
        have h1 : (((wr.alloc (.cells #[y, z] 38)).setCell ⟨w.heap.size + 1, i, none⟩ (ptr pb))).heap[wr.heap.size]? = some (.cells #[y, z] 38) := (Below.heap_setCell _ _ _ _ (by simpa using hne)).trans (al_new _ _)
        exact h_cell h1 1 rfl
      clear hRw hold hvs hp HJ HI HR
      go_wp2_with (go_at_call 29; refine (hsum _).mono ?_; rintro e w1 ⟨rfl, hw⟩; rw [hw]; clear hw w1)
      exact ⟨⟨i + 1, by omega, by go_num, by rw [← HS.out], HNx.out _⟩, by simp [intOf]; omega⟩
    · obtain rfl : i = l.length := by omega
      rw [List.take_length] at *
      have n1 : ¬ (l.length : Int) < (l.length : Int) := by omega
      have HZ : Hid (szI (ndK k (l.map Prod.snd)) = satI (1 + (sumS l : Int))) := by
        show _ = _
        rw [szI_sat, size_nd hk, sumS_sizes]
        congr 1
      have c7 := cell_al (h_cell HJ.out.out 0 rfl)
      have c8 := cell_al (h_cell HJ.out.out 1 rfl)
      have z7 : ∀ o, (wr.alloc o).frozen? ⟨w.heap.size, 0, none⟩ = false := fun o => h_fz ((al_old wr o (h_lt HJ.out.out)).trans HJ.out.out) 0
      have z8 : ∀ o v, ((wr.alloc o).setCell ⟨w.heap.size, 0, none⟩ v).frozen? ⟨w.heap.size, 1, none⟩ = false := fun o v => h_fz (h_set ((al_old wr o (h_lt HJ.out.out)).trans HJ.out.out) 0 v) 1
      have c9 : ∀ o v, ((wr.alloc o).setCell ⟨w.heap.size, 0, none⟩ v).cell? ⟨w.heap.size, 1, none⟩ = some (.int .i64 0) := fun o v => h_cell (h_set ((al_old wr o (h_lt HJ.out.out)).trans HJ.out.out) 0 v) 1 rfl
      go_wp2_with fail
      rw [p_zeroC, p_kids0]
      have hsz := HJ.out.siz
      have hob := h_set (h_set ((al_old wr (.cells (ndC k noB 0 0 (.slice (some ⟨w.heap.size + 1, 0, none⟩) l.length l.length)) 64) (h_lt HJ.out.out)).trans HJ.out.out) 0 (ptr wr.heap.size)) 1 (.int .i64 (satI (1 + (sumS l : Int))))
      have hBl : Below w.heap.size w (((wr.alloc (.cells (ndC k noB 0 0 (.slice (some ⟨w.heap.size + 1, 0, none⟩) l.length l.length)) 64)).setCell ⟨w.heap.size, 0, none⟩ (ptr wr.heap.size)).setCell ⟨w.heap.size, 1, none⟩ (.int .i64 (satI (1 + (sumS l : Int))))) := ((HJ.out.bel.alloc HJ.out.bel.size _).setCell (p := ⟨w.heap.size, 0, none⟩) (Nat.le_refl _) _).setCell (p := ⟨w.heap.size, 1, none⟩) (Nat.le_refl _) _
      refine bodyPost_ret (res_re rfl (b := w.heap.size) (v := ptr wr.heap.size) (z := satI (1 + (sumS l : Int))) rfl (by simpa using hob)) rfl ?_
      refine ⟨ptr wr.heap.size, by unfold reV; rw [HZ.out], ?_, hBl⟩
      unfold ndK
      rw [NodeP]
      refine ⟨wr.heap.size, _, rfl, (Below.heap_setCell _ _ _ _ (by simp; omega)).trans ((Below.heap_setCell _ _ _ _ (by simp; omega)).trans (al_new _ _)), .inr ⟨w.heap.size + 1, 0, l.length, kidC l.length (l.map Prod.fst), by simp, ⟨by simp, by omega⟩, ?_, ?_⟩⟩
      · have hrow := HJ.out.row
        rw [List.take_length] at hrow
        exact (Below.heap_setCell _ _ _ _ (by simp)).trans ((Below.heap_setCell _ _ _ _ (by simp)).trans ((al_old _ _ (by omega)).trans hrow))
      · refine kidsP_of fun i x hx => ?_
        rw [List.getElem?_map] at hx
        cases hp : l[i]? with
        | none => rw [hp] at hx; cases hx
        | some p =>
          rw [hp] at hx
          cases hx
          exact ⟨p.1, by rw [Nat.zero_add, Nat.zero_add]; exact kidC_at (by rw [List.getElem?_map, hp]; rfl), (HR.out.nd i p hp).keep (NKeep.of hBl)⟩
end Go.Proofs.YtlekfdkahlobiaaGreat.Re

namespace Go.Proofs.YtlekfdkahlobiaaGreat.Re
open Go.RowKit

/-- A slice of expressions. -/
def RowV (w : World) (v : Value) (l : List (Value × Nd)) : Prop := ∃ a cap, v = .slice a l.length cap ∧ (cap ≤ 9223372036854775807 ∧ l.length ≤ cap) ∧ (l = [] ∨ ∃ g off, a = some ⟨g, off, none⟩ ∧ RowI w g off l)
theorem RowV.below {w w' : World} {v : Value} {l : List (Value × Nd)} (h : RowV w v l) (hB : Below w.heap.size w w') : RowV w' v l := by
  obtain ⟨a, cap, h1, h2, h3⟩ := h
  refine ⟨a, cap, h1, h2, h3.imp id ?_⟩
  rintro ⟨g, off, h4, h5⟩
  exact ⟨g, off, h4, h5.below hB⟩
theorem join_c (k : Nat) (hk : k ≠ 6) {v : Value} {l : List (Value × Nd)} {w : World} (hl : l.length ≤ 1048577) (h0 : l ≠ []) (h : RowV w v l) : Calls Tryz.prog 23 #[.int .i64 (k : Int), v] w (MkO (joinN k (l.map Prod.snd)) w) := by
  obtain ⟨a, cap, rfl, hc, h3⟩ := h
  rcases h3 with h3 | ⟨g, off, rfl, hR⟩
  · exact absurd h3 h0
  match l, h0, hl, hc, hR with
  | [p], _, _, hc, hR => exact join_one k g off cap p w hR
  | p :: q :: l, _, hl, hc, hR => exact join_many k g off cap (p :: q :: l) w hk (by simp) hl hc hR
theorem re_facts {w w1 : World} {v1 : Value} {x : Nd} (hB : Below (w.heap.size + 1) (w.alloc (.cells #[.pointer none, .int .i64 0] 38)) w1) (hn : NodeP w1 v1 x) :
    w1.cell? ⟨w.heap.size, 0, none⟩ = some (.pointer none) ∧ w1.frozen? ⟨w.heap.size, 0, none⟩ = false ∧ (w1.setCell ⟨w.heap.size, 0, none⟩ v1).cell? ⟨w.heap.size, 1, none⟩ = some (.int .i64 0) ∧ (w1.setCell ⟨w.heap.size, 0, none⟩ v1).frozen? ⟨w.heap.size, 1, none⟩ = false ∧
    ReB ((w1.setCell ⟨w.heap.size, 0, none⟩ v1).setCell ⟨w.heap.size, 1, none⟩ (.int .i64 (szI x))) w.heap.size v1 (szI x) ∧ MkO x w (.returned (reV v1 x)) ((w1.setCell ⟨w.heap.size, 0, none⟩ v1).setCell ⟨w.heap.size, 1, none⟩ (.int .i64 (szI x))) := by
  have h0 : ReB w1 w.heap.size (.pointer none) 0 := (hB.block _ (by omega)).trans (al_new _ _)
  have h1 := h_set h0 0 v1
  have h2 := h_set h1 1 (.int .i64 (szI x))
  refine ⟨h_cell h0 0 rfl, h_fz h0 0, h_cell h1 1 rfl, h_fz h1 1, by simpa using h2, v1, rfl, ?_, ?_⟩
  · exact hn.keep (NKeep.bar ((Bar.set _ _ _ _).trans (Bar.set _ _ _ _)) h0 (by decide))
  · have hb : Below w.heap.size w w1 := ((Below.refl _ w).alloc (Nat.le_refl _) _).trans (hB.mono (by omega))
    exact (hb.setCell (p := ⟨w.heap.size, 0, none⟩) (Nat.le_refl _) _).setCell (p := ⟨w.heap.size, 1, none⟩) (Nat.le_refl _) _
set_option maxHeartbeats 1000000 in
theorem cat_c {v : Value} {l : List (Value × Nd)} {w : World} (hl : l.length ≤ 1048577) (h : RowV w v l) : Calls Tryz.prog 14 #[v] w (MkO (joinN 4 (l.map Prod.snd)) w) := by
  have hB : ∀ o, Below w.heap.size w (w.alloc o) := fun o => (Below.refl _ w).alloc (Nat.le_refl _) _
  have H := Lib.hid h
  obtain ⟨a, cap, rfl, hc, h3⟩ := h
  clear h3
  by_cases h0 : l = []
  · subst h0
    have hf := fun u => leaf_c 0 (by omega) u
    go_enter Tryz.func14, Tryz.ntmps14
    go_wp2_with fail
    refine (hf _).mono ?_
    rintro e w1 ⟨v1, rfl, hn, hB1⟩
    rw [al_size] at hB1
    obtain ⟨c0, z0, c1, z1, hf1, hf2⟩ := re_facts hB1 hn
    obtain ⟨pb, rfl, hpl⟩ := hn.ptr
    have HF := Lib.hid (And.intro hf1 hf2)
    clear hf1 hf2 hn hB1
    go_wp2_with fail
    exact bodyPost_ret (res_re rfl (b := w.heap.size) rfl HF.out.1) rfl HF.out.2
  · have g1 : ((l.length : Int) == 0) = false := by
      rw [beq_eq_false_iff_ne]
      have := List.length_pos_iff.2 h0
      omega
    have hj := fun o => join_c 4 (by omega) hl h0 (H.out.below (hB o))
    have HE : Hid (joinN 4 (l.map Prod.snd) = joinN 4 (l.map Prod.snd)) := by
      show _ = _
      cases l with
      | nil => exact absurd rfl h0
      | cons p l => rfl
    rw [HE.out]
    go_enter Tryz.func14, Tryz.ntmps14
    go_wp2_with fail
    refine (hj _).mono ?_
    rintro e w1 ⟨v1, rfl, hn, hB1⟩
    rw [al_size] at hB1
    obtain ⟨c0, z0, c1, z1, hf1, hf2⟩ := re_facts hB1 hn
    obtain ⟨pb, rfl, hpl⟩ := hn.ptr
    have HF := Lib.hid (And.intro hf1 hf2)
    clear hf1 hf2 hn hB1
    go_wp2_with fail
    exact bodyPost_ret (res_re rfl (b := w.heap.size) rfl HF.out.1) rfl HF.out.2
set_option maxHeartbeats 1000000 in
theorem alt_c {v : Value} {l : List (Value × Nd)} {w : World} (hl : l.length ≤ 1048577) (h : RowV w v l) : Calls Tryz.prog 74 #[v] w (MkO (anyS (l.map Prod.snd)) w) := by
  have hB : ∀ o, Below w.heap.size w (w.alloc o) := fun o => (Below.refl _ w).alloc (Nat.le_refl _) _
  have H := Lib.hid h
  obtain ⟨a, cap, rfl, hc, h3⟩ := h
  clear h3
  by_cases h0 : l = []
  · subst h0
    have hf := fun u => leaf_c 1 (by omega) u
    go_enter Tryz.func74, Tryz.ntmps74
    go_wp2_with fail
    refine (hf _).mono ?_
    rintro e w1 ⟨v1, rfl, hn, hB1⟩
    rw [al_size] at hB1
    obtain ⟨c0, z0, c1, z1, hf1, hf2⟩ := re_facts hB1 hn
    obtain ⟨pb, rfl, hpl⟩ := hn.ptr
    have HF := Lib.hid (And.intro hf1 hf2)
    clear hf1 hf2 hn hB1
    go_wp2_with fail
    exact bodyPost_ret (res_re rfl (b := w.heap.size) rfl HF.out.1) rfl HF.out.2
  · have g1 : ((l.length : Int) == 0) = false := by
      rw [beq_eq_false_iff_ne]
      have := List.length_pos_iff.2 h0
      omega
    have hj := fun o => join_c 5 (by omega) hl h0 (H.out.below (hB o))
    have HE : Hid (anyS (l.map Prod.snd) = joinN 5 (l.map Prod.snd)) := by
      show _ = _
      cases l with
      | nil => exact absurd rfl h0
      | cons p l => rfl
    rw [HE.out]
    go_enter Tryz.func74, Tryz.ntmps74
    go_wp2_with fail
    refine (hj _).mono ?_
    rintro e w1 ⟨v1, rfl, hn, hB1⟩
    rw [al_size] at hB1
    obtain ⟨c0, z0, c1, z1, hf1, hf2⟩ := re_facts hB1 hn
    obtain ⟨pb, rfl, hpl⟩ := hn.ptr
    have HF := Lib.hid (And.intro hf1 hf2)
    clear hf1 hf2 hn hB1
    go_wp2_with fail
    exact bodyPost_ret (res_re rfl (b := w.heap.size) rfl HF.out.1) rfl HF.out.2
end Go.Proofs.YtlekfdkahlobiaaGreat.Re

namespace Go.Proofs.YtlekfdkahlobiaaGreat.Re
open Go.RowKit

set_option maxRecDepth 100000 in
theorem p_setm (k : Nat) (p : UInt8 → Bool) (m n : Int) (kv : Value) (m' : Int) : (ndC k p m n kv).setIfInBounds 257 (.int .i64 m') = ndC k p m' n kv := by
  apply Array.ext'
  rw [p_set_one _ _ _ (by rw [ndC_size]; omega), p_ndC_list, p_ndC_list]
  rfl
set_option maxRecDepth 100000 in
theorem p_setn (k : Nat) (p : UInt8 → Bool) (m n : Int) (kv : Value) (n' : Int) : (ndC k p m n kv).setIfInBounds 258 (.int .i64 n') = ndC k p m n' kv := by
  apply Array.ext'
  rw [p_set_one _ _ _ (by rw [ndC_size]; omega), p_ndC_list, p_ndC_list]
  rfl
theorem p_rep0 (m n : Int) (kv : Value) : ((((ndC 0 noB 0 0 (.slice none 0 0)).setIfInBounds 0 (.int .i64 6)).setIfInBounds 257 (.int .i64 m)).setIfInBounds 258 (.int .i64 n)).setIfInBounds 259 kv = ndC 6 noB m n kv := by
  have e := p_set0 0 6 noB 0 0 (.slice none 0 0)
  rw [show (Value.int .i64 6) = .int .i64 ((6 : Nat) : Int) from rfl, e, p_setm, p_setn, p_ndC_setkv]
/-- How often, at most. -/
def mostI (m n : Int) : Int := max (max 1 m) n
theorem sz_rep {m n : Int} {x : Nd} (h : 0 ≤ m) (hn : n = -1 ∨ m ≤ n) : szI (repN m n x) = satI (1 + satI (szI x * mostI m n)) := by
  have h2 : (((repN m n x).size : Nat) : Int) = 1 + (x.size : Int) * mostI m n := by
    unfold repN
    rw [Nd.size, if_pos rfl, Nd.size.sizes, Nd.size.sizes, Nat.add_zero]
    have e : ((max 1 (if n < 0 then m else n).toNat : Nat) : Int) = mostI m n := by
      unfold mostI
      split <;> omega
    rw [Int.natCast_add, Int.natCast_mul, e]
    rfl
  have h3 : 1 ≤ mostI m n := by unfold mostI; omega
  have h4 : 0 ≤ (x.size : Int) * mostI m n := Int.mul_nonneg (by omega) (by omega)
  rw [szI_sat, h2, szI_sat, sat_mul (by omega) h3, sat_sum1 (by omega) (by omega)]
theorem run_max3 (m n : Int) (w : World) : (Builtin.max_ #[3, 3, 3] 3 #[.int .i64 1, .int .i64 m, .int .i64 n]).run Tryz.prog w = .ok (.int .i64 (mostI m n)) w := by
  have e : mostI m n = if n > (if m > 1 then m else 1) then n else (if m > 1 then m else 1) := by
    unfold mostI
    repeat' split
    all_goals omega
  rw [e]
  simp [Builtin.max_, Builtin.max2]
set_option maxHeartbeats 1000000 in
set_option maxRecDepth 100000 in
theorem repeat_c (v : Value) (x : Nd) (m n : Int) (w : World) (hx : NodeP w v x) (hm : 0 ≤ m ∧ m ≤ 255) (hn : (n = -1 ∨ m ≤ n) ∧ n ≤ 255) : Calls Tryz.prog 75 #[reV v x, .int .i64 m, .int .i64 n] w (MkO (repN m n x) w) := by
  have hs := szI_in x
  have hmo : 1 ≤ mostI m n ∧ mostI m n ≤ 255 := by unfold mostI; omega
  have hp := fun u => product_c (szI x) (mostI m n) u hs hmo
  have hi2 := sat_in (n := szI x * mostI m n) (Int.mul_nonneg (by omega) (by omega))
  have hsu := fun u => sum_c 1 (satI (szI x * mostI m n)) u (by omega) hi2
  have HE := Lib.hid (sz_rep (x := x) hm.1 hn.1)
  obtain ⟨pb, rfl, hpl⟩ := hx.ptr
  have HX := Lib.hid hx
  have hmx := run_max3 m n
  clear hx
  go_enter Tryz.func75, Tryz.ntmps75
  go_wp2_with (first
    | (go_at_call 80; refine (hp _).mono ?_; rintro e w1 ⟨rfl, hw⟩; rw [hw]; clear hw w1)
    | (go_at_call 29; refine (hsu _).mono ?_; rintro e w1 ⟨rfl, hw⟩; rw [hw]; clear hw w1))
  rw [p_zeroC, p_rep0]
  generalize hW : (((w.alloc (.cells #[ptr pb, .int .i64 (szI x)] 38)).alloc (.cells #[.pointer (some ⟨w.heap.size + 1 + 1 + 1, 0, none⟩), .int .i64 (satI (1 + satI (szI x * mostI m n)))] 38)).alloc (.cells #[ptr pb] 36)).alloc (.cells (ndC 6 noB m n (.slice (some ⟨w.heap.size + 1 + 1, 0, none⟩) 1 1)) 64) = W
  have hB : Below w.heap.size w W := by
    rw [← hW]
    exact ((((Below.refl _ w).alloc (Nat.le_refl _) _).alloc (by simp) _).alloc (by simp; omega) _).alloc (by simp; omega) _
  have h1 : ReB W (w.heap.size + 1) (ptr (w.heap.size + 3)) (satI (1 + satI (szI x * mostI m n))) := by
    rw [← hW]
    refine (al_old _ _ (by rw [al_size, al_size, al_size]; omega)).trans ((al_old _ _ (by rw [al_size, al_size]; omega)).trans ?_)
    have := al_new (w.alloc (.cells #[ptr pb, .int .i64 (szI x)] 38)) (.cells #[.pointer (some ⟨w.heap.size + 1 + 1 + 1, 0, none⟩), .int .i64 (satI (1 + satI (szI x * mostI m n)))] 38)
    rw [al_size] at this
    exact this
  have h2 : W.heap[w.heap.size + 2]? = some (.cells #[ptr pb] 36) := by
    rw [← hW]
    refine (al_old _ _ (by rw [al_size, al_size, al_size]; omega)).trans ?_
    have := al_new ((w.alloc (.cells #[ptr pb, .int .i64 (szI x)] 38)).alloc (.cells #[.pointer (some ⟨w.heap.size + 1 + 1 + 1, 0, none⟩), .int .i64 (satI (1 + satI (szI x * mostI m n)))] 38)) (.cells #[ptr pb] 36)
    rw [al_size, al_size] at this
    exact this
  have h3 : W.heap[w.heap.size + 3]? = some (.cells (ndC 6 noB m n (.slice (some ⟨w.heap.size + 1 + 1, 0, none⟩) 1 1)) 64) := by
    rw [← hW]
    have := al_new (((w.alloc (.cells #[ptr pb, .int .i64 (szI x)] 38)).alloc (.cells #[.pointer (some ⟨w.heap.size + 1 + 1 + 1, 0, none⟩), .int .i64 (satI (1 + satI (szI x * mostI m n)))] 38)).alloc (.cells #[ptr pb] 36)) (.cells (ndC 6 noB m n (.slice (some ⟨w.heap.size + 1 + 1, 0, none⟩) 1 1)) 64)
    rw [al_size, al_size, al_size] at this
    exact this
  refine bodyPost_ret (res_re rfl (b := w.heap.size + 1) rfl h1) rfl ?_
  refine ⟨ptr (w.heap.size + 3), by unfold reV; rw [HE.out], ?_, hB⟩
  unfold repN
  rw [NodeP]
  refine ⟨w.heap.size + 3, _, rfl, h3, .inr ⟨w.heap.size + 2, 0, 1, _, rfl, ⟨by simp, by omega⟩, h2, ?_⟩⟩
  rw [NodeP.kidsP, NodeP.kidsP]
  exact ⟨⟨ptr pb, rfl, HX.out.keep (NKeep.of hB)⟩, trivial⟩
end Go.Proofs.YtlekfdkahlobiaaGreat.Re
