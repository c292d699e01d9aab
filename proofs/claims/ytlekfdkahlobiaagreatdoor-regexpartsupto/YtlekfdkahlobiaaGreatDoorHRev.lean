/- What is to be told of a node: its items, in parentheses. -/
import Derived.Deep.RegionHeld3
import Derived.Deep.LoopGhost
import Derived.Test.YtlekfdkahlobiaaGreatDoorHIt
import Derived.Test.YtlekfdkahlobiaaGreatDoorHBld3
namespace Go.Proofs.YtlekfdkahlobiaaGreatDoor.Re
open Go.Proofs.YtlekfdkahlobiaaGreatDoor.Tr
open Go.RowKit

theorem info_it : (Tryz.prog.info? 64).map (fun i => (i.zero, i.size, i.bytes)) = some (some (.agg #[.string ⟨#[]⟩, .pointer none]), 2, 24) := by kernel_rfl
/-- A row of items. -/
structure ItR (w : World) (base : Nat) (v : Value) (L : List It) : Prop where
  row : w.ownsRow base 64 2 v L.length (itCells L)
  ok : ∀ i ∈ L, ItOk w i
theorem ItR.below {w w' : World} {base : Nat} {v : Value} {L : List It} (h : ItR w base v L) (hB : Below w.heap.size w w') : ItR w' base v L :=
  ⟨row_keep h.row fun g _ hg => (hB.block g (h_lt hg)).trans hg, fun i hi => (h.ok i hi).keep (NKeep.of hB)⟩
theorem ItR.app {w w2 : World} {base : Nat} {v v2 : Value} {L M : List It} (h : ItR w base v L) (ok : ∀ i ∈ M, ItOk w i) (ho : w2.ownsRow base 64 2 v2 (L.length + M.length) (itCells L ++ itCells M)) (hg : w.grownBy w2 v.ownBlock) : ItR w2 base v2 (L ++ M) := by
  have hk : NKeep w w2 := ⟨hg.size, fun b cs T hT hb => grown_other h.row hg (by rcases hT with rfl | rfl | rfl <;> decide) hb⟩
  refine ⟨by rw [List.length_append, itCells_app]; exact ho, fun i hi => ?_⟩
  rcases List.mem_append.1 hi with hi | hi
  · exact (h.ok i hi).keep hk
  · exact (ok i hi).keep hk
theorem ItR.slice {w : World} {base : Nat} {v : Value} {L : List It} (h : ItR w base v L) : ∃ a c, v = .slice a L.length c := by
  rcases h.row.2 with ⟨hv, h0⟩ | ⟨g, cap, cur, hv, _⟩
  · exact ⟨none, 0, by rw [hv, h0]⟩
  · exact ⟨_, _, hv⟩
theorem ItR.bel {w u w2 : World} {B base : Nat} {v : Value} {L : List It} (h : ItR u base v L) (hB : Below B w u) (hb : B ≤ base) (hu : B ≤ u.heap.size) (hg : u.grownBy w2 v.ownBlock) : Below B w w2 := hB.grown hg hu (fun k hk => Nat.le_trans hb (h.row.lt k hk).1)
theorem row_app1 {w : World} {base : Nat} {v : Value} {M : List It} {x : It} (h : ItR w base v (M ++ [x])) : w.ownsRow base 64 2 v (M.length + 1) (itCells (M ++ [x])) := by
  have := h.row
  rw [List.length_append] at this
  exact this
/-- A new row of one. -/
theorem it_one (w : World) (t : List UInt8) (v : Value) (nd : Option Nd) (h : ItOk (w.alloc (.cells #[.string (bs t), v] 64)) ⟨t, v, nd⟩) : ItR (w.alloc (.cells #[.string (bs t), v] 64)) w.heap.size (.slice (some ⟨w.heap.size, 0, none⟩) 1 1) [⟨t, v, nd⟩] :=
  ⟨⟨rfl, .inr ⟨w.heap.size, 1, _, rfl, Nat.le_refl _, al_new _ _, Nat.le_refl _, by decide, rfl, rfl⟩⟩, fun i hi => by rcases List.mem_singleton.1 hi with rfl; exact h⟩
set_option maxHeartbeats 4000000 in
set_option maxRecDepth 100000 in
theorem inPar_c (sep : List UInt8) {a : Option Addr} {cap : Nat} {l : List (Value × Nd)} {w : World} (hl : l.length ≤ 30000) (hc : l.length ≤ cap ∧ cap ≤ 9223372036854775807) (hk : ∀ (i : Nat) (q : Value × Nd), l[i]? = some q → NodeP w q.1 q.2 ∧ ∃ kb off, a = some ⟨kb, off, none⟩ ∧ w.cell? ⟨kb, off + i, none⟩ = some q.1) (hw : ∀ q ∈ l, q.2.wf = true) :
    Calls Tryz.prog 42 #[.slice a l.length cap, .string (bs sep)] w fun e w' => ∃ v, e = .returned v ∧ ItR w' w.heap.size v (txI [40] :: midI sep true l ++ [txI [41]]) ∧ Below w.heap.size w w' := by
  have HK := Lib.hid hk
  have HW := Lib.hid hw
  obtain ⟨i0, hi, hz0, hz1, hz2⟩ := p_info info_it
  have HI0 : Hid (ItR (w.alloc (.cells #[.string (bs [40]), .pointer none] 64)) w.heap.size (.slice (some ⟨w.heap.size, 0, none⟩) 1 1) (txI [40] :: midI sep true (l.take 0)) ∧ Below w.heap.size w (w.alloc (.cells #[.string (bs [40]), .pointer none] 64))) := ⟨it_one w [40] _ none rfl, (Below.refl _ w).alloc (Nat.le_refl _) _⟩
  clear hk hw
  go_enter Tryz.func42, Tryz.ntmps42
  go_wp2_with fail
  go_loopw [5, 6, 7, 12] (fun v5 _ _ v12 wr => ∃ (i : Nat) (va : Option Addr) (vc : Nat) (M : List It), i ≤ l.length ∧ v12 = .int .i64 (i : Int) ∧ v5 = .slice va M.length vc ∧ M.length ≤ 2 * i + 1 ∧ Hid (M = txI [40] :: midI sep true (l.take i) ∧ ItR wr w.heap.size (.slice va M.length vc) M ∧ Below w.heap.size w wr)) (fun _ _ _ v12 _ => l.length - (intOf v12).toNat)
  case atStart => exact ⟨0, _, _, [txI [40]], by omega, rfl, rfl, by simp, (show _ ∧ _ from ⟨rfl, HI0.out.1, HI0.out.2⟩)⟩
  case round =>
    obtain ⟨i, va, vc, M, hi1, rfl, rfl, hM, HI⟩ := hrel
    clear HI0
    by_cases hlt : i < l.length
    · have n1 : (i : Int) < (l.length : Int) := by omega
      obtain ⟨q, hq⟩ : ∃ q, l[i]? = some q := ⟨_, List.getElem?_eq_getElem hlt⟩
      obtain ⟨hN, kb, off, rfl, hcu⟩ := HK.out i q hq
      have hNw := hN.keep (NKeep.of HI.out.2.2)
      have hcw := cell_below HI.out.2.2 hcu
      have hqw := HW.out q (List.mem_of_getElem? hq)
      have HT := Lib.hid (midI_take sep l true i q hq)
      obtain ⟨qv, qx⟩ := q
      obtain ⟨pb, rfl, hpl⟩ := hNw.ptr
      have HN := Lib.hid (And.intro hNw hqw)
      clear hq hN hNw hqw hcu
      by_cases hi0 : i = 0
      · have n2 : ¬ (0 : Int) < (i : Int) := by omega
        have HO := Lib.hid hi0
        clear hi0
        go_wp2_with (at_builtin; refine wpList_append_lies _ rfl _ _ 65 rfl w.heap.size 64 i0 (.agg #[.string ⟨#[]⟩, .pointer none]) 2 24 Tryz.underlying65 hi hz0 hz1 hz2 rfl (by decide) (.slice va M.length vc) M.length (itCells M) rfl (HI.out.2.1.below ((Below.refl _ wr).alloc (Nat.le_refl _) _)).row ⟨wr.heap.size, 0, none⟩ 1 1 [.string ⟨#[]⟩, ptr pb] rfl rfl (cell_two _ _ _ _) (by simp [Value.oneCell']) (by omega) (by unfold maxLen; omega) (by omega) (by have := HI.out.2.2.size; simp; omega) _ rfl ?_; intro g cap2 w4 hown4 hgrow4 hat4 hlt4; have H4 := Lib.hid (And.intro hown4 hgrow4); clear hown4 hgrow4 hat4 hlt4)
        refine ⟨⟨i + 1, some ⟨g, 0, none⟩, cap2, M ++ [ndI (ptr pb) qx], by omega, by go_num, by rw [List.length_append]; rfl, by simp; omega, ?_⟩, by simp [intOf]; omega⟩
        have hal : Below wr.heap.size wr (wr.alloc (.cells #[.string ⟨#[]⟩, ptr pb] 64)) := (Below.refl _ wr).alloc (Nat.le_refl _) _
        have hr := HI.out.2.1.below hal
        refine (show _ ∧ _ from ⟨?_, ?_, ?_⟩)
        · rw [HT.out, HI.out.1, if_pos ⟨HO.out, rfl⟩]; simp
        · rw [List.length_append]
          exact hr.app (M := [ndI (ptr pb) qx]) (fun i hi => by rcases List.mem_singleton.1 hi with rfl; exact ndI_ok (HN.out.1.keep (NKeep.of hal)) HN.out.2) H4.out.1 H4.out.2
        · exact hr.bel (HI.out.2.2.trans (hal.mono HI.out.2.2.size)) (Nat.le_refl _) (by have := HI.out.2.2.size; simp; omega) H4.out.2
      · have n2 : (0 : Int) < (i : Int) := by omega
        have HO := Lib.hid hi0
        clear hi0
        have hal : Below wr.heap.size wr (wr.alloc (.cells #[.string (bs sep), .pointer none] 64)) := (Below.refl _ wr).alloc (Nat.le_refl _) _
        have HR := Lib.hid (HI.out.2.1.below hal)
        have HB2 := Lib.hid (HI.out.2.2.trans (hal.mono HI.out.2.2.size))
        have HN2 := Lib.hid (HN.out.1.keep (NKeep.of hal))
        clear hal
        go_wp2_with (first
          | (at_builtin; refine wpList_append_lies _ rfl _ _ 65 rfl w.heap.size 64 i0 (.agg #[.string ⟨#[]⟩, .pointer none]) 2 24 Tryz.underlying65 hi hz0 hz1 hz2 rfl (by decide) (.slice va M.length vc) M.length (itCells M) rfl HR.out.row ⟨wr.heap.size, 0, none⟩ 1 1 [.string (bs sep), .pointer none] rfl rfl (cell_two _ _ _ _) (by simp [Value.oneCell']) (by omega) (by unfold maxLen; omega) (by omega) (by have := HI.out.2.2.size; simp; omega) _ rfl ?_; intro g cap2 w4 hown4 hgrow4 hat4 hlt4; have HB4 := Lib.hid (HR.out.bel HB2.out (Nat.le_refl _) (by have := HI.out.2.2.size; simp; omega) hgrow4); have HN4 := Lib.hid (HN2.out.keep ⟨hgrow4.size, fun b cs T hT hb => grown_other HR.out.row hgrow4 (by rcases hT with rfl | rfl | rfl <;> decide) hb⟩); have HR4 := Lib.hid (HR.out.app (M := [txI sep]) (fun i hi => by rcases List.mem_singleton.1 hi with rfl; exact txI_ok _ sep) hown4 hgrow4); clear hown4 hgrow4 hat4 hlt4)
          | (at_builtin; refine wpList_append_lies _ rfl _ _ 65 rfl w.heap.size 64 i0 (.agg #[.string ⟨#[]⟩, .pointer none]) 2 24 Tryz.underlying65 hi hz0 hz1 hz2 rfl (by decide) (.slice (some ⟨g, 0, none⟩) (M.length + 1) cap2) (M.length + 1) (itCells (M ++ [txI sep])) rfl (row_app1 (HR4.out.below ((Below.refl _ w4).alloc (Nat.le_refl _) _))) ⟨w4.heap.size, 0, none⟩ 1 1 [.string ⟨#[]⟩, ptr pb] rfl rfl (cell_two _ _ _ _) (by simp [Value.oneCell']) (by omega) (by unfold maxLen; omega) (by omega) (by have := HB4.out.size; simp; omega) _ rfl ?_; intro g5 cap5 w5 hown5 hgrow5 hat5 hlt5; have H5 := Lib.hid (And.intro hown5 hgrow5); clear hown5 hgrow5 hat5 hlt5))
        refine ⟨⟨i + 1, some ⟨g5, 0, none⟩, cap5, M ++ [txI sep] ++ [ndI (ptr pb) qx], by omega, by go_num, by rw [List.length_append, List.length_append]; rfl, by simp; omega, ?_⟩, by simp [intOf]; omega⟩
        have hal : Below w4.heap.size w4 (w4.alloc (.cells #[.string ⟨#[]⟩, ptr pb] 64)) := (Below.refl _ w4).alloc (Nat.le_refl _) _
        have hr := HR4.out.below hal
        refine (show _ ∧ _ from ⟨?_, ?_, ?_⟩)
        · rw [HT.out, HI.out.1, if_neg (fun h => HO.out h.1)]; simp
        · rw [List.length_append]
          refine hr.app (M := [ndI (ptr pb) qx]) (fun i hi => by rcases List.mem_singleton.1 hi with rfl; exact ndI_ok (HN4.out.keep (NKeep.of hal)) HN.out.2) ?_ H5.out.2
          rw [List.length_append]
          exact H5.out.1
        · exact hr.bel (HB4.out.trans (hal.mono HB4.out.size)) (Nat.le_refl _) (by have := HB4.out.size; simp; omega) H5.out.2
    · obtain rfl : i = l.length := by omega
      have n1 : ¬ (l.length : Int) < (l.length : Int) := by omega
      have hal : Below wr.heap.size wr (wr.alloc (.cells #[.string ⟨#[41]⟩, .pointer none] 64)) := (Below.refl _ wr).alloc (Nat.le_refl _) _
      have HR := Lib.hid (HI.out.2.1.below hal)
      have HB2 := Lib.hid (HI.out.2.2.trans (hal.mono HI.out.2.2.size))
      clear hal
      go_wp2_with (at_builtin; refine wpList_append_lies _ rfl _ _ 65 rfl w.heap.size 64 i0 (.agg #[.string ⟨#[]⟩, .pointer none]) 2 24 Tryz.underlying65 hi hz0 hz1 hz2 rfl (by decide) (.slice va M.length vc) M.length (itCells M) rfl HR.out.row ⟨wr.heap.size, 0, none⟩ 1 1 [.string ⟨#[41]⟩, .pointer none] rfl rfl (cell_two _ _ _ _) (by simp [Value.oneCell']) (by omega) (by unfold maxLen; omega) (by omega) (by have := HI.out.2.2.size; simp; omega) _ rfl ?_; intro g cap2 w4 hown4 hgrow4 hat4 hlt4; have H4 := Lib.hid (And.intro hown4 hgrow4); clear hown4 hgrow4 hat4 hlt4)
      go_ret
      refine ⟨_, rfl, ?_, ?_⟩
      · have hr := HR.out.app (M := [txI [41]]) (fun i hi => by rcases List.mem_singleton.1 hi with rfl; exact txI_ok _ _) H4.out.1 H4.out.2
        have e := HI.out.1
        rw [List.take_length] at e
        rw [← List.cons_append, ← e]
        exact hr
      · exact HR.out.bel HB2.out (Nat.le_refl _) (by have := HI.out.2.2.size; simp; omega) H4.out.2
end Go.Proofs.YtlekfdkahlobiaaGreatDoor.Re

namespace Go.Proofs.YtlekfdkahlobiaaGreatDoor.Re
open Go.Proofs.YtlekfdkahlobiaaGreatDoor.Tr
open Go.RowKit

def setI (cur : Array Value) (i : Nat) (x : It) : Array Value := (cur.setIfInBounds (i * 2) (.string (bs x.tx))).setIfInBounds (i * 2 + 1) x.v
theorem setI_size (cur : Array Value) (i : Nat) (x : It) : (setI cur i x).size = cur.size := by simp [setI]
theorem itCells_get (N : List It) (k : Nat) : (itCells N)[k]? = (N[k / 2]?).map fun i => if k % 2 = 0 then .string (bs i.tx) else i.v := by
  rcases Nat.lt_or_ge (k / 2) N.length with h | h
  · obtain ⟨x, hx⟩ : ∃ x, N[k / 2]? = some x := ⟨_, List.getElem?_eq_getElem h⟩
    obtain ⟨h1, h2⟩ := itCells_at hx
    rw [hx]
    rcases Nat.mod_two_eq_zero_or_one k with h0 | h0
    · rw [show k = k / 2 * 2 by omega, h1]
      simp
    · rw [show k = k / 2 * 2 + 1 by omega, h2]
      simp
  · rw [List.getElem?_eq_none (by rw [itCells_len]; omega), List.getElem?_eq_none h]
    rfl
theorem setI_take {cur : Array Value} {N : List It} {i : Nat} (x : It) (h : cur.toList.take (N.length * 2) = itCells N) (hi : i < N.length) (hs : N.length * 2 ≤ cur.size) : (setI cur i x).toList.take (N.length * 2) = itCells (N.set i x) := by
  apply List.ext_getElem?
  intro k
  rw [itCells_get, List.getElem?_set, List.getElem?_take]
  have hk : ∀ j, (setI cur i x).toList[j]? = if j = i * 2 + 1 then some x.v else if j = i * 2 then some (.string (bs x.tx)) else cur.toList[j]? := by
    intro j
    simp only [setI, Array.toList_setIfInBounds, List.getElem?_set, List.length_set, Array.length_toList]
    by_cases h1 : j = i * 2 + 1
    · subst h1
      rw [if_pos rfl, if_pos rfl, if_pos (by omega)]
    · rw [if_neg (Ne.symm h1), if_neg h1]
      by_cases h2 : j = i * 2
      · subst h2
        rw [if_pos rfl, if_pos rfl, if_pos (by omega)]
      · rw [if_neg (Ne.symm h2), if_neg h2]
  rw [hk]
  by_cases hkn : k < N.length * 2
  · rw [if_pos hkn]
    by_cases h1 : k = i * 2 + 1
    · subst h1
      rw [if_pos rfl, if_pos (by omega), if_pos (by omega)]
      simp
    · rw [if_neg h1]
      by_cases h2 : k = i * 2
      · subst h2
        rw [if_pos rfl, if_pos (by omega), if_pos (by omega)]
        simp
      · rw [if_neg h2, if_neg (by omega)]
        have := congrArg (fun l => l[k]?) h
        simp only [List.getElem?_take, if_pos hkn, itCells_get] at this
        exact this
  · rw [if_neg hkn]
    rw [if_neg (by omega), List.getElem?_eq_none (l := N) (by omega)]
    rfl
/-- A row half turned. -/
structure RvI (g : Nat) (cap : Nat) (M : List It) (w wr : World) (i : Nat) (N : List It) : Prop where
  bar : Bar g w wr
  len : N.length = M.length
  row : ∃ cur, wr.heap[g]? = some (.cells cur 64) ∧ cur.size = cap * 2 ∧ cur.toList.take (N.length * 2) = itCells N
  at' : ∀ k, k < M.length → N[k]? = if k < i ∨ M.length - 1 - i < k then M[M.length - 1 - k]? else M[k]?
theorem RvI.swap {g cap : Nat} {M : List It} {w wr : World} {i : Nat} {N : List It} (h : RvI g cap M w wr i N) (hc : M.length ≤ cap) (hi : i < M.length - 1 - i) {x y : It} (hx : N[i]? = some x) (hy : N[M.length - 1 - i]? = some y) {u : World} (hb : Bar g w u) (hu : ∃ cur, wr.heap[g]? = some (.cells cur 64) ∧ (u.heap[g]? = some (.cells (setI (setI cur i y) (M.length - 1 - i) x) 64) ∨ u.heap[g]? = some (.cells (setI (setI cur (M.length - 1 - i) x) i y) 64))) : RvI g cap M w u (i + 1) ((N.set i y).set (M.length - 1 - i) x) := by
  have hl := h.len
  obtain ⟨cur, c1, c2, c3⟩ := h.row
  obtain ⟨cur', d1, d2⟩ := hu
  rw [c1] at d1
  cases d1
  refine ⟨hb, by simp [hl], ?_, ?_⟩
  · rcases d2 with d2 | d2
    · refine ⟨_, d2, by rw [setI_size, setI_size, c2], ?_⟩
      have h1 := setI_take y c3 (i := i) (by omega) (by omega)
      have h2 := setI_take (N := N.set i y) x (i := M.length - 1 - i) (by rw [List.length_set]; exact h1) (by rw [List.length_set]; omega) (by rw [List.length_set, setI_size]; omega)
      rw [List.length_set] at h2 ⊢
      rw [List.length_set]
      exact h2
    · refine ⟨_, d2, by rw [setI_size, setI_size, c2], ?_⟩
      have h1 := setI_take x c3 (i := M.length - 1 - i) (by omega) (by omega)
      have h2 := setI_take (N := N.set (M.length - 1 - i) x) y (i := i) (by rw [List.length_set]; exact h1) (by rw [List.length_set]; omega) (by rw [List.length_set, setI_size]; omega)
      rw [List.set_comm _ _ (by omega)] at h2
      rw [List.length_set] at h2 ⊢
      rw [List.length_set]
      exact h2
  · intro k hk
    have ha := h.at' k hk
    have hai := h.at' i (by omega)
    have haj := h.at' (M.length - 1 - i) (by omega)
    rw [if_neg (by omega)] at hai haj
    rw [List.getElem?_set, List.getElem?_set, List.length_set]
    by_cases h1 : M.length - 1 - i = k
    · rw [if_pos h1, if_pos (by omega), if_pos (by omega), ← hx, hai, ← h1, show M.length - 1 - (M.length - 1 - i) = i by omega]
    · rw [if_neg h1]
      by_cases h2 : i = k
      · subst h2
        rw [if_pos rfl, if_pos (by omega), if_pos (by omega), ← hy, haj]
      · rw [if_neg h2, ha]
        by_cases h3 : k < i ∨ M.length - 1 - i < k
        · rw [if_pos h3, if_pos (by omega)]
        · rw [if_neg h3, if_neg (by omega)]
theorem RvI.fin {g cap : Nat} {M : List It} {w wr : World} {i : Nat} {N : List It} (h : RvI g cap M w wr i N) (hi : ¬ i < M.length - 1 - i) : N = M.reverse := by
  apply List.ext_getElem?
  intro k
  by_cases hk : k < M.length
  · rw [h.at' k hk, List.getElem?_reverse hk]
    by_cases h3 : k < i ∨ M.length - 1 - i < k
    · rw [if_pos h3]
    · rw [if_neg h3]
      congr 1
      omega
  · rw [List.getElem?_eq_none (by rw [h.len]; omega), List.getElem?_eq_none (by rw [List.length_reverse]; omega)]
theorem RvI.cells {g cap : Nat} {M : List It} {w wr : World} {i : Nat} {N : List It} (h : RvI g cap M w wr i N) {j : Nat} {x : It} (hx : N[j]? = some x) : wr.cell? ⟨g, j * 2, none⟩ = some (.string (bs x.tx)) ∧ wr.cell? ⟨g, j * 2 + 1, none⟩ = some x.v := by
  obtain ⟨cur, c1, c2, c3⟩ := h.row
  have hj := (List.getElem?_eq_some_iff.1 hx).1
  obtain ⟨h1, h2⟩ := itCells_at hx
  rw [← c3, List.getElem?_take, if_pos (by omega)] at h1 h2
  exact ⟨h_cell c1 _ (by simpa using h1), h_cell c1 _ (by simpa using h2)⟩
set_option maxHeartbeats 4000000 in
set_option maxRecDepth 100000 in
theorem rev_c {g cap : Nat} {M : List It} {w : World} (hM : M ≠ []) (hl : M.length ≤ 1000000) (hc : M.length ≤ cap) {cur : Array Value} (hg : w.heap[g]? = some (.cells cur 64)) (hsz : cur.size = cap * 2) (ht : cur.toList.take (M.length * 2) = itCells M) (hv : ∀ i ∈ M, ∃ q : Option Addr, i.v = .pointer q) :
    Calls Tryz.prog 26 #[.slice (some ⟨g, 0, none⟩) M.length cap] w fun e w' => e = .returned (.tuple #[]) ∧ ∃ k, RvI g cap M w w' k M.reverse := by
  have HI0 : Hid (RvI g cap M w w 0 M) := ⟨Bar.refl _ _, rfl, ⟨cur, hg, hsz, ht⟩, fun k hk => by
    by_cases h : k < 0 ∨ M.length - 1 - 0 < k
    · omega
    · rw [if_neg h]⟩
  have hpos := List.length_pos_iff.2 hM
  have HV := Lib.hid hv
  clear hg hsz ht hv
  go_enter Tryz.func26, Tryz.ntmps26
  go_wp2_with fail
  go_loopw [2, 3] (fun v2 v3 wr => ∃ (i : Nat) (N : List It), i ≤ M.length ∧ v2 = .int .i64 (i : Int) ∧ v3 = .int .i64 ((M.length : Int) - 1 - (i : Int)) ∧ Hid (RvI g cap M w wr i N)) (fun v2 _ _ => M.length - (intOf v2).toNat)
  case atStart => exact ⟨0, M, by omega, rfl, by simp, HI0⟩
  case round =>
    obtain ⟨i, N, hi, rfl, rfl, HI⟩ := hrel
    by_cases hlt : i < M.length - 1 - i
    · have n1 : (i : Int) < (M.length : Int) - 1 - (i : Int) := by omega
      obtain ⟨x, hx⟩ : ∃ x, N[i]? = some x := ⟨_, List.getElem?_eq_getElem (by rw [HI.out.len]; omega)⟩
      obtain ⟨y, hy⟩ : ∃ y, N[M.length - 1 - i]? = some y := ⟨_, List.getElem?_eq_getElem (by rw [HI.out.len]; omega)⟩
      have ax := HI.out.at' i (by omega)
      have ay := HI.out.at' (M.length - 1 - i) (by omega)
      rw [if_neg (by omega), hx] at ax
      rw [if_neg (by omega), hy] at ay
      obtain ⟨qx, ex⟩ := HV.out x (List.mem_of_getElem? ax.symm)
      obtain ⟨qy, ey⟩ := HV.out y (List.mem_of_getElem? ay.symm)
      obtain ⟨cx, dx⟩ := HI.out.cells hx
      obtain ⟨cy, dy⟩ := HI.out.cells hy
      obtain ⟨cur, c1, c2, c3⟩ := HI.out.row
      have fz : ∀ k, wr.frozen? ⟨g, k, none⟩ = false := fun k => h_fz c1 k
      have HC := Lib.hid (And.intro c1 (And.intro hx hy))
      obtain ⟨tx, vx, nx⟩ := x
      obtain ⟨ty, vy, ny⟩ := y
      cases ex
      cases ey
      obtain ⟨j, hj⟩ : ∃ j : Nat, j = M.length - 1 - i := ⟨_, rfl⟩
      rw [← hj] at cy dy
      have ej : (M.length : Int) - 1 - (i : Int) = (j : Int) := by omega
      have HJ := Lib.hid hj
      rw [ej] at n1 ⊢
      have bj : (j : Int) < (M.length : Int) := by omega
      have bi : (i : Int) < (M.length : Int) := by omega
      clear ax ay hx hy c1 c2 c3 ej hj hlt
      go_upto_region 3 with fail
      go_region
      have HB : Hid (RvI g cap M w ((((wr.setCell ⟨g, i * 2, none⟩ (.string (bs ty))).setCell ⟨g, i * 2 + 1, none⟩ (.pointer qy)).setCell ⟨g, j * 2, none⟩ (.string (bs tx))).setCell ⟨g, j * 2 + 1, none⟩ (.pointer qx)).drew (i + 1) ((N.set i ⟨ty, .pointer qy, ny⟩).set j ⟨tx, .pointer qx, nx⟩)) := by
        have hj := HJ.out
        subst hj
        refine HI.out.swap hc (by omega) HC.out.2.1 HC.out.2.2 ((HI.out.bar.trans ((((Bar.set g _ _ _).trans (Bar.set g _ _ _)).trans (Bar.set g _ _ _)).trans (Bar.set g _ _ _))).drew) ⟨cur, HC.out.1, .inl ?_⟩
        exact h_set (h_set (h_set (h_set HC.out.1 (i * 2) (.string (bs ty))) (i * 2 + 1) (.pointer qy)) ((M.length - 1 - i) * 2) (.string (bs tx))) ((M.length - 1 - i) * 2 + 1) (.pointer qx)
      go_wp2_with fail
      have ej : j = M.length - 1 - i := HJ.out
      exact ⟨⟨i + 1, _, by omega, by go_num, (by congr 1; omega), HB⟩, by simp [intOf]; omega⟩
    · have n1 : ¬ (i : Int) < (M.length : Int) - 1 - (i : Int) := by omega
      have hf := HI.out.fin hlt
      subst hf
      have HF := Lib.hid HI.out
      clear HI
      go_wp2_with fail
      go_end0
      exact ⟨rfl, i, HF.out⟩
end Go.Proofs.YtlekfdkahlobiaaGreatDoor.Re
