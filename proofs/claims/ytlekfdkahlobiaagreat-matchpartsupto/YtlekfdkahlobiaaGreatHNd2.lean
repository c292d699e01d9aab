/- copyKids. -/
import Derived.Deep.RegionHeld3
import Derived.Deep.WholeRow
import Derived.Test.YtlekfdkahlobiaaGreatHNd1
namespace Go.Proofs.YtlekfdkahlobiaaGreat.Re
open Go.Proofs.YtlekfdkahlobiaaGreat.Tr
open Go.RowKit

theorem info260 : (Tryz.prog.info? 64).map (·.size) = some 260 := by kernel_rfl
theorem ndC_one (k : Nat) (p : UInt8 → Bool) (m n : Int) {kv : Value} (h : ∃ a l c, kv = .slice a l c) : (ndC k p m n kv).all (·.oneCell') = true := by
  obtain ⟨a, l, c, rfl⟩ := h
  rw [Array.all_eq_true_iff_forall_mem]
  intro v hv
  have hv : v ∈ (ndC k p m n (.slice a l c)).toList := by simpa using hv
  rw [p_ndC_list] at hv
  rcases List.mem_cons.1 hv with rfl | hv
  · rfl
  rcases List.mem_append.1 hv with hv | hv
  · obtain ⟨i, _, rfl⟩ := List.mem_map.1 hv
    rfl
  · rcases List.mem_cons.1 hv with rfl | hv
    · rfl
    rcases List.mem_cons.1 hv with rfl | hv
    · rfl
    · rcases List.mem_singleton.1 hv with rfl
      rfl
theorem RowQ.shape {gl : Nat} {w : World} {kv : Value} {l : List Nd} (h : RowQ gl w kv l) : ∃ a l' c, kv = .slice a l' c := by
  rcases h with ⟨e, _⟩ | ⟨kb, off, cap, cs, e, _⟩
  · exact ⟨_, _, _, e⟩
  · exact ⟨_, _, _, e⟩
theorem zeroC_size : Tryz.zeroCells64.size = 260 := by rw [p_zeroC, ndC_size]
theorem cell_oneP (W : World) (a : Value) (T : Nat) : ∀ j u, [a][j]? = some u → (W.alloc (.cells #[a] T)).cell? ((⟨W.heap.size, 0, none⟩ : Addr).add j) = some u := by
  intro j u h
  rcases j with _ | j
  · cases h
    rw [Addr.add_lit]
    exact h_cell (al_new W _) 0 rfl
  · simp at h
theorem CkI.below {gl : Nat} {w0 u u' : World} {L : List (Value × Nd)} {v : Value} {L1 : List (Value × Nd)} (h : CkI gl w0 L u v L1) (hB : Below u.heap.size u u') : CkI gl w0 L u' v L1 :=
  ⟨h.bel.trans (hB.mono h.bel.size), row_keep h.row fun g _ hg => (hB.block g (h_lt hg)).trans hg, h.nil, fun j q hq => by
    obtain ⟨b0, b, cs, h1, h2, h3, h4, h5⟩ := h.cop j q hq
    exact ⟨b0, b, cs, h1, h2, h3, h4, (hB.block b (h_lt h5)).trans h5⟩⟩
theorem CkI.app {gl : Nat} {w0 u u' : World} {L : List (Value × Nd)} {v v' : Value} {L1 : List (Value × Nd)} (h : CkI gl w0 L u v L1) {b0 b : Nat} {x : Nd} {cs : Array Value} (hL : L[L1.length]? = some (ptr b0, x)) (hb : w0.heap.size ≤ b) (h0 : w0.heap[b0]? = some (.cells cs 64)) (h1 : u.heap[b]? = some (.cells cs 64)) (ho : u'.ownsRow w0.heap.size 36 1 v' (L1.length + 1) (L1.map Prod.fst ++ [ptr b])) (hg : u.grownBy u' v.ownBlock) : CkI gl w0 L u' v' (L1 ++ [(ptr b, x)]) := by
  refine ⟨h.bel.grown hg h.bel.size (fun k hk => (h.row.lt k hk).1), by rw [List.length_append, List.map_append]; exact ho, fun e => by simp at e, fun j q hq => ?_⟩
  by_cases hj : j < L1.length
  · rw [List.getElem?_append_left hj] at hq
    obtain ⟨c0, c, cs', g1, g2, g3, g4, g5⟩ := h.cop j q hq
    exact ⟨c0, c, cs', g1, g2, g3, g4, grown_other h.row hg (by decide) g5⟩
  · rw [List.getElem?_append_right (by omega)] at hq
    rcases hi : j - L1.length with _ | i
    · rw [hi] at hq
      cases hq
      have : j = L1.length := by omega
      subst this
      exact ⟨b0, b, cs, hL, rfl, hb, h0, grown_other h.row hg (by decide) h1⟩
    · rw [hi] at hq; simp at hq
set_option maxHeartbeats 4000000 in
set_option maxRecDepth 100000 in
theorem copyKids_c {gl nb k : Nat} {p : UInt8 → Bool} {m n : Int} {a : Option Addr} {cap : Nat} {w : World} {L : List (Value × Nd)} (hgl : gl < w.heap.size) (hb : BlkAt 64 w nb k p m n (.slice a L.length cap)) (hl : L.length ≤ 30000) (hc : L.length ≤ cap ∧ cap ≤ 9223372036854775807) (hk : ∀ (i : Nat) (q : Value × Nd), L[i]? = some q → NodeQ gl w q.1 q.2 ∧ ∃ kb off, a = some ⟨kb, off, none⟩ ∧ w.cell? ⟨kb, off + i, none⟩ = some q.1) :
    Calls Tryz.prog 26 #[ptr nb] w (CkO gl nb L w) := by
  obtain ⟨i0, hi, hz0, hz1, hz2⟩ := p_info info_pn
  have c259 := h_cell hb 259 (ndC_kv _ _ _ _ _)
  have HI0 : Hid (CkI gl w L w (.slice none 0 0) []) := ⟨Below.refl _ _, ⟨rfl, .inl ⟨rfl, rfl⟩⟩, fun _ => rfl, fun j q hq => by simp at hq⟩
  have HFin : Hid (∀ wr v L1, CkI gl w L wr v L1 → L1.length = L.length → CkO gl nb L w (.returned v) (wr.setCell ⟨nb, 259, none⟩ v)) := fun wr v L1 h1 h2 => ck_fin hgl hb hk h1 h2
  have HK := Lib.hid hk
  have HBk := Lib.hid hb
  clear hk hb
  go_enter Tryz.func26, Tryz.ntmps26
  go_wp2_with fail
  go_loopw [3, 5, 6, 12] (fun v3 _ _ v12 wr => ∃ (i : Nat) (va : Option Addr) (vc : Nat) (L1 : List (Value × Nd)), i ≤ L.length ∧ v12 = .int .i64 (i : Int) ∧ v3 = .slice va L1.length vc ∧ L1.length = i ∧ Hid (CkI gl w L wr (.slice va L1.length vc) L1)) (fun _ _ _ v12 _ => L.length - (intOf v12).toNat)
  case atStart => exact ⟨0, none, 0, [], by omega, rfl, rfl, rfl, HI0⟩
  case round =>
    obtain ⟨i, va, vc, L1, hi1, rfl, rfl, hL1, HI⟩ := hrel
    have HL1 := Lib.hid hL1
    clear HI0 hL1
    by_cases hlt : i < L.length
    · have n1 : (i : Int) < (L.length : Int) := by omega
      obtain ⟨q, hq⟩ : ∃ q, L[i]? = some q := ⟨_, List.getElem?_eq_getElem hlt⟩
      obtain ⟨hN, kb, off, rfl, hcu⟩ := HK.out i q hq
      obtain ⟨qv, k1, p1, m1, n1', l1⟩ := q
      obtain ⟨b0, kv0, e, hB0, hR0⟩ := nodeQ_iff.1 hN
      cases e
      have hcw := cell_below HI.out.bel hcu
      have hsz := ndC_size k1 p1 m1 n1' kv0
      have hone := ndC_one k1 p1 m1 n1' hR0.shape
      obtain ⟨cs, hcs⟩ : ∃ cs, ndC k1 p1 m1 n1' kv0 = cs := ⟨_, rfl⟩
      rw [hcs] at hsz hone
      have hB1 : w.heap[b0]? = some (.cells cs 64) := by rw [← hcs]; exact hB0
      have hB2 : wr.heap[b0]? = some (.cells cs 64) := (HI.out.bel.block _ (h_lt hB1)).trans hB1
      have HQ := Lib.hid (And.intro hq (And.intro hB1 hB2))
      clear hq hN hcu hB0 hB1 hcs
      go_wp2_with fail
      refine wp_load_arr 64 (.tmp 17) rfl b0 cs rfl 64 HQ.out.2.2 Tryz.underlying64 rfl (by rw [hsz]; exact info260) ?_
      have hst := run_storeCells_new (P := Tryz.prog) wr 64 Tryz.zeroCells64 cs (by rw [hsz]; exact info260) (by rw [zeroC_size, hsz]) hone
      have H2 := Lib.hid (HI.out.below ((Below.refl _ wr).alloc (Nat.le_refl _) (.cells cs 64)))
      have H3 := Lib.hid (H2.out.below ((Below.refl _ _).alloc (Nat.le_refl _) (.cells #[ptr wr.heap.size] 36)))
      have hws := HI.out.bel.size
      go_wp2_with (at_builtin; refine wpList_append_lies _ rfl _ _ 62 rfl w.heap.size 36 i0 (.pointer none) 1 8 Tryz.underlying62 hi hz0 hz1 hz2 rfl (by decide) (.slice va L1.length vc) L1.length (L1.map Prod.fst) rfl H3.out.row ⟨wr.heap.size + 1, 0, none⟩ 1 1 [ptr wr.heap.size] rfl rfl (by have := cell_oneP (wr.alloc (.cells cs 64)) (ptr wr.heap.size) 36; rwa [al_size] at this) (by simp [Value.oneCell']) (by omega) (by unfold maxLen; have := HL1.out; omega) (by have := HL1.out; omega) (by simp; omega) _ rfl ?_; intro g cap2 w4 hown4 hgrow4 hat4 hlt4; have H4 := Lib.hid (H3.out.app (b0 := b0) (b := wr.heap.size) (x := ⟨k1, p1, m1, n1', l1⟩) (cs := cs) (by rw [HL1.out]; exact HQ.out.1) hws HQ.out.2.1 ((al_old _ _ (by rw [al_size]; omega)).trans (al_new _ _)) hown4 hgrow4); clear hown4 hgrow4 hat4 hlt4)
      have hl1 := HL1.out
      exact ⟨⟨i + 1, some ⟨g, 0, none⟩, cap2, L1 ++ [(ptr wr.heap.size, ⟨k1, p1, m1, n1', l1⟩)], by omega, by go_num, by rw [List.length_append]; rfl, by rw [List.length_append, hl1]; rfl, (by rw [List.length_append]; exact H4)⟩, by simp [intOf]; omega⟩
    · obtain rfl : i = L.length := by omega
      have n1 : ¬ (L.length : Int) < (L.length : Int) := by omega
      have hbw : BlkAt 64 wr nb k p m n (.slice a L.length cap) := (HI.out.bel.block _ (h_lt HBk.out)).trans HBk.out
      have d259 := h_cell hbw 259 (ndC_kv _ _ _ _ _)
      have z259 := h_fz hbw 259
      have HF := Lib.hid (HFin.out _ _ _ HI.out HL1.out)
      clear HI hbw
      go_wp2_with fail
      go_ret
      exact HF.out
end Go.Proofs.YtlekfdkahlobiaaGreat.Re
