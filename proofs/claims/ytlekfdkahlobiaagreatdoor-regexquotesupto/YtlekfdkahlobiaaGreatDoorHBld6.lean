/- The builder: a branch ends. -/
import Derived.Test.YtlekfdkahlobiaaGreatDoorHBld4
namespace Go.Proofs.YtlekfdkahlobiaaGreatDoor.Re
open Go.RowKit

theorem sp_set_list {sp : List (Nat × Nat)} {a b c : Nat} : (spCells (sp ++ [(a, b)])).set (sp.length * 2 + 1) (.int .i64 (c : Int)) = spCells (sp ++ [(a, c)]) := by
  rw [spCells_app, spCells_app]
  have h := spCells_len sp
  rw [List.set_append_right _ _ (by omega), h, Nat.add_sub_cancel_left]
  rfl
theorem sp_set {w : World} {base g cap n : Nat} {sp : List (Nat × Nat)} {a b c : Nat} (hn : sp.length = n) (h : w.ownsRow base 115 2 (.slice (some ⟨g, 0, none⟩) (n + 1) cap) (n + 1) (spCells (sp ++ [(a, b)]))) : (w.setCell ⟨g, n * 2 + 1, none⟩ (.int .i64 (c : Int))).ownsRow base 115 2 (.slice (some ⟨g, 0, none⟩) (n + 1) cap) (n + 1) (spCells (sp ++ [(a, c)])) := by
  subst hn
  refine ⟨by rw [spCells_len]; simp, ?_⟩
  rcases h.2 with ⟨e, _⟩ | ⟨g', cap', cur, e, hb, hg, hle, hcap, hsz, ht⟩
  · cases e
  · cases e
    refine .inr ⟨g, cap, _, rfl, hb, h_set hg _ _, hle, hcap, by simp [hsz], ?_⟩
    rw [Array.toList_setIfInBounds, List.take_set, ht, sp_set_list]
/-- What the end of a branch leaves. -/
abbrev EbP (rb : Nat) (br : List Nd) (j : Nd) (fs : List Fr) (made : Int) : World → Value → Value → Int → Prop := fun w' pv' ov' made' => BdR w' rb pv' ov' made' ((br ++ [j], []) :: fs) ∧ made' = made
/-- What is known ahead of the joining of a branch's pieces. -/
structure Eb (W : World) (rb : Nat) (l : List UInt8) (ext fold : Bool) (last depth : Int) (cl : Bool) (pv ov : Value) (made : Int) (br : List Nd) (j : Nd) (fs : List Fr) (L : List (Value × Nd)) (g cap P gs caps : Nat) : Prop where
  pve : pv = .slice (some ⟨g, 0, none⟩) L.length cap
  ove : ov = .slice (some ⟨gs, 0, none⟩) (fs.length + 1) caps
  pl : P < L.length
  lc : L.length ≤ cap
  cm : cap ≤ 9223372036854775807
  ll : L.length ≤ 10001
  cs : fs.length + 1 ≤ caps
  gb : rb + 1 ≤ g
  sb : rb + 1 ≤ gs
  s1 : W.cell? ⟨gs, fs.length * 2 + 1, none⟩ = some (.int .i64 (P : Int))
  cat : ∀ W', Below W.heap.size W W' → Calls Tryz.prog 30 #[.slice (some ⟨g, P * 2, none⟩) (L.length - P) (cap - P)] W' (MkO j W')
  own : ∀ w1 o, Below W.heap.size W w1 → (w1.alloc o).ownsRow (rb + 1) 48 2 (.slice (some ⟨g, 0, none⟩) P cap) P (reCells (L.take P))
  kr : ∀ w1 o w2, Below W.heap.size W w1 → (w1.alloc o).grownBy w2 (some g) → Rd w2 rb l ext fold last depth cl pv ov made
  ks : ∀ w1 o w2 v, Below W.heap.size W w1 → (w1.alloc o).grownBy w2 (some g) → (w2.setCell ⟨rb, 6, none⟩ v).cell? ⟨gs, fs.length * 2 + 1, none⟩ = some (.int .i64 (P : Int)) ∧ (w2.setCell ⟨rb, 6, none⟩ v).frozen? ⟨gs, fs.length * 2 + 1, none⟩ = false ∧ w2.cell? ⟨gs, fs.length * 2 + 1, none⟩ = some (.int .i64 (P : Int))
  fin : ∀ w1 v1 o w2 gg cap2, NodeP w1 v1 j → Below W.heap.size W w1 → w2.ownsRow (rb + 1) 48 2 (.slice (some ⟨gg, 0, none⟩) (P + 1) cap2) (P + 1) (reCells (L.take P) ++ [v1, .int .i64 (szI j)]) → (w1.alloc o).grownBy w2 (some g) → BlO rb l ext fold last depth cl W (EbP rb br j fs made) (.returned (.tuple #[])) ((w2.setCell ⟨rb, 6, none⟩ (.slice (some ⟨gg, 0, none⟩) (P + 1) cap2)).setCell ⟨gs, fs.length * 2 + 1, none⟩ (.int .i64 ((P : Int) + 1)))
section
variable {W : World} {rb : Nat} {l : List UInt8} {ext fold cl : Bool} {last depth made : Int} {pv ov : Value}
theorem eb_prep {fs : List Fr} {br pc : List Nd} (h : Rd W rb l ext fold last depth cl pv ov made) (hb : BdR W rb pv ov made ((br, pc) :: fs)) (hpc : pc ≠ []) : ∃ L g cap P gs caps, Eb W rb l ext fold last depth cl pv ov made br (joinN 4 pc) fs L g cap P gs caps := by
  obtain ⟨L, r1, r2, r3⟩ := hb.row
  have hfl : flat ((br, pc) :: fs) = (flat fs ++ br) ++ pc := by simp [flat]
  rw [hfl] at r2
  obtain ⟨P, hP⟩ : ∃ P, (flat fs ++ br).length = P := ⟨_, rfl⟩
  have hLl : L.length = P + pc.length := by rw [← hP, ← List.length_append, ← r2, List.length_map]
  have hK := List.length_pos_iff.2 hpc
  have hL0 : L ≠ [] := fun e => by rw [e] at hLl; simp at hLl; omega
  have hP2 : (flat fs).length + br.length = P := by rw [← hP, List.length_append]
  obtain ⟨g, cap, hpv, hg0, hgl, hle, hcap, hRI⟩ := row_from r1 r3 hL0
  have hsp : spansF ((br, pc) :: fs) = spansF fs ++ [((flat fs).length, (flat fs).length + br.length)] := rfl
  have hop2 : W.ownsRow (rb + 1) 115 2 ov (spansF fs ++ [((flat fs).length, (flat fs).length + br.length)]).length (spCells (spansF fs ++ [((flat fs).length, (flat fs).length + br.length)])) := by
    rw [← hsp, spansF_len]; exact hb.opn
  obtain ⟨gs, caps, hov, hgs0, hcs1, hcs2, s0, s1, sz, scur, hscur⟩ := sp_last (spansF_len fs) hop2
  have hdr : (L.drop P).map Prod.snd = pc := by rw [List.map_drop, r2, ← hP, List.drop_left]
  have htk : (L.take P).map Prod.snd = flat fs ++ br := by rw [List.map_take, r2, ← hP, List.take_left]
  have hrb := h_lt h
  have hcnt : L.length ≤ 10001 := by
    have h1 := hb.cnt
    have h2 := hb.m1
    rw [hfl, ← r2, List.length_map] at h1
    omega
  have own : ∀ w1 o, Below W.heap.size W w1 → (w1.alloc o).ownsRow (rb + 1) 48 2 (.slice (some ⟨g, 0, none⟩) P cap) P (reCells (L.take P)) := fun w1 o hB => by
    rw [hpv] at r1
    have h1 := row_take r1 (k := P) (by omega)
    rw [reCells_take] at h1
    exact row_keep h1 fun b cur hc => (al_old _ _ (Nat.lt_of_lt_of_le (h_lt hc) hB.size)).trans ((hB.block b (h_lt hc)).trans hc)
  have kr : ∀ w1 o w2, Below W.heap.size W w1 → (w1.alloc o).grownBy w2 (some g) → Rd w2 rb l ext fold last depth cl pv ov made := fun w1 o w2 hB hg => by
    have h1 := h_lt (h.keep hB)
    exact (hg.block rb (by rw [al_size]; omega) (by simp; omega)).trans ((al_old _ _ h1).trans (h.keep hB))
  have hgg : ∀ w1 o w2, Below W.heap.size W w1 → (w1.alloc o).grownBy w2 (some g) → ∀ (b : Nat) (cs : Array Value) (T : Nat), T ≠ 48 → W.heap[b]? = some (.cells cs T) → w2.heap[b]? = some (.cells cs T) := fun w1 o w2 hB hg b cs T hT hb => by
    have hg' : (w1.alloc o).grownBy w2 (Value.slice (some ⟨g, 0, none⟩) P cap).ownBlock := hg
    exact grown_other (own w1 o hB) hg' hT ((al_old _ _ (Nat.lt_of_lt_of_le (h_lt hb) hB.size)).trans ((hB.block b (h_lt hb)).trans hb))
  refine ⟨L, g, cap, P, gs, caps, hpv, hov, by omega, hle, hcap, hcnt, hcs1, hg0, hgs0, by rw [s1, hP2], fun W' hB => ?_, own, kr, fun w1 o w2 v hB hg => ?_, fun w1 v1 o w2 gg cap2 hn hB ho hg => ?_⟩
  · have hv : RowV W' (.slice (some ⟨g, P * 2, none⟩) (L.length - P) (cap - P)) (L.drop P) := (show RowV W _ _ from ⟨_, cap - P, by rw [List.length_drop], ⟨by omega, by rw [List.length_drop]; omega⟩, .inr ⟨g, P * 2, rfl, hRI P⟩⟩).below hB
    have := cat_c (by rw [List.length_drop]; omega) hv
    rw [hdr] at this
    exact this
  · have h2 := hgg w1 o w2 hB hg gs scur _ (by decide) hscur
    have h3 : (w2.setCell ⟨rb, 6, none⟩ v).heap[gs]? = some (.cells scur 115) := (Below.heap_setCell _ _ _ _ (by simp; omega)).trans h2
    refine ⟨?_, h_fz h3 _, ?_⟩
    · rw [World.cell?_of_block (w := W) (h3.trans hscur.symm), s1, hP2]
    · rw [World.cell?_of_block (w := W) (h2.trans hscur.symm), s1, hP2]
  · have hR2 := kr w1 o w2 hB hg
    have hg' : (w1.alloc o).grownBy w2 (Value.slice (some ⟨g, 0, none⟩) P cap).ownBlock := hg
    have hN2 : NKeep W w2 := ⟨Nat.le_trans hB.size (by have := hg.size; rw [al_size] at this; omega), fun b cs T hT hb => hgg w1 o w2 hB hg b cs T (by rcases hT with rfl | rfl | rfl <;> decide) hb⟩
    have hN1 : NKeep w1 w2 := (NKeep.of ((Below.refl _ w1).alloc (Nat.le_refl _) o)).trans ⟨hg.size, fun b cs T hT hb => grown_other (own w1 o hB) hg' (by rcases hT with rfl | rfl | rfl <;> decide) hb⟩
    have hA3 : AKeep w2 (w2.setCell ⟨rb, 6, none⟩ (.slice (some ⟨gg, 0, none⟩) (P + 1) cap2)) := AKeep.bar (Bar.set _ _ _ _) hR2
    have hs2 := hA3.blk gs scur _ (by decide) (hgg w1 o w2 hB hg gs scur _ (by decide) hscur)
    have hkeep : ∀ (b : Nat) (cs : Array Value) (T : Nat), T ≠ 115 → (w2.setCell ⟨rb, 6, none⟩ (.slice (some ⟨gg, 0, none⟩) (P + 1) cap2)).heap[b]? = some (.cells cs T) → ((w2.setCell ⟨rb, 6, none⟩ (.slice (some ⟨gg, 0, none⟩) (P + 1) cap2)).setCell ⟨gs, fs.length * 2 + 1, none⟩ (.int .i64 ((P : Int) + 1))).heap[b]? = some (.cells cs T) := fun b cs T hT hb => by
      have hbg : b ≠ gs := fun e => by
        rw [e, hs2] at hb
        injection hb with hb
        injection hb with _ h2 _
        exact hT h2.symm
      exact (Below.heap_setCell _ _ _ _ (by simpa using hbg)).trans hb
    have hN4 : NKeep w2 ((w2.setCell ⟨rb, 6, none⟩ (.slice (some ⟨gg, 0, none⟩) (P + 1) cap2)).setCell ⟨gs, fs.length * 2 + 1, none⟩ (.int .i64 ((P : Int) + 1))) := hA3.nkeep.trans (NKeep.bar (Bar.set _ _ _ _) hs2 (by decide))
    have hs := size_pos (joinN 4 pc)
    have hsj := sizes_le_join (k := 4) (by omega) pc
    have hfl2 : flat ((br ++ [joinN 4 pc], []) :: fs) = (flat fs ++ br) ++ [joinN 4 pc] := by simp [flat]
    have hwt := hb.wt
    have hcn := hb.cnt
    rw [hfl] at hwt hcn
    rw [sizes_app] at hwt
    rw [List.length_append, hP] at hcn
    refine ⟨rfl, .slice (some ⟨gg, 0, none⟩) (P + 1) cap2, ov, made, hkeep _ _ 83 (by decide) (hR2.setParts _), ⟨⟨hb.m0, hb.m1, ?_, ?_, ⟨L.take P ++ [(v1, joinN 4 pc)], ?_, ?_, ?_⟩, ?_⟩, rfl⟩, hN2.trans hN4, ?_⟩
    · rw [hfl2, sizes_app, Nd.size.sizes, Nd.size.sizes]; omega
    · rw [hfl2, List.length_append, hP]; simp; omega
    · rw [List.length_append, List.length_take, Nat.min_eq_left (by omega), reCells_app]
      exact row_keep ho fun b cur hc => hkeep b cur _ (by decide) (hA3.blk b cur _ (by decide) hc)
    · rw [List.map_append, htk, hfl2]; rfl
    · intro i p hp
      by_cases hi2 : i < (L.take P).length
      · rw [List.getElem?_append_left hi2, List.getElem?_take] at hp
        split at hp
        · exact (r3 i p hp).keep (hN2.trans hN4)
        · cases hp
      · rw [List.getElem?_append_right (by omega)] at hp
        rcases hj : i - (L.take P).length with _ | j
        · rw [hj] at hp; cases hp; exact hn.keep (hN1.trans hN4)
        · rw [hj] at hp; simp at hp
    · have h1 : (w2.setCell ⟨rb, 6, none⟩ (.slice (some ⟨gg, 0, none⟩) (P + 1) cap2)).ownsRow (rb + 1) 115 2 (.slice (some ⟨gs, 0, none⟩) (fs.length + 1) caps) (fs.length + 1) (spCells (spansF fs ++ [((flat fs).length, P)])) := by
        have h0 := hb.opn
        rw [hsp, hP2, hov] at h0
        exact row_keep h0 fun b cur hc => hA3.blk b cur _ (by decide) (hgg w1 o w2 hB hg b cur _ (by decide) hc)
      have h2 := sp_set (c := P + 1) (spansF_len fs) h1
      have hsp2 : spansF ((br ++ [joinN 4 pc], []) :: fs) = spansF fs ++ [((flat fs).length, P + 1)] := by
        show spansF fs ++ [((flat fs).length, (flat fs).length + (br ++ [joinN 4 pc]).length)] = _
        rw [List.length_append]
        simp
        omega
      rw [hsp2, hov]
      exact h2
    · have hb1 : Below rb W (w1.alloc o) := (hB.mono (Nat.le_of_lt hrb)).alloc (Nat.le_of_lt (Nat.lt_of_lt_of_le hrb hB.size)) o
      have hb2 : Below rb (w1.alloc o) w2 := ⟨hg.os, hg.tape, hg.output, hg.size, fun j hj => hg.block j (by rw [al_size]; have := hB.size; omega) (fun e => by simp at e; omega)⟩
      exact ((hb1.trans hb2).setCell (p := ⟨rb, 6, none⟩) (Nat.le_refl _) _).setCell (p := ⟨gs, fs.length * 2 + 1, none⟩) (by show rb ≤ gs; omega) _
end
end Go.Proofs.YtlekfdkahlobiaaGreatDoor.Re
