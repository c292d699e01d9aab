/- The builder: the last piece is repeated. -/
import Derived.Test.YtlekfdkahlobiaaGreatMState
namespace Go.Proofs.YtlekfdkahlobiaaGreat.Re
open Go.RowKit

theorem reCells_set {L : List (Value × Nd)} {p q : Value × Nd} : ((reCells (L ++ [p])).set (L.length * 2) q.1).set (L.length * 2 + 1) (.int .i64 (szI q.2)) = reCells (L ++ [q]) := by
  rw [reCells_app, reCells_app]
  have h := reCells_len L
  rw [List.set_append_right _ _ (by omega), List.set_append_right _ _ (by omega), h, Nat.sub_self, Nat.add_sub_cancel_left]
  rfl
theorem flat_rep {m n : Int} {br pc : List Nd} {x : Nd} {fs : List Fr} : flat (repF m n ((br, pc ++ [x]) :: fs)) = flat fs ++ (br ++ pc) ++ [repN m n x] := by
  rw [repF_last]; simp [flat]
theorem spans_rep {m n : Int} {f : Fr} {fs : List Fr} : spansF (repF m n (f :: fs)) = spansF (f :: fs) := rfl
/-- A row whose last one has turned. -/
theorem row_set {w : World} {base g cap : Nat} {L : List (Value × Nd)} {p q : Value × Nd} (h : w.ownsRow base 38 2 (.slice (some ⟨g, 0, none⟩) (L.length + 1) cap) (L.length + 1) (reCells (L ++ [p]))) : ((w.setCell ⟨g, L.length * 2, none⟩ q.1).setCell ⟨g, L.length * 2 + 1, none⟩ (.int .i64 (szI q.2))).ownsRow base 38 2 (.slice (some ⟨g, 0, none⟩) (L.length + 1) cap) (L.length + 1) (reCells (L ++ [q])) := by
  refine ⟨by rw [reCells_len]; simp, ?_⟩
  rcases h.2 with ⟨e, _⟩ | ⟨g', cap', cur, e, hb, hg, hle, hcap, hsz, ht⟩
  · cases e
  · cases e
    refine .inr ⟨g, cap, _, rfl, hb, h_set (h_set hg _ _) _ _, hle, hcap, by simp [hsz], ?_⟩
    rw [Array.toList_setIfInBounds, Array.toList_setIfInBounds, List.take_set, List.take_set, ht, reCells_set]
section
variable {w : World} {rb : Nat} {l : List UInt8} {ext fold cl : Bool} {last depth made : Int} {pv ov : Value}
set_option maxHeartbeats 1000000 in
theorem brep_full (m n : Int) (h : Rd w rb l ext fold last depth cl pv ov made) (hm : 10000 < made) :
    Calls Tryz.prog 64 #[bldP rb, .int .i64 m, .int .i64 n] w fun e w' => e = .returned (.tuple #[]) ∧ w' = w := by
  have hf := isFull_c h
  rw [decide_eq_true hm] at hf
  clear h
  go_enter Tryz.func64, Tryz.ntmps64
  go_wp2_with (go_at_call 60; refine hf.mono ?_; rintro e w1 ⟨rfl, hw⟩; rw [hw]; clear hw w1)
  go_end0
  exact ⟨rfl, rfl⟩
set_option maxHeartbeats 2000000 in
set_option maxRecDepth 100000 in
theorem brep_b {fs : List Fr} {br pc : List Nd} {x : Nd} {m n : Int} (hmm : 0 ≤ m ∧ m ≤ 255) (hnn : (n = -1 ∨ m ≤ n) ∧ n ≤ 255) (h : Rd w rb l ext fold last depth cl pv ov made) (hb : BdR w rb pv ov made ((br, pc ++ [x]) :: fs)) (hm : made ≤ 10000) :
    Calls Tryz.prog 64 #[bldP rb, .int .i64 m, .int .i64 n] w (BlO rb l ext fold last depth cl w fun w' pv' ov' made' => BdR w' rb pv' ov' made' (repF m n ((br, pc ++ [x]) :: fs)) ∧ made' = made + 1) := by
  have hf := isFull_c h
  rw [decide_eq_false (by omega)] at hf
  obtain ⟨L0, r1, r2, r3⟩ := hb.row
  have hfl : flat ((br, pc ++ [x]) :: fs) = (flat fs ++ (br ++ pc)) ++ [x] := by simp [flat]
  rw [hfl] at r2
  obtain ⟨L, p, rfl⟩ : ∃ L p, L0 = L ++ [p] := by
    rcases List.eq_nil_or_concat L0 with e | ⟨L, p, e⟩
    · rw [e] at r2
      have := congrArg List.length r2
      simp at this
    · exact ⟨L, p, by rw [e, List.concat_eq_append]⟩
  rw [List.map_append, List.map_cons, List.map_nil] at r2
  obtain ⟨r2a, r2b⟩ := List.append_inj' r2 rfl
  have hpx : p.2 = x := by simpa using r2b
  obtain ⟨g, cap, rfl, hg0, hgl, hle, hcap, hRI⟩ := row_from r1 r3 (by simp)
  have hRL := hRI L.length
  rw [List.drop_left] at hRL
  have d0 := hRL.at0 0 p rfl
  have d1 := hRL.at1 0 p rfl
  rw [Nat.zero_mul, Nat.add_zero] at d0 d1
  have hnp := hRL.nd 0 p rfl
  obtain ⟨v, y⟩ := p
  simp only at hpx d0 d1 hnp
  subst hpx
  obtain ⟨pb, rfl, hpl⟩ := hnp.ptr
  have m0 := hb.m0
  have c8 := h_cell h 8 rfl
  have z8 := h_fz h 8
  have w1 : IntKind.i64.wrap (made + 1) = made + 1 := IntWalk.i64_in _ (by omega)
  have hcnt : ((L.length : Int) + 1) ≤ 10000 := by
    have := hb.cnt
    rw [hfl, List.length_append, ← r2a, List.length_map] at this
    simp at this
    omega
  have q1 : IntKind.i64.wrap ((L.length : Int) + 1 - 1) = (L.length : Int) := by rw [show (L.length : Int) + 1 - 1 = (L.length : Int) by omega]; exact IntWalk.i64_in _ (by omega)
  have q2 : ((L.length : Int)).toNat = L.length := by omega
  have hA : AKeep w (w.setCell ⟨rb, 8, none⟩ (.int .i64 (made + 1))) := AKeep.bar (Bar.set _ _ _ _) h
  have hR1 := h.setMade (made + 1)
  have hB1 : Below rb w (w.setCell ⟨rb, 8, none⟩ (.int .i64 (made + 1))) := (Below.refl _ w).setCell (p := ⟨rb, 8, none⟩) (Nat.le_refl _) _
  have hbW := hb.keep hA
  have hl1 : (L ++ [(ptr pb, y)]).length = L.length + 1 := by simp
  rw [hl1] at r1 hR1
  have r1W : (w.setCell ⟨rb, 8, none⟩ (.int .i64 (made + 1))).ownsRow (rb + 1) 38 2 (.slice (some ⟨g, 0, none⟩) (L.length + 1) cap) (L.length + 1) (reCells (L ++ [(ptr pb, y)])) := row_keep r1 fun b cur hc => hA.blk b cur _ (by decide) hc
  have e0 : (w.setCell ⟨rb, 8, none⟩ (.int .i64 (made + 1))).cell? ⟨g, L.length * 2, none⟩ = some (ptr pb) := by
    rw [World.cell?_of_block (Below.heap_setCell _ _ _ _ (by simp; omega))]; exact d0
  have e1 : (w.setCell ⟨rb, 8, none⟩ (.int .i64 (made + 1))).cell? ⟨g, L.length * 2 + 1, none⟩ = some (.int .i64 (szI y)) := by
    rw [World.cell?_of_block (Below.heap_setCell _ _ _ _ (by simp; omega))]; exact d1
  have r3W : ∀ (i : Nat) (p : Value × Nd), (L ++ [(ptr pb, y)])[i]? = some p → NodeP (w.setCell ⟨rb, 8, none⟩ (.int .i64 (made + 1))) p.1 p.2 := fun i p hp => (r3 i p hp).keep hA.nkeep
  have hnW := hnp.keep hA.nkeep
  have hsp : (spansF (repF m n ((br, pc ++ [y]) :: fs))) = spansF ((br, pc ++ [y]) :: fs) := rfl
  go_enter Tryz.func64, Tryz.ntmps64
  go_upto_region 2 with (go_at_call 60; refine hf.mono ?_; rintro e w1 ⟨rfl, hw⟩; rw [hw]; clear hw w1)
  have c6 := h_cell hR1 6 rfl
  have HX := Lib.hid (And.intro hR1 (And.intro r1W (And.intro r3W (And.intro hbW (And.intro hA.nkeep hB1)))))
  have HY := Lib.hid (And.intro r2a hfl)
  have HNW := Lib.hid hnW
  clear hR1 r1W r3W hbW hA hB1 c8 z8 h hb r1 r3 hRL d0 d1 hnp hRI hl1 r2a hfl hsp hnW r2 r2b hf
  generalize w.setCell ⟨rb, 8, none⟩ (.int .i64 (made + 1)) = W at *
  go_quiet (fail)
  have f0 : (W.drewN nq).cell? ⟨g, L.length * 2, none⟩ = some (ptr pb) := e0
  have f1 : (W.drewN nq).cell? ⟨g, L.length * 2 + 1, none⟩ = some (.int .i64 (szI y)) := e1
  have hrp := repeat_c (ptr pb) y m n (W.drewN nq) (HNW.out.keep (NKeep.of below_drewN)) hmm hnn
  have HFin : Hid (∀ w1 v1, NodeP w1 v1 (repN m n y) → Below W.heap.size (W.drewN nq) w1 → w1.cell? ⟨g, L.length * 2, none⟩ = some (ptr pb) ∧ w1.frozen? ⟨g, L.length * 2, none⟩ = false ∧ (w1.setCell ⟨g, L.length * 2, none⟩ v1).cell? ⟨g, L.length * 2 + 1, none⟩ = some (.int .i64 (szI y)) ∧ (w1.setCell ⟨g, L.length * 2, none⟩ v1).frozen? ⟨g, L.length * 2 + 1, none⟩ = false ∧ BlO rb l ext fold last depth cl w (fun w' pv' ov' made' => BdR w' rb pv' ov' made' (repF m n ((br, pc ++ [y]) :: fs)) ∧ made' = made + 1) (.returned (.tuple #[])) ((w1.setCell ⟨g, L.length * 2, none⟩ v1).setCell ⟨g, L.length * 2 + 1, none⟩ (.int .i64 (szI (repN m n y))))) := fun w1 v1 hn hB => by
    have hBW : Below W.heap.size W w1 := (below_drewN (n := W.heap.size)).trans hB
    have hA1 : AKeep W w1 := AKeep.of hBW
    obtain ⟨hR, hrow, hnd, hbW, hNW, hBl⟩ := HX.out
    obtain ⟨h2a, hfl⟩ := HY.out
    have hrow1 : w1.ownsRow (rb + 1) 38 2 (.slice (some ⟨g, 0, none⟩) (L.length + 1) cap) (L.length + 1) (reCells (L ++ [(ptr pb, y)])) := row_keep hrow fun b cur hc => hA1.blk b cur _ (by decide) hc
    have hset := row_set (q := (v1, repN m n y)) hrow1
    have hR1 : Rd w1 rb l ext fold last depth cl (.slice (some ⟨g, 0, none⟩) (L.length + 1) cap) ov (made + 1) := hR.keep hBW
    obtain ⟨cur, hg⟩ : ∃ cur, w1.heap[g]? = some (.cells cur 38) := by
      rcases hrow1.2 with ⟨e, _⟩ | ⟨g', cap', cur, e, _, hg, _⟩
      · cases e
      · cases e; exact ⟨cur, hg⟩
    have k1 := cell_below hBW (show W.cell? ⟨g, L.length * 2 + 1, none⟩ = _ from f1)
    have hne : ¬ rb = g := by omega
    have hN3 : NKeep w1 ((w1.setCell ⟨g, L.length * 2, none⟩ v1).setCell ⟨g, L.length * 2 + 1, none⟩ (.int .i64 (szI (repN m n y)))) := NKeep.bar ((Bar.set _ _ _ _).trans (Bar.set _ _ _ _)) hg (by decide)
    have hkeep : ∀ (b : Nat) (cs : Array Value) (T : Nat), T ≠ 38 → w1.heap[b]? = some (.cells cs T) → ((w1.setCell ⟨g, L.length * 2, none⟩ v1).setCell ⟨g, L.length * 2 + 1, none⟩ (.int .i64 (szI (repN m n y)))).heap[b]? = some (.cells cs T) := fun b cs T hT hb => by
      have hbg : b ≠ g := fun e => by
        rw [e, hg] at hb
        injection hb with hb
        injection hb with _ h2 _
        exact hT h2.symm
      exact (Below.heap_setCell _ _ _ _ (by simpa using hbg)).trans ((Below.heap_setCell _ _ _ _ (by simpa using hbg)).trans hb)
    refine ⟨cell_below hBW (show W.cell? ⟨g, L.length * 2, none⟩ = _ from f0), h_fz hg _, ?_, h_fz (h_set hg _ _) _, rfl, _, ov, made + 1, hkeep _ _ 90 (by decide) hR1, ⟨?_, rfl⟩, (hNW.trans hA1.nkeep).trans hN3, ?_⟩
    · have h1 : cur[L.length * 2 + 1]? = some (.int .i64 (szI y)) := by
        simp only [World.cell?, hg] at k1
        simpa using k1
      refine h_cell (h_set hg _ _) _ ?_
      rw [Array.getElem?_setIfInBounds, if_neg (by omega)]
      exact h1
    · have hwt := hbW.wt
      have hcn := hbW.cnt
      have hs1 : y.size + 1 ≤ (repN m n y).size := by
        unfold repN
        rw [Nd.size, if_pos rfl, Nd.size.sizes, Nd.size.sizes]
        have hmx : 1 ≤ max 1 (if n < 0 then m else n).toNat := Nat.le_max_left _ _
        have := Nat.mul_le_mul_left (y.size + 0) hmx
        omega
      rw [hfl] at hwt hcn
      rw [sizes_app, Nd.size.sizes, Nd.size.sizes] at hwt
      rw [List.length_append] at hcn
      refine ⟨by omega, by omega, ?_, ?_, ⟨L ++ [(v1, repN m n y)], ?_, ?_, ?_⟩, ?_⟩
      · rw [flat_rep, sizes_app, Nd.size.sizes, Nd.size.sizes]; omega
      · rw [flat_rep, List.length_append]; simp at hcn ⊢; omega
      · rw [List.length_append]; exact hset
      · rw [List.map_append, h2a, flat_rep]; rfl
      · intro i p hp
        by_cases hi : i < L.length
        · rw [List.getElem?_append_left hi] at hp
          exact ((hnd i p (by rw [List.getElem?_append_left hi]; exact hp)).keep hA1.nkeep).keep hN3
        · rw [List.getElem?_append_right (by omega)] at hp
          rcases hj : i - L.length with _ | j
          · rw [hj] at hp; cases hp; exact hn.keep hN3
          · rw [hj] at hp; simp at hp
      · rw [spans_rep]
        exact row_keep hbW.opn fun b cur hc => hkeep b cur _ (by decide) (hA1.blk b cur _ (by decide) hc)
    · have hlt := h_lt hR
      exact ((hBl.trans (hBW.mono (Nat.le_of_lt hlt))).setCell (p := ⟨g, L.length * 2, none⟩) (by show rb ≤ g; omega) _).setCell (p := ⟨g, L.length * 2 + 1, none⟩) (by show rb ≤ g; omega) _
  clear e0 e1
  go_wp2_with (go_at_call 75; refine hrp.mono ?_; rintro e w1 ⟨v1, rfl, hn1, hB1⟩; obtain ⟨k0, kz0, k1, kz1, kf⟩ := HFin.out w1 v1 hn1 hB1; have HZ := Lib.hid kf; obtain ⟨pb2, rfl, _⟩ := hn1.ptr; clear kf hn1 hB1)
  go_end0
  exact HZ.out
end
end Go.Proofs.YtlekfdkahlobiaaGreat.Re

namespace Go.Proofs.YtlekfdkahlobiaaGreat.Re
open Go.RowKit

/-- The builder's rows, by what they hold. -/
structure BdL (w : World) (rb : Nat) (pv ov : Value) (made : Int) (fl : List Nd) (sp : List (Nat × Nat)) : Prop where
  m0 : 0 ≤ made
  m1 : made ≤ 10001
  wt : made ≤ (Nd.size.sizes fl : Int)
  cnt : (fl.length : Int) ≤ made
  row : ∃ l : List (Value × Nd), w.ownsRow (rb + 1) 38 2 pv l.length (reCells l) ∧ l.map Prod.snd = fl ∧ ∀ (i : Nat) (p : Value × Nd), l[i]? = some p → NodeP w p.1 p.2
  opn : w.ownsRow (rb + 1) 111 2 ov sp.length (spCells sp)
theorem BdL.toR {w : World} {rb : Nat} {pv ov : Value} {made : Int} {fs : List Fr} (h : BdL w rb pv ov made (flat fs) (spansF fs)) : BdR w rb pv ov made fs := ⟨h.m0, h.m1, h.wt, h.cnt, h.row, by have := h.opn; rw [spansF_len] at this; exact this⟩
theorem BdL.keep {w w' : World} {rb : Nat} {pv ov : Value} {made : Int} {fl : List Nd} {sp : List (Nat × Nat)} (h : BdL w rb pv ov made fl sp) (hk : AKeep w w') : BdL w' rb pv ov made fl sp := by
  obtain ⟨l, h1, h2, h3⟩ := h.row
  exact ⟨h.m0, h.m1, h.wt, h.cnt, ⟨l, row_keep h1 (fun g cur hg => hk.blk g cur _ (by decide) hg), h2, fun i p hp => (h3 i p hp).keep hk.nkeep⟩, row_keep h.opn (fun g cur hg => hk.blk g cur _ (by decide) hg)⟩
theorem sizes_le_join {k : Nat} (hk : k ≠ 6) (l : List Nd) : Nd.size.sizes l ≤ (joinN k l).size := by
  match l with
  | [] => rw [Nd.size.sizes]; omega
  | [x] => rw [Nd.size.sizes, Nd.size.sizes]; exact Nat.le_refl _
  | x :: y :: l => rw [joinN, size_nd hk]; omega
/-- The last of the rows of spans. -/
theorem sp_last {w : World} {base : Nat} {ov : Value} {sp : List (Nat × Nat)} {a b n : Nat} (hn : sp.length = n) (h : w.ownsRow base 111 2 ov (sp ++ [(a, b)]).length (spCells (sp ++ [(a, b)]))) : ∃ g cap, ov = .slice (some ⟨g, 0, none⟩) (n + 1) cap ∧ base ≤ g ∧ n + 1 ≤ cap ∧ cap ≤ 9223372036854775807 ∧ w.cell? ⟨g, n * 2, none⟩ = some (.int .i64 (a : Int)) ∧ w.cell? ⟨g, n * 2 + 1, none⟩ = some (.int .i64 (b : Int)) ∧ w.frozen? ⟨g, n * 2 + 1, none⟩ = false ∧ ∃ cur, w.heap[g]? = some (.cells cur 111) := by
  subst hn
  rw [List.length_append] at h
  rcases h.2 with ⟨_, h0⟩ | ⟨g, cap, cur, rfl, hb, hg, hle, hcap, hsz, ht⟩
  · simp at h0
  · simp only [List.length_cons, List.length_nil] at hle hsz ht ⊢
    have hx : ∀ j v, (spCells (sp ++ [(a, b)]))[j]? = some v → w.cell? ⟨g, j, none⟩ = some v := fun j v hv => by
      rw [← ht, List.getElem?_take] at hv
      split at hv
      · exact h_cell hg _ (by simpa using hv)
      · cases hv
    refine ⟨g, cap, rfl, hb, hle, by unfold maxLen at hcap; exact hcap, hx _ _ ?_, hx _ _ ?_, h_fz hg _, cur, hg⟩
    · rw [spCells_app, List.getElem?_append_right (by rw [spCells_len]; omega), spCells_len, Nat.sub_self]; rfl
    · rw [spCells_app, List.getElem?_append_right (by rw [spCells_len]; omega), spCells_len, Nat.add_sub_cancel_left]; rfl
section
variable {w : World} {rb : Nat} {l : List UInt8} {ext fold cl : Bool} {last depth made : Int} {pv ov : Value}
set_option maxHeartbeats 1000000 in
theorem end_full (h : Rd w rb l ext fold last depth cl pv ov made) (hm : 10000 < made) :
    Calls Tryz.prog 59 #[bldP rb] w fun e w' => e = .returned (.tuple #[]) ∧ w' = w := by
  have hf := isFull_c h
  rw [decide_eq_true hm] at hf
  clear h
  go_enter Tryz.func59, Tryz.ntmps59
  go_wp2_with (go_at_call 60; refine hf.mono ?_; rintro e w1 ⟨rfl, hw⟩; rw [hw]; clear hw w1)
  refine bodyPost_ret (results_none rfl _ _ _) rfl ?_
  exact ⟨rfl, rfl⟩
set_option maxHeartbeats 2000000 in
set_option maxRecDepth 100000 in
theorem end_b {fs : List Fr} {br : List Nd} (h : Rd w rb l ext fold last depth cl pv ov made) (hb : BdR w rb pv ov made ((br, []) :: fs)) (hm : made ≤ 10000) (hfs : fs.length ≤ 2097152) (hbr : br ≠ []) :
    Calls Tryz.prog 59 #[bldP rb] w (BlO rb l ext fold last depth cl w fun w' pv' ov' made' => BdL w' rb pv' ov' made' (flat fs ++ [joinN 5 br]) (spansF fs) ∧ made' = made) := by
  have hf := isFull_c h
  rw [decide_eq_false (by omega)] at hf
  obtain ⟨L, r1, r2, r3⟩ := hb.row
  have hfl : flat ((br, []) :: fs) = flat fs ++ br := by simp [flat]
  rw [hfl] at r2
  have hLl : L.length = (flat fs).length + br.length := by rw [← List.length_append, ← r2, List.length_map]
  have hL0 : L ≠ [] := by
    intro e
    rw [e] at hLl
    have := List.length_pos_iff.2 hbr
    simp at hLl
    omega
  obtain ⟨g, cap, rfl, hg0, hgl, hle, hcap, hRI⟩ := row_from r1 r3 hL0
  have hop := hb.opn
  have hsp : spansF ((br, []) :: fs) = spansF fs ++ [((flat fs).length, (flat fs).length + br.length)] := rfl
  have hop2 : w.ownsRow (rb + 1) 111 2 ov (spansF fs ++ [((flat fs).length, (flat fs).length + br.length)]).length (spCells (spansF fs ++ [((flat fs).length, (flat fs).length + br.length)])) := by
    rw [← hsp, spansF_len]; exact hop
  obtain ⟨gs, caps, rfl, hgs0, hcs1, hcs2, s0, s1, sz, scur, hscur⟩ := sp_last (spansF_len fs) hop2
  have c6 := h_cell h 6 rfl
  have c7 := h_cell h 7 rfl
  have hrb := h_lt h
  obtain ⟨F, hF⟩ : ∃ F, (flat fs).length = F := ⟨_, rfl⟩
  rw [hF] at s0 s1 hLl
  have hLs : L.map Prod.snd = flat fs ++ br := r2
  have hdr : (L.drop F).map Prod.snd = br := by rw [List.map_drop, hLs, ← hF, List.drop_left]
  have htk : (L.take F).map Prod.snd = flat fs := by rw [List.map_take, hLs, ← hF, List.take_left]
  have hK := List.length_pos_iff.2 hbr
  have hFL : F < L.length := by omega
  have hcnt : (L.length : Int) ≤ 10000 := by
    have := hb.cnt
    rw [hfl, ← r2, List.length_map] at this
    omega
  have halt : Calls Tryz.prog 74 #[.slice (some ⟨g, F * 2, none⟩) (L.length - F) (cap - F)] w.drew (MkO (joinN 5 br) w.drew) := by
    have hv : RowV w.drew (.slice (some ⟨g, F * 2, none⟩) (L.length - F) (cap - F)) (L.drop F) := (show RowV w _ _ from ⟨_, cap - F, by rw [List.length_drop], ⟨by omega, by rw [List.length_drop]; omega⟩, .inr ⟨g, F * 2, rfl, hRI F⟩⟩).below (Below.refl _ w).drew
    have := alt_c (by rw [List.length_drop]; omega) hv
    rw [hdr] at this
    have e : anyS br = joinN 5 br := by
      cases br with
      | nil => exact absurd rfl hbr
      | cons x t => rfl
    rw [e] at this
    exact this
  obtain ⟨i0, hi, hz0, hz1, hz2⟩ := p_info info_re
  have HR := Lib.hid h
  have HK1 : Hid (∀ w1 o w2, Below w.heap.size w w1 → (w1.alloc o).grownBy w2 (some g) → Rd w2 rb l ext fold last depth cl (.slice (some ⟨g, 0, none⟩) L.length cap) (.slice (some ⟨gs, 0, none⟩) (fs.length + 1) caps) made) := fun w1 o w2 hB hg => by
    have h1 := h_lt (HR.out.keep hB)
    exact (hg.block rb (by rw [al_size]; omega) (by simp; omega)).trans ((al_old _ _ h1).trans (HR.out.keep hB))
  have HO : Hid (∀ w1 o, Below w.heap.size w w1 → (w1.alloc o).ownsRow (rb + 1) 38 2 (.slice (some ⟨g, 0, none⟩) F cap) F (reCells (L.take F))) := fun w1 o hB => by
    have h1 := row_take r1 (k := F) (by omega)
    rw [reCells_take] at h1
    exact row_keep h1 fun b cur hc => (al_old _ _ (Nat.lt_of_lt_of_le (h_lt hc) hB.size)).trans ((hB.block b (h_lt hc)).trans hc)
  have HF : Hid (∀ w1 v1 o w2 gg cap2, NodeP w1 v1 (joinN 5 br) → Below w.heap.size w w1 → w2.ownsRow (rb + 1) 38 2 (.slice (some ⟨gg, 0, none⟩) (F + 1) cap2) (F + 1) (reCells (L.take F) ++ [v1, .int .i64 (szI (joinN 5 br))]) → (w1.alloc o).grownBy w2 (some g) → BlO rb l ext fold last depth cl w (fun w' pv' ov' made' => BdL w' rb pv' ov' made' (flat fs ++ [joinN 5 br]) (spansF fs) ∧ made' = made) (.returned (.tuple #[])) ((w2.setCell ⟨rb, 6, none⟩ (.slice (some ⟨gg, 0, none⟩) (F + 1) cap2)).setCell ⟨rb, 7, none⟩ (.slice (some ⟨gs, 0, none⟩) fs.length caps))) := fun w1 v1 o w2 gg cap2 hn hB ho hg => by
    have hR2 := HK1.out w1 o w2 hB hg
    have hrow := HO.out w1 o hB
    have hg' : (w1.alloc o).grownBy w2 (Value.slice (some ⟨g, 0, none⟩) F cap).ownBlock := hg
    have hA1 : AKeep w (w1.alloc o) := (AKeep.of hB).trans (AKeep.of ((Below.refl _ w1).alloc (Nat.le_refl _) o))
    have hN2 : NKeep (w1.alloc o) w2 := ⟨hg.size, fun b cs T hT hb => grown_other hrow hg' (by rcases hT with rfl | rfl | rfl <;> decide) hb⟩
    have hA3 : AKeep w2 ((w2.setCell ⟨rb, 6, none⟩ (.slice (some ⟨gg, 0, none⟩) (F + 1) cap2)).setCell ⟨rb, 7, none⟩ (.slice (some ⟨gs, 0, none⟩) fs.length caps)) := AKeep.bar ((Bar.set _ _ _ _).trans (Bar.set _ _ _ _)) hR2
    have hg1 : Below rb w (w1.alloc o) := (hB.mono (Nat.le_of_lt hrb)).alloc (Nat.le_of_lt (Nat.lt_of_lt_of_le hrb hB.size)) o
    have hg2 : Below rb (w1.alloc o) w2 := ⟨hg.os, hg.tape, hg.output, hg.size, fun j hj => hg.block j (by rw [al_size]; have := hB.size; omega) (fun e => by simp at e; omega)⟩
    have hs := size_pos (joinN 5 br)
    have hsj := sizes_le_join (k := 5) (by omega) br
    have hB2 : BdL w2 rb (.slice (some ⟨gg, 0, none⟩) (F + 1) cap2) (.slice (some ⟨gs, 0, none⟩) fs.length caps) made (flat fs ++ [joinN 5 br]) (spansF fs) := by
      have hwt := hb.wt
      have hcn := hb.cnt
      rw [hfl] at hwt hcn
      rw [sizes_app] at hwt
      rw [List.length_append] at hcn
      refine ⟨hb.m0, hb.m1, ?_, ?_, ⟨L.take F ++ [(v1, joinN 5 br)], ?_, ?_, ?_⟩, ?_⟩
      · rw [sizes_app, Nd.size.sizes, Nd.size.sizes]; omega
      · rw [List.length_append]; simp; omega
      · rw [List.length_append, List.length_take, Nat.min_eq_left (by omega), reCells_app]; exact ho
      · rw [List.map_append, htk]; rfl
      · intro i p hp
        by_cases hi2 : i < (L.take F).length
        · rw [List.getElem?_append_left hi2, List.getElem?_take] at hp
          split at hp
          · exact (r3 i p hp).keep (hA1.nkeep.trans hN2)
          · cases hp
        · rw [List.getElem?_append_right (by omega)] at hp
          rcases hj : i - (L.take F).length with _ | j
          · rw [hj] at hp; cases hp; exact (hn.keep (NKeep.of ((Below.refl _ w1).alloc (Nat.le_refl _) o))).keep hN2
          · rw [hj] at hp; simp at hp
      · rw [spansF_len]
        have h1 := row_take hop (k := fs.length) (by simp)
        rw [hsp, spCells_app, List.take_append_of_le_length (by rw [spCells_len, spansF_len]; exact Nat.le_refl _), List.take_of_length_le (by rw [spCells_len, spansF_len]; exact Nat.le_refl _)] at h1
        exact row_keep h1 fun b cur hc => grown_other hrow hg' (by decide) (hA1.blk b cur _ (by decide) hc)
    exact ⟨rfl, _, _, made, (hR2.setParts _).setOpens _, ⟨hB2.keep hA3, rfl⟩, (hA1.nkeep.trans hN2).trans hA3.nkeep, ((hg1.trans hg2).setCell (p := ⟨rb, 6, none⟩) (Nat.le_refl _) _).setCell (p := ⟨rb, 7, none⟩) (Nat.le_refl _) _⟩
  have q1 : IntKind.i64.wrap ((fs.length : Int) + 1 - 1) = (fs.length : Int) := by rw [show (fs.length : Int) + 1 - 1 = (fs.length : Int) by omega]; exact IntWalk.i64_in _ (by omega)
  have q2 : ((fs.length : Int)).toNat = fs.length := by omega
  have q3 : (F : Int) ≤ (cap : Int) := by omega
  have q4 : (F : Int) ≤ (L.length : Int) := by omega
  have q5 : (fs.length : Int) ≤ (caps : Int) := by omega
  have q6 : ¬ cap = F := by omega
  clear h hb r1 r2 r3 hLl hL0 hRI hop hop2 hsp hfl hF hLs hdr htk hbr s1 sz hscur
  go_enter Tryz.func59, Tryz.ntmps59
  go_upto_region 3 with (go_at_call 60; refine hf.mono ?_; rintro e w1 ⟨rfl, hw⟩; rw [hw]; clear hw w1)
  go_region_law (first
    | (refine step_append_lies _ rfl _ _ 35 rfl (rb + 1) 38 i0 (.agg #[.pointer none, .int .i64 0]) 2 16 Tryz.underlying35 hi hz0 hz1 hz2 rfl (by decide) (.slice (some ⟨g, 0, none⟩) F cap) F (reCells (L.take F)) (by first | rfl | simp [Act.eval, Act.put]) (HO.out w1 _ HW.out.2) ⟨w1.heap.size, 0, none⟩ 1 1 [ptr pb, .int .i64 (szI (joinN 5 br))] (by first | rfl | simp [Act.eval, Act.put]) rfl (cell_two w1 _ _ _) (by simp [Value.oneCell']) (by decide) (by unfold maxLen; omega) (by omega) (by simp; omega) _ rfl ?_; intro gg cap2 w2 hown2 hgrow2 hat hlt2; have hR2 := HK1.out w1 _ w2 HW.out.2 hgrow2; have hk6 := h_cell hR2 6 rfl; have hz6 := h_fz hR2 6; have hk7 := h_cell (hR2.setParts (.slice (some ⟨gg, 0, none⟩) (F + 1) cap2)) 7 rfl; have hz7 := h_fz (hR2.setParts (.slice (some ⟨gg, 0, none⟩) (F + 1) cap2)) 7; have H2 := Lib.hid (And.intro hown2 hgrow2); clear hown2 hgrow2 hat hlt2 hR2)
    | (go_simp; go_at_call 74; refine halt.mono ?_; rintro e w1 ⟨v1, rfl, hn1, hB1⟩; obtain ⟨pb, rfl, hpb⟩ := hn1.ptr; have hB2 := (Below.refl w.heap.size w).drew.trans hB1; have e6 := cell_below hB2 c6; have e6a := cell_al e6; have hs1 := hB2.size; have HW := Lib.hid (And.intro hn1 hB2); clear hn1 hB1 hB2))
  all_goals
    go_wp2_with fail
    go_end0
    exact HF.out w1 _ _ w2 _ _ HW.out.1 HW.out.2 H2.out.1 H2.out.2
end
end Go.Proofs.YtlekfdkahlobiaaGreat.Re

namespace Go.Proofs.YtlekfdkahlobiaaGreat.Re
open Go.RowKit

theorem sp_set_list {sp : List (Nat × Nat)} {a b c : Nat} : (spCells (sp ++ [(a, b)])).set (sp.length * 2 + 1) (.int .i64 (c : Int)) = spCells (sp ++ [(a, c)]) := by
  rw [spCells_app, spCells_app]
  have h := spCells_len sp
  rw [List.set_append_right _ _ (by omega), h, Nat.add_sub_cancel_left]
  rfl
theorem sp_set {w : World} {base g cap n : Nat} {sp : List (Nat × Nat)} {a b c : Nat} (hn : sp.length = n) (h : w.ownsRow base 111 2 (.slice (some ⟨g, 0, none⟩) (n + 1) cap) (n + 1) (spCells (sp ++ [(a, b)]))) : (w.setCell ⟨g, n * 2 + 1, none⟩ (.int .i64 (c : Int))).ownsRow base 111 2 (.slice (some ⟨g, 0, none⟩) (n + 1) cap) (n + 1) (spCells (sp ++ [(a, c)])) := by
  subst hn
  refine ⟨by rw [spCells_len]; simp, ?_⟩
  rcases h.2 with ⟨e, _⟩ | ⟨g', cap', cur, e, hb, hg, hle, hcap, hsz, ht⟩
  · cases e
  · cases e
    refine .inr ⟨g, cap, _, rfl, hb, h_set hg _ _, hle, hcap, by simp [hsz], ?_⟩
    rw [Array.toList_setIfInBounds, List.take_set, ht, sp_set_list]
/-- What the end of a branch leaves. -/
abbrev EbP (rb : Nat) (br : List Nd) (j : Nd) (fs : List Fr) (made : Int) : World → Value → Value → Int → Prop := fun w' pv' ov' made' => BdR w' rb pv' ov' made' ((br ++ [j], []) :: fs) ∧ made' = made
/-- What is known ahead of the joining of a branch's pieces. -/
structure Eb (W : World) (rb : Nat) (l : List UInt8) (ext fold : Bool) (last depth : Int) (cl : Bool) (pv ov : Value) (made : Int) (br : List Nd) (j : Nd) (fs : List Fr) (L : List (Value × Nd)) (g cap P gs caps : Nat) : Prop where
  pve : pv = .slice (some ⟨g, 0, none⟩) L.length cap
  ove : ov = .slice (some ⟨gs, 0, none⟩) (fs.length + 1) caps
  pl : P < L.length
  lc : L.length ≤ cap
  cm : cap ≤ 9223372036854775807
  ll : L.length ≤ 10001
  cs : fs.length + 1 ≤ caps
  gb : rb + 1 ≤ g
  sb : rb + 1 ≤ gs
  s1 : W.cell? ⟨gs, fs.length * 2 + 1, none⟩ = some (.int .i64 (P : Int))
  cat : ∀ W', Below W.heap.size W W' → Calls Tryz.prog 14 #[.slice (some ⟨g, P * 2, none⟩) (L.length - P) (cap - P)] W' (MkO j W')
  own : ∀ w1 o, Below W.heap.size W w1 → (w1.alloc o).ownsRow (rb + 1) 38 2 (.slice (some ⟨g, 0, none⟩) P cap) P (reCells (L.take P))
  kr : ∀ w1 o w2, Below W.heap.size W w1 → (w1.alloc o).grownBy w2 (some g) → Rd w2 rb l ext fold last depth cl pv ov made
  ks : ∀ w1 o w2 v, Below W.heap.size W w1 → (w1.alloc o).grownBy w2 (some g) → (w2.setCell ⟨rb, 6, none⟩ v).cell? ⟨gs, fs.length * 2 + 1, none⟩ = some (.int .i64 (P : Int)) ∧ (w2.setCell ⟨rb, 6, none⟩ v).frozen? ⟨gs, fs.length * 2 + 1, none⟩ = false ∧ w2.cell? ⟨gs, fs.length * 2 + 1, none⟩ = some (.int .i64 (P : Int))
  fin : ∀ w1 v1 o w2 gg cap2, NodeP w1 v1 j → Below W.heap.size W w1 → w2.ownsRow (rb + 1) 38 2 (.slice (some ⟨gg, 0, none⟩) (P + 1) cap2) (P + 1) (reCells (L.take P) ++ [v1, .int .i64 (szI j)]) → (w1.alloc o).grownBy w2 (some g) → BlO rb l ext fold last depth cl W (EbP rb br j fs made) (.returned (.tuple #[])) ((w2.setCell ⟨rb, 6, none⟩ (.slice (some ⟨gg, 0, none⟩) (P + 1) cap2)).setCell ⟨gs, fs.length * 2 + 1, none⟩ (.int .i64 ((P : Int) + 1)))
section
variable {W : World} {rb : Nat} {l : List UInt8} {ext fold cl : Bool} {last depth made : Int} {pv ov : Value}
theorem eb_prep {fs : List Fr} {br pc : List Nd} (h : Rd W rb l ext fold last depth cl pv ov made) (hb : BdR W rb pv ov made ((br, pc) :: fs)) (hpc : pc ≠ []) : ∃ L g cap P gs caps, Eb W rb l ext fold last depth cl pv ov made br (joinN 4 pc) fs L g cap P gs caps := by
  obtain ⟨L, r1, r2, r3⟩ := hb.row
  have hfl : flat ((br, pc) :: fs) = (flat fs ++ br) ++ pc := by simp [flat]
  rw [hfl] at r2
  obtain ⟨P, hP⟩ : ∃ P, (flat fs ++ br).length = P := ⟨_, rfl⟩
  have hLl : L.length = P + pc.length := by rw [← hP, ← List.length_append, ← r2, List.length_map]
  have hK := List.length_pos_iff.2 hpc
  have hL0 : L ≠ [] := fun e => by rw [e] at hLl; simp at hLl; omega
  have hP2 : (flat fs).length + br.length = P := by rw [← hP, List.length_append]
  obtain ⟨g, cap, hpv, hg0, hgl, hle, hcap, hRI⟩ := row_from r1 r3 hL0
  have hsp : spansF ((br, pc) :: fs) = spansF fs ++ [((flat fs).length, (flat fs).length + br.length)] := rfl
  have hop2 : W.ownsRow (rb + 1) 111 2 ov (spansF fs ++ [((flat fs).length, (flat fs).length + br.length)]).length (spCells (spansF fs ++ [((flat fs).length, (flat fs).length + br.length)])) := by
    rw [← hsp, spansF_len]; exact hb.opn
  obtain ⟨gs, caps, hov, hgs0, hcs1, hcs2, s0, s1, sz, scur, hscur⟩ := sp_last (spansF_len fs) hop2
  have hdr : (L.drop P).map Prod.snd = pc := by rw [List.map_drop, r2, ← hP, List.drop_left]
  have htk : (L.take P).map Prod.snd = flat fs ++ br := by rw [List.map_take, r2, ← hP, List.take_left]
  have hrb := h_lt h
  have hcnt : L.length ≤ 10001 := by
    have h1 := hb.cnt
    have h2 := hb.m1
    rw [hfl, ← r2, List.length_map] at h1
    omega
  have own : ∀ w1 o, Below W.heap.size W w1 → (w1.alloc o).ownsRow (rb + 1) 38 2 (.slice (some ⟨g, 0, none⟩) P cap) P (reCells (L.take P)) := fun w1 o hB => by
    rw [hpv] at r1
    have h1 := row_take r1 (k := P) (by omega)
    rw [reCells_take] at h1
    exact row_keep h1 fun b cur hc => (al_old _ _ (Nat.lt_of_lt_of_le (h_lt hc) hB.size)).trans ((hB.block b (h_lt hc)).trans hc)
  have kr : ∀ w1 o w2, Below W.heap.size W w1 → (w1.alloc o).grownBy w2 (some g) → Rd w2 rb l ext fold last depth cl pv ov made := fun w1 o w2 hB hg => by
    have h1 := h_lt (h.keep hB)
    exact (hg.block rb (by rw [al_size]; omega) (by simp; omega)).trans ((al_old _ _ h1).trans (h.keep hB))
  have hgg : ∀ w1 o w2, Below W.heap.size W w1 → (w1.alloc o).grownBy w2 (some g) → ∀ (b : Nat) (cs : Array Value) (T : Nat), T ≠ 38 → W.heap[b]? = some (.cells cs T) → w2.heap[b]? = some (.cells cs T) := fun w1 o w2 hB hg b cs T hT hb => by
    have hg' : (w1.alloc o).grownBy w2 (Value.slice (some ⟨g, 0, none⟩) P cap).ownBlock := hg
    exact grown_other (own w1 o hB) hg' hT ((al_old _ _ (Nat.lt_of_lt_of_le (h_lt hb) hB.size)).trans ((hB.block b (h_lt hb)).trans hb))
  refine ⟨L, g, cap, P, gs, caps, hpv, hov, by omega, hle, hcap, hcnt, hcs1, hg0, hgs0, by rw [s1, hP2], fun W' hB => ?_, own, kr, fun w1 o w2 v hB hg => ?_, fun w1 v1 o w2 gg cap2 hn hB ho hg => ?_⟩
  · have hv : RowV W' (.slice (some ⟨g, P * 2, none⟩) (L.length - P) (cap - P)) (L.drop P) := (show RowV W _ _ from ⟨_, cap - P, by rw [List.length_drop], ⟨by omega, by rw [List.length_drop]; omega⟩, .inr ⟨g, P * 2, rfl, hRI P⟩⟩).below hB
    have := cat_c (by rw [List.length_drop]; omega) hv
    rw [hdr] at this
    exact this
  · have h2 := hgg w1 o w2 hB hg gs scur _ (by decide) hscur
    have h3 : (w2.setCell ⟨rb, 6, none⟩ v).heap[gs]? = some (.cells scur 111) := (Below.heap_setCell _ _ _ _ (by simp; omega)).trans h2
    refine ⟨?_, h_fz h3 _, ?_⟩
    · rw [World.cell?_of_block (w := W) (h3.trans hscur.symm), s1, hP2]
    · rw [World.cell?_of_block (w := W) (h2.trans hscur.symm), s1, hP2]
  · have hR2 := kr w1 o w2 hB hg
    have hg' : (w1.alloc o).grownBy w2 (Value.slice (some ⟨g, 0, none⟩) P cap).ownBlock := hg
    have hN2 : NKeep W w2 := ⟨Nat.le_trans hB.size (by have := hg.size; rw [al_size] at this; omega), fun b cs T hT hb => hgg w1 o w2 hB hg b cs T (by rcases hT with rfl | rfl | rfl <;> decide) hb⟩
    have hN1 : NKeep w1 w2 := (NKeep.of ((Below.refl _ w1).alloc (Nat.le_refl _) o)).trans ⟨hg.size, fun b cs T hT hb => grown_other (own w1 o hB) hg' (by rcases hT with rfl | rfl | rfl <;> decide) hb⟩
    have hA3 : AKeep w2 (w2.setCell ⟨rb, 6, none⟩ (.slice (some ⟨gg, 0, none⟩) (P + 1) cap2)) := AKeep.bar (Bar.set _ _ _ _) hR2
    have hs2 := hA3.blk gs scur _ (by decide) (hgg w1 o w2 hB hg gs scur _ (by decide) hscur)
    have hkeep : ∀ (b : Nat) (cs : Array Value) (T : Nat), T ≠ 111 → (w2.setCell ⟨rb, 6, none⟩ (.slice (some ⟨gg, 0, none⟩) (P + 1) cap2)).heap[b]? = some (.cells cs T) → ((w2.setCell ⟨rb, 6, none⟩ (.slice (some ⟨gg, 0, none⟩) (P + 1) cap2)).setCell ⟨gs, fs.length * 2 + 1, none⟩ (.int .i64 ((P : Int) + 1))).heap[b]? = some (.cells cs T) := fun b cs T hT hb => by
      have hbg : b ≠ gs := fun e => by
        rw [e, hs2] at hb
        injection hb with hb
        injection hb with _ h2 _
        exact hT h2.symm
      exact (Below.heap_setCell _ _ _ _ (by simpa using hbg)).trans hb
    have hN4 : NKeep w2 ((w2.setCell ⟨rb, 6, none⟩ (.slice (some ⟨gg, 0, none⟩) (P + 1) cap2)).setCell ⟨gs, fs.length * 2 + 1, none⟩ (.int .i64 ((P : Int) + 1))) := hA3.nkeep.trans (NKeep.bar (Bar.set _ _ _ _) hs2 (by decide))
    have hs := size_pos (joinN 4 pc)
    have hsj := sizes_le_join (k := 4) (by omega) pc
    have hfl2 : flat ((br ++ [joinN 4 pc], []) :: fs) = (flat fs ++ br) ++ [joinN 4 pc] := by simp [flat]
    have hwt := hb.wt
    have hcn := hb.cnt
    rw [hfl] at hwt hcn
    rw [sizes_app] at hwt
    rw [List.length_append, hP] at hcn
    refine ⟨rfl, .slice (some ⟨gg, 0, none⟩) (P + 1) cap2, ov, made, hkeep _ _ 90 (by decide) (hR2.setParts _), ⟨⟨hb.m0, hb.m1, ?_, ?_, ⟨L.take P ++ [(v1, joinN 4 pc)], ?_, ?_, ?_⟩, ?_⟩, rfl⟩, hN2.trans hN4, ?_⟩
    · rw [hfl2, sizes_app, Nd.size.sizes, Nd.size.sizes]; omega
    · rw [hfl2, List.length_append, hP]; simp; omega
    · rw [List.length_append, List.length_take, Nat.min_eq_left (by omega), reCells_app]
      exact row_keep ho fun b cur hc => hkeep b cur _ (by decide) (hA3.blk b cur _ (by decide) hc)
    · rw [List.map_append, htk, hfl2]; rfl
    · intro i p hp
      by_cases hi2 : i < (L.take P).length
      · rw [List.getElem?_append_left hi2, List.getElem?_take] at hp
        split at hp
        · exact (r3 i p hp).keep (hN2.trans hN4)
        · cases hp
      · rw [List.getElem?_append_right (by omega)] at hp
        rcases hj : i - (L.take P).length with _ | j
        · rw [hj] at hp; cases hp; exact hn.keep (hN1.trans hN4)
        · rw [hj] at hp; simp at hp
    · have h1 : (w2.setCell ⟨rb, 6, none⟩ (.slice (some ⟨gg, 0, none⟩) (P + 1) cap2)).ownsRow (rb + 1) 111 2 (.slice (some ⟨gs, 0, none⟩) (fs.length + 1) caps) (fs.length + 1) (spCells (spansF fs ++ [((flat fs).length, P)])) := by
        have h0 := hb.opn
        rw [hsp, hP2, hov] at h0
        exact row_keep h0 fun b cur hc => hA3.blk b cur _ (by decide) (hgg w1 o w2 hB hg b cur _ (by decide) hc)
      have h2 := sp_set (c := P + 1) (spansF_len fs) h1
      have hsp2 : spansF ((br ++ [joinN 4 pc], []) :: fs) = spansF fs ++ [((flat fs).length, P + 1)] := by
        show spansF fs ++ [((flat fs).length, (flat fs).length + (br ++ [joinN 4 pc]).length)] = _
        rw [List.length_append]
        simp
        omega
      rw [hsp2, hov]
      exact h2
    · have hb1 : Below rb W (w1.alloc o) := (hB.mono (Nat.le_of_lt hrb)).alloc (Nat.le_of_lt (Nat.lt_of_lt_of_le hrb hB.size)) o
      have hb2 : Below rb (w1.alloc o) w2 := ⟨hg.os, hg.tape, hg.output, hg.size, fun j hj => hg.block j (by rw [al_size]; have := hB.size; omega) (fun e => by simp at e; omega)⟩
      exact ((hb1.trans hb2).setCell (p := ⟨rb, 6, none⟩) (Nat.le_refl _) _).setCell (p := ⟨gs, fs.length * 2 + 1, none⟩) (by show rb ≤ gs; omega) _
end
end Go.Proofs.YtlekfdkahlobiaaGreat.Re
