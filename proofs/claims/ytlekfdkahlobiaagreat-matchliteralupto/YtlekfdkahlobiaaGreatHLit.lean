/- Literal. -/
import Derived.Deep.RegionHeld3
import Derived.Test.YtlekfdkahlobiaaGreatMKids
import Derived.Test.YtlekfdkahlobiaaGreatHSet3
namespace Go.Proofs.YtlekfdkahlobiaaGreat.Re
open Go.Proofs.YtlekfdkahlobiaaGreat.Tr
open Go.RowKit

theorem make_re (n : Nat) (w : World) (hn : n ≤ 2097152) : ∃ w', (Instr.makeSlice 35 (.int .i64 (n : Int)) (.int .i64 (n : Int))).run Tryz.prog w = .ok (.slice (some ⟨w.heap.size, 0, none⟩) n n) w' ∧ (∃ cur, w'.heap[w.heap.size]? = some (.cells cur 38) ∧ cur.size = n * 2) ∧ Below w.heap.size w w' := by
  obtain ⟨i0, hi, hz0, hz1, hz2⟩ := p_info info_re
  obtain ⟨w2, hrun, hown, hgrow⟩ := run_make_full (P := Tryz.prog) w w.heap.size 35 38 i0 (.agg #[.pointer none, .int .i64 0]) 2 Tryz.underlying35 hi hz0 hz1 .i64 .i64 n (by rw [hz2]; omega) (by unfold maxLen; omega) (Nat.le_refl _)
  refine ⟨w2, hrun, ?_, ⟨hgrow.os, hgrow.tape, hgrow.output, hgrow.size, fun k hk => hgrow.block k hk (by simp)⟩⟩
  rcases hown.2 with ⟨e, _⟩ | ⟨g, cap, cur, e, hb, hg, hle, hcap, hsz, ht⟩
  · cases e
  · cases e
    exact ⟨cur, hg, hsz⟩
/-- A row of expressions that is being filled. -/
structure FlI (w wr : World) (g n : Nat) (vs : List (Value × Nd)) : Prop where
  row : ∃ cur, wr.heap[g]? = some (.cells cur 38) ∧ cur.size = n * 2 ∧ cur.toList.take (vs.length * 2) = reCells vs
  nd : ∀ (i : Nat) (p : Value × Nd), vs[i]? = some p → NodeP wr p.1 p.2
  bel : Below w.heap.size w wr
  ge : w.heap.size ≤ g
theorem FlI.below {w u u' : World} {g n : Nat} {vs : List (Value × Nd)} (h : FlI w u g n vs) (hB : Below u.heap.size u u') : FlI w u' g n vs := by
  obtain ⟨cur, h1, h2, h3⟩ := h.row
  exact ⟨⟨cur, (hB.block g (h_lt h1)).trans h1, h2, h3⟩, fun i p hp => (h.nd i p hp).keep (NKeep.of hB), h.bel.trans (hB.mono h.bel.size), h.ge⟩
theorem FlI.spot {w u : World} {g n : Nat} {vs : List (Value × Nd)} (h : FlI w u g n vs) (hl : vs.length < n) : (∃ a, u.cell? ⟨g, vs.length * 2, none⟩ = some a) ∧ (∃ a, u.cell? ⟨g, vs.length * 2 + 1, none⟩ = some a) ∧ ∀ k, u.frozen? ⟨g, k, none⟩ = false := by
  obtain ⟨cur, h1, h2, h3⟩ := h.row
  exact ⟨⟨_, h_cell h1 _ (Array.getElem?_eq_getElem (by omega))⟩, ⟨_, h_cell h1 _ (Array.getElem?_eq_getElem (by omega))⟩, fun k => h_fz h1 k⟩
theorem FlI.put {w u : World} {g n : Nat} {vs : List (Value × Nd)} (h : FlI w u g n vs) (hl : vs.length < n) {v : Value} {x : Nd} (hv : NodeP u v x) : FlI w ((u.setCell ⟨g, vs.length * 2, none⟩ v).setCell ⟨g, vs.length * 2 + 1, none⟩ (.int .i64 (szI x))) g n (vs ++ [(v, x)]) := by
  obtain ⟨cur, h1, h2, h3⟩ := h.row
  have h4 := h_set (h_set h1 (vs.length * 2) v) (vs.length * 2 + 1) (.int .i64 (szI x))
  have hk : NKeep u ((u.setCell ⟨g, vs.length * 2, none⟩ v).setCell ⟨g, vs.length * 2 + 1, none⟩ (.int .i64 (szI x))) := NKeep.bar ((Bar.set _ _ _ _).trans (Bar.set _ _ _ _)) h1 (by decide)
  refine ⟨⟨_, h4, by simp [h2], ?_⟩, fun i p hp => ?_, (h.bel.setCell (p := ⟨g, _, none⟩) h.ge _).setCell (p := ⟨g, _, none⟩) h.ge _, h.ge⟩
  · rw [List.length_append, reCells_app, ← h3]
    simp only [Array.toList_setIfInBounds, List.length_cons, List.length_nil]
    have hs : cur.toList.length = n * 2 := by simpa using h2
    apply List.ext_getElem?
    intro k
    rw [List.getElem?_take, List.getElem?_set, List.getElem?_set, List.length_set, hs]
    rcases Nat.lt_or_ge k (vs.length * 2) with hk | hk
    · rw [if_pos (by omega), if_neg (by omega), if_neg (by omega), List.getElem?_append_left (by rw [List.length_take]; omega), List.getElem?_take, if_pos hk]
    · rw [List.getElem?_append_right (by rw [List.length_take]; omega), List.length_take, hs, Nat.min_eq_left (by omega)]
      rcases Nat.lt_or_ge k ((vs.length + (0 + 1)) * 2) with hk2 | hk2
      · rw [if_pos hk2]
        rcases (show k = vs.length * 2 ∨ k = vs.length * 2 + 1 by omega) with rfl | rfl
        · rw [if_neg (by omega), if_pos rfl, if_pos (by omega), Nat.sub_self]; rfl
        · rw [if_pos rfl, if_pos (by omega), show vs.length * 2 + 1 - vs.length * 2 = 1 by omega]; rfl
      · rw [if_neg (by omega), List.getElem?_eq_none]
        simp [reCells]
        omega
  · by_cases hi : i < vs.length
    · rw [List.getElem?_append_left hi] at hp
      exact (h.nd i p hp).keep hk
    · rw [List.getElem?_append_right (by omega)] at hp
      rcases hj : i - vs.length with _ | j
      · rw [hj] at hp; cases hp; exact hv.keep hk
      · rw [hj] at hp; simp at hp
theorem FlI.rowV {w u : World} {g : Nat} {vs : List (Value × Nd)} (h : FlI w u g vs.length vs) (hl : vs.length ≤ 2097152) : RowV u (.slice (some ⟨g, 0, none⟩) vs.length vs.length) vs := by
  obtain ⟨cur, h1, h2, h3⟩ := h.row
  rw [List.take_of_length_le (by simp [h2])] at h3
  refine ⟨some ⟨g, 0, none⟩, vs.length, rfl, ⟨by omega, Nat.le_refl _⟩, .inr ⟨g, 0, rfl, ⟨fun _ => h_lt h1, fun i p hp => ?_, fun i p hp => ?_, h.nd⟩⟩⟩
  · rw [Nat.zero_add]
    refine h_cell h1 _ ?_
    rw [← Array.getElem?_toList, h3]
    exact (reCells_at hp).1
  · rw [Nat.zero_add]
    refine h_cell h1 _ ?_
    rw [← Array.getElem?_toList, h3]
    exact (reCells_at hp).2
/-- A new expression in a box of its own. -/
theorem re_box {w u : World} {x : Nd} {v : Value} (hB : Below w.heap.size w u) (hn : NodeP u v x) : ReP (u.alloc (.cells #[v, .int .i64 (szI x)] 38)) (ptr u.heap.size) x ∧ isPtr (u.alloc (.cells #[v, .int .i64 (szI x)] 38)) (ptr u.heap.size) ∧ Below w.heap.size w (u.alloc (.cells #[v, .int .i64 (szI x)] 38)) :=
  ⟨⟨_, v, rfl, al_new _ _, hn.keep (NKeep.of ((Below.refl _ u).alloc (Nat.le_refl _) _))⟩, ⟨_, rfl, h_lt (al_new _ _)⟩, hB.alloc hB.size _⟩
set_option maxHeartbeats 2000000 in
set_option maxRecDepth 100000 in
theorem literal_c (s : ByteArray) (fold : Bool) (w : World) (hs : s.size ≤ 1048576) :
    Calls Tryz.prog 6 #[.string s, .bool fold] w fun e w' => ∃ v, e = .returned v ∧ isPtr w' v ∧ ReP w' v (literalS fold s.data.toList) ∧ Below w.heap.size w w' := by
  obtain ⟨w2, hrun, ⟨cur, ho, hsz⟩, hB⟩ := make_re s.size w (by omega)
  have HI0 : Hid (FlI w w2 w.heap.size s.size []) := ⟨⟨cur, ho, hsz, by simp [reCells]⟩, fun i p hp => by simp at hp, hB, Nat.le_refl _⟩
  have hsl : s.data.toList.length = s.size := rfl
  have HSL := Lib.hid hsl
  clear ho hsz hB hsl
  go_enter Tryz.func6, Tryz.ntmps6
  go_wp2_with fail
  go_loopw [6, 13] (fun _ v13 wr => ∃ (i : Nat) (vs : List (Value × Nd)), i ≤ s.size ∧ v13 = .int .i64 (i : Int) ∧ Hid (FlI w wr w.heap.size s.size vs ∧ vs.length = i ∧ vs.map Prod.snd = (s.data.toList.take i).map (oneN fold))) (fun _ v13 _ => s.size - (intOf v13).toNat)
  case atStart => exact ⟨0, [], by omega, rfl, (show _ ∧ _ from ⟨HI0.out, rfl, rfl⟩)⟩
  case round =>
    obtain ⟨i, vs, hi, rfl, HI⟩ := hrel
    clear HI0
    by_cases hlt : i < s.size
    · have n1 : (i : Int) < (s.size : Int) := by omega
      have hon := only_c s[i] fold wr
      have HT : Hid ((s.data.toList.take (i + 1)).map (oneN fold) = (s.data.toList.take i).map (oneN fold) ++ [oneN fold s[i]]) := by
        show _ = _
        rw [List.take_add_one, List.getElem?_eq_getElem (by rw [HSL.out]; exact hlt), List.map_append]
        rfl
      have hos := fun u => ofSet_c (foldP fold fun d => d == s[i]) u
      have hvl := HI.out.2.1
      go_wp2_with (first
        | (go_at_call 13; refine hon.mono ?_; rintro e w3 ⟨rfl, hB3⟩; have H3 := Lib.hid (HI.out.1.below hB3); clear hB3)
        | (go_at_call 12; refine (hos _).mono ?_; rintro e w4 ⟨v4, rfl, hn4, hB4⟩; have hF4 := H3.out.below hB4; obtain ⟨⟨o1, s1⟩, ⟨o2, s2⟩, fz⟩ := hF4.spot (by omega); rw [hvl] at s1 s2; obtain ⟨pb, rfl, _⟩ := hn4.ptr; have H4 := Lib.hid (hF4.put (by omega) hn4); clear hn4 hB4 hF4))
      have h5 := H4.out
      rw [hvl] at h5
      exact ⟨⟨i + 1, vs ++ [(ptr pb, oneN fold s[i])], by omega, by go_num, (show _ ∧ _ from ⟨h5, by rw [List.length_append, hvl]; rfl, by rw [List.map_append, HI.out.2.2, HT.out]; rfl⟩)⟩, by simp [intOf]; omega⟩
    · obtain rfl : i = s.size := by omega
      have n1 : ¬ (s.size : Int) < (s.size : Int) := by omega
      obtain ⟨hF, hl, hm⟩ := HI.out
      rw [← hl] at hF
      have hc := cat_c (by omega) (hF.rowV (by omega))
      rw [hl] at hc
      have HM : Hid (joinN 4 (vs.map Prod.snd) = literalS fold s.data.toList ∧ Below w.heap.size w wr) := ⟨by rw [hm, List.take_of_length_le (by rw [HSL.out]; omega)]; rfl, hF.bel⟩
      clear hF hl hm HI
      go_wp2_with fail
      refine hc.mono ?_
      rintro e w3 ⟨v3, rfl, hn3, hB3⟩
      rw [HM.out.1] at hn3 ⊢
      obtain ⟨pb, rfl, _⟩ := hn3.ptr
      have HF := Lib.hid (re_box (HM.out.2.trans (hB3.mono HM.out.2.size)) hn3)
      clear hn3 hB3 hc
      go_wp2_with fail
      go_ret
      exact ⟨_, rfl, HF.out.2.1, HF.out.1, HF.out.2.2⟩
end Go.Proofs.YtlekfdkahlobiaaGreat.Re
