/- A kernel without nodes, and the document's one beside it: how they begin. -/
import Derived.Deep.CutRange
import Derived.Deep.CutBlock
import Derived.Test.YtbbmihlabllliaaGreatDoorKOps
import Derived.Test.YtbbmihlabllliaaGreatDoorSmall
import Derived.Laws.AppendOwnNone
namespace Go.Proofs.YtbbmihlabllliaaGreatDoor
open Go.RowKit Go.Shelf Go.Maps

/-- A tree with the root alone. -/
structure Tr0 (w0 : Nat) (w : World) (t rt rm fm : Nat) : Prop where
  ht : w0 ≤ t
  hrt : w0 ≤ rt
  hrm : w0 ≤ rm
  hfm : w0 ≤ fm
  hmf : rm ≠ fm
  hN : NdAt w rt (xr rt rm)
  hM : w.ownsMap Tryz.prog 9 R rm 0 mE
  hF : w.ownsMap Tryz.prog 3 R fm 0 mE
  hT : TrAt w t (ptr rt) (.map (some fm)) (.int .i64 0) (.int .i64 1)
theorem Tr0.turn {S : List Nat} {w0 : Nat} {w w' : World} {t rt rm fm : Nat} (h : Tr0 w0 w t rt rm fm) (hU : Turn S w w') (hs : t ∉ S ∧ rt ∉ S ∧ rm ∉ S ∧ fm ∉ S) : Tr0 w0 w' t rt rm fm :=
  ⟨h.ht, h.hrt, h.hrm, h.hfm, h.hmf, hU.nd h.hN hs.2.1, hU.map h.hM hs.2.2.1, hU.map h.hF hs.2.2.2, hU.tr h.hT hs.1⟩

set_option maxRecDepth 100000 in
set_option maxHeartbeats 2000000 in
theorem load_c (w : World) : Calls Tryz.prog 23 #[.slice none 0 0] w fun e w' => ∃ t rt rm fm, e = .returned (.tuple #[ptr t, .int .i64 0]) ∧ Tr0 w.heap.size w' t rt rm fm ∧ Below w.heap.size w w' := by
  have hmm := @run_makeMap Tryz.prog
  go_enter Tryz.func23, Tryz.ntmps23
  go_wp2_with (go_at_call 58; refine (new_c _).mono ?_; rintro e w1 ⟨t, rt, rm, fm, rfl, ht, hrt, hrm, hfm, hmf, hN1, hM1, hF1, hT1, hB1⟩)
  have HT : Hid (Tr0 w.heap.size (w1.alloc (.map #[] 0)) t rt rm fm) := ⟨ht, hrt, hrm, hfm, hmf, nd_alloc hN1 _, hM1.alloc _, hF1.alloc _, tr_alloc hT1 _⟩
  have HB : Hid (Below w.heap.size w (w1.alloc (.map #[] 0))) := hB1.alloc hB1.size _
  clear hN1 hM1 hF1 hT1 hB1
  go_loopw [12] (fun i wr => i = .int .i64 0 ∧ wr = w1.alloc (.map #[] 0)) (fun _ _ => 0)
  case atStart => exact ⟨rfl, rfl⟩
  case round =>
    obtain ⟨rfl, rfl⟩ := hrel
    go_wp2_with fail
    refine bodyPost_ret (results_tmp2 rfl _ _ _) rfl ?_
    exact ⟨t, rt, rm, fm, rfl, HT.out, HB.out⟩

set_option maxRecDepth 100000 in
set_option maxHeartbeats 2000000 in
theorem rtree_c (w : World) : Calls Tryz.prog 28 #[] w fun e w' => (∃ t, e = .returned (ptr t)) ∧ Below w.heap.size w w' := by
  go_enter Tryz.func28, Tryz.ntmps28
  go_wp2
  go_ret
  exact ⟨⟨_, rfl⟩, (((Below.refl _ w).alloc (Nat.le_refl _) _).alloc (by simp) _).alloc (by simp; omega) _⟩

set_option maxRecDepth 100000 in
set_option maxHeartbeats 2000000 in
theorem rload_c (w : World) : Calls Tryz.prog 8 #[.slice none 0 0] w fun e w' => ∃ t, e = .returned (.tuple #[ptr t, .int .i64 0]) ∧ Below w.heap.size w w' := by
  go_enter Tryz.func8, Tryz.ntmps8
  go_wp2_with (go_at_call 28; refine (rtree_c _).mono ?_; rintro e w1 ⟨⟨t, rfl⟩, hB1⟩)
  go_loopw [5] (fun i wr => i = .int .i64 0 ∧ wr = w1) (fun _ _ => 0)
  case atStart => exact ⟨rfl, rfl⟩
  case round =>
    obtain ⟨rfl, rfl⟩ := hrel
    go_wp2_with fail
    refine bodyPost_ret (results_tmp2 rfl _ _ _) rfl ?_
    exact ⟨t, rfl, hB1⟩

/-- The faults' cells in a row. -/
def flat : List (Int × Int) → List Value
  | [] => []
  | x :: r => .int .i64 x.1 :: .int .i64 x.2 :: flat r
theorem flat_length : ∀ l : List (Int × Int), (flat l).length = l.length * 2
  | [] => rfl
  | x :: r => by simp only [flat, List.length_cons, flat_length r]; omega
theorem flat_one : ∀ (l : List (Int × Int)) (u : Value), u ∈ flat l → u.oneCell' = true
  | [], u, h => by cases h
  | x :: r, u, h => by
    simp only [flat, List.mem_cons] at h
    rcases h with rfl | rfl | h
    · rfl
    · rfl
    · exact flat_one r u h
theorem flat_get : ∀ (l : List (Int × Int)) (i : Nat), i < l.length → (flat l)[i * 2]? = some (.int .i64 (l[i]?.getD (0, 0)).1) ∧ (flat l)[i * 2 + 1]? = some (.int .i64 (l[i]?.getD (0, 0)).2)
  | [], i, h => by simp at h
  | x :: r, 0, h => by simp [flat]
  | x :: r, i + 1, h => by
    have := flat_get r i (by simpa using h)
    rw [show (i + 1) * 2 = i * 2 + 1 + 1 by omega]
    simpa [flat] using this

theorem infoF : (Tryz.prog.info? 39).map (fun i => (i.zero, i.size, i.bytes)) = some (some (.agg #[.int .i64 0, .int .i64 0]), 2, 16) := by kernel_rfl

/-- What Clone makes of the faults. -/
theorem faults_clone (fv : Value) (fb : Nat) (l : List (Int × Int)) (w : World) (hF : Fl w fv fb l) (hl : l.length ≤ 1048576) :
    Calls Tryz.prog 60 #[fv] w fun e w' => ∃ fv' fb', e = .returned fv' ∧ Fl w' fv' fb' l ∧ ((fb' = 0 ∧ w' = w) ∨ (w.heap.size ≤ fb' ∧ ∃ cs, w'.heap[fb']? = some (.cells cs 39))) ∧ Below w.heap.size w w' := by
  obtain ⟨i0, hi0, hz0, hz1, hz2⟩ := info_parts infoF
  obtain ⟨a, cap, rfl, hcap, hbig, ⟨h0, rfl, rfl⟩ | ⟨o, rfl, hcell⟩⟩ := hF
  · obtain rfl : l = [] := List.eq_nil_of_length_eq_zero h0
    refine (AnyE.slices_Clone_nil Tryz.cloneF 0 0 w).mono ?_
    rintro e w' ⟨rfl, rfl⟩
    exact ⟨.slice none 0 0, 0, rfl, ⟨none, 0, rfl, Nat.le_refl _, by simp, .inl ⟨rfl, rfl, rfl⟩⟩, .inl ⟨rfl, rfl⟩, Below.refl _ _⟩
  · refine (AnyE.slices_Clone Tryz.cloneF i0 (.agg #[.int .i64 0, .int .i64 0]) 2 16 hi0 hz0 hz1 hz2 rfl (by decide) Tryz.sizeOf39 fb o l.length cap (flat l) w (flat_length l) (by unfold maxLen; omega) (by omega) (fun j u hu => ?_) (flat_one l)).mono ?_
    · have hj : j < l.length * 2 := by have := (List.getElem?_eq_some_iff.1 hu).1; rw [flat_length] at this; exact this
      obtain ⟨i, hi⟩ : ∃ i, j = i * 2 ∨ j = i * 2 + 1 := ⟨j / 2, by omega⟩
      obtain ⟨f1, f2⟩ := flat_get l i (by omega)
      obtain ⟨g1, g2⟩ := hcell i (by omega)
      rcases hi with rfl | rfl
      · rw [f1] at hu; rw [g1, hu]
      · rw [f2] at hu; rw [← Nat.add_assoc, g2, hu]
    · rintro e w' ⟨v', rfl, ho, hne, hB⟩
      rcases ho.2 with ⟨e0, _⟩ | ⟨g, cap', cur, rfl, hb, hg, hn, hm, hs, ht⟩
      · exact absurd e0 hne
      · refine ⟨_, g, rfl, ⟨_, cap', rfl, hn, by omega, .inr ⟨0, rfl, fun j hj => ?_⟩⟩, .inr ⟨hb, cur, hg⟩, hB⟩
        obtain ⟨f1, f2⟩ := flat_get l j hj
        refine ⟨h_cell hg _ ?_, h_cell hg _ ?_⟩
        · rw [← ht, List.getElem?_take, if_pos (by omega)] at f1
          rw [Nat.zero_add, ← Array.getElem?_toList]; exact f1
        · rw [← ht, List.getElem?_take, if_pos (by omega)] at f2
          rw [Nat.zero_add, ← Array.getElem?_toList]; exact f2

set_option maxRecDepth 100000 in
set_option maxHeartbeats 2000000 in
theorem knew_c (t fb : Nat) (fv : Value) (l : List (Int × Int)) (now : Int) (w : World) (hF : Fl w fv fb l) (hl : l.length ≤ 1048576) (h0 : 0 < w.heap.size) :
    Calls Tryz.prog 24 #[ptr t, fv, .int .i64 now] w fun e w' => ∃ k fb' th fv', e = .returned (ptr k) ∧ w.heap.size ≤ k ∧ w.heap.size ≤ th ∧ fb' < w'.heap.size ∧ fb' ≠ k ∧ fb' ≠ th ∧ KnAt w' k (ptr t) fv' 0 now th 0 ∧ Fl w' fv' fb' l ∧ w'.ownsMap Tryz.prog 3 R th 0 mE ∧ Below w.heap.size w w' := by
  have hmm := @run_makeMap Tryz.prog
  have hcl := faults_clone fv fb l w hF hl
  clear hF
  go_enter Tryz.func24, Tryz.ntmps24
  go_wp2_with (go_at_call 60; refine hcl.mono ?_; rintro e w1 ⟨fv', fb', rfl, hF1, hor, hB1⟩; have HF1 := Lib.hid hF1; obtain ⟨a', cap', rfl, _⟩ := hF1)
  go_ret
  have hz := hB1.size
  have hU : Turn [] w1 ((w1.alloc (.map #[] 0)).alloc (.cells #[ptr t, .slice a' l.length cap', .int .i64 0, .int .i64 now, .map (some w1.heap.size), .int .i64 0] 116)) := (Turn.alloc _ _).trans (Turn.alloc _ _)
  have hlt : fb' < w1.heap.size := by
    rcases hor with ⟨h1, h2⟩ | ⟨h1, cs, h2⟩
    · rw [h2]; omega
    · exact h_lt h2
  refine ⟨w1.heap.size + 1, fb', w1.heap.size, _, rfl, by omega, by omega, by simp; omega, by omega, by omega, al_new _ _ (by simp), HF1.out.turn hU (by simp), (World.ownsMap_made w1 Tryz.prog 3 R).alloc _, (hB1.alloc hz _).alloc (by simp; omega) _⟩

set_option maxRecDepth 100000 in
set_option maxHeartbeats 2000000 in
theorem ktable_c (k : Nat) (w : World) : Calls Tryz.prog 26 #[ptr k] w fun e w' => e = .returned (ptr w.heap.size) ∧ w' = w.alloc (.cells #[ptr k, .nilIface, .nilIface, .nilIface, .nilIface, .nilIface, .nilIface, .nilIface, .nilIface, .nilIface, .nilIface, .nilIface, .nilIface, .nilIface, .nilIface, .nilIface, .nilIface] 119) := by
  go_enter Tryz.func26, Tryz.ntmps26
  go_wp2
  go_ret
  exact ⟨rfl, rfl⟩

theorem infoRT : (Tryz.prog.info? 45).map (fun i => (i.zero, i.size, i.bytes)) = some (some (.pointer none), 1, 8) := by kernel_rfl
set_option maxRecDepth 100000 in
set_option maxHeartbeats 2000000 in
theorem rtable_c (k base n : Nat) (a1 a2 a3 a4 a5 v : Value) (xs : List Value) (w : World) (hK : w.heap[k]? = some (.cells #[a1, a2, v, a3, a4, a5] 91)) (ho : w.ownsRow base 45 1 v n xs) (hn : n ≤ 1000) (hb : base ≤ w.heap.size) :
    Calls Tryz.prog 27 #[ptr k] w fun e w' => ∃ v' x, e = .returned (ptr x) ∧ w'.heap[k]? = some (.cells #[a1, a2, v', a3, a4, a5] 91) ∧ w'.ownsRow base 45 1 v' (n + 1) (xs ++ [ptr x]) ∧ Turn (k :: v.ownBlock.toList) w w' := by
  obtain ⟨i5, hi5, hz0, hz1, hz2⟩ := info_parts infoRT
  have hbp : v.ownBlock ≠ some k := row_ne ho hK (by decide)
  have hkl := h_lt hK
  have c2 := h_cell hK 2 rfl
  have c2' := fun x => al_cell x c2
  have c2'' := fun x y => al_cell y (al_cell x c2)
  have HK := Lib.hid hK
  have HO := Lib.hid ho
  clear hK ho
  go_enter Tryz.func27, Tryz.ntmps27
  go_wp2_with (at_builtin; refine wpList_append_lies _ rfl (.tmp 11) (.tmp 13) 89 rfl base 45 i5 (.pointer none) 1 8 Tryz.underlying89 hi5 hz0 hz1 hz2 rfl (by decide) v n xs rfl ((HO.out.alloc _).alloc _) ⟨w.heap.size + 1, 0, none⟩ 1 1 [ptr w.heap.size] rfl rfl (World.news_of_block (cs := #[ptr w.heap.size]) (al_new _ _ (by simp))) (by simp [Value.oneCell']) (by decide) (by unfold maxLen; omega) (by omega) (by simp; omega) _ rfl ?_; intro g cap2 w2 hown hgrow hat hlt; have hK2 := (hgrow.block k (by simp; omega) (fun e => hbp e.symm)).trans (al_old _ (al_old _ HK.out)); have d2 := h_cell hK2 2 rfl; have e2 := h_fz hK2 2)
  go_ret
  have hs := h_set hK2 2 (.slice (some ⟨g, 0, none⟩) (n + 1) cap2)
  have hG : Turn (k :: v.ownBlock.toList) w w2 := ((Turn.alloc w _).trans (Turn.alloc _ _)).trans ⟨hgrow.os, hgrow.tape, hgrow.output, hgrow.size, fun j hj hs => hgrow.block j hj (fun e => hs (by rw [← e]; simp))⟩
  refine ⟨_, w.heap.size, rfl, by simpa using hs, ?_, hG.trans (Turn.set w2 k 2 _ (by simp))⟩
  refine own_turn hown (Turn.set (S := [k]) w2 k 2 _ (by simp)) (fun g' hg' e => ?_)
  have e2 : g = g' := by simpa [Value.ownBlock] using hg'
  have e3 : g' = k := by simpa using e
  rcases hat with h | h
  · exact hbp (by rw [h, e2, e3])
  · simp at h; omega
end Go.Proofs.YtbbmihlabllliaaGreatDoor
/- The document's kernel, as it begins. -/
namespace Go.Proofs.YtbbmihlabllliaaGreatDoor
open Go.RowKit Go.Shelf Go.Maps

theorem own_slice2 {w : World} {base e size n : Nat} {v : Value} {xs : List Value} (h : w.ownsRow base e size v n xs) : ∃ a c, v = .slice a n c := by
  rcases h.2 with ⟨rfl, rfl⟩ | ⟨g, cap, _, rfl, _⟩
  · exact ⟨_, _, rfl⟩
  · exact ⟨_, _, rfl⟩
set_option maxRecDepth 100000 in
set_option maxHeartbeats 2000000 in
theorem rnew_c (t fb : Nat) (fv : Value) (l : List (Int × Int)) (now : Int) (w : World) (hF : Fl w fv fb l) (hl : l.length ≤ 1048576) :
    Calls Tryz.prog 25 #[ptr t, fv, .int .i64 now] w fun e w' => ∃ k a3, e = .returned (ptr k) ∧ w.heap.size ≤ k ∧ w'.heap[k]? = some (.cells #[ptr t, .slice none 0 0, .slice none 0 0, a3, .int .i64 0, .int .i64 now] 91) ∧ Below w.heap.size w w' := by
  obtain ⟨i0, hi0, hz0, hz1, hz2⟩ := info_parts infoF
  obtain ⟨a, cap, rfl, hcap, hbig, hor⟩ := hF
  by_cases h0 : l.length = 0
  · obtain rfl : l = [] := List.eq_nil_of_length_eq_zero h0
    rcases hor with ⟨_, rfl, rfl⟩ | ⟨o, rfl, _⟩
    · go_enter Tryz.func25, Tryz.ntmps25
      go_wp2_with (at_builtin; refine wpList_append_own_none rfl (.const (.slice none 0 0)) (.tmp 8) 23 rfl w.heap.size 39 i0 2 Tryz.underlying23 hi0 (.slice none 0 0) 0 [] rfl (World.ownsRow_nil _ _ _ _) rfl ?_)
      go_ret
      exact ⟨w.heap.size, _, rfl, Nat.le_refl _, al_new _ _ rfl, (Below.refl _ w).alloc (Nat.le_refl _) _⟩
    · go_enter Tryz.func25, Tryz.ntmps25
      go_wp2_with (at_builtin; refine wpList_append_own _ rfl (.const (.slice none 0 0)) (.tmp 8) 23 rfl w.heap.size 39 i0 (.agg #[.int .i64 0, .int .i64 0]) 2 16 Tryz.underlying23 hi0 hz0 hz1 hz2 rfl (by decide) (.slice none 0 0) 0 [] rfl (World.ownsRow_nil _ _ _ _) ⟨fb, o, none⟩ 0 cap [] rfl rfl (by simp) (by simp) (by decide) (by decide) (Nat.le_refl _) ?_; intro v2 w2 hown hgrow hnil; obtain ⟨a2, c2, rfl⟩ := own_slice2 hown)
      go_ret
      have hB : Below w.heap.size w w2 := ⟨hgrow.os, hgrow.tape, hgrow.output, hgrow.size, fun j hj => hgrow.block j hj (by simp [Value.ownBlock])⟩
      exact ⟨w2.heap.size, rfl, hB.size, ⟨_, al_new _ _ rfl⟩, hB.alloc hB.size _⟩
  · rcases hor with ⟨h1, _⟩ | ⟨o, rfl, hcell⟩
    · exact absurd h1 h0
    · have hnews : ∀ j u, (flat l)[j]? = some u → w.cell? ((⟨fb, o, none⟩ : Addr).add j) = some u := fun j u hu => by
        have hj : j < l.length * 2 := by have := (List.getElem?_eq_some_iff.1 hu).1; rw [flat_length] at this; exact this
        obtain ⟨i, hi⟩ : ∃ i, j = i * 2 ∨ j = i * 2 + 1 := ⟨j / 2, by omega⟩
        obtain ⟨f1, f2⟩ := flat_get l i (by omega)
        obtain ⟨g1, g2⟩ := hcell i (by omega)
        rw [Addr.add_lit]
        rcases hi with rfl | rfl
        · rw [f1] at hu; rw [g1, hu]
        · rw [f2] at hu; rw [← Nat.add_assoc, g2, hu]
      have HN := Lib.hid hnews
      clear hnews hcell
      go_enter Tryz.func25, Tryz.ntmps25
      go_wp2_with (at_builtin; refine wpList_append_lies _ rfl (.const (.slice none 0 0)) (.tmp 8) 23 rfl w.heap.size 39 i0 (.agg #[.int .i64 0, .int .i64 0]) 2 16 Tryz.underlying23 hi0 hz0 hz1 hz2 rfl (by decide) (.slice none 0 0) 0 [] rfl (World.ownsRow_nil _ _ _ _) ⟨fb, o, none⟩ l.length cap (flat l) rfl (flat_length l) HN.out (flat_one l) (by omega) (by unfold maxLen; omega) (by omega) (Nat.le_refl _) _ rfl ?_; intro g cap2 w2 hown hgrow hat hlt)
      go_ret
      have hB : Below w.heap.size w w2 := ⟨hgrow.os, hgrow.tape, hgrow.output, hgrow.size, fun j hj => hgrow.block j hj (by simp [Value.ownBlock])⟩
      exact ⟨w2.heap.size, _, rfl, hB.size, al_new _ _ rfl, hB.alloc hB.size _⟩
end Go.Proofs.YtbbmihlabllliaaGreatDoor
