/- The contract of the program's Fields. -/
import Derived.Test.YtcpclpckjheadaaDoorLines
namespace Go.Proofs.YtcpclpckjheadaaDoor
open Go.RowKit Go.Shelf

attribute [local go_sem] Oper.semAt_some

/-- What of the pieces is told. -/
def keptF (ls : List (List UInt8 × Bool)) : List (List UInt8) := (ls.filter fun p => decide (0 < p.1.length)).map (·.1)

/-- Between two rounds: the box holds a slice that owns the slices of what has come. -/
def FieldsI {n₀ : Nat} {w₁ : World} (n₁ : Nat) (pre : List (Piece n₀ w₁)) (W : World) : Prop :=
  (∃ v vs, Boxed W n₀ 25 v ∧ W.ownsRow n₁ 22 1 v (keptF (pre.map Piece.told)).length vs ∧ RowsAt n₁ W vs (keptF (pre.map Piece.told))) ∧ Below n₀ w₁ W

theorem fieldsI_own {n₀ : Nat} {w₁ : World} (n₁ B : Nat) (hn : n₀ ≤ B) (hw : n₀ ≤ w₁.heap.size) : OwnFrom B (FieldsI (n₀ := n₀) (w₁ := w₁) n₁) := by
  rintro s X Y row ⟨⟨v, vs, hv, hr, hrs⟩, hB⟩ hg hrow
  have hrow' : ∀ r, row = some r → ∃ o : Obj, X.heap[r]? = some o ∧ o.isCells = false := fun r e => (hrow r e).2
  refine ⟨⟨v, vs, hv.kept hg (fun e' => ?_), hr.kept hg ?_, rows_own n₁ (vs, keptF (s.map Piece.told)) X Y row hrs hg hrow'⟩, hB.grown hg (Nat.le_trans hw hB.size) (fun k e => Nat.le_trans hn (hrow k e).1)⟩
  · obtain ⟨o, ho, hc⟩ := hrow' n₀ e'.symm
    rw [show X.heap[n₀]? = _ from hv] at ho; cases ho; cases hc
  · rcases hr.2 with ⟨rfl, _⟩ | ⟨g, cap, cur, rfl, _, hgb, _⟩
    · exact .inl rfl
    · refine .inr fun e' => ?_
      obtain ⟨o, ho, hc⟩ := hrow' g (by simpa [Value.ownBlock] using e'.symm)
      rw [hgb] at ho; cases ho; cases hc

theorem keptF_length {n₀ : Nat} {w₁ : World} (pre : List (Piece n₀ w₁)) : (keptF (pre.map Piece.told)).length ≤ pre.length := by
  unfold keptF
  rw [List.length_map]
  exact Nat.le_trans (List.length_filter_le _ _) (by simp)

set_option maxRecDepth 100000 in
set_option maxHeartbeats 4000000 in
theorem Fields_in (F : Fence) (n : Nat) (h11 : F.fn 11) (h23 : F.fn 23) (h31 : F.fn 31) (h26 : F.fn 26) (hcl : CloneIn F) (h25 : F.fn 25) (hro : F.round = none) (hn : 6 ≤ n) (a : Option Addr) (len cap : Nat) (bs : List UInt8) (hlen : bs.length ≤ 1048576) (w : World) (hL : BytesAt w.heap.size w (.slice a len cap) bs) :
    CallsIn F n Tryd.prog 11 #[.slice a len cap] w fun e W' => ∃ v vs, e = .returned v ∧ W'.ownsRow (w.heap.size + 3) 22 1 v (keptF (pcs blankB bs)).length vs ∧ RowsAt (w.heap.size + 3) W' vs (keptF (pcs blankB bs)) ∧ Below w.heap.size w W' := by
  obtain ⟨i0, hi, hz0, hz1, hz2⟩ := info_parts info22
  have mixed : Tryd.prog.follows .mixedOrders = true := by kernel_rfl
  have h1 : 1 ≤ n := by omega
  refine callsIn_of_wp_marks Tryd.func11 rfl h11 ?_ hro
  simp only [Tryd.ntmps11, List.size_toArray, List.length_cons, List.length_nil, Nat.reduceAdd, Nat.reduceSub, Array.replicate_succ, Array.replicate_zero, List.push_toArray, List.append_toArray, List.nil_append, List.cons_append]
  gi_wp2_with (gi_at_call 23; refine (pieces_in F (n - 1) h23 hro _ _ _ _ _).mono ?_; rintro e w' ⟨rfl, rfl⟩)
  have bO := Boxed.new w 25 (.slice none 0 0)
  have bV := Boxed.new (w.alloc (.cells #[.slice none 0 0] 25)) 22 (.slice a len cap)
  rw [World.size_alloc] at bV
  have bC := Boxed.new ((w.alloc (.cells #[.slice none 0 0] 25)).alloc (.cells #[.slice a len cap] 22)) 40 (.func (.func 26) #[] #[])
  simp only [World.size_alloc] at bC
  have hB0 : Below w.heap.size w (((w.alloc (.cells #[.slice none 0 0] 25)).alloc (.cells #[.slice a len cap] 22)).alloc (.cells #[.func (.func 26) #[] #[]] 40)) := (((Below.refl _ w).alloc (Nat.le_refl _) _).alloc (by simp) _).alloc (by simp; omega) _
  have bO' := (bO.alloc (.cells #[.slice a len cap] 22)).alloc (.cells #[.func (.func 26) #[] #[]] 40)
  have bV' := bV.alloc (.cells #[.func (.func 26) #[] #[]] 40)
  obtain ⟨w1, hw1⟩ : ∃ w1, w1 = ((w.alloc (.cells #[.slice none 0 0] 25)).alloc (.cells #[.slice a len cap] 22)).alloc (.cells #[.func (.func 26) #[] #[]] 40) := ⟨_, rfl⟩
  have hs1 : w1.heap.size = w.heap.size + 3 := by rw [hw1]; simp
  rw [← hw1] at hB0 bO' bV' bC ⊢
  have hL1 : BytesAt w.heap.size w1 (.slice a len cap) bs := hL.below hB0
  clear hw1
  refine wpIn_rangeFunc_ownG hro h1 (gf := 31) (lb := #[.pointer (some ⟨w.heap.size + 1, 0, none⟩), .pointer (some ⟨w.heap.size + 1 + 1, 0, none⟩)]) rfl h31 (enters_of Tryd.func31 (by kernel_rfl) rfl)
    (blank_stops F (n - 1) h31 h26 hro (by omega) (w.heap.size + 1) (w.heap.size + 1 + 1) w.heap.size (.slice a len cap) bs w1 (by omega) rfl (by omega) bV'.cell bC.cell hL1) Keeps.trans (keeps_putObj (by omega) (by omega)) (Below.refl _ _) (fun _ => rfl)
    (FieldsI (w.heap.size + 3))
    (fun _ _ _ => False)
    (fieldsI_own (w.heap.size + 3) _ (by omega) (by omega))
    (fun _ _ _ _ _ hs _ _ => hs)
    ⟨⟨_, [], bO', World.ownsRow_nil _ _ _ _, rfl, fun i hi => by simp [keptF] at hi⟩, Below.refl _ _⟩
    (fun x => { tmps := #[.slice a len cap, undef, .slice none 0 0, .pointer (some ⟨w.heap.size, 0, none⟩), x.v, .slice a len cap, .func (.func 31) #[] #[.pointer (some ⟨w.heap.size + 1, 0, none⟩), .pointer (some ⟨w.heap.size + 1 + 1, 0, none⟩)], x.v, .bool x.ended, undef, undef, undef, undef, undef, undef, undef, undef, undef], defers := [] }) ?assign ?body ?done ?stop
  case assign =>
    intro l x W K hK
    simp only [Piece.encs]
    gi_wp2
    exact hK
  case body =>
    rintro l pre x W ⟨⟨v, vs, hv, hrow, hrows⟩, hB⟩ hlt
    obtain ⟨xe, hxe⟩ : ∃ xe, xe = x.ended := ⟨_, rfl⟩
    obtain ⟨xs, hxs⟩ : ∃ xs, xs = x.bytes := ⟨_, rfl⟩
    obtain ⟨xa, xcap, hxv⟩ : ∃ xa xcap, x.v = .slice xa xs.length xcap := by
      rcases x.ok with ⟨h1, h2⟩ | ⟨b, off, cap, h1, h2⟩
      · exact ⟨none, 0, by rw [hxs, h2]; exact h1⟩
      · exact ⟨_, _, by rw [hxs]; exact h1⟩
    have hc := hv.cell
    have hxB : BytesAt w.heap.size W (.slice xa xs.length xcap) xs := by rw [← hxv, hxs]; exact x.ok.below hB
    have hxl : xs.length ≤ 140737488355328 := by rcases hxB with ⟨h1, h2⟩ | ⟨b, off, cap, h1, h2, h3⟩; · rw [h2]; simp
                                                 · exact h2.2.1
    have HT : Hid (x.told = (xs, xe)) := by show x.told = (xs, xe); rw [hxs, hxe]; rfl
    rw [hxv, ← hxe]
    clear hxv hxe hxs
    by_cases hpos : 0 < xs.length
    · have HK : Hid (keptF ((pre ++ [x]).map Piece.told) = keptF (pre.map Piece.told) ++ [xs]) := by
        show keptF _ = keptF _ ++ _
        rw [List.map_append, List.map_cons, List.map_nil, HT.out]
        simp [keptF, hpos]
      have hkl : (keptF (pre.map Piece.told)).length ≤ pre.length := keptF_length pre
      have hWs : w.heap.size + 3 ≤ W.heap.size := by have := hB.size; omega
      clear bO bV bO' bV' bC hL hL1
      gi_wp2
      refine wpIn_region_any (by assumption) ?_
      change wpAnyIn _ _ _ _ _ _ _ _ _ (World.drew _)
      refine wpAnyIn_ready (rs := [0, 1]) (by kernel_rfl) (by simp) ?_
      refine AllReadyIn.cons rfl (fun K hK => ?_) (AllReadyIn.cons rfl (fun K hK => ?_) AllReadyIn.nil)
      · go_simp
        refine hK _ _ ?_
        clear hK K
        refine wpAnyIn_ready (rs := [1]) (by kernel_rfl) (by simp) ?_
        refine AllReadyIn.cons rfl (fun K hK => ?_) AllReadyIn.nil
        go_simp
        refine hK _ _ ?_
        clear hK K
        refine wpAnyIn_ready (rs := [2]) (by kernel_rfl) (by simp) ?_
        refine AllReadyIn.cons rfl (fun K hK => ?_) AllReadyIn.nil
        go_simp
        refine ⟨fun _ => by omega, ?_⟩
        refine (CallsIn.inRound l (hcl _ _ _ _ _ (hxB.below ((Below.refl _ W).drew)))).mono ?_
        rintro e w2 ⟨v2, rfl, hown2, hbel2⟩
        obtain ⟨a2, c2, rfl⟩ := own_slice hown2
        have hbel : Below W.heap.size W w2 := ((Below.refl _ W).drew).trans hbel2
        have hc2 : w2.cell? ⟨w.heap.size, 0, none⟩ = some v := (hbel.cell (p := ⟨w.heap.size, 0, none⟩) hv.lt).trans hc
        have hc3 : ∀ o, (w2.alloc o).cell? ⟨w.heap.size, 0, none⟩ = some v := fun o => (World.cell?_alloc_past _ _ _ (show w.heap.size < w2.heap.size by have := hbel.size; have := hv.lt; omega)).trans hc2
        refine hK _ _ ?_
        clear hK K
        refine wpAnyIn_ready (rs := [3]) (by kernel_rfl) (by simp) ?_
        refine AllReadyIn.cons rfl (fun K hK => ?_) AllReadyIn.nil
        go_simp
        refine hK _ _ ?_
        clear hK K
        refine wpAnyIn_ready (rs := [4]) (by kernel_rfl) (by simp) ?_
        refine AllReadyIn.cons rfl (fun K hK => ?_) AllReadyIn.nil
        refine step_append_in rfl (.tmp 12) (.tmp 15) 25 rfl (w.heap.size + 3) 22 i0 (.slice none 0 0) 1 24 Tryd.underlying25 hi hz0 hz1 hz2 rfl (by decide) v (keptF (pre.map Piece.told)).length vs rfl ((hrow.kept (grown_below hbel none) (by cases v.ownBlock <;> simp)).alloc _) ⟨w2.heap.size, 0, none⟩ 1 1 [.slice a2 xs.length c2] rfl rfl (cell_one_new _ _ _) (by simp [Value.oneCell']) (by unfold maxLen; omega) (by omega) (by have := hbel.size; simp; omega) ?_
        intro v3 w3 hown3 hgrow3
        obtain ⟨g3, c3, rfl⟩ := ownsRow_succ hown3
        obtain ⟨hv3, hv4, hr4, hrs4, hko, hke⟩ := collect_step (by omega) (by omega) hv hrow hrows hown2 hbel hown3 hgrow3
        refine hK _ _ ?_
        clear hK K
        have hc4 := hv3.cell
        have hf4 := hv3.frozen
        refine wpAnyIn_ready (rs := [5]) (by kernel_rfl) (by simp) ?_
        refine AllReadyIn.cons rfl (fun K hK => ?_) AllReadyIn.nil
        go_simp
        refine hK _ _ ?_
        clear hK K
        refine wpAnyIn_done (by kernel_rfl) ?_ _
        exact ⟨hko.from _, hke, ⟨_, _, hv4, by rw [HK.out, List.length_append]; exact hr4, by rw [HK.out]; exact hrs4⟩, hB.trans hke.1⟩
      · go_simp
        refine hK _ _ ?_
        clear hK K
        refine wpAnyIn_ready (rs := [0, 2]) (by kernel_rfl) (by simp) ?_
        refine AllReadyIn.cons rfl (fun K hK => ?_) (AllReadyIn.cons rfl (fun K hK => ?_) AllReadyIn.nil)
        · go_simp
          refine hK _ _ ?_
          clear hK K
          refine wpAnyIn_ready (rs := [2]) (by kernel_rfl) (by simp) ?_
          refine AllReadyIn.cons rfl (fun K hK => ?_) AllReadyIn.nil
          go_simp
          refine ⟨fun _ => by omega, ?_⟩
          refine (CallsIn.inRound l (hcl _ _ _ _ _ (hxB.below ((Below.refl _ W).drew)))).mono ?_
          rintro e w2 ⟨v2, rfl, hown2, hbel2⟩
          obtain ⟨a2, c2, rfl⟩ := own_slice hown2
          have hbel : Below W.heap.size W w2 := ((Below.refl _ W).drew).trans hbel2
          have hc2 : w2.cell? ⟨w.heap.size, 0, none⟩ = some v := (hbel.cell (p := ⟨w.heap.size, 0, none⟩) hv.lt).trans hc
          have hc3 : ∀ o, (w2.alloc o).cell? ⟨w.heap.size, 0, none⟩ = some v := fun o => (World.cell?_alloc_past _ _ _ (show w.heap.size < w2.heap.size by have := hbel.size; have := hv.lt; omega)).trans hc2
          refine hK _ _ ?_
          clear hK K
          refine wpAnyIn_ready (rs := [3]) (by kernel_rfl) (by simp) ?_
          refine AllReadyIn.cons rfl (fun K hK => ?_) AllReadyIn.nil
          go_simp
          refine hK _ _ ?_
          clear hK K
          refine wpAnyIn_ready (rs := [4]) (by kernel_rfl) (by simp) ?_
          refine AllReadyIn.cons rfl (fun K hK => ?_) AllReadyIn.nil
          refine step_append_in rfl (.tmp 12) (.tmp 15) 25 rfl (w.heap.size + 3) 22 i0 (.slice none 0 0) 1 24 Tryd.underlying25 hi hz0 hz1 hz2 rfl (by decide) v (keptF (pre.map Piece.told)).length vs rfl ((hrow.kept (grown_below hbel none) (by cases v.ownBlock <;> simp)).alloc _) ⟨w2.heap.size, 0, none⟩ 1 1 [.slice a2 xs.length c2] rfl rfl (cell_one_new _ _ _) (by simp [Value.oneCell']) (by unfold maxLen; omega) (by omega) (by have := hbel.size; simp; omega) ?_
          intro v3 w3 hown3 hgrow3
          obtain ⟨g3, c3, rfl⟩ := ownsRow_succ hown3
          obtain ⟨hv3, hv4, hr4, hrs4, hko, hke⟩ := collect_step (by omega) (by omega) hv hrow hrows hown2 hbel hown3 hgrow3
          refine hK _ _ ?_
          clear hK K
          have hc4 := hv3.cell
          have hf4 := hv3.frozen
          refine wpAnyIn_ready (rs := [5]) (by kernel_rfl) (by simp) ?_
          refine AllReadyIn.cons rfl (fun K hK => ?_) AllReadyIn.nil
          go_simp
          refine hK _ _ ?_
          clear hK K
          refine wpAnyIn_done (by kernel_rfl) ?_ _
          exact ⟨hko.from _, hke, ⟨_, _, hv4, by rw [HK.out, List.length_append]; exact hr4, by rw [HK.out]; exact hrs4⟩, hB.trans hke.1⟩
        · go_simp
          refine ⟨fun _ => by omega, ?_⟩
          refine (CallsIn.inRound l (hcl _ _ _ _ _ (hxB.below ((Below.refl _ W).drew)))).mono ?_
          rintro e w2 ⟨v2, rfl, hown2, hbel2⟩
          obtain ⟨a2, c2, rfl⟩ := own_slice hown2
          have hbel : Below W.heap.size W w2 := ((Below.refl _ W).drew).trans hbel2
          have hc2 : w2.cell? ⟨w.heap.size, 0, none⟩ = some v := (hbel.cell (p := ⟨w.heap.size, 0, none⟩) hv.lt).trans hc
          have hc3 : ∀ o, (w2.alloc o).cell? ⟨w.heap.size, 0, none⟩ = some v := fun o => (World.cell?_alloc_past _ _ _ (show w.heap.size < w2.heap.size by have := hbel.size; have := hv.lt; omega)).trans hc2
          refine hK _ _ ?_
          clear hK K
          refine wpAnyIn_ready (rs := [0, 3]) (by kernel_rfl) (by simp) ?_
          refine AllReadyIn.cons rfl (fun K hK => ?_) (AllReadyIn.cons rfl (fun K hK => ?_) AllReadyIn.nil)
          · go_simp
            refine hK _ _ ?_
            clear hK K
            refine wpAnyIn_ready (rs := [3]) (by kernel_rfl) (by simp) ?_
            refine AllReadyIn.cons rfl (fun K hK => ?_) AllReadyIn.nil
            go_simp
            refine hK _ _ ?_
            clear hK K
            refine wpAnyIn_ready (rs := [4]) (by kernel_rfl) (by simp) ?_
            refine AllReadyIn.cons rfl (fun K hK => ?_) AllReadyIn.nil
            refine step_append_in rfl (.tmp 12) (.tmp 15) 25 rfl (w.heap.size + 3) 22 i0 (.slice none 0 0) 1 24 Tryd.underlying25 hi hz0 hz1 hz2 rfl (by decide) v (keptF (pre.map Piece.told)).length vs rfl ((hrow.kept (grown_below hbel none) (by cases v.ownBlock <;> simp)).alloc _) ⟨w2.heap.size, 0, none⟩ 1 1 [.slice a2 xs.length c2] rfl rfl (cell_one_new _ _ _) (by simp [Value.oneCell']) (by unfold maxLen; omega) (by omega) (by have := hbel.size; simp; omega) ?_
            intro v3 w3 hown3 hgrow3
            obtain ⟨g3, c3, rfl⟩ := ownsRow_succ hown3
            obtain ⟨hv3, hv4, hr4, hrs4, hko, hke⟩ := collect_step (by omega) (by omega) hv hrow hrows hown2 hbel hown3 hgrow3
            refine hK _ _ ?_
            clear hK K
            have hc4 := hv3.cell
            have hf4 := hv3.frozen
            refine wpAnyIn_ready (rs := [5]) (by kernel_rfl) (by simp) ?_
            refine AllReadyIn.cons rfl (fun K hK => ?_) AllReadyIn.nil
            go_simp
            refine hK _ _ ?_
            clear hK K
            refine wpAnyIn_done (by kernel_rfl) ?_ _
            exact ⟨hko.from _, hke, ⟨_, _, hv4, by rw [HK.out, List.length_append]; exact hr4, by rw [HK.out]; exact hrs4⟩, hB.trans hke.1⟩
          · go_simp
            refine hK _ _ ?_
            clear hK K
            refine wpAnyIn_ready (rs := [0]) (by kernel_rfl) (by simp) ?_
            refine AllReadyIn.cons rfl (fun K hK => ?_) AllReadyIn.nil
            go_simp
            refine hK _ _ ?_
            clear hK K
            refine wpAnyIn_ready (rs := [4]) (by kernel_rfl) (by simp) ?_
            refine AllReadyIn.cons rfl (fun K hK => ?_) AllReadyIn.nil
            refine step_append_in rfl (.tmp 12) (.tmp 15) 25 rfl (w.heap.size + 3) 22 i0 (.slice none 0 0) 1 24 Tryd.underlying25 hi hz0 hz1 hz2 rfl (by decide) v (keptF (pre.map Piece.told)).length vs rfl ((hrow.kept (grown_below hbel none) (by cases v.ownBlock <;> simp)).alloc _) ⟨w2.heap.size, 0, none⟩ 1 1 [.slice a2 xs.length c2] rfl rfl (cell_one_new _ _ _) (by simp [Value.oneCell']) (by unfold maxLen; omega) (by omega) (by have := hbel.size; simp; omega) ?_
            intro v3 w3 hown3 hgrow3
            obtain ⟨g3, c3, rfl⟩ := ownsRow_succ hown3
            obtain ⟨hv3, hv4, hr4, hrs4, hko, hke⟩ := collect_step (by omega) (by omega) hv hrow hrows hown2 hbel hown3 hgrow3
            refine hK _ _ ?_
            clear hK K
            have hc4 := hv3.cell
            have hf4 := hv3.frozen
            refine wpAnyIn_ready (rs := [5]) (by kernel_rfl) (by simp) ?_
            refine AllReadyIn.cons rfl (fun K hK => ?_) AllReadyIn.nil
            go_simp
            refine hK _ _ ?_
            clear hK K
            refine wpAnyIn_done (by kernel_rfl) ?_ _
            exact ⟨hko.from _, hke, ⟨_, _, hv4, by rw [HK.out, List.length_append]; exact hr4, by rw [HK.out]; exact hrs4⟩, hB.trans hke.1⟩
    · have hx2 : xs.length = 0 := by omega
      have HK : Hid (keptF ((pre ++ [x]).map Piece.told) = keptF (pre.map Piece.told)) := by
        show keptF _ = keptF _
        rw [List.map_append, List.map_cons, List.map_nil, HT.out]
        simp [keptF, hx2]
      gi_wp2
      exact ⟨KeepsFrom.refl _ _, Keeps.refl _ _ _, ⟨v, vs, hv, by rw [HK.out]; exact hrow, by rw [HK.out]; exact hrows⟩, hB⟩
  case done =>
    rintro D ys W hD hys ⟨⟨v, vs, hv, hrow, hrows⟩, hB⟩ hK
    have hc := hv.cell
    gi_wp2
    refine ⟨by simp, .inl ⟨_, _, rfl, run_takeDeferred hK, ?_⟩⟩
    rw [hys] at hrow hrows
    exact ⟨_, results_tmp rfl _ _ _, v, vs, rfl, ownsRow_putObj hrow _ hK rfl, (rows_own (w.heap.size + 3)).putObj (s := (vs, keptF (pcs blankB bs))) _ hrows hK rfl, (hB0.trans hB).trans (belowK_b (w := w) (Nat.le_refl _) W D _ _ (by omega) hK rfl rfl)⟩
  case stop =>
    rintro D c pre W _ _ h _
    exact h.elim
end Go.Proofs.YtcpclpckjheadaaDoor
