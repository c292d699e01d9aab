/- The document's kernel, as it begins. -/
import Derived.Laws.AppendOwnNone
import Derived.Test.YtblaikdpnngkhaaGreatDoorKNew
namespace Go.Proofs.YtblaikdpnngkhaaGreatDoor
open Go.RowKit Go.Shelf Go.Maps

theorem own_slice2 {w : World} {base e size n : Nat} {v : Value} {xs : List Value} (h : w.ownsRow base e size v n xs) : ∃ a c, v = .slice a n c := by
  rcases h.2 with ⟨rfl, rfl⟩ | ⟨g, cap, _, rfl, _⟩
  · exact ⟨_, _, rfl⟩
  · exact ⟨_, _, rfl⟩
set_option maxRecDepth 100000 in
set_option maxHeartbeats 2000000 in
theorem rnew_c (t fb : Nat) (fv : Value) (l : List (Int × Int)) (now : Int) (w : World) (hF : Fl w fv fb l) (hl : l.length ≤ 1048576) :
    Calls Tryz.prog 25 #[ptr t, fv, .int .i64 now] w fun e w' => ∃ k a3, e = .returned (ptr k) ∧ w.heap.size ≤ k ∧ w'.heap[k]? = some (.cells #[ptr t, .slice none 0 0, .slice none 0 0, a3, .int .i64 0, .int .i64 now] 91) ∧ Below w.heap.size w w' := by
  obtain ⟨i0, hi0, hz0, hz1, hz2⟩ := info_parts infoF
  obtain ⟨a, cap, rfl, hcap, hbig, hor⟩ := hF
  by_cases h0 : l.length = 0
  · obtain rfl : l = [] := List.eq_nil_of_length_eq_zero h0
    rcases hor with ⟨_, rfl, rfl⟩ | ⟨o, rfl, _⟩
    · go_enter Tryz.func25, Tryz.ntmps25
      go_wp2_with (at_builtin; refine wpList_append_own_none rfl (.const (.slice none 0 0)) (.tmp 8) 23 rfl w.heap.size 39 i0 2 Tryz.underlying23 hi0 (.slice none 0 0) 0 [] rfl (World.ownsRow_nil _ _ _ _) rfl ?_)
      go_ret
      exact ⟨w.heap.size, _, rfl, Nat.le_refl _, al_new _ _ rfl, (Below.refl _ w).alloc (Nat.le_refl _) _⟩
    · go_enter Tryz.func25, Tryz.ntmps25
      go_wp2_with (at_builtin; refine wpList_append_own _ rfl (.const (.slice none 0 0)) (.tmp 8) 23 rfl w.heap.size 39 i0 (.agg #[.int .i64 0, .int .i64 0]) 2 16 Tryz.underlying23 hi0 hz0 hz1 hz2 rfl (by decide) (.slice none 0 0) 0 [] rfl (World.ownsRow_nil _ _ _ _) ⟨fb, o, none⟩ 0 cap [] rfl rfl (by simp) (by simp) (by decide) (by decide) (Nat.le_refl _) ?_; intro v2 w2 hown hgrow hnil; obtain ⟨a2, c2, rfl⟩ := own_slice2 hown)
      go_ret
      have hB : Below w.heap.size w w2 := ⟨hgrow.os, hgrow.tape, hgrow.output, hgrow.size, fun j hj => hgrow.block j hj (by simp [Value.ownBlock])⟩
      exact ⟨w2.heap.size, rfl, hB.size, ⟨_, al_new _ _ rfl⟩, hB.alloc hB.size _⟩
  · rcases hor with ⟨h1, _⟩ | ⟨o, rfl, hcell⟩
    · exact absurd h1 h0
    · have hnews : ∀ j u, (flat l)[j]? = some u → w.cell? ((⟨fb, o, none⟩ : Addr).add j) = some u := fun j u hu => by
        have hj : j < l.length * 2 := by have := (List.getElem?_eq_some_iff.1 hu).1; rw [flat_length] at this; exact this
        obtain ⟨i, hi⟩ : ∃ i, j = i * 2 ∨ j = i * 2 + 1 := ⟨j / 2, by omega⟩
        obtain ⟨f1, f2⟩ := flat_get l i (by omega)
        obtain ⟨g1, g2⟩ := hcell i (by omega)
        rw [Addr.add_lit]
        rcases hi with rfl | rfl
        · rw [f1] at hu; rw [g1, hu]
        · rw [f2] at hu; rw [← Nat.add_assoc, g2, hu]
      have HN := Lib.hid hnews
      clear hnews hcell
      go_enter Tryz.func25, Tryz.ntmps25
      go_wp2_with (at_builtin; refine wpList_append_lies _ rfl (.const (.slice none 0 0)) (.tmp 8) 23 rfl w.heap.size 39 i0 (.agg #[.int .i64 0, .int .i64 0]) 2 16 Tryz.underlying23 hi0 hz0 hz1 hz2 rfl (by decide) (.slice none 0 0) 0 [] rfl (World.ownsRow_nil _ _ _ _) ⟨fb, o, none⟩ l.length cap (flat l) rfl (flat_length l) HN.out (flat_one l) (by omega) (by unfold maxLen; omega) (by omega) (Nat.le_refl _) _ rfl ?_; intro g cap2 w2 hown hgrow hat hlt)
      go_ret
      have hB : Below w.heap.size w w2 := ⟨hgrow.os, hgrow.tape, hgrow.output, hgrow.size, fun j hj => hgrow.block j hj (by simp [Value.ownBlock])⟩
      exact ⟨w2.heap.size, _, rfl, hB.size, al_new _ _ rfl, hB.alloc hB.size _⟩
end Go.Proofs.YtblaikdpnngkhaaGreatDoor
