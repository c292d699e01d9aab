/- The reader: one step of an extended expression. -/
import Derived.Test.YtlekfdkahlobiaaGreatHSt5
import Derived.Test.YtlekfdkahlobiaaGreatHBr6
namespace Go.Proofs.YtlekfdkahlobiaaGreat.Re
open Go.Proofs.YtlekfdkahlobiaaGreat.Tr
open Go.RowKit

theorem brace2_ord {shut t : List UInt8} {m : Int} {q : Int × Int × List UInt8} (h : brace2 shut m t = some q) : q.1 = m ∧ (q.2.1 = -1 ∨ m ≤ q.2.1) ∧ ∃ k, q.2.2 = t.drop k := by
  unfold brace2 at h
  split at h
  · cases h; exact ⟨rfl, .inl rfl, _, rfl⟩
  · simp only at h
    split at h
    · rename_i hc
      cases h
      exact ⟨rfl, .inr hc.2.1, _, by rw [List.drop_drop]⟩
    · cases h
theorem brace_ord {shut s : List UInt8} {q : Int × Int × List UInt8} (h : braceS shut s = some q) : (q.2.1 = -1 ∨ q.1 ≤ q.2.1) ∧ ∃ k, q.2.2 = s.drop k := by
  unfold braceS at h
  simp only at h
  split at h
  · cases h
  · split at h
    · obtain ⟨h1, h2, k, h3⟩ := brace2_ord h
      exact ⟨by rw [h1]; exact h2, _, by rw [h3, List.drop_drop, List.drop_drop]⟩
    · split at h
      · cases h; exact ⟨.inr (Int.le_refl _), _, by rw [List.drop_drop]⟩
      · cases h
section
variable {w : World} {rb : Nat} {l : List UInt8} {ext fold cl : Bool} {pv ov : Value}
/-- What is known of the library's variable. -/
def AmM (w : World) (rb : Nat) : Prop := 0 < rb ∧ ∃ m : Int, w.cell? ⟨0, 0, none⟩ = some (.int .i64 m)
theorem AmM.keep {w' : World} (h : AmM w rb) (hB : Below rb w w') : AmM w' rb := ⟨h.1, h.2.elim fun m hm => ⟨m, (World.cell?_of_block (hB.block _ h.1)).trans hm⟩⟩
/-- The reader behind a reading that turned it alone. -/
theorem RS.bar {w' : World} {last : Nat} {fs : List Fr} {t : List UInt8} {cl cl' : Bool} {pv ov : Value} {made : Int} (hR : Rd w rb l ext fold (last : Int) (fs.length : Int) cl pv ov made) (hb : Bd w rb pv ov made fs) (hlen : fs.length + l.length ≤ 2097152) (htop : last = 4 → Top fs) (hB : Bar rb w w') (hR' : Rd w' rb t ext fold (last : Int) (fs.length : Int) cl' pv ov made) (hc : cl' = true → ClsN t) (ht : t.length ≤ l.length) : RS rb ext fold w' t last fs :=
  ⟨cl', pv, ov, made, hR', hb.keep (AKeep.bar hB hR), hc, by omega, htop⟩
set_option maxHeartbeats 1000000 in
set_option maxRecDepth 100000 in
theorem plain_c {f : Fr} {fs : List Fr} {last : Nat} (c : UInt8) (hA : AmM w rb) (h : RS rb ext fold w l last (f :: fs)) : Calls Tryz.prog 53 #[ptr rb, .int .u8 (c.toNat : Int)] w (RO rb ext fold w (plainM fold (f :: fs) c l)) := by
  have hrb := h.lt
  by_cases h1 : c = 46
  · subst h1
    have HM : Hid (plainM fold (f :: fs) 46 l = some (l, 4, pieceF anyN (f :: fs))) := rfl
    rw [HM.out]
    have ht := turned_c noB w
    have HA : Hid (∀ u, Below w.heap.size w u → Calls Tryz.prog 65 #[ptr rb, bl fun c => !noB c] u (RO rb ext fold w (some (l, 4, pieceF anyN (f :: fs))))) := fun u hu => (atom_c _ (h.keep hu)).mono fun e w' hq => hq.from (hu.mono (Nat.le_of_lt hrb))
    unfold bl at HA ht
    rw [← bl_zero] at ht
    generalize (boolsL fun c => !noB c).toArray = cs at HA ht
    clear h
    go_enter Tryz.func53, Tryz.ntmps53
    go_wp2_with (first
      | (go_at_call 66; refine ht.mono ?_; rintro e w1 ⟨rfl, hB1⟩; have ha := HA.out w1 hB1; clear hB1)
      | (go_at_call 65; refine ha.mono ?_; rintro e w2 ⟨hB2, rfl, hS2⟩))
    go_end0
    exact ⟨hB2, rfl, hS2⟩
  by_cases h2 : c = 91
  · subst h2
    have HM : Hid (plainM fold (f :: fs) 91 l = atomM (f :: fs) (bracketS fold l)) := rfl
    rw [HM.out]
    obtain ⟨cl, pv, ov, made, hR, hb, hcl, hlen, htop⟩ := h
    obtain ⟨hG, m, hm⟩ := hA
    have hbr := bracket_c hR hcl hm hG (by omega)
    cases hx : bracketS fold l with
    | none =>
      rw [hx] at hbr
      clear hx hR hb
      go_enter Tryz.func53, Tryz.ntmps53
      go_wp2_with (go_at_call 67; refine hbr.mono ?_; rintro e w1 ⟨hB1, rfl⟩)
      exact ⟨rfl, hB1.below (by omega), rfl⟩
    | some q =>
      rw [hx] at hbr
      have hql := bracketS_len hx
      have HA : Hid (∀ u cl1 p, Bar rb w u → Rd u rb q.2 ext fold (last : Int) ((f :: fs).length : Int) cl1 pv ov made → (cl1 = true → ClsN q.2) → Calls Tryz.prog 65 #[ptr rb, bl p] u (RO rb ext fold w (some (q.2, 4, pieceF (setN p) (f :: fs))))) := fun u cl1 p hB hR1 hc1 => (atom_c p (RS.bar hR hb hlen htop hB hR1 hc1 (by omega))).mono fun e w' hq => hq.from (hB.below (by omega))
      clear hx hR hb
      obtain ⟨x, t⟩ := q
      go_enter Tryz.func53, Tryz.ntmps53
      go_wp2_with (first
        | (go_at_call 67; refine hbr.mono ?_; rintro e w1 ⟨hB1, p, hxp, rfl, cl1, hR1, hc1⟩; have ha := HA.out w1 cl1 p hB1 hR1 hc1; have HX : Hid (x = setN p) := hxp; clear hxp hB1 hR1 hc1; unfold bl at ha ⊢; generalize (boolsL p).toArray = cs at ha ⊢)
        | (go_at_call 65; refine ha.mono ?_; rintro e w2 ⟨hB2, rfl, hS2⟩))
      go_end0
      refine ⟨hB2, rfl, ?_⟩
      show RS _ _ _ _ t 4 (pieceF x (f :: fs))
      rw [HX.out]
      exact hS2
  · have HM : Hid (plainM fold (f :: fs) c l = some (l, 4, pieceF (oneN fold c) (f :: fs))) := by
      show _ = _
      unfold plainM
      rw [if_neg h1, if_neg h2]
      rfl
    rw [HM.out]
    have hby := byteAlone_c c h
    have q1 : ((c.toNat : Int) == 46) = false := by rw [beq_eq_false_iff_ne]; intro e; exact h1 (UInt8.toNat_inj.1 (by show c.toNat = 46; omega))
    have q2 : ((c.toNat : Int) == 91) = false := by rw [beq_eq_false_iff_ne]; intro e; exact h2 (UInt8.toNat_inj.1 (by show c.toNat = 91; omega))
    clear h h1 h2
    go_enter Tryz.func53, Tryz.ntmps53
    go_wp2_with (go_at_call 68; refine hby.mono ?_; rintro e w2 ⟨hB2, rfl, hS2⟩)
    go_end0
    exact ⟨hB2, rfl, hS2⟩
end
end Go.Proofs.YtlekfdkahlobiaaGreat.Re
