/- The reader: expressions that begin and end. -/
import Derived.Test.YtlekfdkahlobiaaGreatDoorHSt4
namespace Go.Proofs.YtlekfdkahlobiaaGreatDoor.Re
open Go.Proofs.YtlekfdkahlobiaaGreatDoor.Tr
open Go.RowKit

section
variable {w : World} {rb : Nat} {l : List UInt8} {ext fold cl : Bool} {pv ov : Value} {last depth made : Int}
theorem ebr_a {f : Fr} {fs : List Fr} (h : Rd w rb l ext fold last depth cl pv ov made) (hb : Bd w rb pv ov made (f :: fs)) (hfs : fs.length ≤ 2097152) : Calls Tryz.prog 76 #[bldP rb] w (BlB rb l ext fold last depth cl w (branchF (f :: fs))) := by
  by_cases hm : made ≤ 10000
  · obtain ⟨br, pc⟩ := f
    by_cases hp : pc = []
    · subst hp
      exact (ebr_e h (hb.row hm) hm hfs).mono fun e w' hq => BlB.of hq fun _ _ _ _ hP => hP.1.bd
    · exact (ebr_b hp h (hb.row hm) hm hfs).mono fun e w' hq => BlB.of hq fun _ _ _ _ hP => hP.1.bd
  · exact (ebr_full h (by omega)).mono fun e w' hq => BlB.same h hb (by omega) (sz_branch f fs) hq.1 (by rw [hq.2]; exact Below.refl _ _)
/-- The builder behind the end of an expression. -/
structure BdX (w : World) (rb : Nat) (pv ov : Value) (made : Int) (fl : List Nd) (sp : List (Nat × Nat)) : Prop where
  m0 : 0 ≤ made
  m1 : made ≤ 10001
  wt : made ≤ (Nd.size.sizes fl : Int)
  row : made ≤ 10000 → BdL w rb pv ov made fl sp
theorem BdX.keep {w' : World} {fl : List Nd} {sp : List (Nat × Nat)} (h : BdX w rb pv ov made fl sp) (hk : AKeep w w') : BdX w' rb pv ov made fl sp := ⟨h.m0, h.m1, h.wt, fun hm => (h.row hm).keep hk⟩
theorem BdX.bd {x : Nd} {g : Fr} {fs : List Fr} (h : BdX w rb pv ov made (flat (g :: fs) ++ [x]) (spansF (g :: fs))) : Bd w rb pv ov made (pieceF x (g :: fs)) := by
  refine ⟨h.m0, h.m1, by rw [flat_piece]; exact h.wt, fun hm => ?_⟩
  have := h.row hm
  rw [← flat_piece, ← spans_piece x] at this
  exact this.toR
theorem end_a {br : List Nd} {fs : List Fr} (h : Rd w rb l ext fold last depth cl pv ov made) (hb : Bd w rb pv ov made ((br, []) :: fs)) (hfs : fs.length ≤ 2097152) (hbr : br ≠ []) : Calls Tryz.prog 58 #[bldP rb] w (BlO rb l ext fold last depth cl w fun w' pv' ov' made' => BdX w' rb pv' ov' made' (flat fs ++ [joinN 5 br]) (spansF fs)) := by
  by_cases hm : made ≤ 10000
  · refine (end_b h (hb.row hm) hm hfs hbr).mono fun e w' hq => ?_
    obtain ⟨h1, pv, ov, md, h2, ⟨h3, _⟩, h4⟩ := hq
    exact ⟨h1, pv, ov, md, h2, ⟨h3.m0, h3.m1, h3.wt, fun _ => h3⟩, h4⟩
  · refine (end_full h (by omega)).mono fun e w' hq => ?_
    rw [hq.2]
    exact ⟨hq.1, pv, ov, made, h, ⟨hb.m0, hb.m1, by have := hb.wt; have := sz_end br fs; omega, fun h => by omega⟩, NKeep.refl _, Below.refl _ _⟩
set_option maxHeartbeats 1000000 in
theorem rbegin_c {fs : List Fr} {last : Nat} (h : RS rb ext fold w l last fs) (hl : fs.length + 1 + l.length ≤ 2097152) : Calls Tryz.prog 36 #[ptr rb] w (RO rb ext fold w (some (l, 0, ([], []) :: fs))) := by
  obtain ⟨cl, pv, ov, made, hR, hB, hcl, hlen, htop⟩ := h
  have hr := begin_a hR hB (by omega)
  have w1 : IntKind.i64.wrap ((fs.length : Int) + 1) = (fs.length : Int) + 1 := IntWalk.i64_in _ (by omega)
  have HF : Hid (∀ u pv' ov' md', Below rb w u → Rd u rb l ext fold (last : Int) (fs.length : Int) cl pv' ov' md' → Bd u rb pv' ov' md' (([], []) :: fs) → RO rb ext fold w (some (l, 0, ([], []) :: fs)) (.returned (.tuple #[])) ((u.setCell ⟨rb, 4, none⟩ (.int .i64 ((fs.length : Int) + 1))).setCell ⟨rb, 3, none⟩ (.int .i64 0))) := fun u pv' ov' md' hb h1 h2 => ⟨(hb.setCell (p := ⟨rb, 4, none⟩) (Nat.le_refl _) _).setCell (p := ⟨rb, 3, none⟩) (Nat.le_refl _) _, rfl, cl, pv', ov', md', by have h5 := (h1.setDepth ((fs.length : Int) + 1)).setLast 0; rw [show (((([], []) :: fs : List Fr).length : Nat) : Int) = (fs.length : Int) + 1 by simp]; exact h5, h2.keep (AKeep.bar ((Bar.set _ _ _ _).trans (Bar.set _ _ _ _)) h1), hcl, by simp only [List.length_cons]; omega, fun e => absurd e (by simp only; omega)⟩
  clear hR hB hcl hlen htop
  go_enter Tryz.func36, Tryz.ntmps36
  go_wp2_with (go_at_call 57; refine hr.mono ?_; rintro e wp ⟨rfl, pvp, ovp, mdp, hRp, hbp, hNp, hBp⟩; have k4 := h_cell hRp 4 rfl; have z4 := h_fz hRp 4; have k3 := h_cell (hRp.setDepth ((fs.length : Int) + 1)) 3 rfl; have z3 := h_fz (hRp.setDepth ((fs.length : Int) + 1)) 3; have HZ := Lib.hid (HF.out wp pvp ovp mdp hBp hRp hbp); clear hRp hbp hNp hBp)
  go_end0
  exact HZ.out
/-- What the end of a branch, or of an expression, leaves of the reader. -/
def RX (rb : Nat) (l : List UInt8) (ext fold : Bool) (last depth : Int) (cl : Bool) (w : World) (P : World → Value → Value → Int → Prop) (no : Bool) (e : Ending) (w' : World) : Prop :=
  Below rb w w' ∧ if no = true then e = .panicked gaveUp else e = .returned (.tuple #[]) ∧ ∃ pv ov made, Rd w' rb l ext fold last depth cl pv ov made ∧ P w' pv ov made
set_option maxHeartbeats 1000000 in
set_option maxRecDepth 100000 in
theorem rbranch_c {f : Fr} {fs : List Fr} {last : Nat} (h : Rd w rb l ext fold (last : Int) depth cl pv ov made) (hb : Bd w rb pv ov made (f :: fs)) (hfs : fs.length ≤ 2097152) : Calls Tryz.prog 54 #[ptr rb] w (RX rb l ext fold (last : Int) depth cl w (fun w' pv' ov' made' => Bd w' rb pv' ov' made' (branchF (f :: fs))) (decide (ext = true ∧ last ≤ 1))) := by
  have c1 := h_cell h 1 rfl
  have c3 := h_cell h 3 rfl
  have hr := ebr_a h hb hfs
  have hg := giveUp_c w
  have HF : Hid (∀ e w', BlB rb l ext fold (last : Int) depth cl w (branchF (f :: fs)) e w' → RX rb l ext fold (last : Int) depth cl w (fun w' pv' ov' made' => Bd w' rb pv' ov' made' (branchF (f :: fs))) false e w') := fun e w' hq => by
    obtain ⟨h1, pv, ov, md, h2, h3, h4, h5⟩ := hq
    exact ⟨h5, by rw [if_neg (by simp)]; exact ⟨h1, pv, ov, md, h2, h3⟩⟩
  clear h hb
  cases ext with
  | false =>
    rw [decide_eq_false (by simp)]
    go_enter Tryz.func54, Tryz.ntmps54
    go_wp2_with (go_at_call 76; refine hr.mono ?_; rintro e wp hq; have HZ := Lib.hid (HF.out e wp hq); obtain ⟨rfl, _⟩ := hq)
    go_end0
    exact HZ.out
  | true =>
    by_cases h1 : last ≤ 1
    · rw [decide_eq_true ⟨rfl, h1⟩]
      rcases (by omega : last = 0 ∨ last = 1) with rfl | rfl
      · go_enter Tryz.func54, Tryz.ntmps54
        go_wp2_with (go_at_call 38; refine hg.mono ?_; rintro e w1 ⟨rfl, hw⟩; rw [hw]; clear hw w1)
        exact ⟨rfl, Below.refl _ _, by rw [if_pos rfl]⟩
      · go_enter Tryz.func54, Tryz.ntmps54
        go_wp2_with (go_at_call 38; refine hg.mono ?_; rintro e w1 ⟨rfl, hw⟩; rw [hw]; clear hw w1)
        exact ⟨rfl, Below.refl _ _, by rw [if_pos rfl]⟩
    · rw [decide_eq_false (fun e => h1 e.2)]
      have q0 : ((last : Int) == 0) = false := by rw [beq_eq_false_iff_ne]; omega
      have q1 : ((last : Int) == 1) = false := by rw [beq_eq_false_iff_ne]; omega
      go_enter Tryz.func54, Tryz.ntmps54
      go_wp2_with (go_at_call 76; refine hr.mono ?_; rintro e wp hq; have HZ := Lib.hid (HF.out e wp hq); obtain ⟨rfl, _⟩ := hq)
      go_end0
      exact HZ.out
set_option maxHeartbeats 1000000 in
set_option maxRecDepth 100000 in
theorem rend_c {f : Fr} {fs : List Fr} {last : Nat} (h : Rd w rb l ext fold (last : Int) ((fs.length : Int) + 1) cl pv ov made) (hb : Bd w rb pv ov made (f :: fs)) (hfs : fs.length ≤ 2097152) : Calls Tryz.prog 37 #[ptr rb] w (RX rb l ext fold (last : Int) (fs.length : Int) cl w (fun w' pv' ov' made' => BdX w' rb pv' ov' made' (flat fs ++ [joinN 5 (f.1 ++ [joinN 4 f.2])]) (spansF fs)) (decide (ext = true ∧ last ≤ 1))) := by
  have hr := rbranch_c h hb hfs
  have w1 : IntKind.i64.wrap ((fs.length : Int) + 1 - 1) = (fs.length : Int) := by rw [show (fs.length : Int) + 1 - 1 = (fs.length : Int) by omega]; exact IntWalk.i64_in _ (by omega)
  have HE : Hid (∀ u pv' ov' md', Rd u rb l ext fold (last : Int) ((fs.length : Int) + 1) cl pv' ov' md' → Bd u rb pv' ov' md' (branchF (f :: fs)) → Calls Tryz.prog 58 #[bldP rb] u (BlO rb l ext fold (last : Int) ((fs.length : Int) + 1) cl u fun w' pv' ov' made' => BdX w' rb pv' ov' made' (flat fs ++ [joinN 5 (f.1 ++ [joinN 4 f.2])]) (spansF fs))) := fun u pv' ov' md' h1 h2 => end_a h1 h2 hfs (by simp)
  clear h hb
  cases hx : decide (ext = true ∧ last ≤ 1) with
  | true =>
    rw [hx] at hr
    clear hx
    go_enter Tryz.func37, Tryz.ntmps37
    go_wp2_with (go_at_call 54; refine hr.mono ?_; rintro e wp ⟨hBp, he⟩; rw [if_pos rfl] at he; subst he)
    exact ⟨rfl, hBp, by rw [if_pos rfl]⟩
  | false =>
    rw [hx] at hr
    clear hx
    go_enter Tryz.func37, Tryz.ntmps37
    go_wp2_with (first
      | (go_at_call 54; refine hr.mono ?_; rintro e wp ⟨hBp, he⟩; rw [if_neg (by simp)] at he; obtain ⟨rfl, pvp, ovp, mdp, hRp, hbp⟩ := he; have hen := HE.out wp pvp ovp mdp hRp hbp; have HBp := Lib.hid hBp; clear hRp hbp hBp)
      | (go_at_call 58; refine hen.mono ?_; rintro e wq ⟨rfl, pvq, ovq, mdq, hRq, hbq, hNq, hBq⟩; have k4 := h_cell hRq 4 rfl; have z4 := h_fz hRq 4; have HZ := Lib.hid (And.intro hRq (And.intro hbq hBq)); clear hRq hbq hNq hBq hen))
    go_end0
    refine ⟨(HBp.out.trans HZ.out.2.2).setCell (p := ⟨rb, 4, none⟩) (Nat.le_refl _) _, ?_⟩
    rw [if_neg (by simp)]
    exact ⟨rfl, pvq, ovq, mdq, HZ.out.1.setDepth _, HZ.out.2.1.keep (AKeep.bar (Bar.set _ _ _ _) HZ.out.1)⟩
set_option maxHeartbeats 1000000 in
set_option maxRecDepth 100000 in
theorem endInner_c {f : Fr} {fs : List Fr} {last : Nat} (h : RS rb ext fold w l last (f :: fs)) : Calls Tryz.prog 53 #[ptr rb] w (RO rb ext fold w (shutM ext last (f :: fs) l)) := by
  obtain ⟨cl, pv, ov, made, hR, hB, hcl, hlen, htop⟩ := h
  have c4 := h_cell hR 4 rfl
  have hg := giveUp_c w
  cases fs with
  | nil =>
    have HM : Hid (shutM ext last [f] l = none) := if_pos rfl
    rw [HM.out]
    clear hR hB
    go_enter Tryz.func53, Tryz.ntmps53
    go_wp2_with (go_at_call 38; refine hg.mono ?_; rintro e w1 ⟨rfl, hw⟩; rw [hw]; clear hw w1)
    exact ⟨rfl, Below.refl _ _, rfl⟩
  | cons g fs =>
    simp only [List.length_cons] at hlen
    have hdep : (((f :: g :: fs).length : Nat) : Int) = (((g :: fs).length : Nat) : Int) + 1 := by simp
    rw [hdep] at hR c4
    have hr := rend_c hR hB (by simp only [List.length_cons]; omega)
    have q4 : ((((g :: fs).length : Nat) : Int) + 1 == 1) = false := by rw [beq_eq_false_iff_ne]; simp only [List.length_cons]; omega
    have HM : Hid (shutM ext last (f :: g :: fs) l = if ext = true ∧ last ≤ 1 then none else some (l, 4, pieceF (joinN 5 (f.1 ++ [joinN 4 f.2])) (g :: fs))) := by
      show _ = _
      unfold shutM
      rw [if_neg (by simp)]
      rfl
    rw [HM.out]
    have HF : Hid (∀ u pv' ov' md', Below rb w u → Rd u rb l ext fold (last : Int) (((g :: fs).length : Nat) : Int) cl pv' ov' md' → BdX u rb pv' ov' md' (flat (g :: fs) ++ [joinN 5 (f.1 ++ [joinN 4 f.2])]) (spansF (g :: fs)) → RO rb ext fold w (some (l, 4, pieceF (joinN 5 (f.1 ++ [joinN 4 f.2])) (g :: fs))) (.returned (.tuple #[])) (u.setCell ⟨rb, 3, none⟩ (.int .i64 4))) := fun u pv' ov' md' hb h1 h2 => ⟨hb.setCell (p := ⟨rb, 3, none⟩) (Nat.le_refl _) _, rfl, cl, pv', ov', md', by rw [pieceF_len]; exact h1.setLast 4, h2.bd.keep (AKeep.bar (Bar.set _ _ _ _) h1), hcl, by rw [pieceF_len]; simp only [List.length_cons]; omega, fun _ => top_piece _ _ _⟩
    clear hR hB hcl hlen htop hdep
    generalize (((g :: fs).length : Nat) : Int) = dp at *
    by_cases hx : ext = true ∧ last ≤ 1
    · rw [if_pos hx]
      rw [decide_eq_true hx] at hr
      clear hx
      go_enter Tryz.func53, Tryz.ntmps53
      go_wp2_with (go_at_call 37; refine hr.mono ?_; rintro e wp ⟨hBp, he⟩; rw [if_pos rfl] at he; subst he)
      exact ⟨rfl, hBp, rfl⟩
    · rw [if_neg hx]
      rw [decide_eq_false hx] at hr
      clear hx
      go_enter Tryz.func53, Tryz.ntmps53
      go_wp2_with (go_at_call 37; refine hr.mono ?_; rintro e wp ⟨hBp, he⟩; rw [if_neg (by simp)] at he; obtain ⟨rfl, pvp, ovp, mdp, hRp, hbp⟩ := he; have k3 := h_cell hRp 3 rfl; have z3 := h_fz hRp 3; have HZ := Lib.hid (HF.out wp pvp ovp mdp hBp hRp hbp); clear hRp hbp hBp)
      go_end0
      exact HZ.out
end
end Go.Proofs.YtlekfdkahlobiaaGreatDoor.Re
