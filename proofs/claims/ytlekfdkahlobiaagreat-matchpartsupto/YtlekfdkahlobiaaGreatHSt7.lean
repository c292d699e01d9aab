/- The reader: one step of an extended expression, and of a basic one. -/
import Derived.Test.YtlekfdkahlobiaaGreatHSt6
namespace Go.Proofs.YtlekfdkahlobiaaGreat.Re
open Go.Proofs.YtlekfdkahlobiaaGreat.Tr
open Go.RowKit

section
variable {w : World} {rb : Nat} {l : List UInt8} {ext fold cl : Bool} {pv ov : Value}
theorem rs_take {c : UInt8} {r : List UInt8} {last : Nat} {fs : List Fr} (h : RS rb ext fold w (c :: r) last fs) : Calls Tryz.prog 48 #[ptr rb] w fun e w' => e = .returned (.int .u8 (c.toNat : Int)) ∧ Below rb w w' ∧ RS rb ext fold w' r last fs ∧ fs.length + 1 + r.length ≤ 2097152 := by
  obtain ⟨cl, pv, ov, made, hR, hb, hcl, hlen, htop⟩ := h
  simp only [List.length_cons] at hlen
  refine (take_c hR).mono fun e w' hq => ⟨hq.1, ?_, ?_, by omega⟩
  · rw [hq.2]; exact (Bar.set rb 0 w (.string (bs r))).below (Nat.le_of_lt (h_lt hR))
  · rw [hq.2]; exact ⟨cl, pv, ov, made, hR.left r, hb.keep (AKeep.bar (Bar.set _ _ _ _) hR), fun e => by have := (hcl e).drop 1; exact this, by omega, htop⟩
theorem rs_takeno {last : Nat} {fs : List Fr} (h : RS rb ext fold w [] last fs) : Calls Tryz.prog 48 #[ptr rb] w fun e w' => e = .panicked gaveUp ∧ w' = w := by
  obtain ⟨cl, pv, ov, made, hR, _⟩ := h
  exact take_no hR
def BdO (rb : Nat) (ext fold : Bool) (last : Nat) (fs : List Fr) (w : World) (o : Tm) (e : Ending) (w' : World) : Prop :=
  Below rb w w' ∧ match o with
    | none => e = .panicked gaveUp
    | some q => e = .returned (.tuple #[.int .i64 q.1, .int .i64 q.2.1]) ∧ RS rb ext fold w' q.2.2 last fs
theorem rs_bounds {d : UInt8} {sh : List UInt8} (hd : isDec d = false) {last : Nat} {fs : List Fr} (h : RS rb ext fold w l last fs) : Calls Tryz.prog 56 #[ptr rb, .string (bs (d :: sh))] w (BdO rb ext fold last fs w (braceS (d :: sh) l)) := by
  obtain ⟨cl, pv, ov, made, hR, hb, hcl, hlen, htop⟩ := h
  refine (bounds_c hd hR).mono fun e w' hq => ?_
  obtain ⟨hB, hq⟩ := hq
  refine ⟨hB.below (Nat.le_of_lt (h_lt hR)), ?_⟩
  cases hx : braceS (d :: sh) l with
  | none => rw [hx] at hq; exact hq
  | some q =>
    rw [hx] at hq
    obtain ⟨_, k, hk⟩ := brace_ord hx
    have := braceS_len hx
    exact ⟨hq.1, RS.bar hR hb hlen htop hB hq.2 (fun e => by show ClsN q.2.2; rw [hk]; exact (hcl e).drop k) this⟩
theorem rs_branch {f : Fr} {fs : List Fr} {last : Nat} (h : RS rb ext fold w l last (f :: fs)) : ∃ cl, Calls Tryz.prog 55 #[ptr rb] w (RX rb l ext fold (last : Int) ((f :: fs).length : Int) cl w (fun w' pv' ov' made' => Bd w' rb pv' ov' made' (branchF (f :: fs))) (decide (ext = true ∧ last ≤ 1))) ∧ ∀ u pv' ov' md', Rd u rb l ext fold (last : Int) ((f :: fs).length : Int) cl pv' ov' md' → Bd u rb pv' ov' md' (branchF (f :: fs)) → RS rb ext fold (u.setCell ⟨rb, 3, none⟩ (.int .i64 1)) l 1 (branchF (f :: fs)) := by
  obtain ⟨cl, pv, ov, made, hR, hb, hcl, hlen, htop⟩ := h
  exact ⟨cl, rbranch_c hR hb (by simp only [List.length_cons] at hlen; omega), fun u pv' ov' md' h1 h2 => ⟨cl, pv', ov', md', by rw [branchF_len]; exact h1.setLast 1, h2.keep (AKeep.bar (Bar.set _ _ _ _) h1), hcl, by rw [branchF_len]; exact hlen, fun e => absurd e (by omega)⟩⟩
theorem ne_u8 {c d : UInt8} (h : c ≠ d) : ((c.toNat : Int) == (d.toNat : Int)) = false := by
  rw [beq_eq_false_iff_ne]
  intro e
  exact h (UInt8.toNat_inj.1 (by omega))
set_option maxHeartbeats 1000000 in
set_option maxRecDepth 100000 in
theorem ext_open_none {r : List UInt8} {f : Fr} {fs : List Fr} {last : Nat} (hA : AmM w rb) (h : RS rb true fold w (40 :: r) last (f :: fs))  (ho : (some (r, 0, ([], []) :: f :: fs) : Ms) = none) : Calls Tryz.prog 35 #[ptr rb] w (RO rb true fold w none) := by
  have htk := rs_take h
  have HNX : Hid (∀ u, AmM u rb → RS rb true fold u r last (f :: fs) → fs.length + 1 + 1 + r.length ≤ 2097152 → Calls Tryz.prog 36 #[ptr rb] u (RO rb true fold u none)) := fun u hAu hu hlu => by
    have this : Calls Tryz.prog 36 #[ptr rb] u (RO rb true fold u (some (r, 0, ([], []) :: f :: fs) : Ms)) := rbegin_c hu (by simp only [List.length_cons]; omega)
    rw [ho] at this
    exact this
  have HA := Lib.hid hA
  clear h hA
  go_enter Tryz.func35, Tryz.ntmps35
  go_wp2_with (first
    | (go_at_call 48; refine htk.mono ?_; rintro e w1 ⟨rfl, hB1, hS1, hl1⟩; have hnx := HNX.out w1 (HA.out.keep hB1) hS1 (by simp only [List.length_cons] at hl1; omega); have HB1 := Lib.hid hB1; clear htk hB1 hS1 hl1)
    | (go_at_call 36; refine hnx.mono ?_; rintro e w2 ⟨hB2, rfl⟩))
  exact ⟨rfl, HB1.out.trans hB2, rfl⟩
set_option maxHeartbeats 1000000 in
set_option maxRecDepth 100000 in
theorem ext_open_some {r : List UInt8} {f : Fr} {fs : List Fr} {last : Nat} (hA : AmM w rb) (h : RS rb true fold w (40 :: r) last (f :: fs))  {q : List UInt8 × Nat × List Fr} (ho : (some (r, 0, ([], []) :: f :: fs) : Ms) = some q) : Calls Tryz.prog 35 #[ptr rb] w (RO rb true fold w (some q)) := by
  have htk := rs_take h
  have HNX : Hid (∀ u, AmM u rb → RS rb true fold u r last (f :: fs) → fs.length + 1 + 1 + r.length ≤ 2097152 → Calls Tryz.prog 36 #[ptr rb] u (RO rb true fold u (some q))) := fun u hAu hu hlu => by
    have this : Calls Tryz.prog 36 #[ptr rb] u (RO rb true fold u (some (r, 0, ([], []) :: f :: fs) : Ms)) := rbegin_c hu (by simp only [List.length_cons]; omega)
    rw [ho] at this
    exact this
  have HA := Lib.hid hA
  clear h hA
  go_enter Tryz.func35, Tryz.ntmps35
  go_wp2_with (first
    | (go_at_call 48; refine htk.mono ?_; rintro e w1 ⟨rfl, hB1, hS1, hl1⟩; have hnx := HNX.out w1 (HA.out.keep hB1) hS1 (by simp only [List.length_cons] at hl1; omega); have HB1 := Lib.hid hB1; clear htk hB1 hS1 hl1)
    | (go_at_call 36; refine hnx.mono ?_; rintro e w2 ⟨hB2, rfl, hS2⟩))
  go_end0
  exact ⟨HB1.out.trans hB2, rfl, hS2⟩
theorem ext_open {r : List UInt8} {f : Fr} {fs : List Fr} {last : Nat} (hA : AmM w rb) (h : RS rb true fold w (40 :: r) last (f :: fs))  : Calls Tryz.prog 35 #[ptr rb] w (RO rb true fold w (some (r, 0, ([], []) :: f :: fs) : Ms)) := by
  cases ho : (some (r, 0, ([], []) :: f :: fs) : Ms) with
  | none => exact ext_open_none hA h ho
  | some q => exact ext_open_some hA h ho
set_option maxHeartbeats 1000000 in
set_option maxRecDepth 100000 in
theorem ext_shut_none {r : List UInt8} {f : Fr} {fs : List Fr} {last : Nat} (hA : AmM w rb) (h : RS rb true fold w (41 :: r) last (f :: fs))  (ho : (shutM true last (f :: fs) r) = none) : Calls Tryz.prog 35 #[ptr rb] w (RO rb true fold w none) := by
  have htk := rs_take h
  have HNX : Hid (∀ u, AmM u rb → RS rb true fold u r last (f :: fs) → fs.length + 1 + 1 + r.length ≤ 2097152 → Calls Tryz.prog 54 #[ptr rb] u (RO rb true fold u none)) := fun u hAu hu hlu => by
    have this : Calls Tryz.prog 54 #[ptr rb] u (RO rb true fold u (shutM true last (f :: fs) r)) := endInner_c hu
    rw [ho] at this
    exact this
  have HA := Lib.hid hA
  clear h hA
  go_enter Tryz.func35, Tryz.ntmps35
  go_wp2_with (first
    | (go_at_call 48; refine htk.mono ?_; rintro e w1 ⟨rfl, hB1, hS1, hl1⟩; have hnx := HNX.out w1 (HA.out.keep hB1) hS1 (by simp only [List.length_cons] at hl1; omega); have HB1 := Lib.hid hB1; clear htk hB1 hS1 hl1)
    | (go_at_call 54; refine hnx.mono ?_; rintro e w2 ⟨hB2, rfl⟩))
  exact ⟨rfl, HB1.out.trans hB2, rfl⟩
set_option maxHeartbeats 1000000 in
set_option maxRecDepth 100000 in
theorem ext_shut_some {r : List UInt8} {f : Fr} {fs : List Fr} {last : Nat} (hA : AmM w rb) (h : RS rb true fold w (41 :: r) last (f :: fs))  {q : List UInt8 × Nat × List Fr} (ho : (shutM true last (f :: fs) r) = some q) : Calls Tryz.prog 35 #[ptr rb] w (RO rb true fold w (some q)) := by
  have htk := rs_take h
  have HNX : Hid (∀ u, AmM u rb → RS rb true fold u r last (f :: fs) → fs.length + 1 + 1 + r.length ≤ 2097152 → Calls Tryz.prog 54 #[ptr rb] u (RO rb true fold u (some q))) := fun u hAu hu hlu => by
    have this : Calls Tryz.prog 54 #[ptr rb] u (RO rb true fold u (shutM true last (f :: fs) r)) := endInner_c hu
    rw [ho] at this
    exact this
  have HA := Lib.hid hA
  clear h hA
  go_enter Tryz.func35, Tryz.ntmps35
  go_wp2_with (first
    | (go_at_call 48; refine htk.mono ?_; rintro e w1 ⟨rfl, hB1, hS1, hl1⟩; have hnx := HNX.out w1 (HA.out.keep hB1) hS1 (by simp only [List.length_cons] at hl1; omega); have HB1 := Lib.hid hB1; clear htk hB1 hS1 hl1)
    | (go_at_call 54; refine hnx.mono ?_; rintro e w2 ⟨hB2, rfl, hS2⟩))
  go_end0
  exact ⟨HB1.out.trans hB2, rfl, hS2⟩
theorem ext_shut {r : List UInt8} {f : Fr} {fs : List Fr} {last : Nat} (hA : AmM w rb) (h : RS rb true fold w (41 :: r) last (f :: fs))  : Calls Tryz.prog 35 #[ptr rb] w (RO rb true fold w (shutM true last (f :: fs) r)) := by
  cases ho : (shutM true last (f :: fs) r) with
  | none => exact ext_shut_none hA h ho
  | some q => exact ext_shut_some hA h ho
set_option maxHeartbeats 1000000 in
set_option maxRecDepth 100000 in
theorem ext_star_none {r : List UInt8} {f : Fr} {fs : List Fr} {last : Nat} (hA : AmM w rb) (h : RS rb true fold w (42 :: r) last (f :: fs))  (ho : (repM last (f :: fs) 0 (-1) r) = none) : Calls Tryz.prog 35 #[ptr rb] w (RO rb true fold w none) := by
  have htk := rs_take h
  have HNX : Hid (∀ u, AmM u rb → RS rb true fold u r last (f :: fs) → fs.length + 1 + 1 + r.length ≤ 2097152 → Calls Tryz.prog 52 #[ptr rb, .int .i64 0, .int .i64 (-1)] u (RO rb true fold u none)) := fun u hAu hu hlu => by
    have this : Calls Tryz.prog 52 #[ptr rb, .int .i64 0, .int .i64 (-1)] u (RO rb true fold u (repM last (f :: fs) 0 (-1) r)) := rrep_c 0 (-1) (by omega) (by omega) hu
    rw [ho] at this
    exact this
  have HA := Lib.hid hA
  clear h hA
  go_enter Tryz.func35, Tryz.ntmps35
  go_wp2_with (first
    | (go_at_call 48; refine htk.mono ?_; rintro e w1 ⟨rfl, hB1, hS1, hl1⟩; have hnx := HNX.out w1 (HA.out.keep hB1) hS1 (by simp only [List.length_cons] at hl1; omega); have HB1 := Lib.hid hB1; clear htk hB1 hS1 hl1)
    | (go_at_call 52; refine hnx.mono ?_; rintro e w2 ⟨hB2, rfl⟩))
  exact ⟨rfl, HB1.out.trans hB2, rfl⟩
set_option maxHeartbeats 1000000 in
set_option maxRecDepth 100000 in
theorem ext_star_some {r : List UInt8} {f : Fr} {fs : List Fr} {last : Nat} (hA : AmM w rb) (h : RS rb true fold w (42 :: r) last (f :: fs))  {q : List UInt8 × Nat × List Fr} (ho : (repM last (f :: fs) 0 (-1) r) = some q) : Calls Tryz.prog 35 #[ptr rb] w (RO rb true fold w (some q)) := by
  have htk := rs_take h
  have HNX : Hid (∀ u, AmM u rb → RS rb true fold u r last (f :: fs) → fs.length + 1 + 1 + r.length ≤ 2097152 → Calls Tryz.prog 52 #[ptr rb, .int .i64 0, .int .i64 (-1)] u (RO rb true fold u (some q))) := fun u hAu hu hlu => by
    have this : Calls Tryz.prog 52 #[ptr rb, .int .i64 0, .int .i64 (-1)] u (RO rb true fold u (repM last (f :: fs) 0 (-1) r)) := rrep_c 0 (-1) (by omega) (by omega) hu
    rw [ho] at this
    exact this
  have HA := Lib.hid hA
  clear h hA
  go_enter Tryz.func35, Tryz.ntmps35
  go_wp2_with (first
    | (go_at_call 48; refine htk.mono ?_; rintro e w1 ⟨rfl, hB1, hS1, hl1⟩; have hnx := HNX.out w1 (HA.out.keep hB1) hS1 (by simp only [List.length_cons] at hl1; omega); have HB1 := Lib.hid hB1; clear htk hB1 hS1 hl1)
    | (go_at_call 52; refine hnx.mono ?_; rintro e w2 ⟨hB2, rfl, hS2⟩))
  go_end0
  exact ⟨HB1.out.trans hB2, rfl, hS2⟩
theorem ext_star {r : List UInt8} {f : Fr} {fs : List Fr} {last : Nat} (hA : AmM w rb) (h : RS rb true fold w (42 :: r) last (f :: fs))  : Calls Tryz.prog 35 #[ptr rb] w (RO rb true fold w (repM last (f :: fs) 0 (-1) r)) := by
  cases ho : (repM last (f :: fs) 0 (-1) r) with
  | none => exact ext_star_none hA h ho
  | some q => exact ext_star_some hA h ho
set_option maxHeartbeats 1000000 in
set_option maxRecDepth 100000 in
theorem ext_plus_none {r : List UInt8} {f : Fr} {fs : List Fr} {last : Nat} (hA : AmM w rb) (h : RS rb true fold w (43 :: r) last (f :: fs))  (ho : (repM last (f :: fs) 1 (-1) r) = none) : Calls Tryz.prog 35 #[ptr rb] w (RO rb true fold w none) := by
  have htk := rs_take h
  have HNX : Hid (∀ u, AmM u rb → RS rb true fold u r last (f :: fs) → fs.length + 1 + 1 + r.length ≤ 2097152 → Calls Tryz.prog 52 #[ptr rb, .int .i64 1, .int .i64 (-1)] u (RO rb true fold u none)) := fun u hAu hu hlu => by
    have this : Calls Tryz.prog 52 #[ptr rb, .int .i64 1, .int .i64 (-1)] u (RO rb true fold u (repM last (f :: fs) 1 (-1) r)) := rrep_c 1 (-1) (by omega) (by omega) hu
    rw [ho] at this
    exact this
  have HA := Lib.hid hA
  clear h hA
  go_enter Tryz.func35, Tryz.ntmps35
  go_wp2_with (first
    | (go_at_call 48; refine htk.mono ?_; rintro e w1 ⟨rfl, hB1, hS1, hl1⟩; have hnx := HNX.out w1 (HA.out.keep hB1) hS1 (by simp only [List.length_cons] at hl1; omega); have HB1 := Lib.hid hB1; clear htk hB1 hS1 hl1)
    | (go_at_call 52; refine hnx.mono ?_; rintro e w2 ⟨hB2, rfl⟩))
  exact ⟨rfl, HB1.out.trans hB2, rfl⟩
set_option maxHeartbeats 1000000 in
set_option maxRecDepth 100000 in
theorem ext_plus_some {r : List UInt8} {f : Fr} {fs : List Fr} {last : Nat} (hA : AmM w rb) (h : RS rb true fold w (43 :: r) last (f :: fs))  {q : List UInt8 × Nat × List Fr} (ho : (repM last (f :: fs) 1 (-1) r) = some q) : Calls Tryz.prog 35 #[ptr rb] w (RO rb true fold w (some q)) := by
  have htk := rs_take h
  have HNX : Hid (∀ u, AmM u rb → RS rb true fold u r last (f :: fs) → fs.length + 1 + 1 + r.length ≤ 2097152 → Calls Tryz.prog 52 #[ptr rb, .int .i64 1, .int .i64 (-1)] u (RO rb true fold u (some q))) := fun u hAu hu hlu => by
    have this : Calls Tryz.prog 52 #[ptr rb, .int .i64 1, .int .i64 (-1)] u (RO rb true fold u (repM last (f :: fs) 1 (-1) r)) := rrep_c 1 (-1) (by omega) (by omega) hu
    rw [ho] at this
    exact this
  have HA := Lib.hid hA
  clear h hA
  go_enter Tryz.func35, Tryz.ntmps35
  go_wp2_with (first
    | (go_at_call 48; refine htk.mono ?_; rintro e w1 ⟨rfl, hB1, hS1, hl1⟩; have hnx := HNX.out w1 (HA.out.keep hB1) hS1 (by simp only [List.length_cons] at hl1; omega); have HB1 := Lib.hid hB1; clear htk hB1 hS1 hl1)
    | (go_at_call 52; refine hnx.mono ?_; rintro e w2 ⟨hB2, rfl, hS2⟩))
  go_end0
  exact ⟨HB1.out.trans hB2, rfl, hS2⟩
theorem ext_plus {r : List UInt8} {f : Fr} {fs : List Fr} {last : Nat} (hA : AmM w rb) (h : RS rb true fold w (43 :: r) last (f :: fs))  : Calls Tryz.prog 35 #[ptr rb] w (RO rb true fold w (repM last (f :: fs) 1 (-1) r)) := by
  cases ho : (repM last (f :: fs) 1 (-1) r) with
  | none => exact ext_plus_none hA h ho
  | some q => exact ext_plus_some hA h ho
set_option maxHeartbeats 1000000 in
set_option maxRecDepth 100000 in
theorem ext_maybe_none {r : List UInt8} {f : Fr} {fs : List Fr} {last : Nat} (hA : AmM w rb) (h : RS rb true fold w (63 :: r) last (f :: fs))  (ho : (repM last (f :: fs) 0 1 r) = none) : Calls Tryz.prog 35 #[ptr rb] w (RO rb true fold w none) := by
  have htk := rs_take h
  have HNX : Hid (∀ u, AmM u rb → RS rb true fold u r last (f :: fs) → fs.length + 1 + 1 + r.length ≤ 2097152 → Calls Tryz.prog 52 #[ptr rb, .int .i64 0, .int .i64 1] u (RO rb true fold u none)) := fun u hAu hu hlu => by
    have this : Calls Tryz.prog 52 #[ptr rb, .int .i64 0, .int .i64 1] u (RO rb true fold u (repM last (f :: fs) 0 1 r)) := rrep_c 0 1 (by omega) (by omega) hu
    rw [ho] at this
    exact this
  have HA := Lib.hid hA
  clear h hA
  go_enter Tryz.func35, Tryz.ntmps35
  go_wp2_with (first
    | (go_at_call 48; refine htk.mono ?_; rintro e w1 ⟨rfl, hB1, hS1, hl1⟩; have hnx := HNX.out w1 (HA.out.keep hB1) hS1 (by simp only [List.length_cons] at hl1; omega); have HB1 := Lib.hid hB1; clear htk hB1 hS1 hl1)
    | (go_at_call 52; refine hnx.mono ?_; rintro e w2 ⟨hB2, rfl⟩))
  exact ⟨rfl, HB1.out.trans hB2, rfl⟩
set_option maxHeartbeats 1000000 in
set_option maxRecDepth 100000 in
theorem ext_maybe_some {r : List UInt8} {f : Fr} {fs : List Fr} {last : Nat} (hA : AmM w rb) (h : RS rb true fold w (63 :: r) last (f :: fs))  {q : List UInt8 × Nat × List Fr} (ho : (repM last (f :: fs) 0 1 r) = some q) : Calls Tryz.prog 35 #[ptr rb] w (RO rb true fold w (some q)) := by
  have htk := rs_take h
  have HNX : Hid (∀ u, AmM u rb → RS rb true fold u r last (f :: fs) → fs.length + 1 + 1 + r.length ≤ 2097152 → Calls Tryz.prog 52 #[ptr rb, .int .i64 0, .int .i64 1] u (RO rb true fold u (some q))) := fun u hAu hu hlu => by
    have this : Calls Tryz.prog 52 #[ptr rb, .int .i64 0, .int .i64 1] u (RO rb true fold u (repM last (f :: fs) 0 1 r)) := rrep_c 0 1 (by omega) (by omega) hu
    rw [ho] at this
    exact this
  have HA := Lib.hid hA
  clear h hA
  go_enter Tryz.func35, Tryz.ntmps35
  go_wp2_with (first
    | (go_at_call 48; refine htk.mono ?_; rintro e w1 ⟨rfl, hB1, hS1, hl1⟩; have hnx := HNX.out w1 (HA.out.keep hB1) hS1 (by simp only [List.length_cons] at hl1; omega); have HB1 := Lib.hid hB1; clear htk hB1 hS1 hl1)
    | (go_at_call 52; refine hnx.mono ?_; rintro e w2 ⟨hB2, rfl, hS2⟩))
  go_end0
  exact ⟨HB1.out.trans hB2, rfl, hS2⟩
theorem ext_maybe {r : List UInt8} {f : Fr} {fs : List Fr} {last : Nat} (hA : AmM w rb) (h : RS rb true fold w (63 :: r) last (f :: fs))  : Calls Tryz.prog 35 #[ptr rb] w (RO rb true fold w (repM last (f :: fs) 0 1 r)) := by
  cases ho : (repM last (f :: fs) 0 1 r) with
  | none => exact ext_maybe_none hA h ho
  | some q => exact ext_maybe_some hA h ho
set_option maxHeartbeats 1000000 in
set_option maxRecDepth 100000 in
theorem ext_begin_none {r : List UInt8} {f : Fr} {fs : List Fr} {last : Nat} (hA : AmM w rb) (h : RS rb true fold w (94 :: r) last (f :: fs))  (ho : (some (r, 2, pieceF beginN (f :: fs)) : Ms) = none) : Calls Tryz.prog 35 #[ptr rb] w (RO rb true fold w none) := by
  have htk := rs_take h
  have HNX : Hid (∀ u, AmM u rb → RS rb true fold u r last (f :: fs) → fs.length + 1 + 1 + r.length ≤ 2097152 → Calls Tryz.prog 50 #[ptr rb, .int .i64 2, .int .i64 2] u (RO rb true fold u none)) := fun u hAu hu hlu => by
    have this : Calls Tryz.prog 50 #[ptr rb, .int .i64 2, .int .i64 2] u (RO rb true fold u (some (r, 2, pieceF beginN (f :: fs)) : Ms)) := anchor_c 2 (by omega) 2 last hu
    rw [ho] at this
    exact this
  have HA := Lib.hid hA
  clear h hA
  go_enter Tryz.func35, Tryz.ntmps35
  go_wp2_with (first
    | (go_at_call 48; refine htk.mono ?_; rintro e w1 ⟨rfl, hB1, hS1, hl1⟩; have hnx := HNX.out w1 (HA.out.keep hB1) hS1 (by simp only [List.length_cons] at hl1; omega); have HB1 := Lib.hid hB1; clear htk hB1 hS1 hl1)
    | (go_at_call 50; refine hnx.mono ?_; rintro e w2 ⟨hB2, rfl⟩))
  exact ⟨rfl, HB1.out.trans hB2, rfl⟩
set_option maxHeartbeats 1000000 in
set_option maxRecDepth 100000 in
theorem ext_begin_some {r : List UInt8} {f : Fr} {fs : List Fr} {last : Nat} (hA : AmM w rb) (h : RS rb true fold w (94 :: r) last (f :: fs))  {q : List UInt8 × Nat × List Fr} (ho : (some (r, 2, pieceF beginN (f :: fs)) : Ms) = some q) : Calls Tryz.prog 35 #[ptr rb] w (RO rb true fold w (some q)) := by
  have htk := rs_take h
  have HNX : Hid (∀ u, AmM u rb → RS rb true fold u r last (f :: fs) → fs.length + 1 + 1 + r.length ≤ 2097152 → Calls Tryz.prog 50 #[ptr rb, .int .i64 2, .int .i64 2] u (RO rb true fold u (some q))) := fun u hAu hu hlu => by
    have this : Calls Tryz.prog 50 #[ptr rb, .int .i64 2, .int .i64 2] u (RO rb true fold u (some (r, 2, pieceF beginN (f :: fs)) : Ms)) := anchor_c 2 (by omega) 2 last hu
    rw [ho] at this
    exact this
  have HA := Lib.hid hA
  clear h hA
  go_enter Tryz.func35, Tryz.ntmps35
  go_wp2_with (first
    | (go_at_call 48; refine htk.mono ?_; rintro e w1 ⟨rfl, hB1, hS1, hl1⟩; have hnx := HNX.out w1 (HA.out.keep hB1) hS1 (by simp only [List.length_cons] at hl1; omega); have HB1 := Lib.hid hB1; clear htk hB1 hS1 hl1)
    | (go_at_call 50; refine hnx.mono ?_; rintro e w2 ⟨hB2, rfl, hS2⟩))
  go_end0
  exact ⟨HB1.out.trans hB2, rfl, hS2⟩
theorem ext_begin {r : List UInt8} {f : Fr} {fs : List Fr} {last : Nat} (hA : AmM w rb) (h : RS rb true fold w (94 :: r) last (f :: fs))  : Calls Tryz.prog 35 #[ptr rb] w (RO rb true fold w (some (r, 2, pieceF beginN (f :: fs)) : Ms)) := by
  cases ho : (some (r, 2, pieceF beginN (f :: fs)) : Ms) with
  | none => exact ext_begin_none hA h ho
  | some q => exact ext_begin_some hA h ho
set_option maxHeartbeats 1000000 in
set_option maxRecDepth 100000 in
theorem ext_end_none {r : List UInt8} {f : Fr} {fs : List Fr} {last : Nat} (hA : AmM w rb) (h : RS rb true fold w (36 :: r) last (f :: fs))  (ho : (some (r, 3, pieceF endN (f :: fs)) : Ms) = none) : Calls Tryz.prog 35 #[ptr rb] w (RO rb true fold w none) := by
  have htk := rs_take h
  have HNX : Hid (∀ u, AmM u rb → RS rb true fold u r last (f :: fs) → fs.length + 1 + 1 + r.length ≤ 2097152 → Calls Tryz.prog 50 #[ptr rb, .int .i64 3, .int .i64 3] u (RO rb true fold u none)) := fun u hAu hu hlu => by
    have this : Calls Tryz.prog 50 #[ptr rb, .int .i64 3, .int .i64 3] u (RO rb true fold u (some (r, 3, pieceF endN (f :: fs)) : Ms)) := anchor_c 3 (by omega) 3 last hu
    rw [ho] at this
    exact this
  have HA := Lib.hid hA
  clear h hA
  go_enter Tryz.func35, Tryz.ntmps35
  go_wp2_with (first
    | (go_at_call 48; refine htk.mono ?_; rintro e w1 ⟨rfl, hB1, hS1, hl1⟩; have hnx := HNX.out w1 (HA.out.keep hB1) hS1 (by simp only [List.length_cons] at hl1; omega); have HB1 := Lib.hid hB1; clear htk hB1 hS1 hl1)
    | (go_at_call 50; refine hnx.mono ?_; rintro e w2 ⟨hB2, rfl⟩))
  exact ⟨rfl, HB1.out.trans hB2, rfl⟩
set_option maxHeartbeats 1000000 in
set_option maxRecDepth 100000 in
theorem ext_end_some {r : List UInt8} {f : Fr} {fs : List Fr} {last : Nat} (hA : AmM w rb) (h : RS rb true fold w (36 :: r) last (f :: fs))  {q : List UInt8 × Nat × List Fr} (ho : (some (r, 3, pieceF endN (f :: fs)) : Ms) = some q) : Calls Tryz.prog 35 #[ptr rb] w (RO rb true fold w (some q)) := by
  have htk := rs_take h
  have HNX : Hid (∀ u, AmM u rb → RS rb true fold u r last (f :: fs) → fs.length + 1 + 1 + r.length ≤ 2097152 → Calls Tryz.prog 50 #[ptr rb, .int .i64 3, .int .i64 3] u (RO rb true fold u (some q))) := fun u hAu hu hlu => by
    have this : Calls Tryz.prog 50 #[ptr rb, .int .i64 3, .int .i64 3] u (RO rb true fold u (some (r, 3, pieceF endN (f :: fs)) : Ms)) := anchor_c 3 (by omega) 3 last hu
    rw [ho] at this
    exact this
  have HA := Lib.hid hA
  clear h hA
  go_enter Tryz.func35, Tryz.ntmps35
  go_wp2_with (first
    | (go_at_call 48; refine htk.mono ?_; rintro e w1 ⟨rfl, hB1, hS1, hl1⟩; have hnx := HNX.out w1 (HA.out.keep hB1) hS1 (by simp only [List.length_cons] at hl1; omega); have HB1 := Lib.hid hB1; clear htk hB1 hS1 hl1)
    | (go_at_call 50; refine hnx.mono ?_; rintro e w2 ⟨hB2, rfl, hS2⟩))
  go_end0
  exact ⟨HB1.out.trans hB2, rfl, hS2⟩
theorem ext_end {r : List UInt8} {f : Fr} {fs : List Fr} {last : Nat} (hA : AmM w rb) (h : RS rb true fold w (36 :: r) last (f :: fs))  : Calls Tryz.prog 35 #[ptr rb] w (RO rb true fold w (some (r, 3, pieceF endN (f :: fs)) : Ms)) := by
  cases ho : (some (r, 3, pieceF endN (f :: fs)) : Ms) with
  | none => exact ext_end_none hA h ho
  | some q => exact ext_end_some hA h ho
set_option maxHeartbeats 1000000 in
set_option maxRecDepth 100000 in
theorem ext_plain_none {r : List UInt8} {f : Fr} {fs : List Fr} {last : Nat} {c : UInt8} (hne : c ≠ 40 ∧ c ≠ 41 ∧ c ≠ 124 ∧ c ≠ 42 ∧ c ≠ 43 ∧ c ≠ 63 ∧ c ≠ 123 ∧ c ≠ 94 ∧ c ≠ 36 ∧ c ≠ 92) (hA : AmM w rb) (h : RS rb true fold w (c :: r) last (f :: fs)) (ho : (plainM fold (f :: fs) c r) = none) : Calls Tryz.prog 35 #[ptr rb] w (RO rb true fold w none) := by
  have htk := rs_take h
  obtain ⟨n40, n41, n124, n42, n43, n63, n123, n94, n36, n92⟩ := hne
  have q40 : ((c.toNat : Int) == 40) = false := ne_u8 n40
  have q41 : ((c.toNat : Int) == 41) = false := ne_u8 n41
  have q124 : ((c.toNat : Int) == 124) = false := ne_u8 n124
  have q42 : ((c.toNat : Int) == 42) = false := ne_u8 n42
  have q43 : ((c.toNat : Int) == 43) = false := ne_u8 n43
  have q63 : ((c.toNat : Int) == 63) = false := ne_u8 n63
  have q123 : ((c.toNat : Int) == 123) = false := ne_u8 n123
  have q94 : ((c.toNat : Int) == 94) = false := ne_u8 n94
  have q36 : ((c.toNat : Int) == 36) = false := ne_u8 n36
  have q92 : ((c.toNat : Int) == 92) = false := ne_u8 n92
  clear n40 n41 n124 n42 n43 n63 n123 n94 n36 n92
  have HNX : Hid (∀ u, AmM u rb → RS rb true fold u r last (f :: fs) → Calls Tryz.prog 53 #[ptr rb, .int .u8 (c.toNat : Int)] u (RO rb true fold u none)) := fun u hAu hu => by
    have this := plain_c c hAu hu
    rw [ho] at this
    exact this
  have HA := Lib.hid hA
  clear h hA
  go_enter Tryz.func35, Tryz.ntmps35
  go_wp2_with (first
    | (go_at_call 48; refine htk.mono ?_; rintro e w1 ⟨rfl, hB1, hS1, hl1⟩; have hnx := HNX.out w1 (HA.out.keep hB1) hS1; have HB1 := Lib.hid hB1; clear htk hB1 hS1 hl1)
    | (go_at_call 53; refine hnx.mono ?_; rintro e w2 ⟨hB2, rfl⟩))
  exact ⟨rfl, HB1.out.trans hB2, rfl⟩
set_option maxHeartbeats 1000000 in
set_option maxRecDepth 100000 in
theorem ext_plain_some {r : List UInt8} {f : Fr} {fs : List Fr} {last : Nat} {c : UInt8} (hne : c ≠ 40 ∧ c ≠ 41 ∧ c ≠ 124 ∧ c ≠ 42 ∧ c ≠ 43 ∧ c ≠ 63 ∧ c ≠ 123 ∧ c ≠ 94 ∧ c ≠ 36 ∧ c ≠ 92) (hA : AmM w rb) (h : RS rb true fold w (c :: r) last (f :: fs)) {q : List UInt8 × Nat × List Fr} (ho : (plainM fold (f :: fs) c r) = some q) : Calls Tryz.prog 35 #[ptr rb] w (RO rb true fold w (some q)) := by
  have htk := rs_take h
  obtain ⟨n40, n41, n124, n42, n43, n63, n123, n94, n36, n92⟩ := hne
  have q40 : ((c.toNat : Int) == 40) = false := ne_u8 n40
  have q41 : ((c.toNat : Int) == 41) = false := ne_u8 n41
  have q124 : ((c.toNat : Int) == 124) = false := ne_u8 n124
  have q42 : ((c.toNat : Int) == 42) = false := ne_u8 n42
  have q43 : ((c.toNat : Int) == 43) = false := ne_u8 n43
  have q63 : ((c.toNat : Int) == 63) = false := ne_u8 n63
  have q123 : ((c.toNat : Int) == 123) = false := ne_u8 n123
  have q94 : ((c.toNat : Int) == 94) = false := ne_u8 n94
  have q36 : ((c.toNat : Int) == 36) = false := ne_u8 n36
  have q92 : ((c.toNat : Int) == 92) = false := ne_u8 n92
  clear n40 n41 n124 n42 n43 n63 n123 n94 n36 n92
  have HNX : Hid (∀ u, AmM u rb → RS rb true fold u r last (f :: fs) → Calls Tryz.prog 53 #[ptr rb, .int .u8 (c.toNat : Int)] u (RO rb true fold u (some q))) := fun u hAu hu => by
    have this := plain_c c hAu hu
    rw [ho] at this
    exact this
  have HA := Lib.hid hA
  clear h hA
  go_enter Tryz.func35, Tryz.ntmps35
  go_wp2_with (first
    | (go_at_call 48; refine htk.mono ?_; rintro e w1 ⟨rfl, hB1, hS1, hl1⟩; have hnx := HNX.out w1 (HA.out.keep hB1) hS1; have HB1 := Lib.hid hB1; clear htk hB1 hS1 hl1)
    | (go_at_call 53; refine hnx.mono ?_; rintro e w2 ⟨hB2, rfl, hS2⟩))
  go_end0
  exact ⟨HB1.out.trans hB2, rfl, hS2⟩
set_option maxHeartbeats 1000000 in
set_option maxRecDepth 100000 in
theorem ext_bar_none {r : List UInt8} {f : Fr} {fs : List Fr} {last : Nat} (h : RS rb true fold w (124 :: r) last (f :: fs)) (h1 : last ≤ 1) : Calls Tryz.prog 35 #[ptr rb] w (RO rb true fold w none) := by
  have htk := rs_take h
  have HBr : Hid (∀ u, RS rb true fold u r last (f :: fs) → _) := fun u hu => rs_branch hu
  have hrb := h.lt
  clear h
  have HX : Hid (decide (true = true ∧ last ≤ 1) = true) := decide_eq_true ⟨rfl, h1⟩
  go_enter Tryz.func35, Tryz.ntmps35
  go_wp2_with (first
    | (go_at_call 48; refine htk.mono ?_; rintro e w1 ⟨rfl, hB1, hS1, hl1⟩; obtain ⟨cl1, hbr, hfin⟩ := HBr.out w1 hS1; rw [HX.out] at hbr; have HB1 := Lib.hid hB1; clear htk hB1 hS1 hl1 hfin)
    | (go_at_call 55; refine hbr.mono ?_; rintro e w2 ⟨hB2, he⟩; rw [if_pos rfl] at he; subst he))
  exact ⟨rfl, HB1.out.trans hB2, rfl⟩
set_option maxHeartbeats 1000000 in
set_option maxRecDepth 100000 in
theorem ext_bar_some {r : List UInt8} {f : Fr} {fs : List Fr} {last : Nat} (h : RS rb true fold w (124 :: r) last (f :: fs)) (h1 : ¬ last ≤ 1) : Calls Tryz.prog 35 #[ptr rb] w (RO rb true fold w (some (r, 1, branchF (f :: fs)))) := by
  have htk := rs_take h
  have HBr : Hid (∀ u, RS rb true fold u r last (f :: fs) → _) := fun u hu => rs_branch hu
  have hrb := h.lt
  clear h
  have HX : Hid (decide (true = true ∧ last ≤ 1) = false) := decide_eq_false (fun e => h1 e.2)
  go_enter Tryz.func35, Tryz.ntmps35
  go_wp2_with (first
    | (go_at_call 48; refine htk.mono ?_; rintro e w1 ⟨rfl, hB1, hS1, hl1⟩; obtain ⟨cl1, hbr, hfin⟩ := HBr.out w1 hS1; rw [HX.out] at hbr; have HB1 := Lib.hid hB1; have HFN := Lib.hid hfin; clear htk hB1 hS1 hl1 hfin)
    | (go_at_call 55; refine hbr.mono ?_; rintro e w2 ⟨hB2, he⟩; rw [if_neg (by simp)] at he; obtain ⟨rfl, pv2, ov2, md2, hR2, hb2⟩ := he; have k3 := h_cell hR2 3 rfl; have z3 := h_fz hR2 3; have HZ := Lib.hid (And.intro hB2 (HFN.out w2 pv2 ov2 md2 hR2 hb2)); clear hB2 hR2 hb2))
  go_end0
  exact ⟨(HB1.out.trans HZ.out.1).setCell (p := ⟨rb, 3, none⟩) (Nat.le_refl _) _, rfl, HZ.out.2⟩
set_option maxHeartbeats 1000000 in
set_option maxRecDepth 100000 in
theorem ext_brace_a {r : List UInt8} {f : Fr} {fs : List Fr} {last : Nat} (h : RS rb true fold w (123 :: r) last (f :: fs)) (ho : braceS [125] r = none) : Calls Tryz.prog 35 #[ptr rb] w (RO rb true fold w none) := by
  have htk := rs_take h
  have HBo : Hid (∀ u, RS rb true fold u r last (f :: fs) → Calls Tryz.prog 56 #[ptr rb, .string (bs [125])] u (BdO rb true fold last (f :: fs) u (braceS [125] r))) := fun u hu => rs_bounds (by decide) hu
  rw [ho] at HBo
  clear ho
  clear h
  go_enter Tryz.func35, Tryz.ntmps35
  go_wp2_with (first
    | (go_at_call 48; refine htk.mono ?_; rintro e w1 ⟨rfl, hB1, hS1, hl1⟩; have hbo := HBo.out w1 hS1; have HB1 := Lib.hid hB1; clear htk hB1 hS1 hl1)
    | (go_at_call 56; refine hbo.mono ?_; rintro e w3 ⟨hB3, rfl⟩))
  exact ⟨rfl, HB1.out.trans hB3, rfl⟩
set_option maxHeartbeats 1000000 in
set_option maxRecDepth 100000 in
theorem ext_brace_b {r : List UInt8} {f : Fr} {fs : List Fr} {last : Nat} (h : RS rb true fold w (123 :: r) last (f :: fs)) {q : Int × Int × List UInt8} (ho : braceS [125] r = some q) (h4 : last ≠ 4) : Calls Tryz.prog 35 #[ptr rb] w (RO rb true fold w none) := by
  have htk := rs_take h
  have HBo : Hid (∀ u, RS rb true fold u r last (f :: fs) → Calls Tryz.prog 56 #[ptr rb, .string (bs [125])] u (BdO rb true fold last (f :: fs) u (braceS [125] r))) := fun u hu => rs_bounds (by decide) hu
  have hin := braceS_in ho
  have hor := (brace_ord ho).1
  have HRp : Hid (∀ u, RS rb true fold u q.2.2 last (f :: fs) → Calls Tryz.prog 52 #[ptr rb, .int .i64 q.1, .int .i64 q.2.1] u (RO rb true fold u (repM last (f :: fs) q.1 q.2.1 q.2.2))) := fun u hu => rrep_c q.1 q.2.1 ⟨hin.1, hin.2.1⟩ ⟨hor, hin.2.2.2⟩ hu
  rw [show repM last (f :: fs) q.1 q.2.1 q.2.2 = none from if_neg h4] at HRp
  rw [ho] at HBo
  obtain ⟨qm, qn, qt⟩ := q
  clear ho hin hor h4
  clear h
  go_enter Tryz.func35, Tryz.ntmps35
  go_wp2_with (first
    | (go_at_call 48; refine htk.mono ?_; rintro e w1 ⟨rfl, hB1, hS1, hl1⟩; have hbo := HBo.out w1 hS1; have HB1 := Lib.hid hB1; clear htk hB1 hS1 hl1)
    | (go_at_call 56; refine hbo.mono ?_; rintro e w3 ⟨hB3, rfl, hS3⟩; have hrp := HRp.out w3 hS3; have HB3 := Lib.hid hB3; clear hB3 hS3)
    | (go_at_call 52; refine hrp.mono ?_; rintro e w4 ⟨hB4, rfl⟩))
  exact ⟨rfl, HB1.out.trans (HB3.out.trans hB4), rfl⟩
set_option maxHeartbeats 1000000 in
set_option maxRecDepth 100000 in
theorem ext_brace_c {r : List UInt8} {f : Fr} {fs : List Fr} {last : Nat} (h : RS rb true fold w (123 :: r) last (f :: fs)) {q : Int × Int × List UInt8} (ho : braceS [125] r = some q) (h4 : last = 4) : Calls Tryz.prog 35 #[ptr rb] w (RO rb true fold w (some (q.2.2, 5, repF q.1 q.2.1 (f :: fs)))) := by
  have htk := rs_take h
  have HBo : Hid (∀ u, RS rb true fold u r last (f :: fs) → Calls Tryz.prog 56 #[ptr rb, .string (bs [125])] u (BdO rb true fold last (f :: fs) u (braceS [125] r))) := fun u hu => rs_bounds (by decide) hu
  have hin := braceS_in ho
  have hor := (brace_ord ho).1
  have HRp : Hid (∀ u, RS rb true fold u q.2.2 last (f :: fs) → Calls Tryz.prog 52 #[ptr rb, .int .i64 q.1, .int .i64 q.2.1] u (RO rb true fold u (repM last (f :: fs) q.1 q.2.1 q.2.2))) := fun u hu => rrep_c q.1 q.2.1 ⟨hin.1, hin.2.1⟩ ⟨hor, hin.2.2.2⟩ hu
  rw [show repM last (f :: fs) q.1 q.2.1 q.2.2 = some (q.2.2, 5, repF q.1 q.2.1 (f :: fs)) from if_pos h4] at HRp
  rw [ho] at HBo
  obtain ⟨qm, qn, qt⟩ := q
  clear ho hin hor h4
  clear h
  go_enter Tryz.func35, Tryz.ntmps35
  go_wp2_with (first
    | (go_at_call 48; refine htk.mono ?_; rintro e w1 ⟨rfl, hB1, hS1, hl1⟩; have hbo := HBo.out w1 hS1; have HB1 := Lib.hid hB1; clear htk hB1 hS1 hl1)
    | (go_at_call 56; refine hbo.mono ?_; rintro e w3 ⟨hB3, rfl, hS3⟩; have hrp := HRp.out w3 hS3; have HB3 := Lib.hid hB3; clear hB3 hS3)
    | (go_at_call 52; refine hrp.mono ?_; rintro e w4 ⟨hB4, rfl, hS4⟩))
  go_end0
  exact ⟨HB1.out.trans (HB3.out.trans hB4), rfl, hS4⟩
set_option maxHeartbeats 1000000 in
set_option maxRecDepth 100000 in
theorem be_brace_a {r : List UInt8} {f : Fr} {fs : List Fr} {last : Nat} (h : RS rb ext fold w r last (f :: fs)) (ho : braceS [92, 125] r = none) : Calls Tryz.prog 49 #[ptr rb, .int .u8 123] w (RO rb ext fold w none) := by
  have hbo0 := h
  have HBo : Hid (∀ u, RS rb ext fold u r last (f :: fs) → Calls Tryz.prog 56 #[ptr rb, .string (bs [92, 125])] u (BdO rb ext fold last (f :: fs) u (braceS [92, 125] r))) := fun u hu => rs_bounds (by decide) hu
  rw [ho] at HBo
  clear ho
  have hbo := HBo.out w hbo0
  clear h hbo0
  go_enter Tryz.func49, Tryz.ntmps49
  go_wp2_with (first
    | (go_at_call 56; refine hbo.mono ?_; rintro e w3 ⟨hB3, rfl⟩))
  exact ⟨rfl, hB3, rfl⟩
set_option maxHeartbeats 1000000 in
set_option maxRecDepth 100000 in
theorem be_brace_b {r : List UInt8} {f : Fr} {fs : List Fr} {last : Nat} (h : RS rb ext fold w r last (f :: fs)) {q : Int × Int × List UInt8} (ho : braceS [92, 125] r = some q) (h4 : last ≠ 4) : Calls Tryz.prog 49 #[ptr rb, .int .u8 123] w (RO rb ext fold w none) := by
  have hbo0 := h
  have HBo : Hid (∀ u, RS rb ext fold u r last (f :: fs) → Calls Tryz.prog 56 #[ptr rb, .string (bs [92, 125])] u (BdO rb ext fold last (f :: fs) u (braceS [92, 125] r))) := fun u hu => rs_bounds (by decide) hu
  have hin := braceS_in ho
  have hor := (brace_ord ho).1
  have HRp : Hid (∀ u, RS rb ext fold u q.2.2 last (f :: fs) → Calls Tryz.prog 52 #[ptr rb, .int .i64 q.1, .int .i64 q.2.1] u (RO rb ext fold u (repM last (f :: fs) q.1 q.2.1 q.2.2))) := fun u hu => rrep_c q.1 q.2.1 ⟨hin.1, hin.2.1⟩ ⟨hor, hin.2.2.2⟩ hu
  rw [show repM last (f :: fs) q.1 q.2.1 q.2.2 = none from if_neg h4] at HRp
  rw [ho] at HBo
  obtain ⟨qm, qn, qt⟩ := q
  clear ho hin hor h4
  have hbo := HBo.out w hbo0
  clear h hbo0
  go_enter Tryz.func49, Tryz.ntmps49
  go_wp2_with (first
    | (go_at_call 56; refine hbo.mono ?_; rintro e w3 ⟨hB3, rfl, hS3⟩; have hrp := HRp.out w3 hS3; have HB3 := Lib.hid hB3; clear hB3 hS3)
    | (go_at_call 52; refine hrp.mono ?_; rintro e w4 ⟨hB4, rfl⟩))
  exact ⟨rfl, (HB3.out.trans hB4), rfl⟩
set_option maxHeartbeats 1000000 in
set_option maxRecDepth 100000 in
theorem be_brace_c {r : List UInt8} {f : Fr} {fs : List Fr} {last : Nat} (h : RS rb ext fold w r last (f :: fs)) {q : Int × Int × List UInt8} (ho : braceS [92, 125] r = some q) (h4 : last = 4) : Calls Tryz.prog 49 #[ptr rb, .int .u8 123] w (RO rb ext fold w (some (q.2.2, 5, repF q.1 q.2.1 (f :: fs)))) := by
  have hbo0 := h
  have HBo : Hid (∀ u, RS rb ext fold u r last (f :: fs) → Calls Tryz.prog 56 #[ptr rb, .string (bs [92, 125])] u (BdO rb ext fold last (f :: fs) u (braceS [92, 125] r))) := fun u hu => rs_bounds (by decide) hu
  have hin := braceS_in ho
  have hor := (brace_ord ho).1
  have HRp : Hid (∀ u, RS rb ext fold u q.2.2 last (f :: fs) → Calls Tryz.prog 52 #[ptr rb, .int .i64 q.1, .int .i64 q.2.1] u (RO rb ext fold u (repM last (f :: fs) q.1 q.2.1 q.2.2))) := fun u hu => rrep_c q.1 q.2.1 ⟨hin.1, hin.2.1⟩ ⟨hor, hin.2.2.2⟩ hu
  rw [show repM last (f :: fs) q.1 q.2.1 q.2.2 = some (q.2.2, 5, repF q.1 q.2.1 (f :: fs)) from if_pos h4] at HRp
  rw [ho] at HBo
  obtain ⟨qm, qn, qt⟩ := q
  clear ho hin hor h4
  have hbo := HBo.out w hbo0
  clear h hbo0
  go_enter Tryz.func49, Tryz.ntmps49
  go_wp2_with (first
    | (go_at_call 56; refine hbo.mono ?_; rintro e w3 ⟨hB3, rfl, hS3⟩; have hrp := HRp.out w3 hS3; have HB3 := Lib.hid hB3; clear hB3 hS3)
    | (go_at_call 52; refine hrp.mono ?_; rintro e w4 ⟨hB4, rfl, hS4⟩))
  go_end0
  exact ⟨(HB3.out.trans hB4), rfl, hS4⟩
set_option maxHeartbeats 1000000 in
set_option maxRecDepth 100000 in
theorem ext_esc_none {r : List UInt8} {f : Fr} {fs : List Fr} {last : Nat} {d : UInt8} (h : RS rb true fold w (92 :: d :: r) last (f :: fs)) (ho : (atomM (f :: fs) (quoteE fold (d :: r))) = none) : Calls Tryz.prog 35 #[ptr rb] w (RO rb true fold w none) := by
  have htk := rs_take h
  have HT2 : Hid (∀ u, RS rb true fold u (d :: r) last (f :: fs) → _) := fun u hu => rs_take hu
  have HNX : Hid (∀ u, RS rb true fold u r last (f :: fs) → Calls Tryz.prog 57 #[ptr rb, .int .u8 (d.toNat : Int)] u (RO rb true fold u none)) := fun u hu => by
    have this := escaped_c d hu
    rw [ho] at this
    exact this
  clear h ho
  go_enter Tryz.func35, Tryz.ntmps35
  go_wp2_with (first
    | (go_at_call 48; refine htk.mono ?_; rintro e w1 ⟨rfl, hB1, hS1, hl1⟩; have htk2 := HT2.out w1 hS1; have HB1 := Lib.hid hB1; clear htk hB1 hS1 hl1)
    | (go_at_call 48; refine htk2.mono ?_; rintro e w2 ⟨rfl, hB2, hS2, hl2⟩; have hnx := HNX.out w2 hS2; have HB2 := Lib.hid hB2; clear htk2 hB2 hS2 hl2)
    | (go_at_call 57; refine hnx.mono ?_; rintro e w3 ⟨hB3, rfl⟩))
  exact ⟨rfl, (HB1.out.trans HB2.out).trans hB3, rfl⟩
set_option maxHeartbeats 1000000 in
set_option maxRecDepth 100000 in
theorem ext_esc_some {r : List UInt8} {f : Fr} {fs : List Fr} {last : Nat} {d : UInt8} (h : RS rb true fold w (92 :: d :: r) last (f :: fs)) {q : List UInt8 × Nat × List Fr} (ho : (atomM (f :: fs) (quoteE fold (d :: r))) = some q) : Calls Tryz.prog 35 #[ptr rb] w (RO rb true fold w (some q)) := by
  have htk := rs_take h
  have HT2 : Hid (∀ u, RS rb true fold u (d :: r) last (f :: fs) → _) := fun u hu => rs_take hu
  have HNX : Hid (∀ u, RS rb true fold u r last (f :: fs) → Calls Tryz.prog 57 #[ptr rb, .int .u8 (d.toNat : Int)] u (RO rb true fold u (some q))) := fun u hu => by
    have this := escaped_c d hu
    rw [ho] at this
    exact this
  clear h ho
  go_enter Tryz.func35, Tryz.ntmps35
  go_wp2_with (first
    | (go_at_call 48; refine htk.mono ?_; rintro e w1 ⟨rfl, hB1, hS1, hl1⟩; have htk2 := HT2.out w1 hS1; have HB1 := Lib.hid hB1; clear htk hB1 hS1 hl1)
    | (go_at_call 48; refine htk2.mono ?_; rintro e w2 ⟨rfl, hB2, hS2, hl2⟩; have hnx := HNX.out w2 hS2; have HB2 := Lib.hid hB2; clear htk2 hB2 hS2 hl2)
    | (go_at_call 57; refine hnx.mono ?_; rintro e w3 ⟨hB3, rfl, hS3⟩))
  go_end0
  exact ⟨(HB1.out.trans HB2.out).trans hB3, rfl, hS3⟩
set_option maxHeartbeats 1000000 in
set_option maxRecDepth 100000 in
theorem ext_esc_nil {r : List UInt8} {f : Fr} {fs : List Fr} {last : Nat} (h : RS rb true fold w [92] last (f :: fs)) : Calls Tryz.prog 35 #[ptr rb] w (RO rb true fold w none) := by
  have _hr := r
  have htk := rs_take h
  have HT2 : Hid (∀ u, RS rb true fold u [] last (f :: fs) → _) := fun u hu => rs_takeno hu
  clear h
  go_enter Tryz.func35, Tryz.ntmps35
  go_wp2_with (first
    | (go_at_call 48; refine htk.mono ?_; rintro e w1 ⟨rfl, hB1, hS1, hl1⟩; have htk2 := HT2.out w1 hS1; have HB1 := Lib.hid hB1; clear htk hB1 hS1 hl1)
    | (go_at_call 48; refine htk2.mono ?_; rintro e w2 ⟨rfl, hw⟩; rw [hw]; clear hw w2))
  exact ⟨rfl, HB1.out, rfl⟩
theorem extended_c {c : UInt8} {r : List UInt8} {f : Fr} {fs : List Fr} {last : Nat} (hA : AmM w rb) (h : RS rb true fold w (c :: r) last (f :: fs)) : Calls Tryz.prog 35 #[ptr rb] w (RO rb true fold w (stepX fold last (f :: fs) c r)) := by
  by_cases h40 : c = 40
  · subst h40; exact ext_open hA h
  by_cases h41 : c = 41
  · subst h41; exact ext_shut hA h
  by_cases h124 : c = 124
  · subst h124
    by_cases h1 : last ≤ 1
    · have : stepX fold last (f :: fs) 124 r = none := by show (if last ≤ 1 then _ else _) = _; rw [if_pos h1]
      rw [this]; exact ext_bar_none h h1
    · have : stepX fold last (f :: fs) 124 r = some (r, 1, branchF (f :: fs)) := by show (if last ≤ 1 then _ else _) = _; rw [if_neg h1]
      rw [this]; exact ext_bar_some h h1
  by_cases h42 : c = 42
  · subst h42; exact ext_star hA h
  by_cases h43 : c = 43
  · subst h43; exact ext_plus hA h
  by_cases h63 : c = 63
  · subst h63; exact ext_maybe hA h
  by_cases h123 : c = 123
  · subst h123
    have e : stepX fold last (f :: fs) 123 r = boundsM last (f :: fs) (braceS [125] r) := rfl
    rw [e]
    cases ho : braceS [125] r with
    | none => exact ext_brace_a h ho
    | some q =>
      by_cases h4 : last = 4
      · have : boundsM last (f :: fs) (some q) = some (q.2.2, 5, repF q.1 q.2.1 (f :: fs)) := if_pos h4
        rw [this]; exact ext_brace_c h ho h4
      · have : boundsM last (f :: fs) (some q) = none := if_neg h4
        rw [this]; exact ext_brace_b h ho h4
  by_cases h94 : c = 94
  · subst h94; exact ext_begin hA h
  by_cases h36 : c = 36
  · subst h36; exact ext_end hA h
  by_cases h92 : c = 92
  · subst h92
    cases r with
    | nil => exact ext_esc_nil (r := []) h
    | cons d r =>
      have e : stepX fold last (f :: fs) 92 (d :: r) = atomM (f :: fs) (quoteE fold (d :: r)) := rfl
      rw [e]
      cases ho : atomM (f :: fs) (quoteE fold (d :: r)) with
      | none => exact ext_esc_none h ho
      | some q => exact ext_esc_some h ho
  have e : stepX fold last (f :: fs) c r = plainM fold (f :: fs) c r := by
    unfold stepX
    rw [if_neg h40, if_neg h41, if_neg h124, if_neg h42, if_neg h43, if_neg h63, if_neg h123, if_neg h94, if_neg h36, if_neg h92]
  rw [e]
  cases ho : plainM fold (f :: fs) c r with
  | none => exact ext_plain_none ⟨h40, h41, h124, h42, h43, h63, h123, h94, h36, h92⟩ hA h ho
  | some q => exact ext_plain_some ⟨h40, h41, h124, h42, h43, h63, h123, h94, h36, h92⟩ hA h ho
end
end Go.Proofs.YtlekfdkahlobiaaGreat.Re
