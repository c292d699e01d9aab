/- The reader's state, whether or not the builder is full. -/
import Derived.Test.YtlekfdkahlobiaaGreatHBld6
import Derived.Test.YtlekfdkahlobiaaGreatHBld7
namespace Go.Proofs.YtlekfdkahlobiaaGreat.Re
open Go.Proofs.YtlekfdkahlobiaaGreat.Tr
open Go.RowKit

/-- The builder, full or not. -/
structure Bd (w : World) (rb : Nat) (pv ov : Value) (made : Int) (fs : List Fr) : Prop where
  m0 : 0 ≤ made
  m1 : made ≤ 10001
  wt : made ≤ (Nd.size.sizes (flat fs) : Int)
  row : made ≤ 10000 → BdR w rb pv ov made fs
theorem BdR.bd {w : World} {rb : Nat} {pv ov : Value} {made : Int} {fs : List Fr} (h : BdR w rb pv ov made fs) : Bd w rb pv ov made fs := ⟨h.m0, h.m1, h.wt, fun _ => h⟩
theorem Bd.keep {w w' : World} {rb : Nat} {pv ov : Value} {made : Int} {fs : List Fr} (h : Bd w rb pv ov made fs) (hk : AKeep w w') : Bd w' rb pv ov made fs := ⟨h.m0, h.m1, h.wt, fun hm => (h.row hm).keep hk⟩
theorem Bd.full {w w' : World} {rb : Nat} {pv ov : Value} {made : Int} {fs fs' : List Fr} (h : Bd w rb pv ov made fs) (hm : 10000 < made) (hs : Nd.size.sizes (flat fs) ≤ Nd.size.sizes (flat fs')) : Bd w' rb pv ov made fs' := ⟨h.m0, h.m1, by have := h.wt; omega, fun h => by omega⟩
theorem sizes_one (x : Nd) : Nd.size.sizes [x] = x.size := by rw [Nd.size.sizes, Nd.size.sizes]; rfl
theorem sz_piece (x : Nd) (f : Fr) (fs : List Fr) : Nd.size.sizes (flat (f :: fs)) ≤ Nd.size.sizes (flat (pieceF x (f :: fs))) := by rw [flat_piece, sizes_app]; omega
theorem sz_rep2 (m n : Int) (br pc : List Nd) (x : Nd) (fs : List Fr) : Nd.size.sizes (flat ((br, pc ++ [x]) :: fs)) ≤ Nd.size.sizes (flat (repF m n ((br, pc ++ [x]) :: fs))) := by
  have hs1 : x.size ≤ (repN m n x).size := by
    unfold repN
    rw [Nd.size, if_pos rfl, Nd.size.sizes, Nd.size.sizes]
    have hmx : 1 ≤ max 1 (if n < 0 then m else n).toNat := Nat.le_max_left _ _
    have := Nat.mul_le_mul_left (x.size + 0) hmx
    omega
  rw [flat_rep, show flat ((br, pc ++ [x]) :: fs) = (flat fs ++ (br ++ pc)) ++ [x] by simp [flat]]
  simp only [sizes_app, sizes_one]
  omega
theorem sz_branch (f : Fr) (fs : List Fr) : Nd.size.sizes (flat (f :: fs)) ≤ Nd.size.sizes (flat (branchF (f :: fs))) := by
  have hj := sizes_le_join (k := 4) (by omega) f.2
  rw [show flat (f :: fs) = (flat fs ++ f.1) ++ f.2 by simp [flat], show flat (branchF (f :: fs)) = (flat fs ++ f.1) ++ [joinN 4 f.2] by simp [flat, branchF]]
  simp only [sizes_app, sizes_one]
  omega
theorem sz_end (br : List Nd) (fs : List Fr) : Nd.size.sizes (flat ((br, []) :: fs)) ≤ Nd.size.sizes (flat fs ++ [joinN 5 br]) := by
  have hj := sizes_le_join (k := 5) (by omega) br
  rw [show flat ((br, []) :: fs) = flat fs ++ br by simp [flat], sizes_app, sizes_app, sizes_one]
  omega
section
variable {w : World} {rb : Nat} {l : List UInt8} {ext fold cl : Bool} {last depth made : Int} {pv ov : Value}
/-- What is left of the builder. -/
abbrev BlB (rb : Nat) (l : List UInt8) (ext fold : Bool) (last depth : Int) (cl : Bool) (w : World) (fs : List Fr) : Ending → World → Prop := BlO rb l ext fold last depth cl w fun w' pv' ov' made' => Bd w' rb pv' ov' made' fs
set_option maxHeartbeats 1000000 in
theorem piece_full {v : Value} {z : Int} (h : Rd w rb l ext fold last depth cl pv ov made) (hm : 10000 < made) (hv : isPtr w v) :
    Calls Tryz.prog 62 #[bldP rb, .agg #[v, .int .i64 z]] w fun e w' => e = .returned (.tuple #[]) ∧ Below w.heap.size w w' := by
  obtain ⟨pb, rfl, _⟩ := hv
  have hf : ∀ o, Calls Tryz.prog 60 #[bldP rb] (w.alloc o) fun e w' => e = .returned (.bool true) ∧ w' = w.alloc o := fun o => by
    have := isFull_c (h.keep ((Below.refl _ w).alloc (Nat.le_refl _) o))
    rw [decide_eq_true hm] at this
    exact this
  clear h
  go_enter Tryz.func62, Tryz.ntmps62
  go_wp2_with (go_at_call 60; refine (hf _).mono ?_; rintro e w1 ⟨rfl, hw⟩; rw [hw]; clear hw w1)
  go_end0
  exact ⟨rfl, (Below.refl _ w).alloc (Nat.le_refl _) _⟩
theorem BlB.of {P : World → Value → Value → Int → Prop} {fs : List Fr} {e : Ending} {w' : World} (h : BlO rb l ext fold last depth cl w P e w') (hP : ∀ u pv ov made, P u pv ov made → Bd u rb pv ov made fs) : BlB rb l ext fold last depth cl w fs e w' := by
  obtain ⟨h1, pv, ov, made, h2, h3, h4⟩ := h
  exact ⟨h1, pv, ov, made, h2, hP _ _ _ _ h3, h4⟩
theorem BlB.same {fs fs' : List Fr} {e : Ending} {w' : World} (h : Rd w rb l ext fold last depth cl pv ov made) (hb : Bd w rb pv ov made fs) (hm : 10000 < made) (hs : Nd.size.sizes (flat fs) ≤ Nd.size.sizes (flat fs')) (he : e = .returned (.tuple #[])) (hB : Below w.heap.size w w') : BlB rb l ext fold last depth cl w fs' e w' :=
  ⟨he, pv, ov, made, h.keep hB, hb.full hm hs, NKeep.of hB, hB.mono (Nat.le_of_lt (h_lt h))⟩
theorem piece_a {v : Value} {x : Nd} {f : Fr} {fs : List Fr} (hx : NodeP w v x) (h : Rd w rb l ext fold last depth cl pv ov made) (hb : Bd w rb pv ov made (f :: fs)) : Calls Tryz.prog 62 #[bldP rb, reV v x] w (BlB rb l ext fold last depth cl w (pieceF x (f :: fs))) := by
  by_cases hm : made ≤ 10000
  · exact (piece_c hx h (hb.row hm) hm).mono fun e w' hq => BlB.of hq fun _ _ _ _ hP => hP.1.bd
  · exact (piece_full h (by omega) hx.ptr).mono fun e w' hq => BlB.same h hb (by omega) (sz_piece x f fs) hq.1 hq.2
theorem begin_a {fs : List Fr} (h : Rd w rb l ext fold last depth cl pv ov made) (hb : Bd w rb pv ov made fs) (hfs : fs.length ≤ 2097152) : Calls Tryz.prog 58 #[bldP rb] w (BlB rb l ext fold last depth cl w (([], []) :: fs)) := by
  by_cases hm : made ≤ 10000
  · exact (begin_b h (hb.row hm) hm hfs).mono fun e w' hq => BlB.of hq fun _ _ _ _ hP => hP.1.bd
  · refine (begin_full h (by omega)).mono fun e w' hq => BlB.same h hb (by omega) (by rw [flat_begin]; exact Nat.le_refl _) hq.1 (by rw [hq.2]; exact Below.refl _ _)
theorem brep_a {fs : List Fr} {br pc : List Nd} {x : Nd} {m n : Int} (hmm : 0 ≤ m ∧ m ≤ 255) (hnn : (n = -1 ∨ m ≤ n) ∧ n ≤ 255) (h : Rd w rb l ext fold last depth cl pv ov made) (hb : Bd w rb pv ov made ((br, pc ++ [x]) :: fs)) : Calls Tryz.prog 64 #[bldP rb, .int .i64 m, .int .i64 n] w (BlB rb l ext fold last depth cl w (repF m n ((br, pc ++ [x]) :: fs))) := by
  by_cases hm : made ≤ 10000
  · exact (brep_b hmm hnn h (hb.row hm) hm).mono fun e w' hq => BlB.of hq fun _ _ _ _ hP => hP.1.bd
  · exact (brep_full m n h (by omega)).mono fun e w' hq => BlB.same h hb (by omega) (sz_rep2 m n br pc x fs) hq.1 (by rw [hq.2]; exact Below.refl _ _)
end
end Go.Proofs.YtlekfdkahlobiaaGreat.Re
