/- The reader's state, whether or not the builder is full. -/
import Derived.Test.YtlekfdkahlobiaaGreatDoorHBld4
import Derived.Test.YtlekfdkahlobiaaGreatDoorHBld7
import Derived.Test.YtlekfdkahlobiaaGreatDoorHJoin
import Derived.Deep.DeepCutAuto
import Derived.Deep.CutBlock
namespace Go.Proofs.YtlekfdkahlobiaaGreatDoor.Re
open Go.Proofs.YtlekfdkahlobiaaGreatDoor.Tr
open Go.RowKit

/-- The builder, full or not. -/
structure Bd (w : World) (rb : Nat) (pv ov : Value) (made : Int) (fs : List Fr) : Prop where
  m0 : 0 ≤ made
  m1 : made ≤ 10001
  wt : made ≤ (Nd.size.sizes (flat fs) : Int)
  row : made ≤ 10000 → BdR w rb pv ov made fs
theorem BdR.bd {w : World} {rb : Nat} {pv ov : Value} {made : Int} {fs : List Fr} (h : BdR w rb pv ov made fs) : Bd w rb pv ov made fs := ⟨h.m0, h.m1, h.wt, fun _ => h⟩
theorem Bd.keep {w w' : World} {rb : Nat} {pv ov : Value} {made : Int} {fs : List Fr} (h : Bd w rb pv ov made fs) (hk : AKeep w w') : Bd w' rb pv ov made fs := ⟨h.m0, h.m1, h.wt, fun hm => (h.row hm).keep hk⟩
theorem Bd.full {w w' : World} {rb : Nat} {pv ov : Value} {made : Int} {fs fs' : List Fr} (h : Bd w rb pv ov made fs) (hm : 10000 < made) (hs : Nd.size.sizes (flat fs) ≤ Nd.size.sizes (flat fs')) : Bd w' rb pv ov made fs' := ⟨h.m0, h.m1, by have := h.wt; omega, fun h => by omega⟩
theorem sizes_one (x : Nd) : Nd.size.sizes [x] = x.size := by rw [Nd.size.sizes, Nd.size.sizes]; rfl
theorem sz_piece (x : Nd) (f : Fr) (fs : List Fr) : Nd.size.sizes (flat (f :: fs)) ≤ Nd.size.sizes (flat (pieceF x (f :: fs))) := by rw [flat_piece, sizes_app]; omega
theorem sz_rep2 (m n : Int) (br pc : List Nd) (x : Nd) (fs : List Fr) : Nd.size.sizes (flat ((br, pc ++ [x]) :: fs)) ≤ Nd.size.sizes (flat (repF m n ((br, pc ++ [x]) :: fs))) := by
  have hs1 : x.size ≤ (repN m n x).size := by
    unfold repN
    rw [Nd.size, if_pos rfl, Nd.size.sizes, Nd.size.sizes]
    have hmx : 1 ≤ max 1 (if n < 0 then m else n).toNat := Nat.le_max_left _ _
    have := Nat.mul_le_mul_left (x.size + 0) hmx
    omega
  rw [flat_rep, show flat ((br, pc ++ [x]) :: fs) = (flat fs ++ (br ++ pc)) ++ [x] by simp [flat]]
  simp only [sizes_app, sizes_one]
  omega
theorem sz_branch (f : Fr) (fs : List Fr) : Nd.size.sizes (flat (f :: fs)) ≤ Nd.size.sizes (flat (branchF (f :: fs))) := by
  have hj := sizes_le_join (k := 4) (by omega) f.2
  rw [show flat (f :: fs) = (flat fs ++ f.1) ++ f.2 by simp [flat], show flat (branchF (f :: fs)) = (flat fs ++ f.1) ++ [joinN 4 f.2] by simp [flat, branchF]]
  simp only [sizes_app, sizes_one]
  omega
theorem sz_end (br : List Nd) (fs : List Fr) : Nd.size.sizes (flat ((br, []) :: fs)) ≤ Nd.size.sizes (flat fs ++ [joinN 5 br]) := by
  have hj := sizes_le_join (k := 5) (by omega) br
  rw [show flat ((br, []) :: fs) = flat fs ++ br by simp [flat], sizes_app, sizes_app, sizes_one]
  omega
section
variable {w : World} {rb : Nat} {l : List UInt8} {ext fold cl : Bool} {last depth made : Int} {pv ov : Value}
/-- What is left of the builder. -/
abbrev BlB (rb : Nat) (l : List UInt8) (ext fold : Bool) (last depth : Int) (cl : Bool) (w : World) (fs : List Fr) : Ending → World → Prop := BlO rb l ext fold last depth cl w fun w' pv' ov' made' => Bd w' rb pv' ov' made' fs
set_option maxHeartbeats 1000000 in
theorem piece_full {v : Value} {z : Int} (h : Rd w rb l ext fold last depth cl pv ov made) (hm : 10000 < made) (hv : isPtr w v) :
    Calls Tryz.prog 69 #[bldP rb, .agg #[v, .int .i64 z]] w fun e w' => e = .returned (.tuple #[]) ∧ Below w.heap.size w w' := by
  obtain ⟨pb, rfl, _⟩ := hv
  have hf : ∀ o, Calls Tryz.prog 59 #[bldP rb] (w.alloc o) fun e w' => e = .returned (.bool true) ∧ w' = w.alloc o := fun o => by
    have := isFull_c (h.keep ((Below.refl _ w).alloc (Nat.le_refl _) o))
    rw [decide_eq_true hm] at this
    exact this
  clear h
  go_enter Tryz.func69, Tryz.ntmps69
  go_wp2_with (go_at_call 59; refine (hf _).mono ?_; rintro e w1 ⟨rfl, hw⟩; rw [hw]; clear hw w1)
  go_end0
  exact ⟨rfl, (Below.refl _ w).alloc (Nat.le_refl _) _⟩
theorem BlB.of {P : World → Value → Value → Int → Prop} {fs : List Fr} {e : Ending} {w' : World} (h : BlO rb l ext fold last depth cl w P e w') (hP : ∀ u pv ov made, P u pv ov made → Bd u rb pv ov made fs) : BlB rb l ext fold last depth cl w fs e w' := by
  obtain ⟨h1, pv, ov, made, h2, h3, h4⟩ := h
  exact ⟨h1, pv, ov, made, h2, hP _ _ _ _ h3, h4⟩
theorem BlB.same {fs fs' : List Fr} {e : Ending} {w' : World} (h : Rd w rb l ext fold last depth cl pv ov made) (hb : Bd w rb pv ov made fs) (hm : 10000 < made) (hs : Nd.size.sizes (flat fs) ≤ Nd.size.sizes (flat fs')) (he : e = .returned (.tuple #[])) (hB : Below w.heap.size w w') : BlB rb l ext fold last depth cl w fs' e w' :=
  ⟨he, pv, ov, made, h.keep hB, hb.full hm hs, NKeep.of hB, hB.mono (Nat.le_of_lt (h_lt h))⟩
theorem piece_a {v : Value} {x : Nd} {f : Fr} {fs : List Fr} (hx : NodeP w v x) (h : Rd w rb l ext fold last depth cl pv ov made) (hb : Bd w rb pv ov made (f :: fs)) : Calls Tryz.prog 69 #[bldP rb, reV v x] w (BlB rb l ext fold last depth cl w (pieceF x (f :: fs))) := by
  by_cases hm : made ≤ 10000
  · exact (piece_c hx h (hb.row hm) hm).mono fun e w' hq => BlB.of hq fun _ _ _ _ hP => hP.1.bd
  · exact (piece_full h (by omega) hx.ptr).mono fun e w' hq => BlB.same h hb (by omega) (sz_piece x f fs) hq.1 hq.2
theorem begin_a {fs : List Fr} (h : Rd w rb l ext fold last depth cl pv ov made) (hb : Bd w rb pv ov made fs) (hfs : fs.length ≤ 2097152) : Calls Tryz.prog 57 #[bldP rb] w (BlB rb l ext fold last depth cl w (([], []) :: fs)) := by
  by_cases hm : made ≤ 10000
  · exact (begin_b h (hb.row hm) hm hfs).mono fun e w' hq => BlB.of hq fun _ _ _ _ hP => hP.1.bd
  · refine (begin_full h (by omega)).mono fun e w' hq => BlB.same h hb (by omega) (by rw [flat_begin]; exact Nat.le_refl _) hq.1 (by rw [hq.2]; exact Below.refl _ _)
theorem brep_a {fs : List Fr} {br pc : List Nd} {x : Nd} {m n : Int} (hmm : 0 ≤ m ∧ m ≤ 255) (hnn : (n = -1 ∨ m ≤ n) ∧ n ≤ 255) (h : Rd w rb l ext fold last depth cl pv ov made) (hb : Bd w rb pv ov made ((br, pc ++ [x]) :: fs)) : Calls Tryz.prog 71 #[bldP rb, .int .i64 m, .int .i64 n] w (BlB rb l ext fold last depth cl w (repF m n ((br, pc ++ [x]) :: fs))) := by
  by_cases hm : made ≤ 10000
  · exact (brep_b hmm hnn h (hb.row hm) hm).mono fun e w' hq => BlB.of hq fun _ _ _ _ hP => hP.1.bd
  · exact (brep_full m n h (by omega)).mono fun e w' hq => BlB.same h hb (by omega) (sz_rep2 m n br pc x fs) hq.1 (by rw [hq.2]; exact Below.refl _ _)
end
end Go.Proofs.YtlekfdkahlobiaaGreatDoor.Re

namespace Go.Proofs.YtlekfdkahlobiaaGreatDoor.Re
open Go.Proofs.YtlekfdkahlobiaaGreatDoor.Tr
open Go.RowKit

def hsetP (p : UInt8 → Bool) (i : Nat) (v : Bool) : UInt8 → Bool := fun c => if c.toNat = i then v else p c
theorem hofNat_toNat {i : Nat} (h : i < 256) : (UInt8.ofNat i).toNat = i := by simp; omega
theorem hboolsL_set (p : UInt8 → Bool) (i : Nat) (v : Bool) : (boolsL p).set i (.bool v) = boolsL (hsetP p i v) := by
  apply List.ext_getElem?
  intro j
  rw [List.getElem?_set]
  by_cases hj : j < 256
  · by_cases hij : i = j
    · subst hij
      rw [if_pos rfl, if_pos (by rw [boolsL_len]; exact hj)]
      simp [boolsL, hj, hsetP]
    · rw [if_neg hij]
      simp [boolsL, hj, hsetP]
      omega
  · have h1 : (boolsL p)[j]? = none := List.getElem?_eq_none (by rw [boolsL_len]; omega)
    have h2 : (boolsL (hsetP p i v))[j]? = none := List.getElem?_eq_none (by rw [boolsL_len]; omega)
    rw [h1, h2]
    split
    · rw [if_neg (by rw [boolsL_len]; omega)]
    · rfl
/-- Letters below one are folded. -/
def hfoldU (p : UInt8 → Bool) (c : Nat) : UInt8 → Bool := fun x => if (65 ≤ x.toNat ∧ x.toNat < c) ∨ (97 ≤ x.toNat ∧ x.toNat < c + 32) then p x || p (otherC x) else p x
theorem hup_other {x : UInt8} (h : 65 ≤ x.toNat ∧ x.toNat ≤ 90) : (otherC x).toNat = x.toNat + 32 := by
  unfold otherC
  rw [if_neg (by unfold lowerB within; simp; omega), if_pos (by unfold upperB within; simp; omega), UInt8.toNat_add]
  show (x.toNat + 32) % 256 = _
  omega
theorem hlow_other {x : UInt8} (h : 97 ≤ x.toNat ∧ x.toNat ≤ 122) : (otherC x).toNat = x.toNat - 32 := by
  unfold otherC
  rw [if_pos (by unfold lowerB within; simp; omega), UInt8.toNat_sub]
  show (256 - 32 + x.toNat) % 256 = _
  omega
theorem hno_other {x : UInt8} (h : ¬ (65 ≤ x.toNat ∧ x.toNat ≤ 90)) (h2 : ¬ (97 ≤ x.toNat ∧ x.toNat ≤ 122)) : otherC x = x := by
  unfold otherC
  rw [if_neg (by unfold lowerB within; simp; omega), if_neg (by unfold upperB within; simp; omega)]
theorem hof_toNat {x : UInt8} {i : Nat} (h : x.toNat = i) : x = UInt8.ofNat i := by rw [← h]; simp
theorem hfoldU_0 (p : UInt8 → Bool) : hfoldU p 65 = p := by
  funext x
  unfold hfoldU
  rw [if_neg (by omega)]
theorem hfoldU_end (p : UInt8 → Bool) : hfoldU p 91 = foldP true p := by
  funext x
  unfold hfoldU foldP
  by_cases h1 : 65 ≤ x.toNat ∧ x.toNat ≤ 90
  · rw [if_pos (by omega)]; simp
  · by_cases h2 : 97 ≤ x.toNat ∧ x.toNat ≤ 122
    · rw [if_pos (by omega)]; simp
    · rw [if_neg (by omega), hno_other h1 h2]; simp
theorem hfoldU_both {p : UInt8 → Bool} {c : Nat} (h1 : 65 ≤ c) (h2 : c ≤ 90) : (hfoldU p c (UInt8.ofNat c) || hfoldU p c (UInt8.ofNat (c + 32))) = (p (UInt8.ofNat c) || p (UInt8.ofNat (c + 32))) := by
  unfold hfoldU
  rw [if_neg (by rw [hofNat_toNat (by omega)]; omega), if_neg (by rw [hofNat_toNat (by omega)]; omega)]
theorem hfoldU_next {p : UInt8 → Bool} {c : Nat} (h1 : 65 ≤ c) (h2 : c ≤ 90) (v : Bool) (hv : v = (hfoldU p c (UInt8.ofNat c) || hfoldU p c (UInt8.ofNat (c + 32)))) : hsetP (hsetP (hfoldU p c) c v) (c + 32) v = hfoldU p (c + 1) := by
  rw [hfoldU_both h1 h2] at hv
  funext x
  unfold hsetP
  by_cases hx : x.toNat = c + 32
  · rw [if_pos hx, hv]
    unfold hfoldU
    rw [if_pos (by omega)]
    have e1 : otherC x = UInt8.ofNat c := hof_toNat (by rw [hlow_other (by omega)]; omega)
    rw [e1, hof_toNat hx, Bool.or_comm]
  · rw [if_neg hx]
    by_cases hc : x.toNat = c
    · rw [if_pos hc, hv]
      unfold hfoldU
      rw [if_pos (by omega)]
      have e1 : otherC x = UInt8.ofNat (c + 32) := hof_toNat (by rw [hup_other (by omega)]; omega)
      rw [e1, hof_toNat hc]
    · rw [if_neg hc]
      unfold hfoldU
      by_cases hq : (65 ≤ x.toNat ∧ x.toNat < c) ∨ (97 ≤ x.toNat ∧ x.toNat < c + 32)
      · rw [if_pos hq, if_pos (by omega)]
      · rw [if_neg hq, if_neg (by omega)]
theorem hfoldP_false (p : UInt8 → Bool) : foldP false p = p := by funext x; unfold foldP; simp
/-- A set in its box. -/
abbrev BlP (w : World) (b : Nat) (p : UInt8 → Bool) : Prop := w.heap[b]? = some (.cells (boolsL p).toArray 51)
theorem bl_size (p : UInt8 → Bool) : (boolsL p).toArray.size = 256 := by simp [boolsL_len]
theorem bl_at (p : UInt8 → Bool) (i : Nat) (h : i < 256) : (boolsL p).toArray[i]? = some (.bool (p (UInt8.ofNat i))) := by simp [boolsL, h]
theorem bl_one (p : UInt8 → Bool) : (boolsL p).toArray.all (·.oneCell') = true := by
  rw [Array.all_eq_true_iff_forall_mem]
  intro v hv
  simp [boolsL] at hv
  obtain ⟨i, _, rfl⟩ := hv
  rfl
theorem bl_set {w : World} {b : Nat} {p : UInt8 → Bool} (h : BlP w b p) (i : Nat) (v : Bool) : BlP (w.setCell ⟨b, i, none⟩ (.bool v)) b (hsetP p i v) := by
  have := h_set h i (.bool v)
  rw [List.setIfInBounds_toArray, hboolsL_set] at this
  exact this
theorem bl_zero : Tryz.zeroCells51 = (boolsL noB).toArray := by kernel_rfl
/-- A store of a whole array. -/
theorem store_arr {P : Program} {w : World} {g : Nat} {t : TypeId} {old cs : Array Value} (hg : w.heap[g]? = some (.cells old t (0, 0))) (ho : old.size = cs.size) (h1 : cs.all (·.oneCell') = true) : (storeCells ⟨g, 0, none⟩ cs.toList).run P w = .ok () (w.setRow g cs) := by
  have := run_storeCells_from (P := P) g t cs.toList 0 old w hg (by simp; omega) (fun v hv => (Array.all_eq_true_iff_forall_mem.1 h1) v (by simpa using hv))
  simpa using this
abbrev bl (p : UInt8 → Bool) : Value := .agg (boolsL p).toArray
theorem box_bl (w : World) (p : UInt8 → Bool) : BlP ((w.alloc (.cells (boolsL p).toArray 51)).alloc (.cells Tryz.zeroCells51 51)) w.heap.size p ∧ BlP ((w.alloc (.cells (boolsL p).toArray 51)).alloc (.cells Tryz.zeroCells51 51)) (w.heap.size + 1) noB ∧ Below w.heap.size w ((w.alloc (.cells (boolsL p).toArray 51)).alloc (.cells Tryz.zeroCells51 51)) := by
  refine ⟨(al_old _ _ (by rw [al_size]; omega)).trans (al_new _ _), ?_, ((Below.refl _ w).alloc (Nat.le_refl _) _).alloc (by simp) _⟩
  have := al_new (w.alloc (.cells (boolsL p).toArray 51)) (.cells (boolsL noB).toArray 51)
  rw [al_size] at this
  rw [bl_zero]
  exact this
end Go.Proofs.YtlekfdkahlobiaaGreatDoor.Re

namespace Go.Proofs.YtlekfdkahlobiaaGreatDoor.Re
open Go.Proofs.YtlekfdkahlobiaaGreatDoor.Tr
open Go.RowKit

theorem box_blH (w : World) (p : UInt8 → Bool) : ∃ cs : Array Value, (boolsL p).toArray = cs ∧ cs.size = 256 ∧ Hid (BlP ((w.alloc (.cells cs 51)).alloc (.cells Tryz.zeroCells51 51)) w.heap.size p ∧ BlP ((w.alloc (.cells cs 51)).alloc (.cells Tryz.zeroCells51 51)) (w.heap.size + 1) noB ∧ Below w.heap.size w ((w.alloc (.cells cs 51)).alloc (.cells Tryz.zeroCells51 51))) := ⟨_, rfl, bl_size p, Lib.hid (box_bl w p)⟩
def turnU (p : UInt8 → Bool) (k : Nat) : UInt8 → Bool := fun c => if c.toNat < k then !p c else p c
theorem turnU_next {p : UInt8 → Bool} {k : Nat} : hsetP (turnU p k) k (!(p (UInt8.ofNat k))) = turnU p (k + 1) := by
  funext c
  unfold hsetP turnU
  by_cases e : c.toNat = k
  · rw [if_pos e, if_pos (by omega), ← hof_toNat e]
  · rw [if_neg e]
    by_cases h2 : c.toNat < k
    · rw [if_pos h2, if_pos (by omega)]
    · rw [if_neg h2, if_neg (by omega)]
theorem turnU_end (p : UInt8 → Bool) : turnU p 256 = fun c => !p c := by
  funext c
  unfold turnU
  rw [if_pos c.toNat_lt]
theorem turnU_at {p : UInt8 → Bool} {k : Nat} (h : k < 256) : turnU p k (UInt8.ofNat k) = p (UInt8.ofNat k) := by
  unfold turnU
  rw [if_neg (by rw [hofNat_toNat h]; omega)]
/-- The end of a function that answers a set. -/
theorem fin_bl {w W : World} {b : Nat} {p q : UInt8 → Bool} (h1 : BlP W b q) (hB : Below w.heap.size w W) (hb : w.heap.size ≤ b) : (storeCells ⟨b, 0, none⟩ (boolsL p).toArray.toList).run Tryz.prog W = .ok () (W.setRow b (boolsL p).toArray) ∧ BlP (W.setRow b (boolsL p).toArray) b p ∧ Below w.heap.size w (W.setRow b (boolsL p).toArray) := by
  refine ⟨store_arr h1 (by rw [bl_size, bl_size]) (bl_one p), setRow_heap _ _ _ _ _ _ h1, below_setRow hB hb _⟩
set_option maxHeartbeats 2000000 in
set_option maxRecDepth 100000 in
theorem turned_c (p : UInt8 → Bool) (w : World) : Calls Tryz.prog 73 #[bl p] w fun e w' => e = .returned (bl fun c => !p c) ∧ Below w.heap.size w w' := by
  obtain ⟨cs, hcs, hsz, HB0⟩ := box_blH w p
  unfold bl
  rw [hcs]
  clear hcs
  go_enter Tryz.func73, Tryz.ntmps73
  go_wp2_with fail
  generalize (w.alloc (.cells cs 51)).alloc (.cells Tryz.zeroCells51 51) = W at HB0 ⊢
  go_loopw [4] (fun v4 wr => ∃ k : Nat, k ≤ 256 ∧ v4 = .int .i64 (k : Int) ∧ Hid (BlP wr w.heap.size (turnU p k) ∧ BlP wr (w.heap.size + 1) noB ∧ Below w.heap.size w wr)) (fun v4 _ => 256 - (intOf v4).toNat)
  case atStart => exact ⟨0, by omega, rfl, (show _ ∧ _ ∧ _ from ⟨HB0.out.1, HB0.out.2⟩)⟩
  case round =>
    obtain ⟨k, hk, rfl, HI⟩ := hrel
    clear HB0
    by_cases hlt : k < 256
    · have n1 : (k : Int) < 256 := by omega
      have c0 := h_cell HI.out.1 k (bl_at _ k hlt)
      rw [turnU_at hlt] at c0
      have z0 := h_fz HI.out.1 k
      have HN : Hid (BlP (wr.setCell ⟨w.heap.size, k, none⟩ (.bool (!p (UInt8.ofNat k)))) w.heap.size (turnU p (k + 1)) ∧ BlP (wr.setCell ⟨w.heap.size, k, none⟩ (.bool (!p (UInt8.ofNat k)))) (w.heap.size + 1) noB ∧ Below w.heap.size w (wr.setCell ⟨w.heap.size, k, none⟩ (.bool (!p (UInt8.ofNat k))))) := by
        refine ⟨?_, (Below.heap_setCell _ _ _ _ (by simp)).trans HI.out.2.1, HI.out.2.2.setCell (p := ⟨w.heap.size, k, none⟩) (Nat.le_refl _) _⟩
        have := bl_set HI.out.1 k (!p (UInt8.ofNat k))
        rw [turnU_next] at this
        exact this
      clear HI
      go_wp2_with fail
      exact ⟨⟨k + 1, by omega, by go_num, HN⟩, by simp [intOf]; omega⟩
    · obtain rfl : k = 256 := by omega
      rw [turnU_end] at HI
      obtain ⟨f1, f2, f3⟩ := fin_bl (p := fun c => !p c) HI.out.2.1 HI.out.2.2 (by omega)
      have h0 := HI.out.1
      have hz := bl_size (fun c => !p c)
      unfold BlP at h0 f2
      generalize hds : (boolsL fun c => !p c).toArray = ds at h0 f1 f2 f3 hz
      have HD := Lib.hid hds
      clear hds
      have HF := Lib.hid (And.intro h0 (And.intro f2 f3))
      clear h0 f2 f3 HI
      go_wp2_with fail
      refine wp_load_arr 51 (.tmp 1) rfl w.heap.size ds rfl 51 HF.out.1 Tryz.underlying51 rfl (by rw [hz]; exact info256) ?_
      go_wp2_with fail
      refine bodyPost_ret (results_cell_row rfl _ _ (w.heap.size + 1) 51 ds (0, 0) _ rfl HF.out.2.1 Tryz.underlying51 rfl (by rw [hz]; exact info256)) rfl ?_
      exact ⟨by rw [HD.out], HF.out.2.2⟩
set_option maxHeartbeats 2000000 in
set_option maxRecDepth 100000 in
theorem folded_c (p : UInt8 → Bool) (w : World) : Calls Tryz.prog 44 #[bl p] w fun e w' => e = .returned (bl (foldP true p)) ∧ Below w.heap.size w w' := by
  obtain ⟨cs, hcs, hsz, HB0⟩ := box_blH w p
  unfold bl
  rw [hcs]
  clear hcs
  go_enter Tryz.func44, Tryz.ntmps44
  go_wp2_with fail
  generalize (w.alloc (.cells cs 51)).alloc (.cells Tryz.zeroCells51 51) = W at HB0 ⊢
  go_loopw [3] (fun v3 wr => ∃ k : Nat, 65 ≤ k ∧ k ≤ 91 ∧ v3 = .int .u8 (k : Int) ∧ Hid (BlP wr w.heap.size (hfoldU p k) ∧ BlP wr (w.heap.size + 1) noB ∧ Below w.heap.size w wr)) (fun v3 _ => 91 - (intOf v3).toNat)
  case atStart => exact ⟨65, by omega, by omega, rfl, (show _ ∧ _ ∧ _ from ⟨by rw [hfoldU_0]; exact HB0.out.1, HB0.out.2⟩)⟩
  case round =>
    obtain ⟨k, hk0, hk, rfl, HI⟩ := hrel
    clear HB0
    by_cases hlt : k ≤ 90
    · have n1 : (k : Int) ≤ 90 := by omega
      have w1 : IntKind.u8.wrap ((k : Int) - 65) = (k : Int) - 65 := IntWalk.u8_in _ (by omega)
      have w2 : IntKind.u8.wrap ((k : Int) - 65 + 97) = ((k + 32 : Nat) : Int) := by rw [show (k : Int) - 65 + 97 = ((k + 32 : Nat) : Int) by omega]; exact IntWalk.u8_in _ (by omega)
      have w3 : IntKind.u8.wrap ((k : Int) + 1) = (k : Int) + 1 := IntWalk.u8_in _ (by omega)
      have cA := h_cell HI.out.1 k (bl_at _ k (by omega))
      have cB := h_cell HI.out.1 (k + 32) (bl_at _ (k + 32) (by omega))
      have zA := h_fz HI.out.1 k
      have nx : ∀ v : Bool, v = (hfoldU p k (UInt8.ofNat k) || hfoldU p k (UInt8.ofNat (k + 32))) → Hid (BlP ((wr.setCell ⟨w.heap.size, k, none⟩ (.bool v)).setCell ⟨w.heap.size, k + 32, none⟩ (.bool v)) w.heap.size (hfoldU p (k + 1)) ∧ BlP ((wr.setCell ⟨w.heap.size, k, none⟩ (.bool v)).setCell ⟨w.heap.size, k + 32, none⟩ (.bool v)) (w.heap.size + 1) noB ∧ Below w.heap.size w ((wr.setCell ⟨w.heap.size, k, none⟩ (.bool v)).setCell ⟨w.heap.size, k + 32, none⟩ (.bool v))) ∧ (wr.setCell ⟨w.heap.size, k, none⟩ (.bool v)).cell? ⟨w.heap.size, k + 32, none⟩ = some (.bool (hsetP (hfoldU p k) k v (UInt8.ofNat (k + 32)))) ∧ (wr.setCell ⟨w.heap.size, k, none⟩ (.bool v)).frozen? ⟨w.heap.size, k + 32, none⟩ = false := fun v hv => by
        have h2 := bl_set HI.out.1 k v
        refine ⟨Lib.hid ⟨?_, (Below.heap_setCell _ _ _ _ (by simp)).trans ((Below.heap_setCell _ _ _ _ (by simp)).trans HI.out.2.1), (HI.out.2.2.setCell (p := ⟨w.heap.size, k, none⟩) (Nat.le_refl _) _).setCell (p := ⟨w.heap.size, k + 32, none⟩) (Nat.le_refl _) _⟩, h_cell h2 _ (bl_at _ (k + 32) (by omega)), h_fz h2 _⟩
        have := bl_set h2 (k + 32) v
        rw [hfoldU_next hk0 hlt v hv] at this
        exact this
      have HX : Hid (∀ v : Bool, v = (hfoldU p k (UInt8.ofNat k) || hfoldU p k (UInt8.ofNat (k + 32))) → _) := nx
      clear nx HI
      cases hv : hfoldU p k (UInt8.ofNat k) with
      | true =>
        rw [hv] at cA
        obtain ⟨HN, dB, yB⟩ := HX.out true (by rw [hv]; rfl)
        clear HX hv
        go_wp2_with fail
        exact ⟨⟨k + 1, by omega, by omega, by go_num, HN⟩, by simp [intOf]; omega⟩
      | false =>
        rw [hv] at cA
        cases hu : hfoldU p k (UInt8.ofNat (k + 32)) with
        | true =>
          rw [hu] at cB
          obtain ⟨HN, dB, yB⟩ := HX.out true (by rw [hv, hu]; rfl)
          clear HX hv hu
          go_wp2_with fail
          exact ⟨⟨k + 1, by omega, by omega, by go_num, HN⟩, by simp [intOf]; omega⟩
        | false =>
          rw [hu] at cB
          obtain ⟨HN, dB, yB⟩ := HX.out false (by rw [hv, hu]; rfl)
          clear HX hv hu
          go_wp2_with fail
          exact ⟨⟨k + 1, by omega, by omega, by go_num, HN⟩, by simp [intOf]; omega⟩
    · obtain rfl : k = 91 := by omega
      rw [hfoldU_end] at HI
      obtain ⟨f1, f2, f3⟩ := fin_bl (p := (foldP true p)) HI.out.2.1 HI.out.2.2 (by omega)
      have h0 := HI.out.1
      have hz := bl_size ((foldP true p))
      unfold BlP at h0 f2
      generalize hds : (boolsL (foldP true p)).toArray = ds at h0 f1 f2 f3 hz
      have HD := Lib.hid hds
      clear hds
      have HF := Lib.hid (And.intro h0 (And.intro f2 f3))
      clear h0 f2 f3 HI
      go_wp2_with fail
      refine wp_load_arr 51 (.tmp 1) rfl w.heap.size ds rfl 51 HF.out.1 Tryz.underlying51 rfl (by rw [hz]; exact info256) ?_
      go_wp2_with fail
      refine bodyPost_ret (results_cell_row rfl _ _ (w.heap.size + 1) 51 ds (0, 0) _ rfl HF.out.2.1 Tryz.underlying51 rfl (by rw [hz]; exact info256)) rfl ?_
      exact ⟨by rw [HD.out], HF.out.2.2⟩
end Go.Proofs.YtlekfdkahlobiaaGreatDoor.Re

namespace Go.Proofs.YtlekfdkahlobiaaGreatDoor.Re
open Go.Proofs.YtlekfdkahlobiaaGreatDoor.Tr
open Go.RowKit

theorem set_eq (c : UInt8) : hsetP noB c.toNat true = fun d => d == c := by
  funext d
  unfold hsetP noB
  by_cases h : d.toNat = c.toNat
  · rw [if_pos h, UInt8.toNat_inj.1 h]; simp
  · rw [if_neg h]
    symm
    rw [beq_eq_false_iff_ne]
    exact fun e => h (by rw [e])
theorem two_bl (w : World) : Hid (BlP ((w.alloc (.cells Tryz.zeroCells51 51)).alloc (.cells Tryz.zeroCells51 51)) w.heap.size noB ∧ BlP ((w.alloc (.cells Tryz.zeroCells51 51)).alloc (.cells Tryz.zeroCells51 51)) (w.heap.size + 1) noB ∧ Below w.heap.size w ((w.alloc (.cells Tryz.zeroCells51 51)).alloc (.cells Tryz.zeroCells51 51))) := by
  have h := box_bl w noB
  rw [← bl_zero] at h
  exact h
set_option maxHeartbeats 2000000 in
set_option maxRecDepth 100000 in
theorem only_c (c : UInt8) (fold : Bool) (w : World) : Calls Tryz.prog 29 #[.int .u8 (c.toNat : Int), .bool fold] w fun e w' => e = .returned (bl (foldP fold fun d => d == c)) ∧ Below w.heap.size w w' := by
  have HB0 := two_bl w
  have hc := c.toNat_lt
  have hc2 : (c.toNat : Int) < 256 := by omega
  have hcT : ((c.toNat : Int)).toNat = c.toNat := by omega
  go_enter Tryz.func29, Tryz.ntmps29
  go_upto_region 2 with fail
  generalize (w.alloc (.cells Tryz.zeroCells51 51)).alloc (.cells Tryz.zeroCells51 51) = W at HB0 ⊢
  have c5 := h_cell HB0.out.2.1 c.toNat (bl_at _ _ hc)
  have z5 := h_fz HB0.out.2.1 c.toNat
  have HB1 : Hid (BlP (W.setCell ⟨w.heap.size + 1, c.toNat, none⟩ (.bool true)) w.heap.size noB ∧ BlP (W.setCell ⟨w.heap.size + 1, c.toNat, none⟩ (.bool true)) (w.heap.size + 1) (fun d => d == c) ∧ Below w.heap.size w (W.setCell ⟨w.heap.size + 1, c.toNat, none⟩ (.bool true))) := by
    refine ⟨(Below.heap_setCell _ _ _ _ (by simp)).trans HB0.out.1, ?_, HB0.out.2.2.setCell (p := ⟨w.heap.size + 1, c.toNat, none⟩) (by show w.heap.size ≤ w.heap.size + 1; omega) _⟩
    have := bl_set HB0.out.2.1 c.toNat true
    rw [set_eq] at this
    exact this
  clear HB0
  have hfo := folded_c (fun d => d == c) (W.setCell ⟨w.heap.size + 1, c.toNat, none⟩ (.bool true))
  unfold bl at hfo
  have hz0 := bl_size (fun d => d == c)
  have h1 := HB1.out.2.1
  unfold BlP at h1
  generalize hds0 : (boolsL fun d => d == c).toArray = d0 at hfo hz0 h1
  have HD0 := Lib.hid hds0
  clear hds0
  have H1 := Lib.hid h1
  clear h1
  cases fold with
  | false =>
    obtain ⟨f1, f2, f3⟩ := fin_bl (p := fun d => d == c) HB1.out.1 HB1.out.2.2 (Nat.le_refl _)
    unfold BlP at f2
    rw [HD0.out] at f1 f2 f3
    have HF := Lib.hid (And.intro f2 f3)
    clear f2 f3 hfo
    go_wp2_with fail
    refine wp_load_arr 51 (.tmp 5) rfl (w.heap.size + 1) d0 rfl 51 H1.out Tryz.underlying51 rfl (by rw [hz0]; exact info256) ?_
    go_wp2_with fail
    refine bodyPost_ret (results_cell_row rfl _ _ w.heap.size 51 d0 (0, 0) _ rfl HF.out.1 Tryz.underlying51 rfl (by rw [hz0]; exact info256)) rfl ?_
    exact ⟨by unfold bl; rw [hfoldP_false, HD0.out], HF.out.2⟩
  | true =>
    have hz1 := bl_size (foldP true fun d => d == c)
    have HS : Hid (∀ u, Below (W.setCell ⟨w.heap.size + 1, c.toNat, none⟩ (.bool true)).heap.size (W.setCell ⟨w.heap.size + 1, c.toNat, none⟩ (.bool true)) u → _) := fun u hu => fin_bl (p := foldP true fun d => d == c) (w := w) (W := u) (b := w.heap.size) (q := noB) ((hu.block _ (h_lt HB1.out.1)).trans HB1.out.1) (HB1.out.2.2.trans (hu.mono HB1.out.2.2.size)) (Nat.le_refl _)
    unfold BlP at HS
    generalize hds1 : (boolsL (foldP true fun d => d == c)).toArray = d1 at hfo hz1 HS
    have HD1 := Lib.hid hds1
    clear hds1
    go_wp2_with fail
    refine wp_load_arr 51 (.tmp 5) rfl (w.heap.size + 1) d0 rfl 51 H1.out Tryz.underlying51 rfl (by rw [hz0]; exact info256) ?_
    go_wp2_with (go_at_call 44; refine hfo.mono ?_; rintro e w1 ⟨rfl, hB1⟩; obtain ⟨f1, f2, f3⟩ := HS.out w1 hB1; have HF := Lib.hid (And.intro f2 f3); clear f2 f3)
    refine bodyPost_ret (results_cell_row rfl _ _ w.heap.size 51 d1 (0, 0) _ rfl HF.out.1 Tryz.underlying51 rfl (by rw [hz1]; exact info256)) rfl ?_
    exact ⟨by unfold bl; rw [HD1.out], HF.out.2⟩
end Go.Proofs.YtlekfdkahlobiaaGreatDoor.Re

namespace Go.Proofs.YtlekfdkahlobiaaGreatDoor.Re
open Go.Proofs.YtlekfdkahlobiaaGreatDoor.Tr
open Go.RowKit

theorem isDigit_c (c : UInt8) (w : World) : Calls Tryz.prog 91 #[.int .u8 (c.toNat : Int)] w fun e w' => e = .returned (.bool (isDec c)) ∧ w' = w := by
  have HE : Hid (isDec c = (decide ((48 : Int) ≤ (c.toNat : Int)) && decide ((c.toNat : Int) ≤ 57))) := by
    show _ = _
    unfold isDec
    rw [Bool.eq_iff_iff]
    simp only [decide_eq_true_eq, Bool.and_eq_true]
    omega
  by_cases h1 : 48 ≤ c.toNat
  · have g1 : (48 : Int) ≤ (c.toNat : Int) := by omega
    go_enter Tryz.func91, Tryz.ntmps91
    go_wp2_with fail
    go_ret
    exact ⟨by rw [HE.out]; simp [g1], rfl⟩
  · have g1 : decide ((48 : Int) ≤ (c.toNat : Int)) = false := decide_eq_false (by omega)
    go_enter Tryz.func91, Tryz.ntmps91
    go_wp2_with fail
    go_ret
    exact ⟨by rw [HE.out, g1]; rfl, rfl⟩
theorem emp_no (c : UInt8) (r : List UInt8) : (bs (c :: r)).toList.isEmpty = false := by rw [ByteArray.toList_eq]; rfl
theorem emp_yes : (bs []).toList.isEmpty = true := by rw [ByteArray.toList_eq]; rfl
theorem bs_pos (c : UInt8) (r : List UInt8) : 0 < (bs (c :: r)).size := by rw [bs_cons]; omega
theorem bs_tail (c : UInt8) (r : List UInt8) : (bs (c :: r)).extract 1 (bs (c :: r)).size = bs r := bs_drop (c :: r) 1
section
variable {w : World} {rb : Nat} {l : List UInt8} {ext fold cl : Bool} {last depth made : Int} {pv ov : Value}
set_option maxHeartbeats 1000000 in
theorem take_no (h : Rd w rb [] ext fold last depth cl pv ov made) : Calls Tryz.prog 47 #[ptr rb] w fun e w' => e = .panicked gaveUp ∧ w' = w := by
  have c0 := h_cell h 0 rfl
  have hg := giveUp_c w
  have e0 := emp_yes
  clear h
  go_enter Tryz.func47, Tryz.ntmps47
  go_wp2_with (go_at_call 38; refine hg.mono ?_; rintro e w1 ⟨rfl, rfl⟩)
  exact ⟨rfl, rfl, rfl⟩
set_option maxHeartbeats 1000000 in
theorem take_c {c : UInt8} {r : List UInt8} (h : Rd w rb (c :: r) ext fold last depth cl pv ov made) : Calls Tryz.prog 47 #[ptr rb] w fun e w' => e = .returned (.int .u8 (c.toNat : Int)) ∧ w' = w.setCell ⟨rb, 0, none⟩ (.string (bs r)) := by
  have c0 := h_cell h 0 rfl
  have z0 := h_fz h 0
  have e0 := emp_no c r
  have e1 := bs_pos c r
  have e2 : (1 : Int) ≤ ((bs (c :: r)).size : Int) := by omega
  have HT := Lib.hid (bs_tail c r)
  clear h
  go_enter Tryz.func47, Tryz.ntmps47
  go_wp2_with fail
  go_ret
  exact ⟨rfl, by rw [HT.out]⟩
end
end Go.Proofs.YtlekfdkahlobiaaGreatDoor.Re
