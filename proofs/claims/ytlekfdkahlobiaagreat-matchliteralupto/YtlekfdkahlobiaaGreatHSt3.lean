/- The reader: an atom, a byte that stands for itself, a repetition. -/
import Derived.Deep.RegionHeld3
import Derived.Test.YtlekfdkahlobiaaGreatHSt2
namespace Go.Proofs.YtlekfdkahlobiaaGreat.Re
open Go.Proofs.YtlekfdkahlobiaaGreat.Tr
open Go.RowKit

section
variable {w : World} {rb : Nat} {l : List UInt8} {ext fold cl : Bool} {pv ov : Value}
theorem rs_piece {x : Nd} {f : Fr} {fs : List Fr} {last : Nat} (h : RS rb ext fold w l last (f :: fs)) (b : Nat) : ∃ cl pv ov made, Hid (Rd w rb l ext fold (last : Int) ((f :: fs).length : Int) cl pv ov made) ∧ Hid (∀ u v, Below w.heap.size w u → NodeP u v x → Calls Tryz.prog 62 #[bldP rb, reV v x] u (BlB rb l ext fold (last : Int) ((f :: fs).length : Int) cl u (pieceF x (f :: fs)))) ∧
    Hid (∀ u pv' ov' md', Below rb w u → Rd u rb l ext fold (last : Int) ((f :: fs).length : Int) cl pv' ov' md' → Bd u rb pv' ov' md' (pieceF x (f :: fs)) → RO rb ext fold w (some (l, b, pieceF x (f :: fs))) (.returned (.tuple #[])) (u.setCell ⟨rb, 3, none⟩ (.int .i64 (b : Int)))) := by
  obtain ⟨cl, pv, ov, made, hR, hB, hcl, hlen, _⟩ := h
  refine ⟨cl, pv, ov, made, Lib.hid hR, Lib.hid fun u v hb hx => piece_a hx (hR.keep hb) (hB.keep (AKeep.of hb)), Lib.hid fun u pv' ov' md' hb h1 h2 => ⟨hb.setCell (p := ⟨rb, 3, none⟩) (Nat.le_refl _) _, rfl, cl, pv', ov', md', by rw [pieceF_len]; exact h1.setLast b, h2.keep (AKeep.bar (Bar.set _ _ _ _) h1), hcl, by rw [pieceF_len]; exact hlen, fun _ => top_piece _ _ _⟩⟩
set_option maxHeartbeats 2000000 in
set_option maxRecDepth 100000 in
theorem atom_c {f : Fr} {fs : List Fr} {last : Nat} (p : UInt8 → Bool) (h : RS rb ext fold w l last (f :: fs)) : Calls Tryz.prog 65 #[ptr rb, bl p] w (RO rb ext fold w (some (l, 4, pieceF (setN p) (f :: fs)))) := by
  obtain ⟨cl, pv, ov, made, HR, HP, HF⟩ := rs_piece (x := setN p) h 4
  have hrb := h_lt HR.out
  have HL : Hid (∀ u, Calls Tryz.prog 12 #[bl p] u (MkO (setN p) u)) := fun u => ofSet_c p u
  have hbx := al_new w (.cells (boolsL p).toArray 40)
  have hlen := boolsL_len p
  have hone : ∀ v ∈ boolsL p, v.oneCell' = true := fun v hv => (Array.all_eq_true_iff_forall_mem.1 (bl_one p)) v (by simpa using hv)
  clear h
  unfold bl at HL ⊢
  generalize boolsL p = L at HL hbx hlen hone ⊢
  have hu : Tryz.prog.underlying 40 = _ := Tryz.underlying40
  have hinf : (Tryz.prog.info? 40).map (·.size) = some L.length := by rw [hlen]; exact info256
  have HX := Lib.hid hbx
  have HB : Hid (∀ u : World, u.heap[w.heap.size]? = some (.cells L.toArray 40) → u.rangeAt w.heap.size 0 L) := fun u hw2 j v hv => by
    rw [Nat.zero_add]
    exact h_cell hw2 j (by simpa using hv)
  have r0 : (w.alloc (.cells L.toArray 40)).rangeAt w.heap.size 0 L := HB.out _ HX.out
  have hszz : L.toArray.size = 256 := by simp [hlen]
  clear hbx
  go_enter Tryz.func65, Tryz.ntmps65
  go_upto_region 1 with fail
  go_region_held3 (fun w' => w'.rangeAt w.heap.size 0 L) (first | exact r0 | exact (World.rangeAt_drew _ _ _ _).2 r0 | exact r1 | exact r2) (first
    | (go_at_call 12; refine (HL.out _).mono ?_; rintro e wl ⟨vl, rfl, hnl, hBl⟩; have hB3 : Below w.heap.size w wl := (((Below.refl w.heap.size w).alloc (Nat.le_refl _) _).drew).trans (hBl.mono (by show w.heap.size ≤ (w.heap.push _).size; simp)); have hb3 := (hBl.block w.heap.size (by show w.heap.size < (w.heap.push _).size; simp)).trans HX.out; have r1 := HB.out wl hb3; have hpc := HP.out wl vl hB3 hnl; have HB3 := Lib.hid (And.intro hB3 hb3); obtain ⟨pb, rfl, _⟩ := hnl.ptr; clear hB3 hb3 hnl hBl)
    | (go_at_call 62; refine hpc.mono ?_; rintro e wp ⟨rfl, pvp, ovp, mdp, hRp, hbp, hNp, hBp⟩; have k3 := h_cell hRp 3 rfl; have z3 := h_fz hRp 3; have r2 := HB.out wp (hNp.blk _ _ _ (.inr (.inr rfl)) HB3.out.2); have HZ := Lib.hid (HF.out wp pvp ovp mdp ((HB3.out.1.mono (Nat.le_of_lt hrb)).trans hBp) hRp hbp); clear hRp hbp hNp hBp hpc))
  all_goals
    go_wp2_with fail
    go_end0
    exact HZ.out
end
end Go.Proofs.YtlekfdkahlobiaaGreat.Re
