/- The law TransApart. -/
import Derived.Deep.Cut
import Derived.Test.YtfkoehfkiommpaaGreatDoorZMay
namespace Go.Proofs.YtfkoehfkiommpaaGreatDoor.Tr
open Go.Proofs.YtfkoehfkiommpaaGreatDoor.Op
open Go.RowKit

theorem dist_le (b : List UInt8) : (distS b 256).length ≤ 256 := dist_len 256 b [] (by simp)
theorem tot_two (a b : ByteArray) (ha : a.size ≤ 3) (hb : b.size ≤ 1024) : tot [a, b] ≤ 4096 := by
  rw [tot_cons, tot_cons]
  show a.size + (b.size + 0) ≤ 4096
  omega
theorem code_size (d : List UInt8) (h : d.length ≤ 256) : (⟨(codeL d).toArray⟩ : ByteArray).size ≤ 1024 := by
  show (codeL d).length ≤ 1024
  rw [codeL_len]
  omega
/-- 256 numbers. -/
def MAt (w : World) (mb : Nat) (f : UInt8 → Int) : Prop := ∀ c : UInt8, w.cell? ⟨mb, c.toNat, none⟩ = some (.int .i64 (f c)) ∧ w.frozen? ⟨mb, c.toNat, none⟩ = false
theorem MAt.set {w : World} {mb : Nat} {f : UInt8 → Int} (h : MAt w mb f) (c : UInt8) (v : Int) : MAt (w.setCell ⟨mb, c.toNat, none⟩ (.int .i64 v)) mb (fun d => if d = c then v else f d) := by
  intro d
  refine ⟨?_, (World.frozen?_setCell _ _ _ _).trans (h d).2⟩
  by_cases e : d = c
  · subst e
    simp only [if_true]
    exact World.cell?_setCell_same _ _ _ (h d).1
  · simp only [if_neg e]
    rw [World.cell?_setCell_other _ _ _ _ (fun h => e (UInt8.toNat_inj.1 (by have : c.toNat = d.toNat := (by simpa using h); exact this.symm)))]
    exact (h d).1

theorem MAt.eq {w : World} {mb : Nat} {f g : UInt8 → Int} (h : MAt w mb f) (e : ∀ c, f c = g c) : MAt w mb g := by
  have : f = g := funext e
  rw [← this]; exact h
theorem zero_cells : Tryz.zeroCells43 = Array.replicate 256 (.int .i64 0) := by kernel_rfl
theorem zero_at (w : World) : MAt (w.alloc (.cells Tryz.zeroCells43 43)) w.heap.size (fun _ => 0) := by
  intro c
  have hc := c.toNat_lt
  refine ⟨?_, h_fz (al_new w _) _⟩
  rw [World.cell?_alloc_new, zero_cells, Array.getElem?_replicate, if_pos (by omega)]
theorem count_take (l : List UInt8) (k : Nat) (h : k < l.length) (c : UInt8) : (l.take (k + 1)).count c = (l.take k).count c + if l[k]?.getD 0 = c then 1 else 0 := by
  rw [List.take_succ_eq_append_getElem h, List.count_append, List.getElem?_eq_getElem h, List.count_singleton]
  simp
theorem count_le2 (l : List UInt8) (c : UInt8) (n : Nat) (h : l.length ≤ n) : l.count c ≤ n := Nat.le_trans List.count_le_length h

set_option maxHeartbeats 8000000 in
set_option maxRecDepth 100000 in
theorem apart_law {Amb : World → Prop} (S : Says Amb) (iv av : Value) (ins az : List UInt8) (l1 l2 l3 : Int) (w : World) (hA : Amb w) (hI : ByAt w iv ins) (hS : ByAt w av az) (hin : ins.length ≤ 1048576) (has : az.length ≤ 1048576) :
    Calls Tryz.prog 5 #[iv, av, .agg #[.int .i64 l1, .int .i64 l2, .int .i64 l3]] w fun e w' => e = .returned (.bool true) ∧ Below w.heap.size w w' := by
  obtain ⟨ia, ic, rfl⟩ := hI.shape
  obtain ⟨sa, sc, rfl⟩ := hS.shape
  have HD := Lib.hid (dist_le az)
  have hB0 : Below w.heap.size w (w.alloc (.cells #[.int .i64 l1, .int .i64 l2, .int .i64 l3] 28)) := (Below.refl _ w).alloc (Nat.le_refl _) _
  have hL := al_new w (.cells #[.int .i64 l1, .int .i64 l2, .int .i64 l3] 28)
  have HA0 := Lib.hid (And.intro (S.keep _ _ hA hB0) (And.intro (hI.below hB0) (hS.below hB0)))
  clear hA hI hS
  go_enter Tryz.func5, Tryz.ntmps5
  go_wp2_with fail
  generalize w.alloc (.cells #[.int .i64 l1, .int .i64 l2, .int .i64 l3] 28) = W0 at hB0 hL HA0 ⊢
  refine (awake_c S W0 HA0.out.1).mono ?_
  rintro e w1 ⟨rfl, hB1⟩
  go_wp2_with fail
  refine (distinct_c _ az 256 w1 (by omega) (by omega) (HA0.out.2.2.below hB1)).mono ?_
  rintro e w2 ⟨dv, rfl, hD2, hB2⟩
  generalize distS az 256 = D at HD hD2
  obtain ⟨da, dc, rfl⟩ := own_slice2 hD2
  have hdl := HD.out
  go_wp2_with fail
  refine (coded_c _ D w2 (by omega) (row_by hD2)).mono ?_
  rintro e w3 ⟨rfl, hB3⟩
  have hB03 : Below W0.heap.size W0 w3 := (hB1.trans (hB2.mono hB1.size)).trans (hB3.mono (Nat.le_trans hB1.size hB2.size))
  have hL3 := (hB03.block w.heap.size (h_lt hL)).trans hL
  have HW3 : Hid (Amb w3 ∧ Below w.heap.size w w3 ∧ ByAt w3 (.slice ia ins.length ic) ins) := ⟨S.keep _ _ HA0.out.1 hB03, hB0.trans (hB03.mono hB0.size), HA0.out.2.1.below hB03⟩
  have m0 : w3.cell? ⟨w.heap.size, 0, none⟩ = some (.int .i64 l1) := h_cell hL3 0 rfl
  have m1 : w3.cell? ⟨w.heap.size, 1, none⟩ = some (.int .i64 l2) := h_cell hL3 1 rfl
  have m2 : w3.cell? ⟨w.heap.size, 2, none⟩ = some (.int .i64 l3) := h_cell hL3 2 rfl
  have hlb : w.heap.size < w3.heap.size := h_lt hL3
  clear hB1 hB2 hB3 hD2 hL hL3 hB03 hB0 HA0 has
  have HX := Lib.hid (code_size D hdl)
  have HT0 := Lib.hid (trA_d D)
  have HT1 := Lib.hid (trA_cd D)
  have HT2 := Lib.hid (trA_s D)
  have HP := Lib.hid (And.intro (plain_d D) (And.intro (plain_cd D) (plain_s D)))
  obtain ⟨X, hX⟩ : ∃ X : ByteArray, X = ⟨(codeL D).toArray⟩ := ⟨_, rfl⟩
  rw [← hX] at HX HT0 HT1 HT2 HP ⊢
  clear hX
  go_wp2_with fail
  have hm := may_c (w3.alloc (.cells #[.string ⟨#[116, 114]⟩] 9)) (some ⟨w3.heap.size, 0, none⟩) 1 l1 l2 l3
  have hBm : Below w3.heap.size w3 (w3.alloc (.cells #[.string ⟨#[116, 114]⟩] 9)) := (Below.refl _ _).alloc (Nat.le_refl _) _
  refine hm.mono ?_
  rintro e w4 ⟨rfl, hB4⟩
  have hB34 := hBm.trans (hB4.mono hBm.size)
  have HW4 : Hid (Amb w4 ∧ Below w.heap.size w w4 ∧ ByAt w4 (.slice ia ins.length ic) ins) := ⟨S.keep _ _ HW3.out.1 hB34, HW3.out.2.1.trans (hB34.mono (Nat.le_of_lt hlb)), HW3.out.2.2.below hB34⟩
  have m0 := (hB34.cell (p := ⟨w.heap.size, 0, none⟩) hlb).trans m0
  have m1 := (hB34.cell (p := ⟨w.heap.size, 1, none⟩) hlb).trans m1
  have m2 := (hB34.cell (p := ⟨w.heap.size, 2, none⟩) hlb).trans m2
  have hlb := Nat.lt_of_lt_of_le hlb hB34.size
  clear hm hBm hB4 hB34 HW3
  cases hlim : limB l1 l2 l3 with
  | false =>
    go_wp2_with fail
    go_ret
    exact ⟨rfl, HW4.out.2.1⟩
  | true =>
    have HLim := Lib.hid (limB_ok hlim)
    clear hlim
    go_wp2_with fail
    have hBs : Below w4.heap.size w4 (w4.alloc (.cells #[.string ⟨#[45, 100]⟩, .string X] 9)) := (Below.refl _ _).alloc (Nat.le_refl _) _
    have hrun := tr_c S (.slice (some ⟨w4.heap.size, 0, none⟩) 2 2) (.slice ia ins.length ic) [⟨#[45, 100]⟩, X] ins l1 l2 l3 _ (w4.alloc (.cells #[.string ⟨#[45, 100]⟩, .string X] 9)) (S.keep _ _ HW4.out.1 hBs) (strs_lit (w := w4) (ss := [⟨#[45, 100]⟩, X]) (Below.refl _ _) (by simp)) (HW4.out.2.2.below hBs) hin (by simp) (by simp) (tot_two _ _ (by decide) HX.out) HLim.out HT0.out HP.out.1
    obtain ⟨O0, hO0⟩ : ∃ O, O = (Tr.all ⟨true, false, false, D, D⟩ ins) := ⟨_, rfl⟩
    rw [← hO0] at hrun
    have HO0 := Lib.hid hO0
    have hO0n : O0.length ≤ 1048576 := by rw [hO0]; exact Nat.le_trans (all_len _ _) hin
    clear hO0
    refine hrun.mono ?_
    rintro e y0 ⟨ov, ea0, en0, ec0, st0, na0, nb0, nc0, rfl, hOv, hBy⟩
    unfold resT
    obtain ⟨oa0, oc0, rfl⟩ := own_slice2 hOv
    have hBz : Below y0.heap.size y0 (y0.alloc (.cells #[.slice oa0 O0.length oc0, .slice ea0 en0 ec0, .int .i64 st0, .slice none 0 0, .int .i64 na0, .int .i64 nb0, .int .i64 nc0] 38)) := (Below.refl _ _).alloc (Nat.le_refl _) _
    have hBB : Below w4.heap.size w4 (y0.alloc (.cells #[.slice oa0 O0.length oc0, .slice ea0 en0 ec0, .int .i64 st0, .slice none 0 0, .int .i64 na0, .int .i64 nb0, .int .i64 nc0] 38)) := (hBs.trans (hBy.mono hBs.size)).trans (hBz.mono (Nat.le_trans hBs.size hBy.size))
    have HR0 : Hid (ByAt (y0.alloc (.cells #[.slice oa0 O0.length oc0, .slice ea0 en0 ec0, .int .i64 st0, .slice none 0 0, .int .i64 na0, .int .i64 nb0, .int .i64 nc0] 38)) (.slice oa0 O0.length oc0) O0) := (row_by hOv).below hBz
    have d0 : (y0.alloc (.cells #[.slice oa0 O0.length oc0, .slice ea0 en0 ec0, .int .i64 st0, .slice none 0 0, .int .i64 na0, .int .i64 nb0, .int .i64 nc0] 38)).cell? ⟨y0.heap.size, 0, none⟩ = some (.slice oa0 O0.length oc0) := cell_new0 _ _ _ rfl
    have hlt0 : y0.heap.size < (y0.alloc (.cells #[.slice oa0 O0.length oc0, .slice ea0 en0 ec0, .int .i64 st0, .slice none 0 0, .int .i64 na0, .int .i64 nb0, .int .i64 nc0] 38)).heap.size := by simp
    have HX1 : Hid (Amb (y0.alloc (.cells #[.slice oa0 O0.length oc0, .slice ea0 en0 ec0, .int .i64 st0, .slice none 0 0, .int .i64 na0, .int .i64 nb0, .int .i64 nc0] 38)) ∧ Below w.heap.size w (y0.alloc (.cells #[.slice oa0 O0.length oc0, .slice ea0 en0 ec0, .int .i64 st0, .slice none 0 0, .int .i64 na0, .int .i64 nb0, .int .i64 nc0] 38)) ∧ ByAt (y0.alloc (.cells #[.slice oa0 O0.length oc0, .slice ea0 en0 ec0, .int .i64 st0, .slice none 0 0, .int .i64 na0, .int .i64 nb0, .int .i64 nc0] 38)) (.slice ia ins.length ic) ins) := ⟨S.keep _ _ HW4.out.1 hBB, HW4.out.2.1.trans (hBB.mono (Nat.le_of_lt hlb)), HW4.out.2.2.below hBB⟩
    have m0 := (hBB.cell (p := ⟨w.heap.size, 0, none⟩) hlb).trans m0
    have m1 := (hBB.cell (p := ⟨w.heap.size, 1, none⟩) hlb).trans m1
    have m2 := (hBB.cell (p := ⟨w.heap.size, 2, none⟩) hlb).trans m2
    have hlb := Nat.lt_of_lt_of_le hlb hBB.size
    go_upto_region 7 with fail
    clear hOv hBy hBz hBB hBs hrun HW4
    generalize y0.alloc (.cells #[.slice oa0 O0.length oc0, .slice ea0 en0 ec0, .int .i64 st0, .slice none 0 0, .int .i64 na0, .int .i64 nb0, .int .i64 nc0] 38) = V1 at HX1 m0 m1 m2 hlb HR0 d0 hlt0 ⊢
    go_wp2_with fail
    have hBs : Below V1.heap.size V1 (V1.alloc (.cells #[.string ⟨#[45, 99, 100]⟩, .string X] 9)) := (Below.refl _ _).alloc (Nat.le_refl _) _
    have hrun := tr_c S (.slice (some ⟨V1.heap.size, 0, none⟩) 2 2) (.slice ia ins.length ic) [⟨#[45, 99, 100]⟩, X] ins l1 l2 l3 _ (V1.alloc (.cells #[.string ⟨#[45, 99, 100]⟩, .string X] 9)) (S.keep _ _ HX1.out.1 hBs) (strs_lit (w := V1) (ss := [⟨#[45, 99, 100]⟩, X]) (Below.refl _ _) (by simp)) (HX1.out.2.2.below hBs) hin (by simp) (by simp) (tot_two _ _ (by decide) HX.out) HLim.out HT1.out HP.out.2.1
    obtain ⟨O1, hO1⟩ : ∃ O, O = (Tr.all ⟨true, false, false, othersS D, othersS D⟩ ins) := ⟨_, rfl⟩
    rw [← hO1] at hrun
    have HO1 := Lib.hid hO1
    have hO1n : O1.length ≤ 1048576 := by rw [hO1]; exact Nat.le_trans (all_len _ _) hin
    clear hO1
    refine hrun.mono ?_
    rintro e y1 ⟨ov, ea1, en1, ec1, st1, na1, nb1, nc1, rfl, hOv, hBy⟩
    unfold resT
    obtain ⟨oa1, oc1, rfl⟩ := own_slice2 hOv
    have hBz : Below y1.heap.size y1 (y1.alloc (.cells #[.slice oa1 O1.length oc1, .slice ea1 en1 ec1, .int .i64 st1, .slice none 0 0, .int .i64 na1, .int .i64 nb1, .int .i64 nc1] 38)) := (Below.refl _ _).alloc (Nat.le_refl _) _
    have hBB : Below V1.heap.size V1 (y1.alloc (.cells #[.slice oa1 O1.length oc1, .slice ea1 en1 ec1, .int .i64 st1, .slice none 0 0, .int .i64 na1, .int .i64 nb1, .int .i64 nc1] 38)) := (hBs.trans (hBy.mono hBs.size)).trans (hBz.mono (Nat.le_trans hBs.size hBy.size))
    have HR1 : Hid (ByAt (y1.alloc (.cells #[.slice oa1 O1.length oc1, .slice ea1 en1 ec1, .int .i64 st1, .slice none 0 0, .int .i64 na1, .int .i64 nb1, .int .i64 nc1] 38)) (.slice oa1 O1.length oc1) O1) := (row_by hOv).below hBz
    have d1 : (y1.alloc (.cells #[.slice oa1 O1.length oc1, .slice ea1 en1 ec1, .int .i64 st1, .slice none 0 0, .int .i64 na1, .int .i64 nb1, .int .i64 nc1] 38)).cell? ⟨y1.heap.size, 0, none⟩ = some (.slice oa1 O1.length oc1) := cell_new0 _ _ _ rfl
    have hlt1 : y1.heap.size < (y1.alloc (.cells #[.slice oa1 O1.length oc1, .slice ea1 en1 ec1, .int .i64 st1, .slice none 0 0, .int .i64 na1, .int .i64 nb1, .int .i64 nc1] 38)).heap.size := by simp
    have HX2 : Hid (Amb (y1.alloc (.cells #[.slice oa1 O1.length oc1, .slice ea1 en1 ec1, .int .i64 st1, .slice none 0 0, .int .i64 na1, .int .i64 nb1, .int .i64 nc1] 38)) ∧ Below w.heap.size w (y1.alloc (.cells #[.slice oa1 O1.length oc1, .slice ea1 en1 ec1, .int .i64 st1, .slice none 0 0, .int .i64 na1, .int .i64 nb1, .int .i64 nc1] 38)) ∧ ByAt (y1.alloc (.cells #[.slice oa1 O1.length oc1, .slice ea1 en1 ec1, .int .i64 st1, .slice none 0 0, .int .i64 na1, .int .i64 nb1, .int .i64 nc1] 38)) (.slice ia ins.length ic) ins) := ⟨S.keep _ _ HX1.out.1 hBB, HX1.out.2.1.trans (hBB.mono (Nat.le_of_lt hlb)), HX1.out.2.2.below hBB⟩
    have m0 := (hBB.cell (p := ⟨w.heap.size, 0, none⟩) hlb).trans m0
    have m1 := (hBB.cell (p := ⟨w.heap.size, 1, none⟩) hlb).trans m1
    have m2 := (hBB.cell (p := ⟨w.heap.size, 2, none⟩) hlb).trans m2
    have hlb := Nat.lt_of_lt_of_le hlb hBB.size
    have HR0 := Lib.hid (HR0.out.below hBB)
    have d0 := (hBB.cell (p := ⟨y0.heap.size, 0, none⟩) hlt0).trans d0
    have hlt0 := Nat.lt_of_lt_of_le hlt0 hBB.size
    go_upto_region 8 with fail
    clear hOv hBy hBz hBB hBs hrun HX1
    generalize y1.alloc (.cells #[.slice oa1 O1.length oc1, .slice ea1 en1 ec1, .int .i64 st1, .slice none 0 0, .int .i64 na1, .int .i64 nb1, .int .i64 nc1] 38) = V2 at HX2 m0 m1 m2 hlb HR0 HR1 d0 d1 hlt0 hlt1 ⊢
    go_wp2_with fail
    have hBs : Below V2.heap.size V2 (V2.alloc (.cells #[.string ⟨#[45, 115]⟩, .string X] 9)) := (Below.refl _ _).alloc (Nat.le_refl _) _
    have hrun := tr_c S (.slice (some ⟨V2.heap.size, 0, none⟩) 2 2) (.slice ia ins.length ic) [⟨#[45, 115]⟩, X] ins l1 l2 l3 _ (V2.alloc (.cells #[.string ⟨#[45, 115]⟩, .string X] 9)) (S.keep _ _ HX2.out.1 hBs) (strs_lit (w := V2) (ss := [⟨#[45, 115]⟩, X]) (Below.refl _ _) (by simp)) (HX2.out.2.2.below hBs) hin (by simp) (by simp) (tot_two _ _ (by decide) HX.out) HLim.out HT2.out HP.out.2.2
    obtain ⟨O2, hO2⟩ : ∃ O, O = (Tr.all ⟨false, true, false, D, D⟩ ins) := ⟨_, rfl⟩
    rw [← hO2] at hrun
    have HO2 := Lib.hid hO2
    have hO2n : O2.length ≤ 1048576 := by rw [hO2]; exact Nat.le_trans (all_len _ _) hin
    clear hO2
    refine hrun.mono ?_
    rintro e y2 ⟨ov, ea2, en2, ec2, st2, na2, nb2, nc2, rfl, hOv, hBy⟩
    unfold resT
    obtain ⟨oa2, oc2, rfl⟩ := own_slice2 hOv
    have hBz : Below y2.heap.size y2 (y2.alloc (.cells #[.slice oa2 O2.length oc2, .slice ea2 en2 ec2, .int .i64 st2, .slice none 0 0, .int .i64 na2, .int .i64 nb2, .int .i64 nc2] 38)) := (Below.refl _ _).alloc (Nat.le_refl _) _
    have hBB : Below V2.heap.size V2 (y2.alloc (.cells #[.slice oa2 O2.length oc2, .slice ea2 en2 ec2, .int .i64 st2, .slice none 0 0, .int .i64 na2, .int .i64 nb2, .int .i64 nc2] 38)) := (hBs.trans (hBy.mono hBs.size)).trans (hBz.mono (Nat.le_trans hBs.size hBy.size))
    have HR2 : Hid (ByAt (y2.alloc (.cells #[.slice oa2 O2.length oc2, .slice ea2 en2 ec2, .int .i64 st2, .slice none 0 0, .int .i64 na2, .int .i64 nb2, .int .i64 nc2] 38)) (.slice oa2 O2.length oc2) O2) := (row_by hOv).below hBz
    have d2 : (y2.alloc (.cells #[.slice oa2 O2.length oc2, .slice ea2 en2 ec2, .int .i64 st2, .slice none 0 0, .int .i64 na2, .int .i64 nb2, .int .i64 nc2] 38)).cell? ⟨y2.heap.size, 0, none⟩ = some (.slice oa2 O2.length oc2) := cell_new0 _ _ _ rfl
    have hlt2 : y2.heap.size < (y2.alloc (.cells #[.slice oa2 O2.length oc2, .slice ea2 en2 ec2, .int .i64 st2, .slice none 0 0, .int .i64 na2, .int .i64 nb2, .int .i64 nc2] 38)).heap.size := by simp
    have HX3 : Hid (Amb (y2.alloc (.cells #[.slice oa2 O2.length oc2, .slice ea2 en2 ec2, .int .i64 st2, .slice none 0 0, .int .i64 na2, .int .i64 nb2, .int .i64 nc2] 38)) ∧ Below w.heap.size w (y2.alloc (.cells #[.slice oa2 O2.length oc2, .slice ea2 en2 ec2, .int .i64 st2, .slice none 0 0, .int .i64 na2, .int .i64 nb2, .int .i64 nc2] 38)) ∧ ByAt (y2.alloc (.cells #[.slice oa2 O2.length oc2, .slice ea2 en2 ec2, .int .i64 st2, .slice none 0 0, .int .i64 na2, .int .i64 nb2, .int .i64 nc2] 38)) (.slice ia ins.length ic) ins) := ⟨S.keep _ _ HX2.out.1 hBB, HX2.out.2.1.trans (hBB.mono (Nat.le_of_lt hlb)), HX2.out.2.2.below hBB⟩
    have m0 := (hBB.cell (p := ⟨w.heap.size, 0, none⟩) hlb).trans m0
    have m1 := (hBB.cell (p := ⟨w.heap.size, 1, none⟩) hlb).trans m1
    have m2 := (hBB.cell (p := ⟨w.heap.size, 2, none⟩) hlb).trans m2
    have hlb := Nat.lt_of_lt_of_le hlb hBB.size
    have HR0 := Lib.hid (HR0.out.below hBB)
    have d0 := (hBB.cell (p := ⟨y0.heap.size, 0, none⟩) hlt0).trans d0
    have hlt0 := Nat.lt_of_lt_of_le hlt0 hBB.size
    have HR1 := Lib.hid (HR1.out.below hBB)
    have d1 := (hBB.cell (p := ⟨y1.heap.size, 0, none⟩) hlt1).trans d1
    have hlt1 := Nat.lt_of_lt_of_le hlt1 hBB.size
    go_upto_region 9 with fail
    clear hOv hBy hBz hBB hBs hrun HX2
    generalize y2.alloc (.cells #[.slice oa2 O2.length oc2, .slice ea2 en2 ec2, .int .i64 st2, .slice none 0 0, .int .i64 na2, .int .i64 nb2, .int .i64 nc2] 38) = V3 at HX3 m0 m1 m2 hlb HR0 HR1 HR2 d0 d1 d2 hlt0 hlt1 hlt2 ⊢
    go_wp2_with fail
    have hBs : Below V3.heap.size V3 (V3.alloc (.cells #[.string ⟨#[45, 115]⟩, .string X] 9)) := (Below.refl _ _).alloc (Nat.le_refl _) _
    have hrun := tr_c S (.slice (some ⟨V3.heap.size, 0, none⟩) 2 2) (.slice oa2 O2.length oc2) [⟨#[45, 115]⟩, X] O2 l1 l2 l3 _ (V3.alloc (.cells #[.string ⟨#[45, 115]⟩, .string X] 9)) (S.keep _ _ HX3.out.1 hBs) (strs_lit (w := V3) (ss := [⟨#[45, 115]⟩, X]) (Below.refl _ _) (by simp)) (HR2.out.below hBs) hO2n (by simp) (by simp) (tot_two _ _ (by decide) HX.out) HLim.out HT2.out HP.out.2.2
    obtain ⟨O3, hO3⟩ : ∃ O, O = (Tr.all ⟨false, true, false, D, D⟩ O2) := ⟨_, rfl⟩
    rw [← hO3] at hrun
    have HO3 := Lib.hid hO3
    have hO3n : O3.length ≤ 1048576 := by rw [hO3]; exact Nat.le_trans (all_len _ _) hO2n
    clear hO3
    refine hrun.mono ?_
    rintro e y3 ⟨ov, ea3, en3, ec3, st3, na3, nb3, nc3, rfl, hOv, hBy⟩
    unfold resT
    obtain ⟨oa3, oc3, rfl⟩ := own_slice2 hOv
    have hBz : Below y3.heap.size y3 (y3.alloc (.cells #[.slice oa3 O3.length oc3, .slice ea3 en3 ec3, .int .i64 st3, .slice none 0 0, .int .i64 na3, .int .i64 nb3, .int .i64 nc3] 38)) := (Below.refl _ _).alloc (Nat.le_refl _) _
    have hBB : Below V3.heap.size V3 (y3.alloc (.cells #[.slice oa3 O3.length oc3, .slice ea3 en3 ec3, .int .i64 st3, .slice none 0 0, .int .i64 na3, .int .i64 nb3, .int .i64 nc3] 38)) := (hBs.trans (hBy.mono hBs.size)).trans (hBz.mono (Nat.le_trans hBs.size hBy.size))
    have HR3 : Hid (ByAt (y3.alloc (.cells #[.slice oa3 O3.length oc3, .slice ea3 en3 ec3, .int .i64 st3, .slice none 0 0, .int .i64 na3, .int .i64 nb3, .int .i64 nc3] 38)) (.slice oa3 O3.length oc3) O3) := (row_by hOv).below hBz
    have d3 : (y3.alloc (.cells #[.slice oa3 O3.length oc3, .slice ea3 en3 ec3, .int .i64 st3, .slice none 0 0, .int .i64 na3, .int .i64 nb3, .int .i64 nc3] 38)).cell? ⟨y3.heap.size, 0, none⟩ = some (.slice oa3 O3.length oc3) := cell_new0 _ _ _ rfl
    have hlt3 : y3.heap.size < (y3.alloc (.cells #[.slice oa3 O3.length oc3, .slice ea3 en3 ec3, .int .i64 st3, .slice none 0 0, .int .i64 na3, .int .i64 nb3, .int .i64 nc3] 38)).heap.size := by simp
    have HX4 : Hid (Amb (y3.alloc (.cells #[.slice oa3 O3.length oc3, .slice ea3 en3 ec3, .int .i64 st3, .slice none 0 0, .int .i64 na3, .int .i64 nb3, .int .i64 nc3] 38)) ∧ Below w.heap.size w (y3.alloc (.cells #[.slice oa3 O3.length oc3, .slice ea3 en3 ec3, .int .i64 st3, .slice none 0 0, .int .i64 na3, .int .i64 nb3, .int .i64 nc3] 38)) ∧ ByAt (y3.alloc (.cells #[.slice oa3 O3.length oc3, .slice ea3 en3 ec3, .int .i64 st3, .slice none 0 0, .int .i64 na3, .int .i64 nb3, .int .i64 nc3] 38)) (.slice ia ins.length ic) ins) := ⟨S.keep _ _ HX3.out.1 hBB, HX3.out.2.1.trans (hBB.mono (Nat.le_of_lt hlb)), HX3.out.2.2.below hBB⟩
    have m0 := (hBB.cell (p := ⟨w.heap.size, 0, none⟩) hlb).trans m0
    have m1 := (hBB.cell (p := ⟨w.heap.size, 1, none⟩) hlb).trans m1
    have m2 := (hBB.cell (p := ⟨w.heap.size, 2, none⟩) hlb).trans m2
    have hlb := Nat.lt_of_lt_of_le hlb hBB.size
    have HR0 := Lib.hid (HR0.out.below hBB)
    have d0 := (hBB.cell (p := ⟨y0.heap.size, 0, none⟩) hlt0).trans d0
    have hlt0 := Nat.lt_of_lt_of_le hlt0 hBB.size
    have HR1 := Lib.hid (HR1.out.below hBB)
    have d1 := (hBB.cell (p := ⟨y1.heap.size, 0, none⟩) hlt1).trans d1
    have hlt1 := Nat.lt_of_lt_of_le hlt1 hBB.size
    have HR2 := Lib.hid (HR2.out.below hBB)
    have d2 := (hBB.cell (p := ⟨y2.heap.size, 0, none⟩) hlt2).trans d2
    have hlt2 := Nat.lt_of_lt_of_le hlt2 hBB.size
    go_upto_region 10 with fail
    clear hOv hBy hBz hBB hBs hrun HX3
    generalize y3.alloc (.cells #[.slice oa3 O3.length oc3, .slice ea3 en3 ec3, .int .i64 st3, .slice none 0 0, .int .i64 na3, .int .i64 nb3, .int .i64 nc3] 38) = V4 at HX4 m0 m1 m2 hlb HR0 HR1 HR2 HR3 d0 d1 d2 d3 hlt0 hlt1 hlt2 hlt3 ⊢
    have HO3' : Hid (O3 = O2) := by
      show O3 = O2
      rw [HO3.out, HO2.out, sq_each, sq_each, sq_twice]
    have s3 := str_by HR3.out
    have s2 := str_by HR2.out
    have e3 := HO3'.out
    have hle : O2.length ≤ ins.length := by rw [HO2.out]; exact all_len _ _
    rw [e3] at s3 d3
    clear e3 HO3 HO3' HR3 hO3n
    go_upto_region 12 with fail
    clear s2 s3 hle d3 m0 m1 m2 HT0 HT1 HT2 HP HLim HX
    go_upto_region 13 with fail
    have HM : Hid (MAt (V4.alloc (.cells Tryz.zeroCells43 43)) V4.heap.size (fun _ => 0) ∧ Below V4.heap.size V4 (V4.alloc (.cells Tryz.zeroCells43 43))) := ⟨zero_at V4, (Below.refl _ _).alloc (Nat.le_refl _) _⟩
    generalize V4.alloc (.cells Tryz.zeroCells43 43) = W5 at HM ⊢
    go_wp2_with fail
    go_loopw [19] (fun iv wr => ∃ (k : Nat), k ≤ ins.length ∧ iv = .int .i64 k ∧ Hid (MAt wr V4.heap.size (fun c => (((ins.take k).count c : Nat) : Int)) ∧ Below V4.heap.size V4 wr)) (fun iv _ => ins.length - (intOf iv).toNat)
    case atStart => exact ⟨0, by omega, rfl, (show _ ∧ _ from ⟨by simpa using HM.out.1, HM.out.2⟩)⟩
    case round =>
      obtain ⟨k, hk, rfl, HM2⟩ := hrel
      clear HM
      have hbl := HM2.out.2
      have hbl2 := hbl
      by_cases hlt : k < ins.length
      · obtain ⟨bb, off, rfl, hbb, hc⟩ := HX4.out.2.2.some (by omega)
        have hcx : wr.cell? ⟨bb, off + k, none⟩ = some (.int .u8 ((ins[k]?.getD 0).toNat : Int)) := (hbl.cell (p := ⟨bb, off + k, none⟩) hbb).trans (hc k hlt)
        have HC := Lib.hid (count_take ins k hlt)
        have hcnt := fun c => count_le2 (ins.take k) c ins.length (by rw [List.length_take]; omega)
        generalize ins[k]?.getD 0 = z at hcx HC
        clear hc
        have mz := (HM2.out.1 z).1
        have fz := (HM2.out.1 z).2
        have HS := Lib.hid (HM2.out.1.set z ((((ins.take k).count z : Nat) : Int) + 1))
        have hbz := hcnt z
        skip
        clear hcnt
        have hzl := z.toNat_lt
        have p1 : (k : Int) < (ins.length : Int) := by omega
        go_wp2_with fail
        refine ⟨⟨k + 1, by omega, by go_num, (show _ ∧ _ from ⟨?_, hbl.setCell (p := ⟨V4.heap.size, z.toNat, none⟩) (Nat.le_refl _) _⟩)⟩, by simp [intOf]; omega⟩
        refine MAt.eq HS.out (fun c => ?_)
        rw [HC.out c]
        split
        · rename_i e
          subst e
          simp <;> omega
        · rename_i e
          rw [if_neg (fun h => e h.symm)]
          simp
      · obtain rfl : k = ins.length := by omega
        rw [List.take_length] at HM2
        have p1 : ¬ ((ins.length : Nat) : Int) < (ins.length : Int) := by omega
        clear hlt hk
        have HM := HM2
        clear HM2
        go_wp2_with fail
        go_loopw [20] (fun iv wr => ∃ (k : Nat), k ≤ O0.length ∧ iv = .int .i64 k ∧ Hid (MAt wr V4.heap.size (fun c => (ins.count c : Int) - (((O0.take k).count c : Nat) : Int)) ∧ Below V4.heap.size V4 wr)) (fun iv _ => O0.length - (intOf iv).toNat)
        case atStart => exact ⟨0, by omega, rfl, (show _ ∧ _ from ⟨by simpa using HM.out.1, HM.out.2⟩)⟩
        case round =>
          obtain ⟨k, hk, rfl, HM2⟩ := hrel
          clear HM
          have hbl := HM2.out.2
          have dd := (hbl.cell (p := ⟨y0.heap.size, 0, none⟩) hlt0).trans d0
          by_cases hlt : k < O0.length
          · obtain ⟨bb, off, rfl, hbb, hc⟩ := HR0.out.some (by omega)
            have hcx : wr.cell? ⟨bb, off + k, none⟩ = some (.int .u8 ((O0[k]?.getD 0).toNat : Int)) := (hbl.cell (p := ⟨bb, off + k, none⟩) hbb).trans (hc k hlt)
            have HC := Lib.hid (count_take O0 k hlt)
            have hcnt := fun c => count_le2 (O0.take k) c O0.length (by rw [List.length_take]; omega)
            generalize O0[k]?.getD 0 = z at hcx HC
            clear hc
            have mz := (HM2.out.1 z).1
            have fz := (HM2.out.1 z).2
            have HS := Lib.hid (HM2.out.1.set z ((ins.count z : Int) - (((O0.take k).count z : Nat) : Int) - 1))
            have hbz := hcnt z
            have hb2 := count_le2 ins z 1048576 hin
            clear hcnt
            have hzl := z.toNat_lt
            have p1 : (k : Int) < (O0.length : Int) := by omega
            go_wp2_with fail
            refine ⟨⟨k + 1, by omega, by go_num, (show _ ∧ _ from ⟨?_, hbl.setCell (p := ⟨V4.heap.size, z.toNat, none⟩) (Nat.le_refl _) _⟩)⟩, by simp [intOf]; omega⟩
            refine MAt.eq HS.out (fun c => ?_)
            rw [HC.out c]
            split
            · rename_i e
              subst e
              simp <;> omega
            · rename_i e
              rw [if_neg (fun h => e h.symm)]
              simp
          · obtain rfl : k = O0.length := by omega
            rw [List.take_length] at HM2
            have p1 : ¬ ((O0.length : Nat) : Int) < (O0.length : Int) := by omega
            clear hlt hk
            have HM := HM2
            clear HM2
            go_wp2_with fail
            go_loopw [21] (fun iv wr => ∃ (k : Nat), k ≤ O1.length ∧ iv = .int .i64 k ∧ Hid (MAt wr V4.heap.size (fun c => ((ins.count c : Int) - (O0.count c : Int)) - (((O1.take k).count c : Nat) : Int)) ∧ Below V4.heap.size V4 wr)) (fun iv _ => O1.length - (intOf iv).toNat)
            case atStart => exact ⟨0, by omega, rfl, (show _ ∧ _ from ⟨by simpa using HM.out.1, HM.out.2⟩)⟩
            case round =>
              obtain ⟨k, hk, rfl, HM2⟩ := hrel
              clear HM
              have hbl := HM2.out.2
              have dd := (hbl.cell (p := ⟨y1.heap.size, 0, none⟩) hlt1).trans d1
              by_cases hlt : k < O1.length
              · obtain ⟨bb, off, rfl, hbb, hc⟩ := HR1.out.some (by omega)
                have hcx : wr.cell? ⟨bb, off + k, none⟩ = some (.int .u8 ((O1[k]?.getD 0).toNat : Int)) := (hbl.cell (p := ⟨bb, off + k, none⟩) hbb).trans (hc k hlt)
                have HC := Lib.hid (count_take O1 k hlt)
                have hcnt := fun c => count_le2 (O1.take k) c O1.length (by rw [List.length_take]; omega)
                generalize O1[k]?.getD 0 = z at hcx HC
                clear hc
                have mz := (HM2.out.1 z).1
                have fz := (HM2.out.1 z).2
                have HS := Lib.hid (HM2.out.1.set z (((ins.count z : Int) - (O0.count z : Int)) - (((O1.take k).count z : Nat) : Int) - 1))
                have hbz := hcnt z
                have hb2 := count_le2 ins z 1048576 hin
                have hb3 := count_le2 O0 z 1048576 hO0n
                clear hcnt
                have hzl := z.toNat_lt
                have p1 : (k : Int) < (O1.length : Int) := by omega
                go_wp2_with fail
                refine ⟨⟨k + 1, by omega, by go_num, (show _ ∧ _ from ⟨?_, hbl.setCell (p := ⟨V4.heap.size, z.toNat, none⟩) (Nat.le_refl _) _⟩)⟩, by simp [intOf]; omega⟩
                refine MAt.eq HS.out (fun c => ?_)
                rw [HC.out c]
                split
                · rename_i e
                  subst e
                  simp <;> omega
                · rename_i e
                  rw [if_neg (fun h => e h.symm)]
                  simp
              · obtain rfl : k = O1.length := by omega
                rw [List.take_length] at HM2
                have p1 : ¬ ((O1.length : Nat) : Int) < (O1.length : Int) := by omega
                clear hlt hk
                have HM := HM2
                clear HM2
                go_wp2_with fail
                have HZ : Hid (∀ c, ((ins.count c : Int) - (O0.count c : Int)) - ((O1.count c : Nat) : Int) = 0) := fun c => by
                  rw [HO0.out, HO1.out, del_all, cd_all]
                  have := parts_count D ins c
                  omega
                go_loopw [22] (fun iv wr => ∃ (k : Nat), k ≤ 256 ∧ iv = .int .i64 k ∧ Hid (MAt wr V4.heap.size (fun _ => 0) ∧ Below V4.heap.size V4 wr)) (fun iv _ => 256 - (intOf iv).toNat)
                case atStart => exact ⟨0, by omega, rfl, (show _ ∧ _ from ⟨MAt.eq HM.out.1 (fun c => HZ.out c), HM.out.2⟩)⟩
                case round =>
                  obtain ⟨k, hk, rfl, HM2⟩ := hrel
                  clear HM
                  by_cases hlt : k < 256
                  · have mz := (HM2.out.1 (UInt8.ofNat k)).1
                    rw [show (UInt8.ofNat k).toNat = k by simp; omega] at mz
                    have p1 : (k : Int) < 256 := by omega
                    go_wp2_with fail
                    exact ⟨⟨k + 1, by omega, by go_num, HM2⟩, by simp [intOf]; omega⟩
                  · have p1 : ¬ (k : Int) < 256 := by omega
                    go_wp2_with fail
                    go_ret
                    exact ⟨rfl, HX4.out.2.1.trans (HM2.out.2.mono (by have := HX4.out.2.1.size; omega))⟩
end Go.Proofs.YtfkoehfkiommpaaGreatDoor.Tr
