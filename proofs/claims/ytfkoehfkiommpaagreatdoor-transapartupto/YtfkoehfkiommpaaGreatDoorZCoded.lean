/- The chapter's examples. -/
import Derived.Deep.Cut
import Derived.Test.YtfkoehfkiommpaaGreatDoorZPlain
namespace Go.Proofs.YtfkoehfkiommpaaGreatDoor.Tr
open Go.Proofs.YtfkoehfkiommpaaGreatDoor.Op
open Go.RowKit

theorem pl_a : plainA exA = true := by decide +kernel
theorem pl_b : plainA exB = true := by decide +kernel
theorem pl_c : plainA exC = true := by decide +kernel
theorem pl_d : plainA exD = true := by decide +kernel
theorem conv_nil (w : World) : (convert 23 9 (.slice none 0 0)).run Tryz.prog w = .ok (.string ⟨#[]⟩) w := by kernel_rfl
theorem str_by {w : World} {v : Value} {d : List UInt8} (h : ByAt w v d) : (convert 23 9 v).run Tryz.prog w = .ok (.string ⟨d.toArray⟩) w := by
  rcases h with ⟨rfl, rfl⟩ | ⟨b, off, cap, rfl, hcap, hb, hc⟩
  · exact conv_nil w
  · refine run_convert_bytes_back (P := Tryz.prog) _ 23 9 5 ⟨b, off, none⟩ cap d Tryz.underlying23 Tryz.underlying5 Tryz.underlying9 (fun j hj => ?_)
    rw [Addr.add_lit]
    have := hc j hj
    simpa [hj] using this
theorem infoLm : (Tryz.prog.info? 28).map (·.size) = some 3 := by kernel_rfl
set_option maxRecDepth 100000 in
theorem lim_c (w : World) : Calls Tryz.prog 13 #[] w fun e w' => e = .returned (.agg #[.int .i64 3, .int .i64 9, .int .i64 9]) ∧ Below w.heap.size w w' := by
  go_enter Tryz.func13, Tryz.ntmps13
  go_wp2_with fail
  refine bodyPost_ret (results_cell_row rfl _ _ w.heap.size 28 #[.int .i64 3, .int .i64 9, .int .i64 9] (0, 0) _ rfl (by show (w.heap.push _)[w.heap.size]? = _; simp) Tryz.underlying28 rfl infoLm) rfl ?_
  exact ⟨rfl, (Below.refl _ w).alloc (Nat.le_refl _) _⟩
theorem limOk : LimOk 3 9 9 := by unfold LimOk; omega
/-- Bytes and strings that were just written down. -/
theorem by_lit {w w2 : World} {o : Obj} {bs : List UInt8} {fz : Nat × Nat} (hB : Below ((w.alloc (.cells (u8s bs).toArray 5 fz)).alloc o).heap.size ((w.alloc (.cells (u8s bs).toArray 5 fz)).alloc o) w2) (hl : bs.length ≤ 1000) : ByAt w2 (.slice (some ⟨w.heap.size, 0, none⟩) bs.length bs.length) bs := by
  refine .inr ⟨w.heap.size, 0, bs.length, rfl, ⟨Nat.le_refl _, by omega⟩, Nat.lt_of_lt_of_le (by simp; omega) hB.size, fun j hj => ?_⟩
  rw [hB.cell (p := ⟨w.heap.size, 0 + j, none⟩) (by simp; omega)]
  have hh : ((w.alloc (.cells (u8s bs).toArray 5 fz)).alloc o).heap[w.heap.size]? = some (.cells (u8s bs).toArray 5 fz) := by
    show ((w.heap.push _).push _)[w.heap.size]? = _
    rw [Array.getElem?_push_lt (by simp)]
    simp
  simp only [World.cell?, hh]
  simp [u8s, hj]
theorem strs_lit {w w2 : World} {ss : List ByteArray} (hB : Below (w.alloc (.cells (ss.map Value.string).toArray 9)).heap.size (w.alloc (.cells (ss.map Value.string).toArray 9)) w2) (hl : ss.length ≤ 1000) : StrsAt w2 (.slice (some ⟨w.heap.size, 0, none⟩) ss.length ss.length) ss := by
  refine .inr ⟨w.heap.size, 0, ss.length, rfl, ⟨Nat.le_refl _, by omega⟩, Nat.lt_of_lt_of_le (by simp) hB.size, fun j hj => ?_⟩
  rw [hB.cell (p := ⟨w.heap.size, 0 + j, none⟩) (by simp)]
  have hh : (w.alloc (.cells (ss.map Value.string).toArray 9)).heap[w.heap.size]? = some (.cells (ss.map Value.string).toArray 9) := by
    show (w.heap.push _)[w.heap.size]? = _
    simp
  simp only [World.cell?, hh]
  simp [nth, hj]

theorem strs_lit2 {w w2 : World} {o : Obj} {ss : List ByteArray} (hB : Below ((w.alloc o).alloc (.cells (ss.map Value.string).toArray 9)).heap.size ((w.alloc o).alloc (.cells (ss.map Value.string).toArray 9)) w2) (hl : ss.length ≤ 1000) : StrsAt w2 (.slice (some ⟨w.heap.size + 1, 0, none⟩) ss.length ss.length) ss := by
  have := strs_lit hB hl
  rwa [show (w.alloc o).heap.size = w.heap.size + 1 by simp] at this
theorem cell_new0 (w : World) (cs : Array Value) (T : Nat) {v : Value} (h : cs[0]? = some v) : (w.alloc (.cells cs T)).cell? ⟨w.heap.size, 0, none⟩ = some v := (World.cell?_alloc_new w cs T 0).trans h
set_option maxHeartbeats 4000000 in
set_option maxRecDepth 100000 in
theorem awake_c {Amb : World → Prop} (S : Says Amb) (w : World) (hA : Amb w) : Calls Tryz.prog 6 #[] w fun e w' => e = .returned (.bool true) ∧ Below w.heap.size w w' := by
  have hset := S.set ⟨#[97, 45, 99, 91, 120, 42, 50, 93, 92, 110]⟩ w hA (by decide)
  rw [show setS (⟨#[97, 45, 99, 91, 120, 42, 50, 93, 92, 110]⟩ : ByteArray).data.toList = ([97, 98, 99, 120, 120, 10], -1, true) from ex_set] at hset
  go_enter Tryz.func6, Tryz.ntmps6
  go_wp2_with fail
  refine hset.mono ?_
  rintro e w1 ⟨lv, rfl, hL1, hB1⟩
  obtain ⟨la, lc, rfl⟩ := hL1.shape
  have HL1 := Lib.hid (And.intro hL1 hB1)
  clear hset hL1 hB1
  have HW1 : Hid (Amb w1 ∧ Below w.heap.size w w1) := ⟨S.keep _ _ hA HL1.out.2, HL1.out.2⟩
  have HLa : Hid (ByAt w1 (.slice la 6 lc) [97, 98, 99, 120, 120, 10]) := HL1.out.1
  clear HL1 hA
  have cc := Lib.run_convert_bytes_const (P := Tryz.prog) w1 23 5 #[.int .u8 97, .int .u8 98, .int .u8 99, .int .u8 100] 4 4 Tryz.underlying23 Tryz.underlying5
  go_wp2_with fail
  refine (lim_c _).mono ?_
  rintro e x0 ⟨rfl, hBx⟩
  clear cc
  obtain ⟨t0, ht0, hto0⟩ := Option.map_eq_some_iff.1 ex_a
  have hW0x : Below w1.heap.size w1 x0 := (((Below.refl _ w1).alloc (Nat.le_refl _) _).alloc (by simp) _).trans (hBx.mono (by simp; omega))
  have hrun := tr_c S (.slice (some ⟨w1.heap.size + 1, 0, none⟩) 2 2) (.slice (some ⟨w1.heap.size, 0, none⟩) 4 4) exA [97, 98, 99, 100] 3 9 9 t0 x0 (S.keep _ _ HW1.out.1 hW0x) (strs_lit2 (w := w1) (o := .cells (u8s [97, 98, 99, 100]).toArray 5 (4, 5)) (ss := exA) hBx (by decide)) (by_lit (w := w1) (bs := [97, 98, 99, 100]) (fz := (4, 5)) hBx (by decide)) (by decide) (by decide) (by decide) (by decide) limOk ht0 pl_a
  rw [hto0] at hrun
  clear hBx ht0 hto0
  go_wp2_with fail
  refine hrun.mono ?_
  rintro e y0 ⟨ov, ea0, en0, ec0, st0, na0, nb0, nc0, rfl, hO, hBy⟩
  unfold resT
  obtain ⟨oa0, oc0, rfl⟩ := own_slice2 hO
  have hBz : Below y0.heap.size y0 (y0.alloc (.cells #[.slice oa0 4 oc0, .slice ea0 en0 ec0, .int .i64 st0, .slice none 0 0, .int .i64 na0, .int .i64 nb0, .int .i64 nc0] 38)) := (Below.refl _ _).alloc (Nat.le_refl _) _
  have hBB : Below w1.heap.size w1 (y0.alloc (.cells #[.slice oa0 4 oc0, .slice ea0 en0 ec0, .int .i64 st0, .slice none 0 0, .int .i64 na0, .int .i64 nb0, .int .i64 nc0] 38)) := (hW0x.trans (hBy.mono hW0x.size)).trans (hBz.mono (Nat.le_trans hW0x.size hBy.size))
  have HR0 : Hid (ByAt (y0.alloc (.cells #[.slice oa0 4 oc0, .slice ea0 en0 ec0, .int .i64 st0, .slice none 0 0, .int .i64 na0, .int .i64 nb0, .int .i64 nc0] 38)) (.slice oa0 4 oc0) [65, 66, 67, 100]) := (row_by hO).below hBz
  have d0 : (y0.alloc (.cells #[.slice oa0 4 oc0, .slice ea0 en0 ec0, .int .i64 st0, .slice none 0 0, .int .i64 na0, .int .i64 nb0, .int .i64 nc0] 38)).cell? ⟨y0.heap.size, 0, none⟩ = some (.slice oa0 4 oc0) := cell_new0 _ _ _ rfl
  have hlt0 : y0.heap.size < (y0.alloc (.cells #[.slice oa0 4 oc0, .slice ea0 en0 ec0, .int .i64 st0, .slice none 0 0, .int .i64 na0, .int .i64 nb0, .int .i64 nc0] 38)).heap.size := by simp
  have HW2 : Hid (Amb (y0.alloc (.cells #[.slice oa0 4 oc0, .slice ea0 en0 ec0, .int .i64 st0, .slice none 0 0, .int .i64 na0, .int .i64 nb0, .int .i64 nc0] 38)) ∧ Below w.heap.size w (y0.alloc (.cells #[.slice oa0 4 oc0, .slice ea0 en0 ec0, .int .i64 st0, .slice none 0 0, .int .i64 na0, .int .i64 nb0, .int .i64 nc0] 38))) := ⟨S.keep _ _ HW1.out.1 hBB, HW1.out.2.trans (hBB.mono HW1.out.2.size)⟩
  have HLa := Lib.hid (HLa.out.below hBB)
  go_upto_region 3 with fail
  clear hO hBy hBz hBB hW0x hrun HW1
  generalize y0.alloc (.cells #[.slice oa0 4 oc0, .slice ea0 en0 ec0, .int .i64 st0, .slice none 0 0, .int .i64 na0, .int .i64 nb0, .int .i64 nc0] 38) = W2 at HW2 HLa HR0 d0 hlt0 ⊢
  have cc := Lib.run_convert_bytes_const (P := Tryz.prog) W2 23 5 #[.int .u8 97, .int .u8 49, .int .u8 98, .int .u8 50] 4 4 Tryz.underlying23 Tryz.underlying5
  go_wp2_with fail
  refine (lim_c _).mono ?_
  rintro e x1 ⟨rfl, hBx⟩
  clear cc
  obtain ⟨t1, ht1, hto1⟩ := Option.map_eq_some_iff.1 ex_b
  have hW1x : Below W2.heap.size W2 x1 := (((Below.refl _ W2).alloc (Nat.le_refl _) _).alloc (by simp) _).trans (hBx.mono (by simp; omega))
  have hrun := tr_c S (.slice (some ⟨W2.heap.size + 1, 0, none⟩) 2 2) (.slice (some ⟨W2.heap.size, 0, none⟩) 4 4) exB [97, 49, 98, 50] 3 9 9 t1 x1 (S.keep _ _ HW2.out.1 hW1x) (strs_lit2 (w := W2) (o := .cells (u8s [97, 49, 98, 50]).toArray 5 (4, 5)) (ss := exB) hBx (by decide)) (by_lit (w := W2) (bs := [97, 49, 98, 50]) (fz := (4, 5)) hBx (by decide)) (by decide) (by decide) (by decide) (by decide) limOk ht1 pl_b
  rw [hto1] at hrun
  clear hBx ht1 hto1
  go_wp2_with fail
  refine hrun.mono ?_
  rintro e y1 ⟨ov, ea1, en1, ec1, st1, na1, nb1, nc1, rfl, hO, hBy⟩
  unfold resT
  obtain ⟨oa1, oc1, rfl⟩ := own_slice2 hO
  have hBz : Below y1.heap.size y1 (y1.alloc (.cells #[.slice oa1 2 oc1, .slice ea1 en1 ec1, .int .i64 st1, .slice none 0 0, .int .i64 na1, .int .i64 nb1, .int .i64 nc1] 38)) := (Below.refl _ _).alloc (Nat.le_refl _) _
  have hBB : Below W2.heap.size W2 (y1.alloc (.cells #[.slice oa1 2 oc1, .slice ea1 en1 ec1, .int .i64 st1, .slice none 0 0, .int .i64 na1, .int .i64 nb1, .int .i64 nc1] 38)) := (hW1x.trans (hBy.mono hW1x.size)).trans (hBz.mono (Nat.le_trans hW1x.size hBy.size))
  have HR1 : Hid (ByAt (y1.alloc (.cells #[.slice oa1 2 oc1, .slice ea1 en1 ec1, .int .i64 st1, .slice none 0 0, .int .i64 na1, .int .i64 nb1, .int .i64 nc1] 38)) (.slice oa1 2 oc1) [97, 98]) := (row_by hO).below hBz
  have d1 : (y1.alloc (.cells #[.slice oa1 2 oc1, .slice ea1 en1 ec1, .int .i64 st1, .slice none 0 0, .int .i64 na1, .int .i64 nb1, .int .i64 nc1] 38)).cell? ⟨y1.heap.size, 0, none⟩ = some (.slice oa1 2 oc1) := cell_new0 _ _ _ rfl
  have hlt1 : y1.heap.size < (y1.alloc (.cells #[.slice oa1 2 oc1, .slice ea1 en1 ec1, .int .i64 st1, .slice none 0 0, .int .i64 na1, .int .i64 nb1, .int .i64 nc1] 38)).heap.size := by simp
  have HW3 : Hid (Amb (y1.alloc (.cells #[.slice oa1 2 oc1, .slice ea1 en1 ec1, .int .i64 st1, .slice none 0 0, .int .i64 na1, .int .i64 nb1, .int .i64 nc1] 38)) ∧ Below w.heap.size w (y1.alloc (.cells #[.slice oa1 2 oc1, .slice ea1 en1 ec1, .int .i64 st1, .slice none 0 0, .int .i64 na1, .int .i64 nb1, .int .i64 nc1] 38))) := ⟨S.keep _ _ HW2.out.1 hBB, HW2.out.2.trans (hBB.mono HW2.out.2.size)⟩
  have HLa := Lib.hid (HLa.out.below hBB)
  have HR0 := Lib.hid (HR0.out.below hBB)
  have d0 := (hBB.cell (p := ⟨y0.heap.size, 0, none⟩) hlt0).trans d0
  have hlt0 := Nat.lt_of_lt_of_le hlt0 hBB.size
  go_upto_region 4 with fail
  clear hO hBy hBz hBB hW1x hrun HW2
  generalize y1.alloc (.cells #[.slice oa1 2 oc1, .slice ea1 en1 ec1, .int .i64 st1, .slice none 0 0, .int .i64 na1, .int .i64 nb1, .int .i64 nc1] 38) = W3 at HW3 HLa HR0 HR1 d0 d1 hlt0 hlt1 ⊢
  have cc := Lib.run_convert_bytes_const (P := Tryz.prog) W3 23 5 #[.int .u8 97, .int .u8 97, .int .u8 98, .int .u8 97, .int .u8 97] 5 5 Tryz.underlying23 Tryz.underlying5
  go_wp2_with fail
  refine (lim_c _).mono ?_
  rintro e x2 ⟨rfl, hBx⟩
  clear cc
  obtain ⟨t2, ht2, hto2⟩ := Option.map_eq_some_iff.1 ex_c
  have hW2x : Below W3.heap.size W3 x2 := (((Below.refl _ W3).alloc (Nat.le_refl _) _).alloc (by simp) _).trans (hBx.mono (by simp; omega))
  have hrun := tr_c S (.slice (some ⟨W3.heap.size + 1, 0, none⟩) 2 2) (.slice (some ⟨W3.heap.size, 0, none⟩) 5 5) exC [97, 97, 98, 97, 97] 3 9 9 t2 x2 (S.keep _ _ HW3.out.1 hW2x) (strs_lit2 (w := W3) (o := .cells (u8s [97, 97, 98, 97, 97]).toArray 5 (5, 6)) (ss := exC) hBx (by decide)) (by_lit (w := W3) (bs := [97, 97, 98, 97, 97]) (fz := (5, 6)) hBx (by decide)) (by decide) (by decide) (by decide) (by decide) limOk ht2 pl_c
  rw [hto2] at hrun
  clear hBx ht2 hto2
  go_wp2_with fail
  refine hrun.mono ?_
  rintro e y2 ⟨ov, ea2, en2, ec2, st2, na2, nb2, nc2, rfl, hO, hBy⟩
  unfold resT
  obtain ⟨oa2, oc2, rfl⟩ := own_slice2 hO
  have hBz : Below y2.heap.size y2 (y2.alloc (.cells #[.slice oa2 3 oc2, .slice ea2 en2 ec2, .int .i64 st2, .slice none 0 0, .int .i64 na2, .int .i64 nb2, .int .i64 nc2] 38)) := (Below.refl _ _).alloc (Nat.le_refl _) _
  have hBB : Below W3.heap.size W3 (y2.alloc (.cells #[.slice oa2 3 oc2, .slice ea2 en2 ec2, .int .i64 st2, .slice none 0 0, .int .i64 na2, .int .i64 nb2, .int .i64 nc2] 38)) := (hW2x.trans (hBy.mono hW2x.size)).trans (hBz.mono (Nat.le_trans hW2x.size hBy.size))
  have HR2 : Hid (ByAt (y2.alloc (.cells #[.slice oa2 3 oc2, .slice ea2 en2 ec2, .int .i64 st2, .slice none 0 0, .int .i64 na2, .int .i64 nb2, .int .i64 nc2] 38)) (.slice oa2 3 oc2) [97, 98, 97]) := (row_by hO).below hBz
  have d2 : (y2.alloc (.cells #[.slice oa2 3 oc2, .slice ea2 en2 ec2, .int .i64 st2, .slice none 0 0, .int .i64 na2, .int .i64 nb2, .int .i64 nc2] 38)).cell? ⟨y2.heap.size, 0, none⟩ = some (.slice oa2 3 oc2) := cell_new0 _ _ _ rfl
  have hlt2 : y2.heap.size < (y2.alloc (.cells #[.slice oa2 3 oc2, .slice ea2 en2 ec2, .int .i64 st2, .slice none 0 0, .int .i64 na2, .int .i64 nb2, .int .i64 nc2] 38)).heap.size := by simp
  have HW4 : Hid (Amb (y2.alloc (.cells #[.slice oa2 3 oc2, .slice ea2 en2 ec2, .int .i64 st2, .slice none 0 0, .int .i64 na2, .int .i64 nb2, .int .i64 nc2] 38)) ∧ Below w.heap.size w (y2.alloc (.cells #[.slice oa2 3 oc2, .slice ea2 en2 ec2, .int .i64 st2, .slice none 0 0, .int .i64 na2, .int .i64 nb2, .int .i64 nc2] 38))) := ⟨S.keep _ _ HW3.out.1 hBB, HW3.out.2.trans (hBB.mono HW3.out.2.size)⟩
  have HLa := Lib.hid (HLa.out.below hBB)
  have HR0 := Lib.hid (HR0.out.below hBB)
  have HR1 := Lib.hid (HR1.out.below hBB)
  have d0 := (hBB.cell (p := ⟨y0.heap.size, 0, none⟩) hlt0).trans d0
  have hlt0 := Nat.lt_of_lt_of_le hlt0 hBB.size
  have d1 := (hBB.cell (p := ⟨y1.heap.size, 0, none⟩) hlt1).trans d1
  have hlt1 := Nat.lt_of_lt_of_le hlt1 hBB.size
  go_upto_region 5 with fail
  clear hO hBy hBz hBB hW2x hrun HW3
  generalize y2.alloc (.cells #[.slice oa2 3 oc2, .slice ea2 en2 ec2, .int .i64 st2, .slice none 0 0, .int .i64 na2, .int .i64 nb2, .int .i64 nc2] 38) = W4 at HW4 HLa HR0 HR1 HR2 d0 d1 d2 hlt0 hlt1 hlt2 ⊢
  have cc := Lib.run_convert_bytes_const (P := Tryz.prog) W4 23 5 #[.int .u8 97, .int .u8 98, .int .u8 32, .int .u8 32, .int .u8 99, .int .u8 49] 6 6 Tryz.underlying23 Tryz.underlying5
  go_wp2_with fail
  refine (lim_c _).mono ?_
  rintro e x3 ⟨rfl, hBx⟩
  clear cc
  obtain ⟨t3, ht3, hto3⟩ := Option.map_eq_some_iff.1 ex_d
  have hW3x : Below W4.heap.size W4 x3 := (((Below.refl _ W4).alloc (Nat.le_refl _) _).alloc (by simp) _).trans (hBx.mono (by simp; omega))
  have hrun := tr_c S (.slice (some ⟨W4.heap.size + 1, 0, none⟩) 3 3) (.slice (some ⟨W4.heap.size, 0, none⟩) 6 6) exD [97, 98, 32, 32, 99, 49] 3 9 9 t3 x3 (S.keep _ _ HW4.out.1 hW3x) (strs_lit2 (w := W4) (o := .cells (u8s [97, 98, 32, 32, 99, 49]).toArray 5 (6, 7)) (ss := exD) hBx (by decide)) (by_lit (w := W4) (bs := [97, 98, 32, 32, 99, 49]) (fz := (6, 7)) hBx (by decide)) (by decide) (by decide) (by decide) (by decide) limOk ht3 pl_d
  rw [hto3] at hrun
  clear hBx ht3 hto3
  go_wp2_with fail
  refine hrun.mono ?_
  rintro e y3 ⟨ov, ea3, en3, ec3, st3, na3, nb3, nc3, rfl, hO, hBy⟩
  unfold resT
  obtain ⟨oa3, oc3, rfl⟩ := own_slice2 hO
  have hBz : Below y3.heap.size y3 (y3.alloc (.cells #[.slice oa3 5 oc3, .slice ea3 en3 ec3, .int .i64 st3, .slice none 0 0, .int .i64 na3, .int .i64 nb3, .int .i64 nc3] 38)) := (Below.refl _ _).alloc (Nat.le_refl _) _
  have hBB : Below W4.heap.size W4 (y3.alloc (.cells #[.slice oa3 5 oc3, .slice ea3 en3 ec3, .int .i64 st3, .slice none 0 0, .int .i64 na3, .int .i64 nb3, .int .i64 nc3] 38)) := (hW3x.trans (hBy.mono hW3x.size)).trans (hBz.mono (Nat.le_trans hW3x.size hBy.size))
  have HR3 : Hid (ByAt (y3.alloc (.cells #[.slice oa3 5 oc3, .slice ea3 en3 ec3, .int .i64 st3, .slice none 0 0, .int .i64 na3, .int .i64 nb3, .int .i64 nc3] 38)) (.slice oa3 5 oc3) [97, 98, 10, 99, 10]) := (row_by hO).below hBz
  have d3 : (y3.alloc (.cells #[.slice oa3 5 oc3, .slice ea3 en3 ec3, .int .i64 st3, .slice none 0 0, .int .i64 na3, .int .i64 nb3, .int .i64 nc3] 38)).cell? ⟨y3.heap.size, 0, none⟩ = some (.slice oa3 5 oc3) := cell_new0 _ _ _ rfl
  have hlt3 : y3.heap.size < (y3.alloc (.cells #[.slice oa3 5 oc3, .slice ea3 en3 ec3, .int .i64 st3, .slice none 0 0, .int .i64 na3, .int .i64 nb3, .int .i64 nc3] 38)).heap.size := by simp
  have HW5 : Hid (Amb (y3.alloc (.cells #[.slice oa3 5 oc3, .slice ea3 en3 ec3, .int .i64 st3, .slice none 0 0, .int .i64 na3, .int .i64 nb3, .int .i64 nc3] 38)) ∧ Below w.heap.size w (y3.alloc (.cells #[.slice oa3 5 oc3, .slice ea3 en3 ec3, .int .i64 st3, .slice none 0 0, .int .i64 na3, .int .i64 nb3, .int .i64 nc3] 38))) := ⟨S.keep _ _ HW4.out.1 hBB, HW4.out.2.trans (hBB.mono HW4.out.2.size)⟩
  have HLa := Lib.hid (HLa.out.below hBB)
  have HR0 := Lib.hid (HR0.out.below hBB)
  have HR1 := Lib.hid (HR1.out.below hBB)
  have HR2 := Lib.hid (HR2.out.below hBB)
  have d0 := (hBB.cell (p := ⟨y0.heap.size, 0, none⟩) hlt0).trans d0
  have hlt0 := Nat.lt_of_lt_of_le hlt0 hBB.size
  have d1 := (hBB.cell (p := ⟨y1.heap.size, 0, none⟩) hlt1).trans d1
  have hlt1 := Nat.lt_of_lt_of_le hlt1 hBB.size
  have d2 := (hBB.cell (p := ⟨y2.heap.size, 0, none⟩) hlt2).trans d2
  have hlt2 := Nat.lt_of_lt_of_le hlt2 hBB.size
  go_upto_region 6 with fail
  clear hO hBy hBz hBB hW3x hrun HW4
  generalize y3.alloc (.cells #[.slice oa3 5 oc3, .slice ea3 en3 ec3, .int .i64 st3, .slice none 0 0, .int .i64 na3, .int .i64 nb3, .int .i64 nc3] 38) = W5 at HW5 HLa HR0 HR1 HR2 HR3 d0 d1 d2 d3 hlt0 hlt1 hlt2 hlt3 ⊢
  have s0 := str_by HLa.out
  have s1 := str_by HR0.out
  have s2 := str_by HR1.out
  have s3 := str_by HR2.out
  have s4 := str_by HR3.out
  go_wp2_with fail
  go_ret
  exact ⟨rfl, HW5.out.2⟩
end Go.Proofs.YtfkoehfkiommpaaGreatDoor.Tr

namespace Go.Proofs.YtfkoehfkiommpaaGreatDoor.Tr
open Go.Proofs.YtfkoehfkiommpaaGreatDoor.Op
open Go.RowKit

set_option maxHeartbeats 4000000 in
set_option maxRecDepth 100000 in
theorem sets_law {Amb : World → Prop} (S : Says Amb) (s : ByteArray) (w : World) (hA : Amb w) (hs : s.size ≤ 1048576) :
    Calls Tryz.prog 3 #[.string s] w fun e w' => e = .returned (.bool true) ∧ Below w.heap.size w w' := by
  have haw := awake_c S w hA
  have hset := fun u (hu : Amb u) => S.set s u hu hs
  have href := fun u => refSet_c s u (by omega)
  have hk := S.keep
  generalize setS s.data.toList = R at hset href
  obtain ⟨o, r, b⟩ := R
  simp only at hset href
  clear S
  go_enter Tryz.func3, Tryz.ntmps3
  go_wp2_with (first
    | (go_at_call 6; refine haw.mono ?_; rintro e w1 ⟨rfl, hB1⟩; have hA1 := hk _ _ hA hB1; have hset1 := hset w1 hA1; clear haw hset)
    | (go_at_call 7; refine hset1.mono ?_; rintro e w2 ⟨v2, rfl, hO2, hB2⟩; obtain ⟨a2, c2, rfl⟩ := hO2.shape; have href2 := href w2; clear hset1 href)
    | (go_at_call 8; refine href2.mono ?_; rintro e w3 ⟨v3, rfl, hO3, hB3⟩; obtain ⟨a3, c3, rfl⟩ := hO3.shape; have s2 := str_by (hO2.below hB3); have s3 := str_by hO3; have HB : Hid (Below w.heap.size w w3) := (hB1.trans (hB2.mono hB1.size)).trans (hB3.mono (Nat.le_trans hB1.size hB2.size)); clear href2 hO2 hO3 hB1 hB2 hB3))
  go_ret
  exact ⟨by simp, HB.out⟩

theorem row_cell {W : World} {B : Nat} {x : Option Addr} {n cap : Nat} {l : List UInt8} (h : Row W B (.slice x n cap) l) (hn : n = l.length) {j : Nat} (hj : j < l.length) : ∃ g, x = some ⟨g, 0, none⟩ ∧ W.cell? ⟨g, j, none⟩ = some (.int .u8 ((l[j]?.getD 0).toNat : Int)) := by
  subst hn
  obtain ⟨g, rfl⟩ := own_some2 h (by omega)
  refine ⟨g, rfl, ?_⟩
  rw [own_cell2 h j (by omega)]
  simp [u8s, hj]
theorem ByAt.some {w : World} {a : Option Addr} {n c : Nat} {d : List UInt8} (h : ByAt w (.slice a n c) d) (h0 : 0 < d.length) : ∃ b off, a = some ⟨b, off, none⟩ ∧ b < w.heap.size ∧ ∀ j, j < d.length → w.cell? ⟨b, off + j, none⟩ = some (.int .u8 ((d[j]?.getD 0).toNat : Int)) := by
  rcases h with ⟨_, rfl⟩ | ⟨b, off, cap, h1, h2, h3, h4⟩
  · simp at h0
  · cases h1
    exact ⟨b, off, rfl, h3, h4⟩
theorem dist_at {b : List UInt8} {k m : Nat} {out : List UInt8} (h : k < b.length) (hm : out.length < m) : distN m (b.drop k) out = distN m (b.drop (k + 1)) (if b[k]?.getD 0 ∈ out then out else out ++ [b[k]?.getD 0]) := by
  rw [List.drop_eq_getElem_cons h, distN, if_pos hm]
  simp [h]
theorem dist_full {m : Nat} {l out : List UInt8} (h : ¬ out.length < m) : distN m l out = out := by
  cases l with
  | nil => rfl
  | cons c r => rw [distN, if_neg h]

set_option maxHeartbeats 4000000 in
set_option maxRecDepth 100000 in
theorem distinct_c (v : Value) (b : List UInt8) (m : Nat) (w : World) (hb : b.length ≤ 2097152) (hm : m ≤ 999) (hB : ByAt w v b) :
    Calls Tryz.prog 9 #[v, .int .i64 (m : Int)] w fun e w' => ∃ ov, e = .returned ov ∧ Row w' w.heap.size ov (distS b m) ∧ Below w.heap.size w w' := by
  obtain ⟨i0, hi, hz0, hz1, hz2⟩ := info_parts2 info_u8
  obtain ⟨x, cp, rfl⟩ := hB.shape
  have HB := Lib.hid hB
  have HD := Lib.hid (show distS b m = distN m (b.drop 0) [] by rw [List.drop_zero]; rfl)
  generalize distS b m = R at HD ⊢
  clear hB
  generalize hn : b.length = n at hb ⊢
  have HN := Lib.hid hn
  clear hn
  go_enter Tryz.func9, Tryz.ntmps9
  go_wp2_with fail
  go_loopw [5, 6] (fun ov iv wr => ∃ (k : Nat) (q : List UInt8), k ≤ n ∧ iv = .int .i64 k ∧ q.length ≤ 999 ∧ Hid (R = distN m (b.drop k) q) ∧ Hid (Row wr w.heap.size ov q) ∧ Below w.heap.size w wr) (fun _ iv _ => n - (intOf iv).toNat)
  case atStart => exact ⟨0, [], by omega, rfl, by simp, HD, World.ownsRow_nil _ _ _ _, Below.refl _ _⟩
  case round =>
    obtain ⟨k, q, hk, rfl, hq, HQ, HO, hbl⟩ := hrel
    clear HD
    obtain ⟨oa, oc, rfl⟩ := own_slice2 HO.out
    by_cases hlt : k < n
    · by_cases hqm : q.length < m
      · obtain ⟨bb, off, rfl, hbb, hc⟩ := HB.out.some (by rw [HN.out]; omega)
        have hcx : wr.cell? ⟨bb, off + k, none⟩ = some (.int .u8 ((b[k]?.getD 0).toNat : Int)) := (hbl.cell (p := ⟨bb, off + k, none⟩) hbb).trans (hc k (by rw [HN.out]; exact hlt))
        have HS := Lib.hid (dist_at (b := b) (k := k) (m := m) (out := q) (by rw [HN.out]; exact hlt) hqm)
        rw [← HQ.out] at HS
        generalize b[k]?.getD 0 = c at hcx HS
        clear hc HQ
        have p1 : (k : Int) < (n : Int) := by omega
        have p2 : (q.length : Int) < (m : Int) := by omega
        have HOd := Lib.hid hcx
        clear hcx
        have hcl : bb < wr.heap.size := Nat.lt_of_lt_of_le hbb hbl.size
        go_wp2_with fail
        go_loopw [7, 8] (fun tv jv wr2 => ∃ (j : Nat), j ≤ q.length ∧ jv = .int .i64 j ∧ tv = .bool (decide (c ∈ q.take j)) ∧ Hid (Below wr.heap.size wr wr2)) (fun _ jv _ => q.length - (intOf jv).toNat)
        case atStart => exact ⟨0, by omega, rfl, by simp, (show Below _ _ _ from Below.refl _ _)⟩
        case round =>
          obtain ⟨j, hj, rfl, rfl, HW⟩ := hrel
          have hcx : wr.cell? ⟨bb, off + k, none⟩ = some (.int .u8 (c.toNat : Int)) := (HW.out.cell (p := ⟨bb, off + k, none⟩) hcl).trans HOd.out
          have HOw := Lib.hid (row_turn HO.out HW.out)
          by_cases hjq : j < q.length
          · obtain ⟨g, rfl, hcj⟩ := row_cell HOw.out rfl hjq
            have p3 : (j : Int) < (q.length : Int) := by omega
            have HT : Hid (decide (c ∈ q.take (j + 1)) = (decide (c ∈ q.take j) || decide (q[j]?.getD 0 = c))) := by
              show _ = _
              have e : c ∈ q.take (j + 1) ↔ c ∈ q.take j ∨ q[j]?.getD 0 = c := by
                rw [List.take_succ_eq_append_getElem hjq, List.mem_append, List.mem_singleton, List.getElem?_eq_getElem hjq]
                exact ⟨fun h => h.imp id Eq.symm, fun h => h.imp id Eq.symm⟩
              rw [Bool.eq_iff_iff, Bool.or_eq_true, decide_eq_true_eq, decide_eq_true_eq, decide_eq_true_eq]
              exact e
            generalize q[j]?.getD 0 = z at hcj HT
            cases htw : decide (c ∈ q.take j) with
            | true =>
              rw [htw, Bool.true_or] at HT
              go_wp2_with fail
              go_quiet (fail)
              go_wp2_with fail
              exact ⟨⟨j + 1, by omega, by go_num, by rw [HT.out], HW.out.trans below_drewN⟩, by simp [intOf]; omega⟩
            | false =>
              rw [htw, Bool.false_or] at HT
              by_cases hz : z = c
              · have e1 : ((z.toNat : Int) == (c.toNat : Int)) = true := by rw [u8_beq]; simpa using hz
                rw [decide_eq_true hz] at HT
                clear hz
                go_wp2_with fail
                go_quiet (fail)
                go_wp2_with fail
                exact ⟨⟨j + 1, by omega, by go_num, by rw [HT.out], HW.out.trans below_drewN⟩, by simp [intOf]; omega⟩
              · have e1 : ((z.toNat : Int) == (c.toNat : Int)) = false := by rw [u8_beq]; simpa using hz
                rw [decide_eq_false hz] at HT
                clear hz
                go_wp2_with fail
                go_quiet (fail)
                go_wp2_with fail
                exact ⟨⟨j + 1, by omega, by go_num, by rw [HT.out], HW.out.trans below_drewN⟩, by simp [intOf]; omega⟩
          · have hjj : j = q.length := by omega
            subst hjj
            have p3 : ¬ (q.length : Int) < (q.length : Int) := by omega
            have hBw := hbl.trans (HW.out.mono hbl.size)
            rw [List.take_length]
            clear HW HOd HO
            cases htw : decide (c ∈ q) with
            | true =>
              have hR : Hid (R = distN m (b.drop (k + 1)) q) := by show R = _; rw [HS.out, if_pos (of_decide_eq_true htw)]
              clear HS
              go_wp2_with fail
              exact ⟨⟨k + 1, q, by omega, by go_num, hq, hR, HOw, hBw⟩, by simp [intOf]; omega⟩
            | false =>
              have hR : Hid (R = distN m (b.drop (k + 1)) (q ++ [c])) := by show R = _; rw [HS.out, if_neg (of_decide_eq_false htw)]
              clear HS
              go_wp2_with (at_builtin; refine wpList_append_own _ rfl _ _ 23 rfl w.heap.size 5 i0 (.int .u8 0) 1 1 Tryz.underlying23 hi hz0 hz1 hz2 rfl (by decide) _ _ _ rfl (HOw.out.alloc _) ⟨wr.heap.size, 0, none⟩ 1 1 [.int .u8 (c.toNat : Int)] rfl rfl (cell_one_new _ _ _) (by simp [Value.oneCell']) (by unfold maxLen; omega) (by omega) (by have := hBw.size; simp; omega) ?_; intro v2 w2 hown2 hgrow2 _; obtain ⟨xa, ca, rfl⟩ := own_slice2 hown2)
              refine ⟨⟨k + 1, q ++ [c], by omega, by go_num, by simp; omega, hR, ?_, ?_⟩, by simp [intOf]; omega⟩
              · show w2.ownsRow _ _ _ _ _ _
                rw [u8s_snoc, List.length_append]
                exact hown2
              · exact (hBw.alloc hBw.size _).grown hgrow2 (by have := hBw.size; simp; omega) (fun j ej => own_ge2 HOw.out j ej)
      · have p1 : (k : Int) < (n : Int) := by omega
        have p2 : ¬ (q.length : Int) < (m : Int) := by omega
        have HR : Hid (R = q) := HQ.out.trans (dist_full hqm)
        go_wp2_with fail
        go_ret
        exact ⟨_, rfl, by rw [HR.out]; exact HO.out, hbl⟩
    · have p1 : ¬ (k : Int) < (n : Int) := by omega
      have HR : Hid (R = q) := by show R = q; rw [HQ.out, List.drop_eq_nil_of_le (by rw [HN.out]; omega)]; rfl
      go_wp2_with fail
      go_ret
      exact ⟨_, rfl, by rw [HR.out]; exact HO.out, hbl⟩
end Go.Proofs.YtfkoehfkiommpaaGreatDoor.Tr

namespace Go.Proofs.YtfkoehfkiommpaaGreatDoor.Tr
open Go.Proofs.YtfkoehfkiommpaaGreatDoor.Op
open Go.RowKit

theorem code_natN : ∀ n, n < 256 → (48 + UInt8.ofNat n / 64).toNat = 48 + n / 64 ∧ (48 + UInt8.ofNat n / 8 % 8).toNat = 48 + n / 8 % 8 ∧ (48 + UInt8.ofNat n % 8).toNat = 48 + n % 8 := by decide +kernel
theorem code_nat (c : UInt8) : (48 + c / 64).toNat = 48 + c.toNat / 64 ∧ (48 + c / 8 % 8).toNat = 48 + c.toNat / 8 % 8 ∧ (48 + c % 8).toNat = 48 + c.toNat % 8 := by
  have h := code_natN c.toNat (UInt8.toNat_lt c)
  rwa [UInt8.ofNat_toNat] at h
theorem codeL_snoc (l : List UInt8) (k : Nat) (h : k < l.length) : codeL (l.take (k + 1)) = codeL (l.take k) ++ code1 (l[k]?.getD 0) := by
  rw [List.take_succ_eq_append_getElem h]
  unfold codeL
  rw [List.flatMap_append, List.getElem?_eq_getElem h]
  simp
theorem cat_list (a b : List UInt8) : Value.string (⟨a.toArray⟩ ++ ⟨b.toArray⟩) = .string ⟨(a ++ b).toArray⟩ := by
  congr 1
theorem arrB_size (l : List UInt8) : (⟨l.toArray⟩ : ByteArray).size = l.length := by rfl
theorem conv_four (w : World) (c : UInt8) (x1 x2 x3 : Int) (h1 : x1 = ((48 + c / 64 : UInt8).toNat : Int)) (h2 : x2 = ((48 + c / 8 % 8 : UInt8).toNat : Int)) (h3 : x3 = ((48 + c % 8 : UInt8).toNat : Int)) :
    (convert 23 9 (.slice (some ⟨w.heap.size, 0, none⟩) 4 4)).run Tryz.prog (w.alloc (.cells #[.int .u8 92, .int .u8 x1, .int .u8 x2, .int .u8 x3] 5)).drew = .ok (.string ⟨(code1 c).toArray⟩) (w.alloc (.cells #[.int .u8 92, .int .u8 x1, .int .u8 x2, .int .u8 x3] 5)).drew := by
  subst h1 h2 h3
  refine run_convert_bytes_back (P := Tryz.prog) _ 23 9 5 ⟨w.heap.size, 0, none⟩ 4 (code1 c) Tryz.underlying23 Tryz.underlying5 Tryz.underlying9 (fun j hj => ?_)
  rw [Addr.add_lit]
  show (w.alloc _).cell? _ = _
  rw [World.cell?_alloc_new]
  have hj : j < 4 := hj
  have : j = 0 ∨ j = 1 ∨ j = 2 ∨ j = 3 := by omega
  rcases this with rfl | rfl | rfl | rfl <;> rfl

set_option maxHeartbeats 4000000 in
set_option maxRecDepth 100000 in
theorem coded_c (v : Value) (b : List UInt8) (w : World) (hb : b.length ≤ 1000) (hB : ByAt w v b) :
    Calls Tryz.prog 12 #[v] w fun e w' => e = .returned (.string ⟨(codeL b).toArray⟩) ∧ Below w.heap.size w w' := by
  obtain ⟨x, cp, rfl⟩ := hB.shape
  have HB := Lib.hid hB
  clear hB
  generalize hn : b.length = n at hb ⊢
  have HN := Lib.hid hn
  clear hn
  go_enter Tryz.func12, Tryz.ntmps12
  go_wp2_with fail
  go_loopw [3, 4] (fun sv iv wr => ∃ (k : Nat) (l : List UInt8), k ≤ n ∧ iv = .int .i64 k ∧ sv = .string ⟨l.toArray⟩ ∧ l.length ≤ 4 * k ∧ Hid (l = codeL (b.take k)) ∧ Below w.heap.size w wr) (fun _ iv _ => n - (intOf iv).toNat)
  case atStart => exact ⟨0, [], by omega, rfl, rfl, by simp, (show [] = _ from by simp [codeL]), Below.refl _ _⟩
  case round =>
    obtain ⟨k, l, hk, rfl, rfl, hl, HL, hbl⟩ := hrel
    by_cases hlt : k < n
    · obtain ⟨bb, off, rfl, hbb, hc⟩ := HB.out.some (by rw [HN.out]; omega)
      have hcx : wr.cell? ⟨bb, off + k, none⟩ = some (.int .u8 ((b[k]?.getD 0).toNat : Int)) := (hbl.cell (p := ⟨bb, off + k, none⟩) hbb).trans (hc k (by rw [HN.out]; exact hlt))
      have HS := Lib.hid (codeL_snoc b k (by rw [HN.out]; exact hlt))
      rw [← HL.out] at HS
      generalize b[k]?.getD 0 = c at hcx HS
      clear hc HL
      have hcn := c.toNat_lt
      obtain ⟨m1, m2, m3⟩ := code_nat c
      have p1 : (k : Int) < (n : Int) := by omega
      have hsz := arrB_size l
      have hcv := conv_four wr c (48 + (c.toNat : Int) / 64) (48 + (c.toNat : Int) / 8 % 8) (48 + (c.toNat : Int) % 8) (by omega) (by omega) (by omega)
      have h4 : (code1 c).length = 4 := rfl
      have h44 : (⟨(code1 c).toArray⟩ : ByteArray).size = 4 := rfl
      have h5 : l.length ≤ 4000 := by omega
      have h6 : (⟨l.toArray⟩ : ByteArray).size ≤ 4000 := h5
      go_wp2_with fail
      go_region
      all_goals
        try simp only [Act.put, List.getElem_toArray, List.getElem_cons_succ, List.getElem_cons_zero, List.setIfInBounds_toArray, List.set_cons_succ, List.set_cons_zero]
        go_wp2_with fail
        exact ⟨⟨k + 1, l ++ code1 c, by omega, by go_num, (by first | rfl | exact cat_list l (code1 c)), by rw [List.length_append, show (code1 c).length = 4 from rfl]; omega, HS.out.symm, below_drew (hbl.alloc hbl.size _)⟩, by simp [intOf]; omega⟩
    · have p1 : ¬ (k : Int) < (n : Int) := by omega
      have HR : Hid (l = codeL b) := by show l = _; rw [HL.out, List.take_of_length_le (by rw [HN.out]; omega)]
      go_wp2_with fail
      go_ret
      exact ⟨by rw [HR.out]; rfl, hbl⟩
end Go.Proofs.YtfkoehfkiommpaaGreatDoor.Tr
