/- The law TransBack. -/
import Derived.Deep.DeepCutAuto
import Derived.Deep.RegionHeld3
import Derived.Test.YtfkoehfkiommpaaGreatDoorZApart
namespace Go.Proofs.YtfkoehfkiommpaaGreatDoor.Tr
open Go.Proofs.YtfkoehfkiommpaaGreatDoor.Op
open Go.RowKit

theorem newsB_by {w : World} {b off : Nat} {d : List UInt8} (h : ∀ j, j < d.length → w.cell? ⟨b, off + j, none⟩ = some (.int .u8 ((d[j]?.getD 0).toNat : Int))) : ∀ j u, (u8s d)[j]? = some u → w.cell? ((⟨b, off, none⟩ : Addr).add j) = some u := by
  intro j u hu
  have hj : j < d.length := by have := (List.getElem?_eq_some_iff.1 hu).1; simpa [u8s] using this
  rw [Addr.add_lit, h j hj, ← hu]
  simp [u8s, hj]
theorem u8sB_one (l : List UInt8) : ∀ u ∈ u8s l, u.oneCell' = true := by
  intro u hu
  simp only [u8s, List.mem_map] at hu
  obtain ⟨s, _, rfl⟩ := hu
  rfl
theorem grown_none {w w2 : World} (h : w.grownBy w2 none) : Below w.heap.size w w2 := ⟨h.os, h.tape, h.output, h.size, fun k hk => h.block k hk (by simp)⟩
theorem by_take {w : World} {a : Option Addr} {n c : Nat} {l : List UInt8} (h : ByAt w (.slice a n c) l) (hn : n = l.length) (m : Nat) (hm : m ≤ l.length) : ByAt w (.slice a m c) (l.take m) ∨ m = 0 := by
  rcases h with ⟨_, rfl⟩ | ⟨b, off, cap, h1, h2, h3, h4⟩
  · right; simpa using hm
  · cases h1
    left
    refine .inr ⟨b, off, c, by rw [List.length_take, Nat.min_eq_left hm], ⟨by rw [List.length_take]; omega, h2.2⟩, h3, fun j hj => ?_⟩
    rw [List.length_take] at hj
    rw [h4 j (by omega), List.getElem?_take, if_pos (by omega)]
theorem beq_len (a b : Nat) (p : Prop) [Decidable p] (h : a = b ↔ p) : ((a : Int) == (b : Int)) = decide p := by
  rw [Bool.eq_iff_iff, beq_iff_eq, decide_eq_true_eq, ← h]
  omega

theorem tot_two2 (a b : ByteArray) (ha : a.size ≤ 1024) (hb : b.size ≤ 1024) : tot [a, b] ≤ 4096 := by
  rw [tot_cons, tot_cons]
  show a.size + (b.size + 0) ≤ 4096
  omega
theorem below_undrew2 {w w2 : World} {o : Obj} (h : Below (w.drew.alloc o).heap.size (w.drew.alloc o) w2) : Below w.heap.size w w2 :=
  ((below_drew (Below.refl w.heap.size w)).alloc (Nat.le_refl _) o).trans (h.mono (by simp))
theorem one_at {w : World} {b : Nat} {v : Value} (h : w.cell? ⟨b, 0, none⟩ = some v) : ∀ j u, [v][j]? = some u → w.cell? ((⟨b, 0, none⟩ : Addr).add j) = some u := by
  intro j u hu
  have hj : j = 0 := by
    rcases j with _ | j
    · rfl
    · simp at hu
  subst hj
  rw [Addr.add_lit, Nat.add_zero, h]
  simpa using hu
theorem take_all {l : List UInt8} {k : Nat} {p : UInt8 → Prop} (hk : k < l.length) (h : ∀ b ∈ l.take k, p b) : p (l[k]?.getD 0) → ∀ b ∈ l.take (k + 1), p b := by
  intro hp b hb
  rw [List.take_succ_eq_append_getElem hk, List.mem_append, List.mem_singleton] at hb
  rcases hb with hb | hb
  · exact h b hb
  · rw [List.getElem?_eq_getElem hk] at hp
    rw [hb]; exact hp

theorem strs_two (w : World) (a b : ByteArray) : StrsAt (w.alloc (.cells #[.string a, .string b] 9)) (.slice (some ⟨w.heap.size, 0, none⟩) 2 2) [a, b] := strs_lit (w := w) (ss := [a, b]) (Below.refl _ _) (by simp)
theorem strs_two1 (w : World) (o : Obj) (a b : ByteArray) : StrsAt ((w.alloc o).alloc (.cells #[.string a, .string b] 9)) (.slice (some ⟨w.heap.size + 1, 0, none⟩) 2 2) [a, b] := strs_lit2 (w := w) (o := o) (ss := [a, b]) (Below.refl _ _) (by simp)
theorem strs_two2 (w : World) (o : Obj) (a b : ByteArray) : StrsAt ((w.alloc (.cells #[.string a, .string b] 9)).alloc o) (.slice (some ⟨w.heap.size, 0, none⟩) 2 2) [a, b] := strs_lit (w := w) (ss := [a, b]) ((Below.refl _ _).alloc (Nat.le_refl _) _) (by simp)
theorem below_stc {w u : World} {B b : Nat} (h : Below B w u) (hb : B ≤ b) (i : Nat) (v : Value) : Below B w (u.setCell ⟨b, i, none⟩ v) := h.setCell (p := ⟨b, i, none⟩) hb _
theorem below_alc {w u : World} (h : Below w.heap.size w u) (o : Obj) : Below w.heap.size w (u.alloc o) := h.alloc h.size o
theorem below_then {w u v : World} (h : Below w.heap.size w u) (h2 : Below u.heap.size u v) : Below w.heap.size w v := h.trans (h2.mono h.size)
theorem keep_ob {u v : World} {b : Nat} {o : Obj} (h : u.heap[b]? = some o) (h2 : Below u.heap.size u v) : v.heap[b]? = some o := (h2.block b (h_lt h)).trans h
theorem al_new2 (w : World) (o o2 : Obj) : ((w.alloc o).alloc o2).heap[w.heap.size + 1]? = some o2 := by
  have := al_new (w.alloc o) o2
  simpa using this
theorem al_cell {w : World} {a : Addr} {v : Value} (o : Obj) (h : w.cell? a = some v) : (w.alloc o).cell? a = some v := by
  have hl : a.block < w.heap.size := World.block_lt_of_cell? w a h
  rw [((Below.refl w.heap.size w).alloc (Nat.le_refl _) o).cell (p := a) hl]
  exact h
set_option maxHeartbeats 8000000 in
set_option maxRecDepth 100000 in
theorem back_law {Amb : World → Prop} (S : Says Amb) (iv av bv : Value) (ins az bz : List UInt8) (l1 l2 l3 : Int) (w : World) (hA : Amb w) (hI : ByAt w iv ins) (hS : ByAt w av az) (hT : ByAt w bv bz) (hin : ins.length ≤ 1048576) (has : az.length ≤ 1048576) (hbs : bz.length ≤ 1048576) :
    Calls Tryz.prog 4 #[iv, av, bv, .agg #[.int .i64 l1, .int .i64 l2, .int .i64 l3]] w fun e w' => e = .returned (.bool true) ∧ Below w.heap.size w w' := by
  obtain ⟨ia, ic, rfl⟩ := hI.shape
  obtain ⟨sa, sc, rfl⟩ := hS.shape
  obtain ⟨ta, tc, rfl⟩ := hT.shape
  have HD := Lib.hid (And.intro (dist_le az) (dist_nodup 256 az [] (by simp)))
  have hB0 : Below w.heap.size w (w.alloc (.cells #[.int .i64 l1, .int .i64 l2, .int .i64 l3] 28)) := (Below.refl _ w).alloc (Nat.le_refl _) _
  have hL := al_new w (.cells #[.int .i64 l1, .int .i64 l2, .int .i64 l3] 28)
  have HA0 := Lib.hid (And.intro (S.keep _ _ hA hB0) (And.intro (hI.below hB0) (And.intro (hS.below hB0) (hT.below hB0))))
  clear hA hI hS hT
  go_enter Tryz.func4, Tryz.ntmps4
  go_wp2_with fail
  generalize w.alloc (.cells #[.int .i64 l1, .int .i64 l2, .int .i64 l3] 28) = W0 at hB0 hL HA0 ⊢
  refine (awake_c S W0 HA0.out.1).mono ?_
  rintro e w1 ⟨rfl, hB1⟩
  go_wp2_with fail
  refine (distinct_c _ az 256 w1 (by omega) (by omega) (HA0.out.2.2.1.below hB1)).mono ?_
  rintro e w2 ⟨dv, rfl, hD2, hB2⟩
  change Hid ((distS az 256).length ≤ 256 ∧ (distS az 256).Nodup) at HD
  generalize distS az 256 = D at HD hD2
  obtain ⟨da, dc, rfl⟩ := own_slice2 hD2
  have hdl := HD.out.1
  have HE := Lib.hid (And.intro (dist_len D.length bz [] (by simp)) (dist_nodup D.length bz [] (by simp)))
  go_wp2_with fail
  refine (distinct_c _ bz D.length w2 (by omega) (by omega) ((HA0.out.2.2.2.below hB1).below hB2)).mono ?_
  rintro e w3 ⟨ev, rfl, hE3, hB3⟩
  change Hid ((distS bz D.length).length ≤ D.length ∧ (distS bz D.length).Nodup) at HE
  generalize distS bz D.length = E at HE hE3
  obtain ⟨ea, ec, rfl⟩ := own_slice2 hE3
  have hel := HE.out.1
  have hB03 : Below W0.heap.size W0 w3 := (hB1.trans (hB2.mono hB1.size)).trans (hB3.mono (Nat.le_trans hB1.size hB2.size))
  have hL3 := (hB03.block w.heap.size (h_lt hL)).trans hL
  have m0 : w3.cell? ⟨w.heap.size, 0, none⟩ = some (.int .i64 l1) := h_cell hL3 0 rfl
  have m1 : w3.cell? ⟨w.heap.size, 1, none⟩ = some (.int .i64 l2) := h_cell hL3 1 rfl
  have m2 : w3.cell? ⟨w.heap.size, 2, none⟩ = some (.int .i64 l3) := h_cell hL3 2 rfl
  have hlb : w.heap.size < w3.heap.size := h_lt hL3
  have hDc : ∃ cap, Value.slice da D.length dc = Value.slice da D.length cap ∧ D.length ≤ dc ∧ dc ≤ 9223372036854775807 := ⟨dc, rfl, by
    rcases hD2.2 with ⟨h, h0⟩ | ⟨g, cap, cur, h, _, _, hle, hcap, _⟩
    · have h1 : D.length = 0 ∧ dc = 0 := by injection h with _ h1 h2; exact ⟨h1, h2⟩
      omega
    · have h1 : dc = cap := by injection h
      unfold maxLen at hcap
      omega⟩
  obtain ⟨_, _, hdc1, hdc2⟩ := hDc
  have HW3 : Hid (Amb w3 ∧ Below w.heap.size w w3 ∧ ByAt w3 (.slice ia ins.length ic) ins ∧ ByAt w3 (.slice da D.length dc) D ∧ ByAt w3 (.slice ea E.length ec) E) := ⟨S.keep _ _ HA0.out.1 hB03, hB0.trans (hB03.mono hB0.size), HA0.out.2.1.below hB03, (row_by hD2).below hB3, row_by hE3⟩
  clear hB1 hB2 hB3 hD2 hE3 hL hL3 hB03 hB0 HA0 has hbs
  obtain ⟨X, hXe⟩ : ∃ X, X = D.take E.length := ⟨_, rfl⟩
  have hXl : X.length = E.length := by rw [hXe, List.length_take]; omega
  have HXN : Hid X.Nodup := by show X.Nodup; rw [hXe]; exact HD.out.2.sublist (List.take_sublist _ _)
  have HXB : Hid (ByAt w3 (.slice da E.length dc) X ∨ E.length = 0) := by rw [hXe]; exact by_take HW3.out.2.2.2.1 rfl E.length hel
  have HEN := Lib.hid HE.out.2
  clear hXe HD HE
  go_upto_region 5 with fail
  go_wp2_with fail
  have hm := may_c (w3.alloc (.cells #[.string ⟨#[116, 114]⟩] 9)) (some ⟨w3.heap.size, 0, none⟩) 1 l1 l2 l3
  have hBm : Below w3.heap.size w3 (w3.alloc (.cells #[.string ⟨#[116, 114]⟩] 9)) := (Below.refl _ _).alloc (Nat.le_refl _) _
  refine hm.mono ?_
  rintro e w4 ⟨rfl, hB4⟩
  have hB34 := hBm.trans (hB4.mono hBm.size)
  have HW4 : Hid (Amb w4 ∧ Below w.heap.size w w4 ∧ ByAt w4 (.slice ia ins.length ic) ins ∧ ByAt w4 (.slice ea E.length ec) E ∧ (ByAt w4 (.slice da E.length dc) X ∨ E.length = 0)) := ⟨S.keep _ _ HW3.out.1 hB34, HW3.out.2.1.trans (hB34.mono (Nat.le_of_lt hlb)), HW3.out.2.2.1.below hB34, HW3.out.2.2.2.2.below hB34, HXB.out.imp (·.below hB34) id⟩
  replace m0 := (hB34.cell (p := ⟨w.heap.size, 0, none⟩) hlb).trans m0
  replace m1 := (hB34.cell (p := ⟨w.heap.size, 1, none⟩) hlb).trans m1
  replace m2 := (hB34.cell (p := ⟨w.heap.size, 2, none⟩) hlb).trans m2
  replace hlb := Nat.lt_of_lt_of_le hlb hB34.size
  clear hm hBm hB4 hB34 HW3 HXB
  cases hlim : limB l1 l2 l3 with
  | false =>
    go_wp2_with fail
    go_ret
    exact ⟨rfl, HW4.out.2.1⟩
  | true =>
    have HLim := Lib.hid (limB_ok hlim)
    clear hlim
    by_cases hE0 : 0 < E.length
    · have hEz : ((E.length : Int) == 0) = false := by rw [beq_eq_false_iff_ne]; omega
      have HW5 : Hid (Amb w4 ∧ Below w.heap.size w w4 ∧ ByAt w4 (.slice ia ins.length ic) ins ∧ ByAt w4 (.slice ea E.length ec) E ∧ ByAt w4 (.slice da E.length dc) X) := ⟨HW4.out.1, HW4.out.2.1, HW4.out.2.2.1, HW4.out.2.2.2.1, HW4.out.2.2.2.2.resolve_right (by omega)⟩
      obtain ⟨xg, xo, hxe, hxl0, hxc0⟩ := HW5.out.2.2.2.2.some (by omega)
      obtain ⟨yg, yo, hye, hyl0, hyc0⟩ := HW5.out.2.2.2.1.some hE0
      subst hxe hye
      clear HW4
      obtain ⟨i0, hi, hz0, hz1, hz2⟩ := info_parts2 info_u8
      go_wp2_with fail
      go_loopw [13] (fun iv wr => ∃ (k : Nat), k ≤ ins.length ∧ iv = .int .i64 k ∧ Hid (∀ b ∈ ins.take k, b ∈ E → b ∈ X) ∧ Hid (Below w4.heap.size w4 wr)) (fun iv _ => ins.length - (intOf iv).toNat)
      case atStart => exact ⟨0, by omega, rfl, (show ∀ b ∈ ins.take 0, _ from by simp), (show Below _ _ _ from Below.refl _ _)⟩
      case round =>
        obtain ⟨k, hk, rfl, HQ, HBr⟩ := hrel
        by_cases hlt : k < ins.length
        · obtain ⟨bb, off, rfl, hbb, hc⟩ := HW5.out.2.2.1.some (by omega)
          have hcx : wr.cell? ⟨bb, off + k, none⟩ = some (.int .u8 ((ins[k]?.getD 0).toNat : Int)) := (HBr.out.cell (p := ⟨bb, off + k, none⟩) hbb).trans (hc k hlt)
          have hxc : ∀ j, j < X.length → wr.cell? ⟨xg, xo + j, none⟩ = some (.int .u8 ((X[j]?.getD 0).toNat : Int)) := fun j hj => (HBr.out.cell (p := ⟨xg, xo + j, none⟩) hxl0).trans (hxc0 j hj)
          have hyc : ∀ j, j < E.length → wr.cell? ⟨yg, yo + j, none⟩ = some (.int .u8 ((E[j]?.getD 0).toNat : Int)) := fun j hj => (HBr.out.cell (p := ⟨yg, yo + j, none⟩) hyl0).trans (hyc0 j hj)
          have hbbr : bb < wr.heap.size := Nat.lt_of_lt_of_le hbb HBr.out.size
          have hxl : xg < wr.heap.size := Nat.lt_of_lt_of_le hxl0 HBr.out.size
          have hyl : yg < wr.heap.size := Nat.lt_of_lt_of_le hyl0 HBr.out.size
          have HK := Lib.hid (take_all (p := fun b => b ∈ E → b ∈ X) hlt HQ.out)
          generalize ins[k]?.getD 0 = c at hcx HK
          clear hc HQ
          have p1 : (k : Int) < (ins.length : Int) := by omega
          go_upto_region 11 with fail
          go_cut [14] (fun v wx => v = .bool (decide (c ∈ X)) ∧ Hid (Below wr.heap.size wr wx))
          case first =>
            go_region_law (first
              | (refine step_append_lies _ rfl _ _ 23 rfl wr.heap.size 5 i0 (.int .u8 0) 1 1 Tryz.underlying23 hi hz0 hz1 hz2 rfl (by decide) (.slice none 0 0) 0 [] (by simp [Act.eval]) (World.ownsRow_nil _ _ _ _) ⟨xg, xo, none⟩ E.length dc (u8s X) (by simp [Act.eval, Act.put]) (by simp [u8s, hXl]) (newsB_by hxc) (u8sB_one X) hE0 (by unfold maxLen; omega) (by omega) (Nat.le_refl _) _ rfl ?_; intro g cap2 w2 hown2 hgrow2 hat hlt2; have hBn : Below wr.heap.size wr w2 := (below_undrew (grown_none hgrow2)); have hcx2 : w2.cell? ⟨bb, off + k, none⟩ = some (.int .u8 (c.toNat : Int)) := (hBn.cell (p := ⟨bb, off + k, none⟩) hbbr).trans hcx;  clear hgrow2 hat hlt2)
              | (refine step_append_lies _ rfl _ _ 23 rfl wr.heap.size 5 i0 (.int .u8 0) 1 1 Tryz.underlying23 hi hz0 hz1 hz2 rfl (by decide) (.slice none 0 0) 0 [] (by simp [Act.eval]) (World.ownsRow_nil _ _ _ _) ⟨xg, xo, none⟩ E.length dc (u8s X) (by simp [Act.eval]) (by simp [u8s, hXl]) (newsB_by (fun j hj => (((Below.refl wr.heap.size wr).alloc (Nat.le_refl _) _).cell (p := ⟨xg, xo + j, none⟩) hxl).trans (hxc j hj))) (u8sB_one X) hE0 (by unfold maxLen; omega) (by omega) (by simp) _ rfl ?_; intro g cap2 w2 hown2 hgrow2 hat hlt2; have hBn : Below wr.heap.size wr w2 := (below_undrew2 (grown_none hgrow2)); have hcx2 : w2.cell? ⟨bb, off + k, none⟩ = some (.int .u8 (c.toNat : Int)) := (hBn.cell (p := ⟨bb, off + k, none⟩) hbbr).trans hcx; have hnc : w2.cell? ⟨wr.heap.size, 0, none⟩ = some (.int .u8 (c.toNat : Int)) := ((grown_none hgrow2).cell (p := ⟨wr.heap.size, 0, none⟩) (by simp)).trans (cell_new0 wr.drew _ _ rfl); clear hgrow2 hat hlt2)
              | (refine step_append_lies _ rfl _ _ 23 rfl wr.heap.size 5 i0 (.int .u8 0) 1 1 Tryz.underlying23 hi hz0 hz1 hz2 rfl (by decide) _ (0 + E.length) ([] ++ u8s X) (by simp [Act.eval]) (hown2.alloc _) ⟨w2.heap.size, 0, none⟩ 1 1 [.int .u8 (c.toNat : Int)] (by simp [Act.eval]) rfl (cell_one_new _ _ _) (by simp [Value.oneCell']) (by decide) (by unfold maxLen; omega) (by omega) (by have := hBn.size; simp; omega) _ rfl ?_; intro g3 cap3 w5 hown3 hgrow3 hat3 hlt3; have hB5 : Below wr.heap.size wr w5 := (hBn.alloc hBn.size _).grown hgrow3 (by have := hBn.size; simp; omega) (fun j ej => own_ge2 hown2 j ej); have hrow5 : Row w5 wr.heap.size (.slice (some ⟨g3, 0, none⟩) (E.length + 1) cap3) (X ++ [c]) := (by show w5.ownsRow _ _ _ _ _ _; rw [u8s_snoc, List.length_append, hXl]; simpa using hown3); have hdist := distinct_c (.slice (some ⟨g3, 0, none⟩) (E.length + 1) cap3) (X ++ [c]) 999 w5 (by rw [List.length_append, hXl]; simp; omega) (by omega) (by have h := row_by hrow5; exact h); clear hown3 hgrow3 hat3 hlt3 hown2 hrow5)
              | (refine step_append_lies _ rfl _ _ 23 rfl wr.heap.size 5 i0 (.int .u8 0) 1 1 Tryz.underlying23 hi hz0 hz1 hz2 rfl (by decide) _ (0 + E.length) ([] ++ u8s X) (by simp [Act.eval]) hown2 ⟨wr.heap.size, 0, none⟩ 1 1 [.int .u8 (c.toNat : Int)] (by simp [Act.eval]) rfl (one_at hnc) (by simp [Value.oneCell']) (by decide) (by unfold maxLen; omega) (by omega) (hBn.size) _ rfl ?_; intro g3 cap3 w5 hown3 hgrow3 hat3 hlt3; have hB5 : Below wr.heap.size wr w5 := hBn.grown hgrow3 hBn.size (fun j ej => own_ge2 hown2 j ej); have hrow5 : Row w5 wr.heap.size (.slice (some ⟨g3, 0, none⟩) (E.length + 1) cap3) (X ++ [c]) := (by show w5.ownsRow _ _ _ _ _ _; rw [u8s_snoc, List.length_append, hXl]; simpa using hown3); have hdist := distinct_c (.slice (some ⟨g3, 0, none⟩) (E.length + 1) cap3) (X ++ [c]) 999 w5 (by rw [List.length_append, hXl]; simp; omega) (by omega) (by have h := row_by hrow5; exact h); clear hown3 hgrow3 hat3 hlt3 hown2 hrow5)
              | (go_simp; go_at_call 9; refine hdist.mono ?_; rintro e w6 ⟨qv, rfl, hq6, hB6⟩; obtain ⟨qa, qc, rfl⟩ := own_slice2 hq6; have HB6 : Hid (Below wr.heap.size wr w6) := hB5.trans (hB6.mono hB5.size); have ep := beq_len (distS (X ++ [c]) 999).length E.length (c ∈ X) (by rw [← hXl]; exact dist_one HXN.out (by rw [hXl]; omega) c); clear hdist hq6 hB6 hB5))
            all_goals
              try simp only [Act.put, List.getElem_toArray, List.getElem_cons_succ, List.getElem_cons_zero, List.setIfInBounds_toArray, List.set_cons_succ, List.set_cons_zero]
              go_wp2_with fail
              go_meet
              case rel => exact ⟨rfl, HB6⟩
          case rest =>
            obtain ⟨rfl, HBc⟩ := hcut
            have hcx3 : wc.cell? ⟨bb, off + k, none⟩ = some (.int .u8 (c.toNat : Int)) := (HBc.out.cell (p := ⟨bb, off + k, none⟩) hbbr).trans hcx
            have hyc2 : ∀ j, j < E.length → wc.cell? ⟨yg, yo + j, none⟩ = some (.int .u8 ((E[j]?.getD 0).toNat : Int)) := fun j hj => (HBc.out.cell (p := ⟨yg, yo + j, none⟩) hyl).trans (hyc j hj)
            have hbb2 := Nat.lt_of_lt_of_le hbbr HBc.out.size
            have hyl2 := Nat.lt_of_lt_of_le hyl HBc.out.size
            have rfl_len : E.length = E.length := rfl
            have HBd := Lib.hid (HBr.out.trans (HBc.out.mono HBr.out.size))
            clear hcx hxc hyc hbbr hxl hyl HBc
            go_upto_region 12 with fail
            go_cut [15] (fun v wx => v = .bool (decide (c ∈ E)) ∧ Hid (Below wc.heap.size wc wx))
            case first =>
              go_region_law (first
                | (refine step_append_lies _ rfl _ _ 23 rfl wc.heap.size 5 i0 (.int .u8 0) 1 1 Tryz.underlying23 hi hz0 hz1 hz2 rfl (by decide) (.slice none 0 0) 0 [] (by simp [Act.eval]) (World.ownsRow_nil _ _ _ _) ⟨yg, yo, none⟩ E.length ec (u8s E) (by simp [Act.eval, Act.put]) (by simp [u8s]) (newsB_by hyc2) (u8sB_one E) hE0 (by unfold maxLen; omega) (by omega) (Nat.le_refl _) _ rfl ?_; intro g cap2 w2 hown2 hgrow2 hat hlt2; have hBn : Below wc.heap.size wc w2 := (below_undrew (grown_none hgrow2)); have hcx2 : w2.cell? ⟨bb, off + k, none⟩ = some (.int .u8 (c.toNat : Int)) := (hBn.cell (p := ⟨bb, off + k, none⟩) hbb2).trans hcx3;  clear hgrow2 hat hlt2)
                | (refine step_append_lies _ rfl _ _ 23 rfl wc.heap.size 5 i0 (.int .u8 0) 1 1 Tryz.underlying23 hi hz0 hz1 hz2 rfl (by decide) (.slice none 0 0) 0 [] (by simp [Act.eval]) (World.ownsRow_nil _ _ _ _) ⟨yg, yo, none⟩ E.length ec (u8s E) (by simp [Act.eval]) (by simp [u8s]) (newsB_by (fun j hj => (((Below.refl wc.heap.size wc).alloc (Nat.le_refl _) _).cell (p := ⟨yg, yo + j, none⟩) hyl2).trans (hyc2 j hj))) (u8sB_one E) hE0 (by unfold maxLen; omega) (by omega) (by simp) _ rfl ?_; intro g cap2 w2 hown2 hgrow2 hat hlt2; have hBn : Below wc.heap.size wc w2 := (below_undrew2 (grown_none hgrow2)); have hcx2 : w2.cell? ⟨bb, off + k, none⟩ = some (.int .u8 (c.toNat : Int)) := (hBn.cell (p := ⟨bb, off + k, none⟩) hbb2).trans hcx3; have hnc : w2.cell? ⟨wc.heap.size, 0, none⟩ = some (.int .u8 (c.toNat : Int)) := ((grown_none hgrow2).cell (p := ⟨wc.heap.size, 0, none⟩) (by simp)).trans (cell_new0 wc.drew _ _ rfl); clear hgrow2 hat hlt2)
                | (refine step_append_lies _ rfl _ _ 23 rfl wc.heap.size 5 i0 (.int .u8 0) 1 1 Tryz.underlying23 hi hz0 hz1 hz2 rfl (by decide) _ (0 + E.length) ([] ++ u8s E) (by simp [Act.eval]) (hown2.alloc _) ⟨w2.heap.size, 0, none⟩ 1 1 [.int .u8 (c.toNat : Int)] (by simp [Act.eval]) rfl (cell_one_new _ _ _) (by simp [Value.oneCell']) (by decide) (by unfold maxLen; omega) (by omega) (by have := hBn.size; simp; omega) _ rfl ?_; intro g3 cap3 w5 hown3 hgrow3 hat3 hlt3; have hB5 : Below wc.heap.size wc w5 := (hBn.alloc hBn.size _).grown hgrow3 (by have := hBn.size; simp; omega) (fun j ej => own_ge2 hown2 j ej); have hrow5 : Row w5 wc.heap.size (.slice (some ⟨g3, 0, none⟩) (E.length + 1) cap3) (E ++ [c]) := (by show w5.ownsRow _ _ _ _ _ _; rw [u8s_snoc, List.length_append, rfl_len]; simpa using hown3); have hdist := distinct_c (.slice (some ⟨g3, 0, none⟩) (E.length + 1) cap3) (E ++ [c]) 999 w5 (by rw [List.length_append, rfl_len]; simp; omega) (by omega) (by have h := row_by hrow5; exact h); clear hown3 hgrow3 hat3 hlt3 hown2 hrow5)
                | (refine step_append_lies _ rfl _ _ 23 rfl wc.heap.size 5 i0 (.int .u8 0) 1 1 Tryz.underlying23 hi hz0 hz1 hz2 rfl (by decide) _ (0 + E.length) ([] ++ u8s E) (by simp [Act.eval]) hown2 ⟨wc.heap.size, 0, none⟩ 1 1 [.int .u8 (c.toNat : Int)] (by simp [Act.eval]) rfl (one_at hnc) (by simp [Value.oneCell']) (by decide) (by unfold maxLen; omega) (by omega) (hBn.size) _ rfl ?_; intro g3 cap3 w5 hown3 hgrow3 hat3 hlt3; have hB5 : Below wc.heap.size wc w5 := hBn.grown hgrow3 hBn.size (fun j ej => own_ge2 hown2 j ej); have hrow5 : Row w5 wc.heap.size (.slice (some ⟨g3, 0, none⟩) (E.length + 1) cap3) (E ++ [c]) := (by show w5.ownsRow _ _ _ _ _ _; rw [u8s_snoc, List.length_append, rfl_len]; simpa using hown3); have hdist := distinct_c (.slice (some ⟨g3, 0, none⟩) (E.length + 1) cap3) (E ++ [c]) 999 w5 (by rw [List.length_append, rfl_len]; simp; omega) (by omega) (by have h := row_by hrow5; exact h); clear hown3 hgrow3 hat3 hlt3 hown2 hrow5)
                | (go_simp; go_at_call 9; refine hdist.mono ?_; rintro e w6 ⟨qv, rfl, hq6, hB6⟩; obtain ⟨qa, qc, rfl⟩ := own_slice2 hq6; have HB7 : Hid (Below wc.heap.size wc w6) := hB5.trans (hB6.mono hB5.size); have eq := beq_len (distS (E ++ [c]) 999).length E.length (c ∈ E) (by rw [← rfl_len]; exact dist_one HEN.out (by rw [rfl_len]; omega) c); clear hdist hq6 hB6 hB5))
              all_goals
                try simp only [Act.put, List.getElem_toArray, List.getElem_cons_succ, List.getElem_cons_zero, List.setIfInBounds_toArray, List.set_cons_succ, List.set_cons_zero]
                go_wp2_with fail
                go_meet
                case rel => exact ⟨rfl, HB7⟩
            case rest =>
              obtain ⟨rfl, HBe⟩ := hcut
              have HBf := Lib.hid (HBd.out.trans (HBe.out.mono HBd.out.size))
              clear HBe HBd hcx3 hyc2
              by_cases hq : c ∈ E
              · by_cases hp : c ∈ X
                · have HK2 := Lib.hid (HK.out (fun _ => hp))
                  rw [decide_eq_true hq, decide_eq_true hp]
                  go_wp2_with fail
                  exact ⟨⟨k + 1, by omega, by go_num, HK2, HBf⟩, by simp [intOf]; omega⟩
                · rw [decide_eq_true hq, decide_eq_false hp]
                  go_wp2_with fail
                  go_ret
                  exact ⟨rfl, HW5.out.2.1.trans (HBf.out.mono (Nat.le_of_lt hlb))⟩
              · have HK2 := Lib.hid (HK.out (fun h => absurd h hq))
                rw [decide_eq_false hq]
                go_wp2_with fail
                exact ⟨⟨k + 1, by omega, by go_num, HK2, HBf⟩, by simp [intOf]; omega⟩
        · obtain rfl : k = ins.length := by omega
          rw [List.take_length] at HQ
          have HWr : Hid (Amb wr ∧ Below w.heap.size w wr ∧ ByAt wr (.slice ia ins.length ic) ins ∧ ByAt wr (.slice (some ⟨yg, yo, none⟩) E.length ec) E ∧ ByAt wr (.slice (some ⟨xg, xo, none⟩) E.length dc) X) := ⟨S.keep _ _ HW5.out.1 HBr.out, HW5.out.2.1.trans (HBr.out.mono (Nat.le_of_lt hlb)), HW5.out.2.2.1.below HBr.out, HW5.out.2.2.2.1.below HBr.out, HW5.out.2.2.2.2.below HBr.out⟩
          replace m0 := (HBr.out.cell (p := ⟨w.heap.size, 0, none⟩) hlb).trans m0
          replace m1 := (HBr.out.cell (p := ⟨w.heap.size, 1, none⟩) hlb).trans m1
          replace m2 := (HBr.out.cell (p := ⟨w.heap.size, 2, none⟩) hlb).trans m2
          replace hlb := Nat.lt_of_lt_of_le hlb HBr.out.size
          clear hxc0 hyc0 hxl0 hyl0 HBr HW5 hlt hk
          have p1 : ¬ (ins.length : Int) < (ins.length : Int) := by omega
          obtain ⟨O1, hO1⟩ : ∃ O, O = Tr.all ⟨false, false, true, X, E⟩ ins := ⟨_, rfl⟩
          have hO1l : O1.length = ins.length := by rw [hO1, move_all, List.length_map]
          have HTa := Lib.hid (trA_two X E (fun e => by rw [e] at hXl; simp at hXl; omega) (fun e => by rw [e] at hE0; simp at hE0))
          have HTb := Lib.hid (trA_two E X (fun e => by rw [e] at hE0; simp at hE0) (fun e => by rw [e] at hXl; simp at hXl; omega))
          have HPt := Lib.hid (And.intro (plain_two X E) (plain_two E X))
          have HBk := Lib.hid (move_back HXN.out HEN.out hXl HQ.out)
          rw [← hO1] at HBk
          have HO1 := Lib.hid hO1
          have HXs := Lib.hid (code_size X (by omega))
          have HEs := Lib.hid (code_size E (by omega))
          obtain ⟨CX, hCX⟩ : ∃ C : ByteArray, C = ⟨(codeL X).toArray⟩ := ⟨_, rfl⟩
          obtain ⟨CE, hCE⟩ : ∃ C : ByteArray, C = ⟨(codeL E).toArray⟩ := ⟨_, rfl⟩
          rw [← hCX, ← hCE] at HTa HTb HPt
          rw [← hCX] at HXs
          rw [← hCE] at HEs
          have hcX := fun u (h : Below wr.heap.size wr u) => coded_c (.slice (some ⟨xg, xo, none⟩) E.length dc) X u (by omega) (HWr.out.2.2.2.2.below h)
          have hcE := fun u (h : Below wr.heap.size wr u) => coded_c (.slice (some ⟨yg, yo, none⟩) E.length ec) E u (by omega) (HWr.out.2.2.2.1.below h)
          rw [← hCX] at hcX
          rw [← hCE] at hcE
          clear hO1 hCX hCE HQ
          have hTr := fun (T : World) (sv : Value) (h : Below wr.heap.size wr T) (hs : StrsAt T sv [CX, CE]) => tr_c S sv (.slice ia ins.length ic) [CX, CE] ins l1 l2 l3 _ T (S.keep _ _ HWr.out.1 h) hs (HWr.out.2.2.1.below h) hin (by simp) (by simp) (tot_two2 _ _ HXs.out HEs.out) HLim.out HTa.out HPt.out.1
          rw [← HO1.out] at hTr
          have KK : ∀ w', Below wr.heap.size wr w' → w'.cell? ⟨w.heap.size, 0, none⟩ = some (.int .i64 l1) ∧ w'.cell? ⟨w.heap.size, 1, none⟩ = some (.int .i64 l2) ∧ w'.cell? ⟨w.heap.size, 2, none⟩ = some (.int .i64 l3) := fun w' h => ⟨(h.cell (p := ⟨w.heap.size, 0, none⟩) hlb).trans m0, (h.cell (p := ⟨w.heap.size, 1, none⟩) hlb).trans m1, (h.cell (p := ⟨w.heap.size, 2, none⟩) hlb).trans m2⟩
          have HO1l := Lib.hid hO1l
          clear hO1l
          go_upto_region 15 with fail
          go_cut [16, 17] (fun v16 v17 wx => ∃ (rb : Nat) (oa : Option Addr) (oc : Nat), v16 = ptr rb ∧ v17 = .bool true ∧ Hid (wx.cell? ⟨rb, 0, none⟩ = some (.slice oa O1.length oc) ∧ ByAt wx (.slice oa O1.length oc) O1 ∧ Below wr.heap.size wr wx))
          case first =>
            go_region_held3 (fun w' => w'.cell? ⟨w.heap.size, 0, none⟩ = some (.int .i64 l1) ∧ w'.cell? ⟨w.heap.size, 1, none⟩ = some (.int .i64 l2) ∧ w'.cell? ⟨w.heap.size, 2, none⟩ = some (.int .i64 l3)) (exact KK _ (by repeat (first | with_reducible exact Below.refl _ _ | with_reducible exact hBwy | with_reducible exact hBw6 | with_reducible exact hBw5 | with_reducible refine below_drew ?_ | with_reducible refine below_alc ?_ _ | with_reducible refine below_stc ?_ (by first | with_reducible exact hRb | omega | (simp; omega)) _ _))) (first
              | (go_at_call 12; refine (hcE5 _ (by repeat (first | with_reducible exact Below.refl _ _ | with_reducible exact hBw5 | with_reducible refine below_drew ?_ | with_reducible refine below_alc ?_ _))).mono ?_; rintro e w6 ⟨rfl, hB6⟩; have hBw6 : Below wr.heap.size wr w6 := below_then (by repeat (first | with_reducible exact Below.refl _ _ | with_reducible exact hBw5 | with_reducible refine below_drew ?_ | with_reducible refine below_alc ?_ _)) hB6; have HB6 := Lib.hid hB6; have HS6 : Hid (w5.heap.size ≤ w6.heap.size) := Nat.le_trans (by first | exact Nat.le_refl _ | simp) hB6.size; have hT6 := hTr; clear hB6 hcE5)
              | (go_at_call 12; refine (hcX _ (by repeat (first | with_reducible exact Below.refl _ _ | with_reducible refine below_drew ?_ | with_reducible refine below_alc ?_ _))).mono ?_; rintro e w5 ⟨rfl, hB5⟩; have hBw5 : Below wr.heap.size wr w5 := below_then (by repeat (first | with_reducible exact Below.refl _ _ | with_reducible refine below_drew ?_ | with_reducible refine below_alc ?_ _)) hB5; have HB5 := Lib.hid hB5; have hcE5 := hcE; clear hB5)
              | (go_at_call 11; refine (hT6 _ _ (by repeat (first | with_reducible exact Below.refl _ _ | with_reducible exact hBw6 | with_reducible refine below_drew ?_ | with_reducible refine below_alc ?_ _)) (by first | with_reducible exact strs_two _ _ _ | with_reducible exact strs_two1 _ _ _ _ | with_reducible exact strs_two2 _ _ _ _)).mono ?_; rintro e y0 ⟨ov, ea0, en0, ec0, st0, na0, nb0, nc0, rfl, hOv, hBy⟩; unfold resT; obtain ⟨oa0, oc0, rfl⟩ := own_slice2 hOv; have hBwy : Below wr.heap.size wr y0 := below_then (by repeat (first | with_reducible exact Below.refl _ _ | with_reducible exact hBw6 | with_reducible refine below_drew ?_ | with_reducible refine below_alc ?_ _)) hBy; (first | (have hRr : y0.heap[wr.heap.size]? = some (.cells #[.slice none 0 0, .slice none 0 0, .int .i64 0, .slice none 0 0, .int .i64 0, .int .i64 0, .int .i64 0] 38) := (keep_ob (al_old _ (keep_ob (keep_ob (al_new wr (.cells #[.slice none 0 0, .slice none 0 0, .int .i64 0, .slice none 0 0, .int .i64 0, .int .i64 0, .int .i64 0] 38)) (below_undrew HB5.out)) HB6.out)) hBy); have v0 := h_cell hRr 0 rfl; have z0 := h_fz hRr 0; have v1 := h_cell hRr 1 rfl; have z1 := h_fz hRr 1; have v2 := h_cell hRr 2 rfl; have z2 := h_fz hRr 2; have v3 := h_cell hRr 3 rfl; have z3 := h_fz hRr 3; have v4 := h_cell hRr 4 rfl; have z4 := h_fz hRr 4; have v5 := h_cell hRr 5 rfl; have z5 := h_fz hRr 5; have v6 := h_cell hRr 6 rfl; have z6 := h_fz hRr 6; have HRr := Lib.hid (And.intro hRr (row_low hOv (B' := wr.heap.size + 1) (by have h5 := hBw5.size; have h6 := hBw6.size; have h7 := HS6.out; have h8 := HB6.out.size; have h9 := HB5.out.size; first | omega | (simp <;> omega) | (simp at h8 h9 ⊢ <;> omega) | (simp at h8 ⊢ <;> omega) | (simp at h9 ⊢ <;> omega)))); have hRb : wr.heap.size ≤ wr.heap.size := (by have h5 := hBw5.size; have h6 := hBw6.size; have h7 := HS6.out; first | omega | exact Nat.le_refl _); clear hRr) | (have hRr : y0.heap[w5.heap.size]? = some (.cells #[.slice none 0 0, .slice none 0 0, .int .i64 0, .slice none 0 0, .int .i64 0, .int .i64 0, .int .i64 0] 38) := (keep_ob (al_old _ (keep_ob (al_new w5 (.cells #[.slice none 0 0, .slice none 0 0, .int .i64 0, .slice none 0 0, .int .i64 0, .int .i64 0, .int .i64 0] 38)) HB6.out)) hBy); have v0 := h_cell hRr 0 rfl; have z0 := h_fz hRr 0; have v1 := h_cell hRr 1 rfl; have z1 := h_fz hRr 1; have v2 := h_cell hRr 2 rfl; have z2 := h_fz hRr 2; have v3 := h_cell hRr 3 rfl; have z3 := h_fz hRr 3; have v4 := h_cell hRr 4 rfl; have z4 := h_fz hRr 4; have v5 := h_cell hRr 5 rfl; have z5 := h_fz hRr 5; have v6 := h_cell hRr 6 rfl; have z6 := h_fz hRr 6; have HRr := Lib.hid (And.intro hRr (row_low hOv (B' := w5.heap.size + 1) (by have h5 := hBw5.size; have h6 := hBw6.size; have h7 := HS6.out; have h8 := HB6.out.size; have h9 := HB5.out.size; first | omega | (simp <;> omega) | (simp at h8 h9 ⊢ <;> omega) | (simp at h8 ⊢ <;> omega) | (simp at h9 ⊢ <;> omega)))); have hRb : wr.heap.size ≤ w5.heap.size := (by have h5 := hBw5.size; have h6 := hBw6.size; have h7 := HS6.out; first | omega | exact Nat.le_refl _); clear hRr) | (have hRr : y0.heap[w6.heap.size]? = some (.cells #[.slice none 0 0, .slice none 0 0, .int .i64 0, .slice none 0 0, .int .i64 0, .int .i64 0, .int .i64 0] 38) := (keep_ob (al_old _ (al_new w6 (.cells #[.slice none 0 0, .slice none 0 0, .int .i64 0, .slice none 0 0, .int .i64 0, .int .i64 0, .int .i64 0] 38))) hBy); have v0 := h_cell hRr 0 rfl; have z0 := h_fz hRr 0; have v1 := h_cell hRr 1 rfl; have z1 := h_fz hRr 1; have v2 := h_cell hRr 2 rfl; have z2 := h_fz hRr 2; have v3 := h_cell hRr 3 rfl; have z3 := h_fz hRr 3; have v4 := h_cell hRr 4 rfl; have z4 := h_fz hRr 4; have v5 := h_cell hRr 5 rfl; have z5 := h_fz hRr 5; have v6 := h_cell hRr 6 rfl; have z6 := h_fz hRr 6; have HRr := Lib.hid (And.intro hRr (row_low hOv (B' := w6.heap.size + 1) (by have h5 := hBw5.size; have h6 := hBw6.size; have h7 := HS6.out; have h8 := HB6.out.size; have h9 := HB5.out.size; first | omega | (simp <;> omega) | (simp at h8 h9 ⊢ <;> omega) | (simp at h8 ⊢ <;> omega) | (simp at h9 ⊢ <;> omega)))); have hRb : wr.heap.size ≤ w6.heap.size := (by have h5 := hBw5.size; have h6 := hBw6.size; have h7 := HS6.out; first | omega | exact Nat.le_refl _); clear hRr) | (have hRr : y0.heap[w6.heap.size + 1]? = some (.cells #[.slice none 0 0, .slice none 0 0, .int .i64 0, .slice none 0 0, .int .i64 0, .int .i64 0, .int .i64 0] 38) := (keep_ob (al_new2 w6 _ (.cells #[.slice none 0 0, .slice none 0 0, .int .i64 0, .slice none 0 0, .int .i64 0, .int .i64 0, .int .i64 0] 38)) hBy); have v0 := h_cell hRr 0 rfl; have z0 := h_fz hRr 0; have v1 := h_cell hRr 1 rfl; have z1 := h_fz hRr 1; have v2 := h_cell hRr 2 rfl; have z2 := h_fz hRr 2; have v3 := h_cell hRr 3 rfl; have z3 := h_fz hRr 3; have v4 := h_cell hRr 4 rfl; have z4 := h_fz hRr 4; have v5 := h_cell hRr 5 rfl; have z5 := h_fz hRr 5; have v6 := h_cell hRr 6 rfl; have z6 := h_fz hRr 6; have HRr := Lib.hid (And.intro hRr (row_low hOv (B' := w6.heap.size + 1 + 1) (by have h5 := hBw5.size; have h6 := hBw6.size; have h7 := HS6.out; have h8 := HB6.out.size; have h9 := HB5.out.size; first | omega | (simp <;> omega) | (simp at h8 h9 ⊢ <;> omega) | (simp at h8 ⊢ <;> omega) | (simp at h9 ⊢ <;> omega)))); have hRb : wr.heap.size ≤ w6.heap.size + 1 := (by have h5 := hBw5.size; have h6 := hBw6.size; have h7 := HS6.out; first | omega | exact Nat.le_refl _); clear hRr) | skip); have HY0 : Hid (Row y0 wr.heap.size (.slice oa0 O1.length oc0) O1 ∧ Below wr.heap.size wr y0) := ⟨row_low hOv (by have h6 := hBw6.size; first | omega | (simp <;> omega)), hBwy⟩; clear hOv hBy))
            all_goals
              try simp only [Act.put, List.getElem_toArray, List.getElem_cons_succ, List.getElem_cons_zero, List.setIfInBounds_toArray, List.set_cons_succ, List.set_cons_zero]
              go_wp2_with fail
              go_meet
              case rel =>
                first
                  | exact ⟨_, oa0, oc0, rfl, rfl, (show _ ∧ _ ∧ _ from ⟨h_cell (set7 HRr.out.1 _ _ _ _ _ _ _) 0 rfl, row_by (row7 HRr.out.2 _ _ _ _ _ _ _), below7 HY0.out.2 hRb _ _ _ _ _ _ _⟩)⟩
                  | exact ⟨_, oa0, oc0, rfl, rfl, (show _ ∧ _ ∧ _ from ⟨cell_new0 _ _ _ rfl, (row_by HY0.out.1).below ((Below.refl _ _).alloc (Nat.le_refl _) _), below_alc HY0.out.2 _⟩)⟩
          case rest =>
            obtain ⟨rb, oa, oc, rfl, rfl, HRo⟩ := hcut
            have hRbl : rb < wc.heap.size := World.block_lt_of_cell? wc _ HRo.out.1
            have hlc := Nat.lt_of_lt_of_le hlb HRo.out.2.2.size
            have KL : ∀ w', Below wc.heap.size wc w' → w'.cell? ⟨w.heap.size, 0, none⟩ = some (.int .i64 l1) ∧ w'.cell? ⟨w.heap.size, 1, none⟩ = some (.int .i64 l2) ∧ w'.cell? ⟨w.heap.size, 2, none⟩ = some (.int .i64 l3) ∧ w'.cell? ⟨rb, 0, none⟩ = some (.slice oa O1.length oc) := fun w' h => ⟨(h.cell (p := ⟨w.heap.size, 0, none⟩) hlc).trans ((HRo.out.2.2.cell (p := ⟨w.heap.size, 0, none⟩) hlb).trans m0), (h.cell (p := ⟨w.heap.size, 1, none⟩) hlc).trans ((HRo.out.2.2.cell (p := ⟨w.heap.size, 1, none⟩) hlb).trans m1), (h.cell (p := ⟨w.heap.size, 2, none⟩) hlc).trans ((HRo.out.2.2.cell (p := ⟨w.heap.size, 2, none⟩) hlb).trans m2), (h.cell (p := ⟨rb, 0, none⟩) hRbl).trans HRo.out.1⟩
            have hcX2 := fun u (h : Below wc.heap.size wc u) => hcX u (below_then HRo.out.2.2 h)
            have hcE2 := fun u (h : Below wc.heap.size wc u) => hcE u (below_then HRo.out.2.2 h)
            have hTs := fun (T : World) (sv : Value) (h : Below wc.heap.size wc T) (hs : StrsAt T sv [CE, CX]) => tr_c S sv (.slice oa O1.length oc) [CE, CX] O1 l1 l2 l3 _ T (S.keep _ _ HWr.out.1 (below_then HRo.out.2.2 h)) hs (HRo.out.2.1.below h) (by rw [HO1l.out]; exact hin) (by simp) (by simp) (tot_two2 _ _ HEs.out HXs.out) HLim.out HTb.out HPt.out.2
            rw [HBk.out] at hTs
            clear hcX hcE hTr KK
            go_upto_region 16 with fail
            go_cut [18, 19] (fun v18 v19 wx => ∃ (rb2 : Nat) (oa2 : Option Addr) (oc2 : Nat), v18 = ptr rb2 ∧ v19 = .bool true ∧ Hid (wx.cell? ⟨rb2, 0, none⟩ = some (.slice oa2 ins.length oc2) ∧ ByAt wx (.slice oa2 ins.length oc2) ins ∧ Below wc.heap.size wc wx))
            case first =>
              go_region_held3 (fun w' => w'.cell? ⟨w.heap.size, 0, none⟩ = some (.int .i64 l1) ∧ w'.cell? ⟨w.heap.size, 1, none⟩ = some (.int .i64 l2) ∧ w'.cell? ⟨w.heap.size, 2, none⟩ = some (.int .i64 l3) ∧ w'.cell? ⟨rb, 0, none⟩ = some (.slice oa O1.length oc)) (exact KL _ (by repeat (first | with_reducible exact Below.refl _ _ | with_reducible exact hBwy | with_reducible exact hBw6 | with_reducible exact hBw5 | with_reducible refine below_drew ?_ | with_reducible refine below_alc ?_ _ | with_reducible refine below_stc ?_ (by first | with_reducible exact hRb | omega | (simp; omega)) _ _))) (first
                | (go_at_call 12; refine (hcE5 _ (by repeat (first | with_reducible exact Below.refl _ _ | with_reducible exact hBw5 | with_reducible refine below_drew ?_ | with_reducible refine below_alc ?_ _))).mono ?_; rintro e w6 ⟨rfl, hB6⟩; have hBw6 : Below wc.heap.size wc w6 := below_then (by repeat (first | with_reducible exact Below.refl _ _ | with_reducible exact hBw5 | with_reducible refine below_drew ?_ | with_reducible refine below_alc ?_ _)) hB6; have HB6 := Lib.hid hB6; have HS6 : Hid (w5.heap.size ≤ w6.heap.size) := Nat.le_trans (by first | exact Nat.le_refl _ | simp) hB6.size; have hT6 := hTs; clear hB6 hcE5)
                | (go_at_call 12; refine (hcE2 _ (by repeat (first | with_reducible exact Below.refl _ _ | with_reducible refine below_drew ?_ | with_reducible refine below_alc ?_ _))).mono ?_; rintro e w5 ⟨rfl, hB5⟩; have hBw5 : Below wc.heap.size wc w5 := below_then (by repeat (first | with_reducible exact Below.refl _ _ | with_reducible refine below_drew ?_ | with_reducible refine below_alc ?_ _)) hB5; have HB5 := Lib.hid hB5; have hcE5 := hcX2; clear hB5)
                | (go_at_call 11; refine (hT6 _ _ (by repeat (first | with_reducible exact Below.refl _ _ | with_reducible exact hBw6 | with_reducible refine below_drew ?_ | with_reducible refine below_alc ?_ _)) (by first | with_reducible exact strs_two _ _ _ | with_reducible exact strs_two1 _ _ _ _ | with_reducible exact strs_two2 _ _ _ _)).mono ?_; rintro e y0 ⟨ov, ea0, en0, ec0, st0, na0, nb0, nc0, rfl, hOv, hBy⟩; unfold resT; obtain ⟨oa0, oc0, rfl⟩ := own_slice2 hOv; have hBwy : Below wc.heap.size wc y0 := below_then (by repeat (first | with_reducible exact Below.refl _ _ | with_reducible exact hBw6 | with_reducible refine below_drew ?_ | with_reducible refine below_alc ?_ _)) hBy; (first | (have hRr : y0.heap[wc.heap.size]? = some (.cells #[.slice none 0 0, .slice none 0 0, .int .i64 0, .slice none 0 0, .int .i64 0, .int .i64 0, .int .i64 0] 38) := (keep_ob (al_old _ (keep_ob (keep_ob (al_new wc (.cells #[.slice none 0 0, .slice none 0 0, .int .i64 0, .slice none 0 0, .int .i64 0, .int .i64 0, .int .i64 0] 38)) (below_undrew HB5.out)) HB6.out)) hBy); have v0 := h_cell hRr 0 rfl; have z0 := h_fz hRr 0; have v1 := h_cell hRr 1 rfl; have z1 := h_fz hRr 1; have v2 := h_cell hRr 2 rfl; have z2 := h_fz hRr 2; have v3 := h_cell hRr 3 rfl; have z3 := h_fz hRr 3; have v4 := h_cell hRr 4 rfl; have z4 := h_fz hRr 4; have v5 := h_cell hRr 5 rfl; have z5 := h_fz hRr 5; have v6 := h_cell hRr 6 rfl; have z6 := h_fz hRr 6; have HRr := Lib.hid (And.intro hRr (row_low hOv (B' := wc.heap.size + 1) (by have h5 := hBw5.size; have h6 := hBw6.size; have h7 := HS6.out; have h8 := HB6.out.size; have h9 := HB5.out.size; first | omega | (simp <;> omega) | (simp at h8 h9 ⊢ <;> omega) | (simp at h8 ⊢ <;> omega) | (simp at h9 ⊢ <;> omega)))); have hRb : wc.heap.size ≤ wc.heap.size := (by have h5 := hBw5.size; have h6 := hBw6.size; have h7 := HS6.out; first | omega | exact Nat.le_refl _); clear hRr) | (have hRr : y0.heap[w5.heap.size]? = some (.cells #[.slice none 0 0, .slice none 0 0, .int .i64 0, .slice none 0 0, .int .i64 0, .int .i64 0, .int .i64 0] 38) := (keep_ob (al_old _ (keep_ob (al_new w5 (.cells #[.slice none 0 0, .slice none 0 0, .int .i64 0, .slice none 0 0, .int .i64 0, .int .i64 0, .int .i64 0] 38)) HB6.out)) hBy); have v0 := h_cell hRr 0 rfl; have z0 := h_fz hRr 0; have v1 := h_cell hRr 1 rfl; have z1 := h_fz hRr 1; have v2 := h_cell hRr 2 rfl; have z2 := h_fz hRr 2; have v3 := h_cell hRr 3 rfl; have z3 := h_fz hRr 3; have v4 := h_cell hRr 4 rfl; have z4 := h_fz hRr 4; have v5 := h_cell hRr 5 rfl; have z5 := h_fz hRr 5; have v6 := h_cell hRr 6 rfl; have z6 := h_fz hRr 6; have HRr := Lib.hid (And.intro hRr (row_low hOv (B' := w5.heap.size + 1) (by have h5 := hBw5.size; have h6 := hBw6.size; have h7 := HS6.out; have h8 := HB6.out.size; have h9 := HB5.out.size; first | omega | (simp <;> omega) | (simp at h8 h9 ⊢ <;> omega) | (simp at h8 ⊢ <;> omega) | (simp at h9 ⊢ <;> omega)))); have hRb : wc.heap.size ≤ w5.heap.size := (by have h5 := hBw5.size; have h6 := hBw6.size; have h7 := HS6.out; first | omega | exact Nat.le_refl _); clear hRr) | (have hRr : y0.heap[w6.heap.size]? = some (.cells #[.slice none 0 0, .slice none 0 0, .int .i64 0, .slice none 0 0, .int .i64 0, .int .i64 0, .int .i64 0] 38) := (keep_ob (al_old _ (al_new w6 (.cells #[.slice none 0 0, .slice none 0 0, .int .i64 0, .slice none 0 0, .int .i64 0, .int .i64 0, .int .i64 0] 38))) hBy); have v0 := h_cell hRr 0 rfl; have z0 := h_fz hRr 0; have v1 := h_cell hRr 1 rfl; have z1 := h_fz hRr 1; have v2 := h_cell hRr 2 rfl; have z2 := h_fz hRr 2; have v3 := h_cell hRr 3 rfl; have z3 := h_fz hRr 3; have v4 := h_cell hRr 4 rfl; have z4 := h_fz hRr 4; have v5 := h_cell hRr 5 rfl; have z5 := h_fz hRr 5; have v6 := h_cell hRr 6 rfl; have z6 := h_fz hRr 6; have HRr := Lib.hid (And.intro hRr (row_low hOv (B' := w6.heap.size + 1) (by have h5 := hBw5.size; have h6 := hBw6.size; have h7 := HS6.out; have h8 := HB6.out.size; have h9 := HB5.out.size; first | omega | (simp <;> omega) | (simp at h8 h9 ⊢ <;> omega) | (simp at h8 ⊢ <;> omega) | (simp at h9 ⊢ <;> omega)))); have hRb : wc.heap.size ≤ w6.heap.size := (by have h5 := hBw5.size; have h6 := hBw6.size; have h7 := HS6.out; first | omega | exact Nat.le_refl _); clear hRr) | (have hRr : y0.heap[w6.heap.size + 1]? = some (.cells #[.slice none 0 0, .slice none 0 0, .int .i64 0, .slice none 0 0, .int .i64 0, .int .i64 0, .int .i64 0] 38) := (keep_ob (al_new2 w6 _ (.cells #[.slice none 0 0, .slice none 0 0, .int .i64 0, .slice none 0 0, .int .i64 0, .int .i64 0, .int .i64 0] 38)) hBy); have v0 := h_cell hRr 0 rfl; have z0 := h_fz hRr 0; have v1 := h_cell hRr 1 rfl; have z1 := h_fz hRr 1; have v2 := h_cell hRr 2 rfl; have z2 := h_fz hRr 2; have v3 := h_cell hRr 3 rfl; have z3 := h_fz hRr 3; have v4 := h_cell hRr 4 rfl; have z4 := h_fz hRr 4; have v5 := h_cell hRr 5 rfl; have z5 := h_fz hRr 5; have v6 := h_cell hRr 6 rfl; have z6 := h_fz hRr 6; have HRr := Lib.hid (And.intro hRr (row_low hOv (B' := w6.heap.size + 1 + 1) (by have h5 := hBw5.size; have h6 := hBw6.size; have h7 := HS6.out; have h8 := HB6.out.size; have h9 := HB5.out.size; first | omega | (simp <;> omega) | (simp at h8 h9 ⊢ <;> omega) | (simp at h8 ⊢ <;> omega) | (simp at h9 ⊢ <;> omega)))); have hRb : wc.heap.size ≤ w6.heap.size + 1 := (by have h5 := hBw5.size; have h6 := hBw6.size; have h7 := HS6.out; first | omega | exact Nat.le_refl _); clear hRr) | skip); have HY0 : Hid (Row y0 wc.heap.size (.slice oa0 ins.length oc0) ins ∧ Below wc.heap.size wc y0) := ⟨row_low hOv (by have h6 := hBw6.size; first | omega | (simp <;> omega)), hBwy⟩; clear hOv hBy))
              all_goals
                try simp only [Act.put, List.getElem_toArray, List.getElem_cons_succ, List.getElem_cons_zero, List.setIfInBounds_toArray, List.set_cons_succ, List.set_cons_zero]
                go_wp2_with fail
                go_meet
                case rel =>
                  first
                    | exact ⟨_, oa0, oc0, rfl, rfl, (show _ ∧ _ ∧ _ from ⟨h_cell (set7 HRr.out.1 _ _ _ _ _ _ _) 0 rfl, row_by (row7 HRr.out.2 _ _ _ _ _ _ _), below7 HY0.out.2 hRb _ _ _ _ _ _ _⟩)⟩
                    | exact ⟨_, oa0, oc0, rfl, rfl, (show _ ∧ _ ∧ _ from ⟨cell_new0 _ _ _ rfl, (row_by HY0.out.1).below ((Below.refl _ _).alloc (Nat.le_refl _) _), below_alc HY0.out.2 _⟩)⟩
            case rest =>
              obtain ⟨rb2, oa2, oc2, rfl, rfl, HR2⟩ := hcut
              have d2 := HR2.out.1
              have s1 := str_by HR2.out.2.1
              have s2 := str_by ((HWr.out.2.2.1.below HRo.out.2.2).below HR2.out.2.2)
              have HBz := Lib.hid (HWr.out.2.1.trans ((below_then HRo.out.2.2 HR2.out.2.2).mono (Nat.le_of_lt hlb)))
              clear HR2 HRo HWr hcX2 hcE2 hTs KL
              go_wp2_with fail
              go_ret
              exact ⟨by simp, HBz.out⟩
    · have hEz : ((E.length : Int) == 0) = true := by rw [beq_iff_eq]; omega
      go_wp2_with fail
      go_ret
      exact ⟨rfl, HW4.out.2.1⟩
end Go.Proofs.YtfkoehfkiommpaaGreatDoor.Tr
