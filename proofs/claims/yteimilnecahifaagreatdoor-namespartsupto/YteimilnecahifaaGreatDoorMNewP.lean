/- proc.New: a process in a kernel: the contract. -/
import Derived.Test.YteimilnecahifaaGreatDoorYMap
import Derived.Test.YteimilnecahifaaGreatDoorMSink
namespace Go.Proofs.YteimilnecahifaaGreatDoor
open Go.RowKit Go.Shelf Go.Maps

/-- What proc.New has made, put together. -/
theorem pn_end {w X wt wa we W0 Wf : World} {k pe tb kinb ba be na ne : Nat} {va ve : Value} {xsa xse : List Value} {cwd : ByteArray} {l1 l2 l3 : Int} {e : Ending} (he : e = .returned (ptr pe)) (hpe : pe = W0.heap.size) (hf : Wf = W0.alloc (.cells #[ptr k, ptr tb, va, ve, .string cwd, .int .i64 l1, .int .i64 l2, .int .i64 l3, .int .i64 0, .int .i64 0, .nilIface, .pointer (some ⟨kinb, 0, none⟩), .bool false, .pointer none] 88)) (h0 : Turn [] w X) (h1 : Turn [] X wt) (h2 : Turn [] wt wa) (h3 : Turn [] wa we) (h4 : Turn [] we W0)
    (htb : TbAt wt tb k nils16) (htl : w.heap.size ≤ tb) (hkl : w.heap.size ≤ kinb) (hk : KnAt0 W0 kinb (.slice none 0 0)) (hoa : wa.ownsRow ba 9 1 va na xsa) (hoe : we.ownsRow be 9 1 ve ne xse) (hba : w.heap.size ≤ ba) (hbe : w.heap.size ≤ be) :
    ∃ p tb kin av' ev', e = .returned (ptr p) ∧ w.heap.size ≤ p ∧ w.heap.size ≤ tb ∧ w.heap.size ≤ kin ∧ PrAt Wf p k tb av' ev' cwd l1 l2 l3 0 0 .nilIface kin false (.pointer none) ∧ TbAt Wf tb k nils16 ∧ KnAt0 Wf kin (.slice none 0 0) ∧ Wf.ownsRow w.heap.size 9 1 av' na xsa ∧ Wf.ownsRow w.heap.size 9 1 ev' ne xse ∧ Below w.heap.size w Wf := by
  subst hf
  have hT : Turn [] we (W0.alloc (.cells #[ptr k, ptr tb, va, ve, .string cwd, .int .i64 l1, .int .i64 l2, .int .i64 l3, .int .i64 0, .int .i64 0, .nilIface, .pointer (some ⟨kinb, 0, none⟩), .bool false, .pointer none] 88)) := h4.trans (Turn.alloc _ _)
  have hW := (((h0.trans h1).trans h2).trans h3).trans hT
  refine ⟨pe, tb, kinb, va, ve, he, ?_, htl, hkl, al_new _ _ hpe, ((h2.trans h3).trans hT).ob htb (by simp), al_old _ hk, own_less0 (own_turn hoa (h3.trans hT) (by simp)) hba, own_less0 (own_turn hoe hT (by simp)) hbe, ⟨hW.os, hW.tape, hW.output, hW.size, fun b hb => hW.block b hb (by simp)⟩⟩
  have := ((((h0.trans h1).trans h2).trans h3).trans h4).size
  omega
theorem tb_lit (k : Nat) : (#[ptr k] ++ nils16 : Array Value) = #[ptr k, .nilIface, .nilIface, .nilIface, .nilIface, .nilIface, .nilIface, .nilIface, .nilIface, .nilIface, .nilIface, .nilIface, .nilIface, .nilIface, .nilIface, .nilIface, .nilIface] := rfl
theorem tb_new {w wt : World} {k b : Nat} (h : wt = w.alloc (.cells #[ptr k, .nilIface, .nilIface, .nilIface, .nilIface, .nilIface, .nilIface, .nilIface, .nilIface, .nilIface, .nilIface, .nilIface, .nilIface, .nilIface, .nilIface, .nilIface, .nilIface] 146)) (hb : b = w.heap.size) : TbAt wt b k nils16 := by
  show wt.heap[b]? = some (.cells (#[ptr k] ++ nils16) _)
  rw [tb_lit, h]
  exact al_new _ _ hb
theorem kin_new {w : World} : KnAt0 (w.alloc (.cells #[.slice none 0 0, .slice none 0 0, .slice none 0 0, .int .i64 0] 81)) w.heap.size (.slice none 0 0) := al_new _ _ rfl
theorem kin_old {w w2 : World} (h : Below (w.alloc (.cells #[.slice none 0 0, .slice none 0 0, .slice none 0 0, .int .i64 0] 81)).heap.size (w.alloc (.cells #[.slice none 0 0, .slice none 0 0, .slice none 0 0, .int .i64 0] 81)) w2) : KnAt0 w2 w.heap.size (.slice none 0 0) := (h.block w.heap.size (by simp)).trans (al_new _ _ rfl)
theorem kin_tb {w wt : World} {o : Obj} (h : wt = (w.alloc (.cells #[.slice none 0 0, .slice none 0 0, .slice none 0 0, .int .i64 0] 81)).drew.alloc o) : KnAt0 wt w.heap.size (.slice none 0 0) := by
  rw [h]; exact al_old _ (show (w.alloc (.cells #[.slice none 0 0, .slice none 0 0, .slice none 0 0, .int .i64 0] 81)).heap[w.heap.size]? = _ from al_new _ _ rfl)
set_option maxRecDepth 100000 in
set_option maxHeartbeats 60000000 in
theorem pnew_c (k : Nat) (av ev : Value) (sa se : List ByteArray) (cwd : ByteArray) (l1 l2 l3 : Int) (w : World) (ha : SsAt w av sa) (he : SsAt w ev se) (hla : sa.length ≤ 1048576) (hle : se.length ≤ 1048576) :
    Calls Tryz.prog 42 #[ptr k, av, ev, .string cwd, .agg #[.int .i64 l1, .int .i64 l2, .int .i64 l3]] w fun e w' => ∃ p tb kin av' ev', e = .returned (ptr p) ∧ w.heap.size ≤ p ∧ w.heap.size ≤ tb ∧ w.heap.size ≤ kin ∧ PrAt w' p k tb av' ev' cwd l1 l2 l3 0 0 .nilIface kin false (.pointer none) ∧ TbAt w' tb k nils16 ∧ KnAt0 w' kin (.slice none 0 0) ∧ w'.ownsRow w.heap.size 9 1 av' sa.length (sa.map .string) ∧ w'.ownsRow w.heap.size 9 1 ev' se.length (se.map .string) ∧ Below w.heap.size w w' := by
  obtain ⟨xa, ca, rfl⟩ := ha.shape
  obtain ⟨xe, ce, rfl⟩ := he.shape
  have hT0 : Turn [] w (w.alloc (.cells #[.int .i64 l1, .int .i64 l2, .int .i64 l3] 42)) := Turn.alloc w _
  have HA := Lib.hid (ha.turn hT0 (by simp))
  have HE := Lib.hid (he.turn hT0 (by simp))
  have x0 : (w.alloc (.cells #[.int .i64 l1, .int .i64 l2, .int .i64 l3] 42)).cell? ⟨w.heap.size, 0, none⟩ = some (.int .i64 l1) := h_cell (al_new w _ rfl) 0 rfl
  have x1 : (w.alloc (.cells #[.int .i64 l1, .int .i64 l2, .int .i64 l3] 42)).cell? ⟨w.heap.size, 1, none⟩ = some (.int .i64 l2) := h_cell (al_new w _ rfl) 1 rfl
  have x2 : (w.alloc (.cells #[.int .i64 l1, .int .i64 l2, .int .i64 l3] 42)).cell? ⟨w.heap.size, 2, none⟩ = some (.int .i64 l3) := h_cell (al_new w _ rfl) 2 rfl
  have hz : w.heap.size < (w.alloc (.cells #[.int .i64 l1, .int .i64 l2, .int .i64 l3] 42)).heap.size := by simp
  have HT0 := Lib.hid hT0
  clear ha he hT0
  go_enter Tryz.func42, Tryz.ntmps42
  go_wp2_with fail
  generalize w.alloc (.cells #[.int .i64 l1, .int .i64 l2, .int .i64 l3] 42) = X at x0 x1 x2 hz HA HE HT0 ⊢
  have x0' := fun o => al_cell o x0
  have x1' := fun o => al_cell o x1
  have x2' := fun o => al_cell o x2
  go_region_with (first
    | (go_at_call 68; refine (ktable_c k _).mono ?_; rintro e wt ⟨rfl, hwt⟩; have HXt : Hid (Turn [] X wt) := (by rw [hwt]; repeat (first | exact (Turn.refl _ _) | refine Turn.drew ?_ | refine (Turn.trans ?_ (Turn.alloc _ _)))); have t0 := HXt.out.cell x0 (by simp); have t1 := HXt.out.cell x1 (by simp); have t2 := HXt.out.cell x2 (by simp); have t0' := (fun o => al_cell o t0); have t1' := (fun o => al_cell o t1); have t2' := (fun o => al_cell o t2); have HWT := Lib.hid hwt; clear hwt)
    | (go_at_call 69; refine (sclone_c (.slice xa sa.length ca) sa _ hla (HA.out.turn (S := []) (by repeat (first | exact (Turn.refl _ _) | exact HXt.out | refine Turn.drew ?_ | refine (Turn.trans ?_ (Turn.alloc _ _)))) (by simp))).mono ?_; rintro e wa ⟨va, rfl, hoa, hBa⟩; have Hta : Hid (Turn [] wt wa) := (Turn.trans (by repeat (first | exact (Turn.refl _ _) | refine Turn.drew ?_ | refine (Turn.trans ?_ (Turn.alloc _ _)))) (Turn.below (S := []) hBa)); have a0 := (HXt.out.trans Hta.out).cell x0 (by simp); have a1 := (HXt.out.trans Hta.out).cell x1 (by simp); have a2 := (HXt.out.trans Hta.out).cell x2 (by simp); have a0' := (fun o => al_cell o a0); have a1' := (fun o => al_cell o a1); have a2' := (fun o => al_cell o a2); obtain ⟨xa2, ca2, rfl⟩ := own_shape hoa; have HOa := Lib.hid hoa; have HBa := Lib.hid hBa; clear hoa hBa)
    | (go_at_call 69; refine (sclone_c (.slice xe se.length ce) se _ hle (HE.out.turn (S := []) (by repeat (first | exact (Turn.refl _ _) | exact (HXt.out.trans Hta.out) | refine Turn.drew ?_ | refine (Turn.trans ?_ (Turn.alloc _ _)))) (by simp))).mono ?_; rintro e we ⟨ve, rfl, hoe, hBe⟩; have Hae : Hid (Turn [] wa we) := (Turn.trans (by repeat (first | exact (Turn.refl _ _) | refine Turn.drew ?_ | refine (Turn.trans ?_ (Turn.alloc _ _)))) (Turn.below (S := []) hBe)); have e0 := ((HXt.out.trans Hta.out).trans Hae.out).cell x0 (by simp); have e1 := ((HXt.out.trans Hta.out).trans Hae.out).cell x1 (by simp); have e2 := ((HXt.out.trans Hta.out).trans Hae.out).cell x2 (by simp); have e0' := (fun o => al_cell o e0); have e1' := (fun o => al_cell o e1); have e2' := (fun o => al_cell o e2); obtain ⟨xe2, ce2, rfl⟩ := own_shape hoe; have HOe := Lib.hid hoe; have HBe := Lib.hid hBe; clear hoe hBe))
  all_goals
    simp only [Act.put, List.getElem_toArray, List.getElem_cons_succ, List.getElem_cons_zero, List.setIfInBounds_toArray, List.set_cons_succ, List.set_cons_zero]
    go_wp2
    go_ret
    have z1 := HT0.out.size
    have z2 := HXt.out.size
    have z3 := Hta.out.size
    have z4 := Hae.out.size
    first
      | exact pn_end (W0 := we.alloc (.cells #[.slice none 0 0, .slice none 0 0, .slice none 0 0, .int .i64 0] 81)) (tb := X.heap.size) (kinb := we.heap.size) rfl (by simp) (by with_reducible rfl) HT0.out HXt.out Hta.out Hae.out (Turn.alloc _ _) (tb_new (w := X.drew) HWT.out rfl) (by first | omega | (simp; omega)) (by first | omega | (simp; omega)) kin_new HOa.out HOe.out (by first | omega | (simp; omega)) (by first | omega | (simp; omega))
      | exact pn_end (W0 := we) (tb := X.heap.size) (kinb := wa.heap.size) rfl rfl (by with_reducible rfl) HT0.out HXt.out Hta.out Hae.out (Turn.refl _ _) (tb_new (w := X.drew) HWT.out rfl) (by first | omega | (simp; omega)) (by first | omega | (simp; omega)) (kin_old HBe.out) HOa.out HOe.out (by first | omega | (simp; omega)) (by first | omega | (simp; omega))
      | exact pn_end (W0 := we) (tb := X.heap.size) (kinb := wt.heap.size) rfl rfl (by with_reducible rfl) HT0.out HXt.out Hta.out Hae.out (Turn.refl _ _) (tb_new (w := X.drew) HWT.out rfl) (by first | omega | (simp; omega)) (by first | omega | (simp; omega)) (Hae.out.ob (kin_old HBa.out) (by simp)) HOa.out HOe.out (by first | omega | (simp; omega)) (by first | omega | (simp; omega))
      | exact pn_end (W0 := we) (tb := X.heap.size + 1) (kinb := X.heap.size) rfl rfl (by first | with_reducible rfl | simp) HT0.out HXt.out Hta.out Hae.out (Turn.refl _ _) (tb_new (w := (X.alloc (.cells #[.slice none 0 0, .slice none 0 0, .slice none 0 0, .int .i64 0] 81)).drew) HWT.out (by simp)) (by first | omega | (simp; omega)) (by first | omega | (simp; omega)) (Hae.out.ob (Hta.out.ob (kin_tb HWT.out) (by simp)) (by simp)) HOa.out HOe.out (by first | omega | (simp; omega)) (by first | omega | (simp; omega))
end Go.Proofs.YteimilnecahifaaGreatDoor
