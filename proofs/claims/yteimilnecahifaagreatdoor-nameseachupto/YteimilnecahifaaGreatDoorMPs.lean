/- proc.Run of a job without nodes, whose main makes no call. -/
import Derived.Test.YteimilnecahifaaGreatDoorMZ2
import Derived.Test.YteimilnecahifaaGreatDoorMGoWB
import Derived.Test.YteimilnecahifaaGreatDoorMRead
import Derived.Test.YteimilnecahifaaGreatDoorMGoF
namespace Go.Proofs.YteimilnecahifaaGreatDoor
open Go.RowKit Go.Shelf Go.Maps

set_option maxRecDepth 100000 in
set_option maxHeartbeats 8000000 in
theorem run_z {st : Int} (hN : PNewSays) (av ev iv : Value) (fv : Value) (fb : Nat) (l : List (Int × Int)) (sa se : List ByteArray) (ins : List UInt8) (l1 l2 l3 now m : Int) (sf : Nat) (w : World) (hm : w.cell? ⟨0, 0, none⟩ = some (.int .i64 m)) (ha : SsAt w av sa) (he : SsAt w ev se) (hi : ByAt w iv ins) (hF : Fl w fv fb l) (hna : 0 < sa.length) (hla : sa.length ≤ 1048576) (hle : se.length ≤ 1048576) (hli : ins.length ≤ 1073741824) (hlf : l.length ≤ 1048576) (h1 : 1 ≤ l1 ∧ l1 ≤ 1099511627776) (h2 : 1 ≤ l2 ∧ l2 ≤ 1099511627776) (h3 : 1 ≤ l3 ∧ l3 ≤ 1099511627776) (hl : l2 ≤ l3) (hn : 0 ≤ now ∧ now ≤ 1099511627776) (hmild : Mild l)
    (hcs : ∀ (z : Array Value) (u : World), (callFunc sf z).run Tryz.prog u = .ok (.enter sf z) u)
    (hstart : ∀ (G : Gh) (u : World) (rv : Value), Rdy G u ins sa rv → G.faults = l → G.l1 = l1 ∧ G.l2 = l2 ∧ G.l3 = l3 → Turn [] w u → Calls Tryz.prog sf #[ptr G.p] u (EndedZ G u ins rv st)) :
    Calls Tryz.prog 29 #[jobV av ev iv l1 l2 l3 fv now (.slice none 0 0), .func (.func sf) #[] #[]] w fun e w' => ∃ ov ev, e = .returned (.tuple #[.agg #[ov, ev, .int .i64 st, .slice none 0 0, .int .i64 0, .int .i64 0, .int .i64 0], .bool true]) ∧ w'.ownsRow w.heap.size 5 1 ov 0 [] ∧ w'.ownsRow w.heap.size 5 1 ev 0 [] ∧ Below w.heap.size w w' := by
  obtain ⟨xa, ca, rfl⟩ := ha.shape
  obtain ⟨xe, ce, rfl⟩ := he.shape
  obtain ⟨xi, ci, rfl⟩ := hi.shape
  obtain ⟨xf, cf, rfl⟩ : ∃ x c, fv = .slice x l.length c := let ⟨a, c, h, _⟩ := hF; ⟨a, c, h⟩
  have HA := Lib.hid ha
  have HE := Lib.hid he
  have HI := Lib.hid hi
  have HF := Lib.hid hF
  have HM := Lib.hid hm
  have htree := fun u hmu => treeOf_c xa xe xi xf none sa.length ca se.length ce ins.length ci l.length cf 0 0 l1 l2 l3 now m u hmu hna h1 h2 h3 hl hn
  have HTR := Lib.hid htree
  clear ha he hi hF hm htree h1 h2 h3 hl hn
  go_enter Tryz.func29, Tryz.ntmps29
  go_wp2_with fail
  have hX : Turn [] w ((w.alloc (.cells #[.slice xa sa.length ca, .slice xe se.length ce, .string sE, .slice xi ins.length ci, .slice none 0 0, .int .i64 l1, .int .i64 l2, .int .i64 l3, .slice xf l.length cf, .int .i64 now, .slice none 0 0] 46)).alloc (.cells #[.slice none 0 0, .slice none 0 0, .int .i64 0, .slice none 0 0, .int .i64 0, .int .i64 0, .int .i64 0] 30)) := (Turn.alloc _ _).trans (Turn.alloc _ _)
  have hJ : JbAt ((w.alloc (.cells #[.slice xa sa.length ca, .slice xe se.length ce, .string sE, .slice xi ins.length ci, .slice none 0 0, .int .i64 l1, .int .i64 l2, .int .i64 l3, .slice xf l.length cf, .int .i64 now, .slice none 0 0] 46)).alloc (.cells #[.slice none 0 0, .slice none 0 0, .int .i64 0, .slice none 0 0, .int .i64 0, .int .i64 0, .int .i64 0] 30)) w.heap.size (.slice xa sa.length ca) (.slice xe se.length ce) (.slice xi ins.length ci) l1 l2 l3 (.slice xf l.length cf) now (.slice none 0 0) := al_old _ (al_new _ _ rfl)
  have hRs : ((w.alloc (.cells #[.slice xa sa.length ca, .slice xe se.length ce, .string sE, .slice xi ins.length ci, .slice none 0 0, .int .i64 l1, .int .i64 l2, .int .i64 l3, .slice xf l.length cf, .int .i64 now, .slice none 0 0] 46)).alloc (.cells #[.slice none 0 0, .slice none 0 0, .int .i64 0, .slice none 0 0, .int .i64 0, .int .i64 0, .int .i64 0] 30)).heap[w.heap.size + 1]? = some (.cells #[.slice none 0 0, .slice none 0 0, .int .i64 0, .slice none 0 0, .int .i64 0, .int .i64 0, .int .i64 0] 30) := al_new _ _ (by simp)
  have hzX : ((w.alloc (.cells #[.slice xa sa.length ca, .slice xe se.length ce, .string sE, .slice xi ins.length ci, .slice none 0 0, .int .i64 l1, .int .i64 l2, .int .i64 l3, .slice xf l.length cf, .int .i64 now, .slice none 0 0] 46)).alloc (.cells #[.slice none 0 0, .slice none 0 0, .int .i64 0, .slice none 0 0, .int .i64 0, .int .i64 0, .int .i64 0] 30)).heap.size = w.heap.size + 2 := by simp
  generalize (w.alloc (.cells #[.slice xa sa.length ca, .slice xe se.length ce, .string sE, .slice xi ins.length ci, .slice none 0 0, .int .i64 l1, .int .i64 l2, .int .i64 l3, .slice xf l.length cf, .int .i64 now, .slice none 0 0] 46)).alloc (.cells #[.slice none 0 0, .slice none 0 0, .int .i64 0, .slice none 0 0, .int .i64 0, .int .i64 0, .int .i64 0] 30) = X at hX hJ hRs hzX ⊢
  refine (HTR.out X (hX.cell HM.out (by simp))).mono ?_
  rintro e w1 ⟨t, rt, rm, fm, rfl, hT1, hB1⟩
  have hT01 : Turn [] w w1 := hX.trans (Turn.below hB1)
  have hJ1 := (Turn.below (S := []) hB1).ob hJ (by simp)
  have hR1 := (Turn.below (S := []) hB1).ob hRs (by simp)
  have z1 := hB1.size
  have hl1 : t < w1.heap.size ∧ rt < w1.heap.size ∧ rm < w1.heap.size ∧ fm < w1.heap.size := ⟨hT1.hT.lt, hT1.hN.lt, hT1.hM.lt, hT1.hF.lt⟩
  have hkn := knew_c t fb _ l now w1 (HF.out.turn hT01 (by simp)) hlf (by omega)
  have j8 : w1.cell? ⟨w.heap.size, 8, none⟩ = some (.slice xf l.length cf) := h_cell hJ1 8 rfl
  have j9 : w1.cell? ⟨w.heap.size, 9, none⟩ = some (.int .i64 now) := h_cell hJ1 9 rfl
  have HX1 := Lib.hid (And.intro hT1 (And.intro hT01 (And.intro hJ1 hR1)))
  clear hX hJ hRs hB1 hT1 hJ1 hR1 hT01 HTR HM
  go_wp2_with (go_at_call 41; refine hkn.mono ?_; rintro e w2 ⟨kn, fb', th, fv', rfl, g1, g2, g3, g4, g5, hK2, hF2, hM2, hB2⟩; have hJ2 := (Turn.below (S := []) hB2).ob HX1.out.2.2.1 (by simp); have i0 : w2.cell? ⟨w.heap.size, 0, none⟩ = some (.slice xa sa.length ca) := h_cell hJ2 0 rfl; have i1 : w2.cell? ⟨w.heap.size, 1, none⟩ = some (.slice xe se.length ce) := h_cell hJ2 1 rfl; have i2 : w2.cell? ⟨w.heap.size, 2, none⟩ = some (.string sE) := h_cell hJ2 2 rfl; have i5 : w2.cell? ⟨w.heap.size, 5, none⟩ = some (.int .i64 l1) := h_cell hJ2 5 rfl; have i6 : w2.cell? ⟨w.heap.size, 6, none⟩ = some (.int .i64 l2) := h_cell hJ2 6 rfl; have i7 : w2.cell? ⟨w.heap.size, 7, none⟩ = some (.int .i64 l3) := h_cell hJ2 7 rfl; have HX2 := Lib.hid (And.intro hK2 (And.intro hF2 (And.intro hM2 (And.intro hB2 hJ2)))); clear hK2 hF2 hM2 hB2 hJ2)
  obtain ⟨hK2, hF2, hM2, hB2, hJ2⟩ := HX2.out
  obtain ⟨hT1, hT01, hJ1, hR1⟩ := HX1.out
  have hT02 : Turn [] w w2 := hT01.trans (Turn.below hB2)
  refine (hN kn _ _ sa se sE l1 l2 l3 w2 (HA.out.turn hT02 (by simp)) (HE.out.turn hT02 (by simp)) hla hle).mono ?_
  rintro e w3 ⟨p, tb, kin, av', ev', rfl, q1, q2, q3, hP3, hTb3, hKi3, ho1, ho2, hB3⟩
  have hT23 : Turn [] w2 w3 := Turn.below hB3
  have hT03 := hT02.trans hT23
  have hK3 := hT23.ob hK2 (by simp)
  have hF3 := hF2.turn hT23 (by simp)
  have hM3 := hT23.map hM2 (by simp)
  have hJ3 := hT23.ob hJ2 (by simp)
  have hR3 := hT23.ob ((Turn.below (S := []) hB2).ob hR1 (by simp)) (by simp)
  have hTr3 := (hT1.turn (Turn.below (S := []) hB2) (by simp)).turn hT23 (by simp)
  have z2 := hB2.size
  have z3 := hB3.size
  have p11 : w3.cell? ⟨p, 11, none⟩ = some (ptr kin) := h_cell hP3 11 rfl
  have k2 : w3.cell? ⟨kin, 2, none⟩ = some (.slice none 0 0) := h_cell hKi3 2 rfl
  have y2 := h_fz hKi3 2
  have j10 : w3.cell? ⟨w.heap.size, 10, none⟩ = some (.slice none 0 0) := h_cell hJ3 10 rfl
  have hcl := Tryz.slices_Clone_nil_f43 0 0 w3.drew
  have HX3 := Lib.hid (And.intro hP3 (And.intro hTb3 (And.intro hKi3 (And.intro hK3 (And.intro hF3 (And.intro hM3 (And.intro hJ3 (And.intro hR3 (And.intro hTr3 (And.intro hT03 (And.intro ho1 ho2)))))))))))
  clear hP3 hTb3 hKi3 ho1 ho2 hB3 hK3 hF3 hM3 hJ3 hR3 hTr3 hT03 hT23 hK2 hF2 hM2 hB2 hJ2 hT1 hT01 hJ1 hR1 hT02 HX1 HX2 hkn j8 j9 i0 i1 i2 i5 i6 i7 hN HA HE
  go_upto_region 6 with fail
  go_cut [] (fun wx => Hid (Turn [kin] w3 wx ∧ KnAt0 wx kin (.slice none 0 0)))
  case first =>
    go_region_with (go_at_call 43; refine hcl.mono ?_; rintro e w' ⟨rfl, hw'⟩; rw [hw']; clear hw')
    all_goals
      go_wp2_with fail
      go_meet
      refine ⟨(Turn.set w3 kin 2 _ (by simp)).drew, ?_⟩
      have := h_set HX3.out.2.2.1 2 (.slice none 0 0)
      exact (show (w3.setCell ⟨kin, 2, none⟩ (.slice none 0 0)).heap[kin]? = _ from this)
  case rest =>
    obtain ⟨hT34, hKi4⟩ := hcut.out
    obtain ⟨hP3, hTb3, hKi3, hK3, hF3, hM3, hJ3, hR3, hTr3, hT03, ho1, ho2⟩ := HX3.out
    have nk1 : p ≠ kin := h_ne hP3 hKi3 (by decide)
    have nk2 : tb ≠ kin := h_ne hTb3 hKi3 (by decide)
    have nk3 : kn ≠ kin := h_ne hK3 hKi3 (by decide)
    have nk4 : w.heap.size ≠ kin := h_ne hJ3 hKi3 (by decide)
    have nk5 : w.heap.size + 1 ≠ kin := h_ne hR3 hKi3 (by decide)
    have hP4 := hT34.ob hP3 (by simpa using nk1)
    have hTb4 := hT34.ob hTb3 (by simpa using nk2)
    have hK4 := hT34.ob hK3 (by simpa using nk3)
    have hJ4 := hT34.ob hJ3 (by simpa using nk4)
    have hR4 := hT34.ob hR3 (by simpa using nk5)
    have hthk : th ≠ kin := fun e => by
      obtain ⟨es, c, he, _⟩ := hM3
      rw [e] at he
      rw [show w3.heap[kin]? = _ from hKi3] at he
      cases he
    have hM4 := hT34.map hM3 (by simpa using hthk)
    have hkz : w.heap.size ≤ kin := by have := hT03.size; omega
    have hT04 : Turn [] w wc := ⟨hT34.os.trans hT03.os, hT34.tape.trans hT03.tape, hT34.output.trans hT03.output, Nat.le_trans hT03.size hT34.size, fun b hb hn => (hT34.block b (Nat.lt_of_lt_of_le hb hT03.size) (by simp; omega)).trans (hT03.block b hb hn)⟩
    have hsrc := source_by kn th 0 _ (ptr t) fv' 0 now 0 mE ins wc hK4 hM4 (by decide) (by decide) (by decide) hli (HI.out.turn hT04 (by simp))
    have j3 : wc.cell? ⟨w.heap.size, 3, none⟩ = some (.slice xi ins.length ci) := h_cell hJ4 3 rfl
    have HX4 := Lib.hid (And.intro hP4 (And.intro hTb4 (And.intro hKi4 (And.intro hJ4 (And.intro hR4 (And.intro hT34 (And.intro hT04 HX3.out)))))))
    clear hP3 hTb3 hKi3 hK3 hF3 hM3 hJ3 hR3 hTr3 hT03 ho1 ho2 hP4 hTb4 hK4 hJ4 hR4 hKi4 hT34 hM4 hT04 HX3 p11 k2 y2 j10 hcl hcut
    go_wp2_with (first
      | (go_at_call 44; refine hsrc.mono ?_; rintro e w5 ⟨so, rv, rfl, gso, hS5, hor5, hK5, hM5, hT45⟩; have hsk1 := sink_c kn th 1 (ptr t) fv' 0 now 1 _ w5 (by simpa using hK5) hM5 (by decide) (by decide) (by decide); have HX5 := Lib.hid (And.intro hS5 (And.intro hor5 hT45)); clear hS5 hor5 hK5 hM5 hT45)
      | (go_at_call 45; refine hsk1.mono ?_; rintro e w6 ⟨s1, rfl, gs1, hS6, hK6, hM6, hT56⟩; have hsk2 := sink_c kn th 2 (ptr t) fv' 0 now 2 _ w6 (by simpa using hK6) hM6 (by decide) (by decide) (by decide); have HX6 := Lib.hid (And.intro hS6 hT56); clear hS6 hK6 hM6 hT56)
      | (go_at_call 45; refine hsk2.mono ?_; rintro e w7 ⟨s2, rfl, gs2, hS7, hK7, hM7, hT67⟩; have HX7 := Lib.hid (And.intro hS7 (And.intro hK7 (And.intro hM7 hT67))); clear hS7 hK7 hM7 hT67))
    have HS : ∃ rb D, Hid (PutS w (gh0 p kn tb so s1 s2 th fb' rb kin (ptr t) fv' av' ev' l now l1 l2 l3) (w7.alloc (.cells #[.int .i64 1, .int .i64 2, .int .i64 3] 3)) 0 t rt rm fm D sa ins rv) ∧ (tb < w7.heap.size ∧ so < w7.heap.size ∧ s1 < w7.heap.size ∧ s2 < w7.heap.size) := by
      obtain ⟨hP4, hTb4, hKi4, hJ4, hR4, hT34, hT04, hP3, hTb3, hKi3, hK3, hF3, hM3, hJ3, hR3, hTr3, hT03, ho1, ho2⟩ := HX4.out
      obtain ⟨hS5, hor5, hT45⟩ := HX5.out
      obtain ⟨hS6, hT56⟩ := HX6.out
      obtain ⟨hS7, hK7, hM7, hT67⟩ := HX7.out
      obtain ⟨es, cm, hmb⟩ := map_block hM3
      have a1 := h_lt hK3
      have a2 := hM3.lt
      have a3 := hT34.size
      have a4 := hT45.size
      have a5 := hT56.size
      have a6 := hT67.size
      have aw := hT04.size
      have b1 := h_ne hP3 hK3 (by decide)
      have b2 := h_ne_map hP3 hmb
      have b3 := h_ne hTb3 hK3 (by decide)
      have b4 := h_ne_map hTb3 hmb
      have b5 := h_ne hR3 hK3 (by decide)
      have b6 := h_ne_map hR3 hmb
      have b7 := row_ne ho1 hK3 (by decide)
      have b8 := row_not_map ho1 hmb
      have b9 := row_ne ho1 hKi3 (by decide)
      have l5 := h_lt hS5
      have l6 := h_lt hS6
      have l7 := h_lt hS7
      have lp := h_lt hP3
      have lt' := h_lt hTb3
      have hTA : Turn [kn, th] wc (w7.alloc (.cells #[.int .i64 1, .int .i64 2, .int .i64 3] 3)) := ((hT45.trans hT56).trans hT67).trans (Turn.alloc _ _)
      have hTB : Turn [kn, th] w5 (w7.alloc (.cells #[.int .i64 1, .int .i64 2, .int .i64 3] 3)) := (hT56.trans hT67).trans (Turn.alloc _ _)
      have hTC : Turn [kn, th] w6 (w7.alloc (.cells #[.int .i64 1, .int .i64 2, .int .i64 3] 3)) := hT67.trans (Turn.alloc _ _)
      have hTD : Turn [] w7 (w7.alloc (.cells #[.int .i64 1, .int .i64 2, .int .i64 3] 3)) := Turn.alloc _ _
      have hge := hTA.size
      have hgB := hTB.size
      have hrg : ∀ g, rv.ownBlock = some g → wc.heap.size ≤ g := fun g hg => own_ge hor5 hg
      have hrl : ∀ g, rv.ownBlock = some g → g < w5.heap.size := fun g hg => own_lt hor5 hg
      obtain ⟨rb, hrb, hrb1, hrb2, hrb3⟩ : ∃ rb, (∀ b, rv.ownBlock = some b → b = rb) ∧ rb < w5.heap.size ∧ (rb ≠ kn ∧ rb ≠ so ∧ rb ≠ p) ∧ w.heap.size ≤ rb := by
        by_cases h : ∃ g, rv.ownBlock = some g
        · obtain ⟨g, hg⟩ := h
          have := hrg g hg
          exact ⟨g, fun b hb => by rw [hg] at hb; cases hb; rfl, hrl g hg, ⟨by omega, fun e => row_ne hor5 hS5 (by decide) (e ▸ hg), by omega⟩, by omega⟩
        · have e1 := h_ne hTb3 hP3 (by decide)
          exact ⟨tb, fun b hb => absurd ⟨b, hb⟩ h, by omega, ⟨b3, by omega, e1⟩, by omega⟩
      have hN : ∀ g, av'.ownBlock = some g → g ∉ [kin] := fun g hg e => b9 (by simp at e; exact e ▸ hg)
      have hN2 : ∀ g, av'.ownBlock = some g → g ∉ [kn, th] := fun g hg e => by
        simp at e
        rcases e with e | e
        · exact b7 (e ▸ hg)
        · exact b8 (e ▸ hg)
      have f2 : SoAt (w7.alloc (.cells #[.int .i64 1, .int .i64 2, .int .i64 3] 3)) so 0 rv := hTB.ob hS5 (by simp; omega)
      have f3 : SkAt (w7.alloc (.cells #[.int .i64 1, .int .i64 2, .int .i64 3] 3)) s1 0 (.slice none 0 0) := hTC.ob hS6 (by simp; omega)
      have f4 := hF3.turn hT34 (by simp; omega)
      have f5 := f4.turn hTA (by simp; exact ⟨g4, g5⟩)
      have f6 := own_less0 (own_turn hor5 hTB (fun g hg e => by have := hrg g hg; simp at e; omega)) (Nat.zero_le _)
      have f7 : Tr0 w.heap.size (w7.alloc (.cells #[.int .i64 1, .int .i64 2, .int .i64 3] 3)) t rt rm fm := ((hTr3.turn hT34 (by simp; omega)).turn hTA (by simp; omega)).less (by omega)
      have f8 := turn_since hT04 hTA (fun b hb => by simp at hb; omega)
      refine ⟨rb, D3 so s1 s2, (?_ : PutS _ _ _ _ _ _ _ _ _ _ _ _), by omega⟩
      exact { fs := ⟨hTA.ob hTb4 (by simp; exact ⟨b3, b4⟩), f2, f3, hTD.ob hS7 (by simp)⟩, kn := hTD.ob hK7 (by simp), fl := f5, pr := hTA.ob hP4 (by simp; exact ⟨b1, b2⟩), row := f6, rb := hrb, rlt := ⟨by show rb < _; omega, by show fb' < _; omega⟩, b := ⟨hTD.map hM7 (by simp), f7, own_less0 (own_turn (own_turn ho1 hT34 hN) hTA hN2) (Nat.zero_le _), hTA.ob hR4 (by simp; exact ⟨b5, b6⟩)⟩, since := f8, ge := (by show w.heap.size ≤ p ∧ w.heap.size ≤ kn ∧ w.heap.size ≤ tb ∧ w.heap.size ≤ so ∧ w.heap.size ≤ s1 ∧ w.heap.size ≤ s2; omega), look := D3_look so s1 s2, s12 := (by show s1 ≠ s2; omega), fne := (by show fb' ≠ kn ∧ fb' ≠ so ∧ fb' ≠ s1 ∧ fb' ≠ s2 ∧ fb' ≠ p ∧ fb' ≠ tb; omega), rne := ⟨hrb2.1, hrb2.2.1, (by show rb ≠ s1; omega), (by show rb ≠ s2; omega), hrb2.2.2⟩ }
    obtain ⟨rb, D, HS, hlt7⟩ := HS
    generalize hG : gh0 p kn tb so s1 s2 th fb' rb kin (ptr t) fv' av' ev' l now l1 l2 l3 = G at HS
    have hG2 : G.tb = tb ∧ G.p = p ∧ G.kn = kn ∧ G.tr = ptr t ∧ (G.faults = l ∧ G.l1 = l1 ∧ G.l2 = l2 ∧ G.l3 = l3) ∧ (G.last = 3 ∧ G.cwd = sE ∧ G.box = .nilIface ∧ G.isChild = false) ∧ G.s1 = s1 ∧ G.s2 = s2 ∧ G.so = so := by rw [← hG]; exact ⟨rfl, rfl, rfl, rfl, ⟨rfl, rfl, rfl, rfl⟩, ⟨rfl, rfl, rfl, rfl⟩, rfl, rfl, rfl⟩
    obtain ⟨rfl, rfl, rfl, htr, hGs, hGl, rfl, rfl, rfl⟩ := hG2
    have z8 : ∀ i, (w7.alloc (.cells #[.int .i64 1, .int .i64 2, .int .i64 3] 3)).cell? ⟨w7.heap.size, i, none⟩ = (#[Value.int .i64 1, .int .i64 2, .int .i64 3] : Array Value)[i]? := fun i => h_cells _ _ _ i
    have d0 : (w7.alloc (.cells #[.int .i64 1, .int .i64 2, .int .i64 3] 3)).cell? ⟨w7.heap.size, 0, none⟩ = some (.int .i64 1) := z8 0
    have d1 : (w7.alloc (.cells #[.int .i64 1, .int .i64 2, .int .i64 3] 3)).cell? ⟨w7.heap.size, 1, none⟩ = some (.int .i64 2) := z8 1
    have d2 : (w7.alloc (.cells #[.int .i64 1, .int .i64 2, .int .i64 3] 3)).cell? ⟨w7.heap.size, 2, none⟩ = some (.int .i64 3) := z8 2
    clear hG HX4 HX5 HX6 HX7 hsrc hsk1 hsk2 z8
    go_loopw [62] (fun i wr => ∃ n : Nat, i = .int .i64 n ∧ n ≤ 3 ∧ Hid (PutS w G wr n t rt rm fm D sa ins rv) ∧ wr.cell? ⟨w7.heap.size, 0, none⟩ = some (.int .i64 1) ∧ wr.cell? ⟨w7.heap.size, 1, none⟩ = some (.int .i64 2) ∧ wr.cell? ⟨w7.heap.size, 2, none⟩ = some (.int .i64 3)) (fun i _ => 3 - (intOf i).toNat)
    case atStart => exact ⟨0, rfl, by decide, HS, d0, d1, d2⟩
    case round =>
      obtain ⟨n, rfl, hn, HI, e0, e1, e2⟩ := hrel
      clear HS d0 d1 d2
      have hn4 : n = 0 ∨ n = 1 ∨ n = 2 ∨ n = 3 := by omega
      have p1 : wr.cell? ⟨G.p, 1, none⟩ = some (ptr G.tb) := h_cell HI.out.pr 1 rfl
      rcases hn4 with rfl | rfl | rfl | rfl
      · have hu := put_0 (G := G) (show FS G wr _ 0 0 0 rv (.slice none 0 0) (.slice none 0 0) from HI.out.fs) HI.out.kn HI.out.b.map HI.out.look.1
        go_wp2_with (go_at_call 46; refine hu.mono ?_; rintro r w2 ⟨rfl, hF2, hT2⟩)
        exact ⟨⟨1, rfl, by decide, HI.out.turn hT2 (by simp) hF2, hT2.cell e0 (by simp; omega), hT2.cell e1 (by simp; omega), hT2.cell e2 (by simp; omega)⟩, by decide⟩
      · have hu := put_1 (G := G) (show FS G wr _ 1 0 0 rv (.slice none 0 0) (.slice none 0 0) from HI.out.fs) HI.out.kn HI.out.b.map HI.out.look.2.1 HI.out.s12
        go_wp2_with (go_at_call 46; refine hu.mono ?_; rintro r w2 ⟨rfl, hF2, hT2⟩)
        exact ⟨⟨2, rfl, by decide, HI.out.turn hT2 (by simp) hF2, hT2.cell e0 (by simp; omega), hT2.cell e1 (by simp; omega), hT2.cell e2 (by simp; omega)⟩, by decide⟩
      · have hu := put_2 (G := G) (show FS G wr _ 1 1 0 rv (.slice none 0 0) (.slice none 0 0) from HI.out.fs) HI.out.kn HI.out.b.map HI.out.look.2.2 HI.out.s12
        go_wp2_with (go_at_call 46; refine hu.mono ?_; rintro r w2 ⟨rfl, hF2, hT2⟩)
        exact ⟨⟨3, rfl, by decide, HI.out.turn hT2 (by simp) hF2, hT2.cell e0 (by simp; omega), hT2.cell e1 (by simp; omega), hT2.cell e2 (by simp; omega)⟩, by decide⟩
      · have hR := HI.out.rdy hGl (by rw [hGs.1]; exact hmild)
        have hst := hstart G wr rv hR hGs.1 hGs.2 HI.out.since
        have HR := Lib.hid hR
        clear hR hstart e0 e1 e2 p1
        go_wp2_with fail
        refine hst.mono ?_
        rintro e w10 ⟨m', rfl, hm1, hm2, hF10, hT10⟩
        obtain ⟨on, hmc10⟩ := hF10.mc
        have m5 : w10.cell? ⟨m', 5, none⟩ = some (.bool on) := h_cell hmc10 5 rfl
        have y5 := h_fz hmc10 5
        have HPW := Lib.hid (And.intro hF10 (And.intro hT10 hmc10))
        clear hst hF10 hT10 hmc10
        go_wp2_with fail
        obtain ⟨hF10, hT10, hmc10⟩ := HPW.out
        have hI := HI.out
        have hTm : Turn [m'] w10 (w10.setCell ⟨m', 5, none⟩ (.bool true)) := Turn.set _ _ _ _ (by simp)
        have hge := hI.ge
        have hsz := hI.since.size
        have hfar0 : ∀ b ∈ [G.p, G.tb, G.so, G.s1, G.s2], Far w.heap.size G.th t rt rm fm G.args b ∧ w.heap.size ≤ b := fun b hb => by
          simp only [List.mem_cons, List.not_mem_nil, or_false] at hb
          rcases hb with rfl | rfl | rfl | rfl | rfl
          · exact ⟨hI.b.far hI.pr (by decide) (by decide) (by decide) (by decide), hge.1⟩
          · exact ⟨hI.b.far hI.fs.tb (by decide) (by decide) (by decide) (by decide), hge.2.2.1⟩
          · exact ⟨hI.b.far hI.fs.so (by decide) (by decide) (by decide) (by decide), hge.2.2.2.1⟩
          · exact ⟨hI.b.far hI.fs.k1 (by decide) (by decide) (by decide) (by decide), hge.2.2.2.2.1⟩
          · exact ⟨hI.b.far hI.fs.k2 (by decide) (by decide) (by decide) (by decide), hge.2.2.2.2.2⟩
        have hB10 := hI.b.turn hT10 (fun b hb => (hfar0 b hb).1)
        have hs10 : Turn [] w w10 := turn_since hI.since hT10 (fun b hb => (hfar0 b hb).2)
        have hB11 := hB10.turn hTm (fun b hb => by obtain rfl : b = m' := by simpa using hb
                                                   exact hB10.far hmc10 (by decide) (by decide) (by decide) (by decide))
        have hs11 : Turn [] w (w10.setCell ⟨m', 5, none⟩ (.bool true)) := turn_since hs10 hTm (fun b hb => by
          obtain rfl : b = m' := by simpa using hb
          omega)
        have hmc11 : McAt (w10.setCell ⟨m', 5, none⟩ (.bool true)) m' G.p .nilFunc (.slice none 0 0) 0 .nilFunc true 0 true st := by
          have := h_set hmc10 5 (.bool true)
          simpa using this
        have hnm : ∀ {b T : Nat} {cs : Array Value} {fz : Nat × Nat}, w10.heap[b]? = some (.cells cs T fz) → T ≠ 98 → b ∉ [m'] := fun {b T cs fz} h hT e => by
          obtain rfl : b = m' := by simpa using e
          exact absurd rfl (h_ne h hmc10 hT)
        have hF11 : FinZ { G with m := m' } (w10.setCell ⟨m', 5, none⟩ (.bool true)) ⟨0, ins, [], []⟩ st rv (.slice none 0 0) (.slice none 0 0) :=
          ⟨hTm.ob hF10.pr (hnm hF10.pr (by decide)), ⟨true, hmc11⟩, hTm.ob hF10.kn (hnm hF10.kn (by decide)), ⟨hTm.ob hF10.fs.tb (hnm hF10.fs.tb (by decide)), hTm.ob hF10.fs.so (hnm hF10.fs.so (by decide)), hTm.ob hF10.fs.k1 (hnm hF10.fs.k1 (by decide)), hTm.ob hF10.fs.k2 (hnm hF10.fs.k2 (by decide))⟩, own_turn hF10.o1 hTm (fun g hg => by simp [Value.ownBlock] at hg), own_turn hF10.o2 hTm (fun g hg => by simp [Value.ownBlock] at hg)⟩
        generalize w10.setCell ⟨m', 5, none⟩ (.bool true) = w12 at hF11 hmc11 hB11 hs11 ⊢
        have hstep := step_done hmc11
        have HA : Hid (∀ u, Below w12.heap.size w12 u → Asks { G with m := m' } t ⟨0, ins, [], []⟩ 0 0 st u) := fun u hu => run_asksZ hF11 hB11 ⟨hI.look.2.1, hI.look.2.2⟩ (by simp) u hu
        have HZ := Lib.hid (And.intro hs11 hB11.res)
        clear hF11 hmc11 hB11 hs11 hs10 hB10 hfar0 hTm hnm hmc10 hF10 hT10 HPW hI HI HR m5 y5
        go_loopg [] 1 (fun g wr => wr = w12)
        case atStart => exact rfl
        case round =>
          subst hrel
          go_wp2_with (go_at_call 47; refine hstep.mono ?_; rintro e w' ⟨rfl, hw'⟩; rw [hw']; clear hw')
          clear hstep
          have a1 := (HA.out wr (Below.refl _ _)).out
          refine a1.mono ?_
          rintro e w13 ⟨ov, rfl, ho1, hB13⟩
          have a2 := (HA.out w13 hB13).err
          obtain ⟨xo, co, rfl⟩ := own_shape ho1
          clear a1
          go_wp2_with (first
            | (go_at_call 48; refine a2.mono ?_; rintro e w14 ⟨ev2, rfl, ho2, hB14⟩; have hB24 := hB13.trans (hB14.mono hB13.size); have a3 := (HA.out w14 hB24).status; have a4 := (HA.out w14 hB24).dump; obtain ⟨xe2, ce2, rfl⟩ := own_shape ho2; clear a2)
            | (go_at_call 49; refine a3.mono ?_; rintro e w' ⟨rfl, hw'⟩; rw [hw']; clear hw' a3)
            | (go_at_call 50; refine a4.mono ?_; rintro e w15 ⟨rfl, hB15⟩; have hB25 := hB24.trans (hB15.mono hB24.size); have a5 := (HA.out w15 hB25).steps; have a6 := (HA.out w15 hB25).peak; have a7 := (HA.out w15 hB25).used; clear a4)
            | (go_at_call 51; refine a5.mono ?_; rintro e w' ⟨rfl, hw'⟩; rw [hw']; clear hw' a5)
            | (go_at_call 52; refine a6.mono ?_; rintro e w' ⟨rfl, hw'⟩; rw [hw']; clear hw' a6)
            | (go_at_call 53; refine a7.mono ?_; rintro e w' ⟨rfl, hw'⟩; rw [hw']; clear hw' a7; have hr15 := (Turn.below (S := []) hB25).ob HZ.out.2 (by simp); have r0 := h_cell hr15 0 rfl; have r1 := h_cell hr15 1 rfl; have r2 := h_cell hr15 2 rfl; have r3 := h_cell hr15 3 rfl; have r4 := h_cell hr15 4 rfl; have r5 := h_cell hr15 5 rfl; have r6 := h_cell hr15 6 rfl; have y0 := h_fz hr15 0; have y1 := h_fz hr15 1; have y2 := h_fz hr15 2; have y3 := h_fz hr15 3; have y4 := h_fz hr15 4; have y5 := h_fz hr15 5; have y6 := h_fz hr15 6; clear hr15))
          obtain ⟨hs12, hres⟩ := HZ.out
          have hr15 : RsAt w15 (w.heap.size + 1) _ _ _ _ _ _ _ := (Turn.below (S := []) hB25).ob hres (by simp)
          have hset := hr15.set (.slice xo 0 co) (.slice xe2 0 ce2) (.int .i64 st) (.slice none 0 0) (.int .i64 0) (.int .i64 0) (.int .i64 0)
          have htrn := RsAt.turn w15 (w.heap.size + 1) (.slice xo 0 co) (.slice xe2 0 ce2) (.int .i64 st) (.slice none 0 0) (.int .i64 0) (.int .i64 0) (.int .i64 0)
          refine bodyPost_ret (results_rs rfl rfl hset rfl) rfl ?_
          have q13 := hB13.size
          have q14 := hB14.size
          have q15 := hB15.size
          have qw := hs12.size
          have qr := h_lt hres
          refine ⟨_, _, rfl, ?_, ?_, ?_⟩
          · have o1 := own_turn (own_turn (own_turn ho1 (Turn.below (S := []) hB14) (by simp)) (Turn.below (S := []) hB15) (by simp)) htrn (fun g hg e => by have := own_ge ho1 hg; simp at e; omega)
            exact own_less0 o1 (by omega)
          · have o2 := own_turn (own_turn ho2 (Turn.below (S := []) hB15) (by simp)) htrn (fun g hg e => by have := own_ge ho2 hg; simp at e; omega)
            exact own_less0 o2 (by omega)
          · have hT := turn_since (turn_since hs12 (Turn.below (S := []) hB25) (by simp)) htrn (fun b hb => by simp at hb; omega)
            exact ⟨hT.os, hT.tape, hT.output, hT.size, fun b hb => hT.block b hb (by simp)⟩
end Go.Proofs.YteimilnecahifaaGreatDoor

namespace Go.Proofs.YteimilnecahifaaGreatDoor
open Go.RowKit Go.Maps

section
variable {w : World} {p kn tb kin : Nat} {args env box : Value} {cwd : ByteArray} {l1 l2 l3 held peak : Int} {isChild : Bool} {m : Nat} {main : Value} {steps status : Int} {once : Bool} {x : Option Addr} {c n : Nat} {told : Int}
end
end Go.Proofs.YteimilnecahifaaGreatDoor

namespace Go.Proofs.YteimilnecahifaaGreatDoor
open Go.RowKit Go.Shelf Go.Maps

section
variable {w : World} {p kn tb kin : Nat} {args env box : Value} {cwd : ByteArray} {l1 l2 l3 held peak : Int} {isChild : Bool} {m : Nat} {main : Value} {steps status : Int} {once : Bool} {x : Option Addr} {c n : Nat} {told : Int}
end

section
variable {G : Gh} {w : World} {fresh : Bool} {k : KC} {held peak steps : Int} {rv v1 v2 : Value}
end
end Go.Proofs.YteimilnecahifaaGreatDoor

namespace Go.Proofs.YteimilnecahifaaGreatDoor
open Go.RowKit Go.Shelf Go.Maps

/-- What a process has come to. -/
structure Sx where
  k : KC
  held : Int
  peak : Int
  steps : Int
/-- Where it lies, the world in which main began, the sinks' rows then, the first call. -/
structure Ev where
  G : Gh
  W0 : World
  (u1 u2 : Value)
  c0 : KCall
/-- What may be turned of what there was when main began. -/
def Xs (E : Ev) : Option Bool → List Nat
  | none => [E.G.m, E.G.p]
  | some _ => privL E.G E.u1 E.u2
/-- The process in its first pass. -/
structure PA (G : Gh) (w : World) : Prop where
  pr : PrAt w G.p G.kn G.tb G.args G.env G.cwd G.l1 G.l2 G.l3 0 0 G.box G.kin G.isChild (ptr G.m)
  mc : McAt w G.m G.p G.main (.slice none 0 0) 0 .nilFunc false 0 false 0
  base : G.base ≤ w.heap.size
  stat : G.p < G.base ∧ G.m < G.base
def PSt (md : Option Bool) (G : Gh) (w : World) (s : Sx) (rv v1 v2 : Value) : Prop :=
  match md with
  | none => PA G w ∧ v1 = .slice none 0 0 ∧ v2 = .slice none 0 0
  | some fresh => PB G w fresh s.k s.held s.peak (s.steps + if fresh then 1 else 0) rv v1 v2
/-- The process; M: blocks of main's own, which no call turns. -/
structure PS (E : Ev) (md : Option Bool) (w : World) (s : Sx) (M : List Nat) : Prop where
  ex : ∃ rv v1 v2, PSt md E.G w s rv v1 v2 ∧ (∀ b ∈ M, b < w.heap.size ∧ b ∉ privL E.G v1 v2) ∧ (∀ b, v1.ownBlock = some b → b < w.heap.size ∧ (E.u1.ownBlock = some b ∨ E.W0.heap.size ≤ b)) ∧ (∀ b, v2.ownBlock = some b → b < w.heap.size ∧ (E.u2.ownBlock = some b ∨ E.W0.heap.size ≤ b))
  since : Turn (Xs E md) E.W0 w
  first : md = some true → E.G.first = E.c0
  zero : md ≠ some false → s.held = 0 ∧ s.peak = 0 ∧ s.steps = 0
  nn : 0 ≤ s.held ∧ s.held ≤ 9223372036854775807 ∧ 0 ≤ s.steps
  fit : E.G.base ≤ E.W0.heap.size
  st : ∀ b ∈ [E.G.kn, E.G.so, E.G.s1, E.G.s2], b < E.W0.heap.size

/-- Main is left at its first call. -/
def Waits (md : Option Bool) (E : Ev) (M : List Nat) (e : Ending) (w w' : World) : Prop :=
  md = none ∧ e = .panicked waitsP ∧ (∃ nx, (∃ f y z, nx = .func f y z) ∧ Wt E.G w' E.c0 nx ∧ McAt w' E.G.m E.G.p E.G.main (.slice none 0 0) 0 nx false 0 false 0) ∧ PrAt w' E.G.p E.G.kn E.G.tb E.G.args E.G.env E.G.cwd E.G.l1 E.G.l2 E.G.l3 0 0 E.G.box E.G.kin E.G.isChild (ptr E.G.m) ∧ Turn [E.G.m, E.G.p] E.W0 w' ∧ ∃ S, Turn S w w' ∧ ∀ b ∈ M, b ∉ S
/-- Nothing of M is turned. -/
def Kept (M : List Nat) (w w' : World) : Prop := ∃ S, Turn S w w' ∧ ∀ b ∈ M, b ∉ S

section
variable {E : Ev} {md : Option Bool} {w w' : World} {s : Sx} {M : List Nat}
theorem Kept.refl (M : List Nat) (w : World) : Kept M w w := ⟨[], Turn.refl _ _, by simp⟩
theorem Kept.trans {a b c : World} (h : Kept M a b) (k : Kept M b c) : Kept M a c := by
  obtain ⟨S, hT, hS⟩ := h
  obtain ⟨S', hT', hS'⟩ := k
  exact ⟨S ++ S', (hT.mono (fun _ h => List.mem_append_left _ h)).trans (hT'.mono (fun _ h => List.mem_append_right _ h)), fun b hb e => (List.mem_append.1 e).elim (hS b hb) (hS' b hb)⟩
theorem Kept.less {N : List Nat} {a b : World} (h : Kept M a b) (hN : ∀ x ∈ N, x ∈ M) : Kept N a b := by
  obtain ⟨S, hT, hS⟩ := h
  exact ⟨S, hT, fun x hx => hS x (hN x hx)⟩
theorem Kept.below {a b : World} (h : Below a.heap.size a b) : Kept M a b := ⟨[], Turn.below h, by simp⟩
theorem Kept.cell {a : Addr} {v : Value} (h : Kept M w w') (hc : w.cell? a = some v) (hb : a.block ∈ M) : w'.cell? a = some v := by
  obtain ⟨S, hT, hS⟩ := h
  exact hT.cell hc (hS _ hb)
theorem Kept.ob {b : Nat} {o : Obj} (h : Kept M w w') (ho : w.heap[b]? = some o) (hb : b ∈ M) : w'.heap[b]? = some o := by
  obtain ⟨S, hT, hS⟩ := h
  exact hT.ob ho (hS _ hb)
theorem Kept.size {a b : World} (h : Kept M a b) : a.heap.size ≤ b.heap.size := h.choose_spec.1.size
theorem Kept.row {B T n : Nat} {v : Value} {xs : List Value} (h : Kept M w w') (ho : w.ownsRow B T 1 v n xs) (hb : ∀ g, v.ownBlock = some g → g ∈ M) : w'.ownsRow B T 1 v n xs := by
  obtain ⟨S, hT, hS⟩ := h
  exact own_turn ho hT (fun g hg => hS g (hb g hg))
theorem Kept.by {v : Value} {d : List UInt8} (h : Kept M w w') (ho : ByAt w v d) (hb : ∀ b off n c, v = .slice (some ⟨b, off, none⟩) n c → b ∈ M) : ByAt w' v d := by
  obtain ⟨S, hT, hS⟩ := h
  exact ho.turn hT (fun b off n c e => hS b (hb b off n c e))

theorem PSt.keep {rv v1 v2 : Value} (h : PSt md E.G w s rv v1 v2) {S : List Nat} (hT : Turn S w w') (hS : ∀ b ∈ S, E.G.base ≤ b ∧ v1.ownBlock ≠ some b ∧ v2.ownBlock ≠ some b) : PSt md E.G w' s rv v1 v2 := by
  cases md with
  | none =>
    obtain ⟨h, e1, e2⟩ := h
    have hn : ∀ x, x < E.G.base → x ∉ S := fun x hx hm => by have := (hS x hm).1; omega
    exact ⟨⟨hT.ob h.pr (hn _ h.stat.1), hT.ob h.mc (hn _ h.stat.2), Nat.le_trans h.base hT.size, h.stat⟩, e1, e2⟩
  | some f => exact PB.keep h hT hS
theorem PSt.base {rv v1 v2 : Value} (h : PSt md E.G w s rv v1 v2) : E.G.base ≤ w.heap.size := by
  cases md with
  | none => exact h.1.base
  | some f => exact PB.base h
theorem PSt.stat {rv v1 v2 : Value} (h : PSt md E.G w s rv v1 v2) : E.G.p < E.G.base ∧ E.G.m < E.G.base := by
  cases md with
  | none => exact h.1.stat
  | some f => exact ⟨(PB.lts h).1, (PB.lts h).2.1⟩
/-- Main turns blocks of its own, and lays new ones, which are its own then. -/
theorem PS.own (h : PS E md w s M) {S N : List Nat} (hT : Turn S w w') (hS : ∀ b ∈ S, E.W0.heap.size ≤ b ∧ (b ∈ M ∨ w.heap.size ≤ b)) (hN : ∀ b ∈ N, b ∈ M ∨ w.heap.size ≤ b ∧ b < w'.heap.size) : PS E md w' s N := by
  obtain ⟨rv, v1, v2, hp, h1, h2, h3⟩ := h.ex
  have hb := hp.base
  have hf := h.fit
  have hpm := hp.stat
  have hsz := h.since.size
  have hst := h.st
  simp only [List.forall_mem_cons] at hst
  obtain ⟨q1, q2, q3, q4, _⟩ := hst
  have hS' : ∀ b ∈ S, E.G.base ≤ b ∧ v1.ownBlock ≠ some b ∧ v2.ownBlock ≠ some b := fun b hb' => by
    obtain ⟨hw, h | h⟩ := hS b hb'
    · have := (h1 b h).2
      rw [mem_privL] at this
      exact ⟨by omega, fun e => this (.inr (.inr (.inr (.inr (.inr (.inr (.inl e))))))), fun e => this (.inr (.inr (.inr (.inr (.inr (.inr (.inr e)))))))⟩
    · exact ⟨by omega, fun e => by have := (h2 b e).1; omega, fun e => by have := (h3 b e).1; omega⟩
  refine ⟨⟨rv, v1, v2, hp.keep hT hS', fun b hb' => ?_, fun b e => ⟨Nat.lt_of_lt_of_le (h2 b e).1 hT.size, (h2 b e).2⟩, fun b e => ⟨Nat.lt_of_lt_of_le (h3 b e).1 hT.size, (h3 b e).2⟩⟩, ?_, h.first, h.zero, h.nn, h.fit, h.st⟩
  · rcases hN b hb' with h | ⟨h, h'⟩
    · exact ⟨Nat.lt_of_lt_of_le (h1 b h).1 hT.size, (h1 b h).2⟩
    · refine ⟨h', fun e => ?_⟩
      rw [mem_privL] at e
      rcases e with e | e | e | e | e | e | e | e
      · omega
      · omega
      · omega
      · omega
      · omega
      · omega
      · have := (h2 b e).1; omega
      · have := (h3 b e).1; omega
  · have hsn := h.since
    refine ⟨hT.os.trans hsn.os, hT.tape.trans hsn.tape, hT.output.trans hsn.output, Nat.le_trans hsn.size hT.size, fun b hb' hx => ?_⟩
    exact (hT.block b (Nat.lt_of_lt_of_le hb' hsn.size) (fun e => by have := (hS b e).1; omega)).trans (hsn.block b hb' hx)
end
end Go.Proofs.YteimilnecahifaaGreatDoor
