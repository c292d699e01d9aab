/- proc.Run of a job without nodes, over what starts its machine: a bound method's. -/
import Derived.Deep.DeepCutAuto
import Derived.Test.YteimilnecahifaaGreatDoorMRunB
import Derived.Test.YteimilnecahifaaGreatDoorYMap
import Derived.Test.YteimilnecahifaaGreatDoorMRead
namespace Go.Proofs.YteimilnecahifaaGreatDoor
open Go.RowKit Go.Shelf Go.Maps

/-- What proc.New is to answer. -/
def PNewSays : Prop := ∀ (k : Nat) (av ev : Value) (sa se : List ByteArray) (cwd : ByteArray) (l1 l2 l3 : Int) (w : World), SsAt w av sa → SsAt w ev se → sa.length ≤ 1048576 → se.length ≤ 1048576 →
    Calls Tryz.prog 42 #[ptr k, av, ev, .string cwd, .agg #[.int .i64 l1, .int .i64 l2, .int .i64 l3]] w fun e w' => ∃ p tb kin av' ev', e = .returned (ptr p) ∧ w.heap.size ≤ p ∧ w.heap.size ≤ tb ∧ w.heap.size ≤ kin ∧ PrAt w' p k tb av' ev' cwd l1 l2 l3 0 0 .nilIface kin false (.pointer none) ∧ TbAt w' tb k nils16 ∧ KnAt0 w' kin (.slice none 0 0) ∧ w'.ownsRow w.heap.size 9 1 av' sa.length (sa.map .string) ∧ w'.ownsRow w.heap.size 9 1 ev' se.length (se.map .string) ∧ Below w.heap.size w w'

abbrev JbAt (w : World) (b : Nat) (args env inv : Value) (l1 l2 l3 : Int) (fv : Value) (now : Int) (picks : Value) : Prop :=
  w.heap[b]? = some (.cells #[args, env, .string sE, inv, .slice none 0 0, .int .i64 l1, .int .i64 l2, .int .i64 l3, fv, .int .i64 now, picks] 46)
set_option maxRecDepth 100000 in
set_option maxHeartbeats 8000000 in
theorem run_c {f0 : Nat} {u0 : Value} {c0 : KCall} {Q : Int → KC → Int → Int → Int → Prop} (hN : PNewSays) (av ev iv : Value) (fv : Value) (fb : Nat) (l : List (Int × Int)) (sa se : List ByteArray) (ins : List UInt8) (l1 l2 l3 now m : Int) (sf : Nat) (w : World) (hm : w.cell? ⟨0, 0, none⟩ = some (.int .i64 m)) (ha : SsAt w av sa) (he : SsAt w ev se) (hi : ByAt w iv ins) (hF : Fl w fv fb l) (hna : 0 < sa.length) (hla : sa.length ≤ 1048576) (hle : se.length ≤ 1048576) (hli : ins.length ≤ 1073741824) (hlf : l.length ≤ 1048576) (h1 : 1 ≤ l1 ∧ l1 ≤ 1099511627776) (h2 : 1 ≤ l2 ∧ l2 ≤ 1099511627776) (h3 : 1 ≤ l3 ∧ l3 ≤ 1099511627776) (hl : l2 ≤ l3) (hn : 0 ≤ now ∧ now ≤ 1099511627776) (hmild : Mild l) (hc0 : CallOk c0)
    (hQ : ∀ st k' held' peak' steps', Q st k' held' peak' steps' → k'.out.length ≤ 1073741824 ∧ k'.err.length ≤ 1073741824)
    (hcs : ∀ (z : Array Value) (u : World), (callFunc sf z).run Tryz.prog u = .ok (.enter sf z) u) (hcf : ∀ (z : Array Value) (u : World), (callFunc f0 z).run Tryz.prog u = .ok (.enter f0 z) u)
    (hstart : ∀ (G : Gh) (u : World) (rv : Value), Rdy G u ins sa rv → G.faults = l → G.l1 = l1 ∧ G.l2 = l2 ∧ G.l3 = l3 → Turn [] w u → Calls Tryz.prog sf #[ptr G.p] u (Started G u f0 u0 c0))
    (hmain : ∀ (G : Gh) (u : World), G.faults = l → G.l1 = l1 ∧ G.l2 = l2 ∧ G.l3 = l3 → G.first = c0 → G.main = .func (.func f0) #[u0] #[] → u.ownsRow 0 9 1 G.args sa.length (sa.map .string) → Turn [] w u → MainAt G u f0 #[u0, ptr G.p] ⟨0, ins, [], []⟩ 0 0 1 Q) :
    Calls Tryz.prog 29 #[jobV av ev iv l1 l2 l3 fv now (.slice none 0 0), .func (.func sf) #[] #[]] w fun e w' => ∃ ov ev st k' held' peak' steps', e = .returned (.tuple #[.agg #[ov, ev, .int .i64 st, .slice none 0 0, .int .i64 steps', .int .i64 peak', .int .i64 k'.used], .bool true]) ∧ w'.ownsRow w.heap.size 5 1 ov k'.out.length (u8s k'.out) ∧ w'.ownsRow w.heap.size 5 1 ev k'.err.length (u8s k'.err) ∧ Q st k' held' peak' steps' ∧ Below w.heap.size w w' := by
  obtain ⟨xa, ca, rfl⟩ := ha.shape
  obtain ⟨xe, ce, rfl⟩ := he.shape
  obtain ⟨xi, ci, rfl⟩ := hi.shape
  obtain ⟨xf, cf, rfl⟩ : ∃ x c, fv = .slice x l.length c := let ⟨a, c, h, _⟩ := hF; ⟨a, c, h⟩
  have HA := Lib.hid ha
  have HE := Lib.hid he
  have HI := Lib.hid hi
  have HF := Lib.hid hF
  have HM := Lib.hid hm
  have htree := fun u hmu => treeOf_c xa xe xi xf none sa.length ca se.length ce ins.length ci l.length cf 0 0 l1 l2 l3 now m u hmu hna h1 h2 h3 hl hn
  have HTR := Lib.hid htree
  clear ha he hi hF hm htree h1 h2 h3 hl hn
  go_enter Tryz.func29, Tryz.ntmps29
  go_wp2_with fail
  have hX : Turn [] w ((w.alloc (.cells #[.slice xa sa.length ca, .slice xe se.length ce, .string sE, .slice xi ins.length ci, .slice none 0 0, .int .i64 l1, .int .i64 l2, .int .i64 l3, .slice xf l.length cf, .int .i64 now, .slice none 0 0] 46)).alloc (.cells #[.slice none 0 0, .slice none 0 0, .int .i64 0, .slice none 0 0, .int .i64 0, .int .i64 0, .int .i64 0] 30)) := (Turn.alloc _ _).trans (Turn.alloc _ _)
  have hJ : JbAt ((w.alloc (.cells #[.slice xa sa.length ca, .slice xe se.length ce, .string sE, .slice xi ins.length ci, .slice none 0 0, .int .i64 l1, .int .i64 l2, .int .i64 l3, .slice xf l.length cf, .int .i64 now, .slice none 0 0] 46)).alloc (.cells #[.slice none 0 0, .slice none 0 0, .int .i64 0, .slice none 0 0, .int .i64 0, .int .i64 0, .int .i64 0] 30)) w.heap.size (.slice xa sa.length ca) (.slice xe se.length ce) (.slice xi ins.length ci) l1 l2 l3 (.slice xf l.length cf) now (.slice none 0 0) := al_old _ (al_new _ _ rfl)
  have hRs : ((w.alloc (.cells #[.slice xa sa.length ca, .slice xe se.length ce, .string sE, .slice xi ins.length ci, .slice none 0 0, .int .i64 l1, .int .i64 l2, .int .i64 l3, .slice xf l.length cf, .int .i64 now, .slice none 0 0] 46)).alloc (.cells #[.slice none 0 0, .slice none 0 0, .int .i64 0, .slice none 0 0, .int .i64 0, .int .i64 0, .int .i64 0] 30)).heap[w.heap.size + 1]? = some (.cells #[.slice none 0 0, .slice none 0 0, .int .i64 0, .slice none 0 0, .int .i64 0, .int .i64 0, .int .i64 0] 30) := al_new _ _ (by simp)
  have hzX : ((w.alloc (.cells #[.slice xa sa.length ca, .slice xe se.length ce, .string sE, .slice xi ins.length ci, .slice none 0 0, .int .i64 l1, .int .i64 l2, .int .i64 l3, .slice xf l.length cf, .int .i64 now, .slice none 0 0] 46)).alloc (.cells #[.slice none 0 0, .slice none 0 0, .int .i64 0, .slice none 0 0, .int .i64 0, .int .i64 0, .int .i64 0] 30)).heap.size = w.heap.size + 2 := by simp
  generalize (w.alloc (.cells #[.slice xa sa.length ca, .slice xe se.length ce, .string sE, .slice xi ins.length ci, .slice none 0 0, .int .i64 l1, .int .i64 l2, .int .i64 l3, .slice xf l.length cf, .int .i64 now, .slice none 0 0] 46)).alloc (.cells #[.slice none 0 0, .slice none 0 0, .int .i64 0, .slice none 0 0, .int .i64 0, .int .i64 0, .int .i64 0] 30) = X at hX hJ hRs hzX ⊢
  refine (HTR.out X (hX.cell HM.out (by simp))).mono ?_
  rintro e w1 ⟨t, rt, rm, fm, rfl, hT1, hB1⟩
  have hT01 : Turn [] w w1 := hX.trans (Turn.below hB1)
  have hJ1 := (Turn.below (S := []) hB1).ob hJ (by simp)
  have hR1 := (Turn.below (S := []) hB1).ob hRs (by simp)
  have z1 := hB1.size
  have hl1 : t < w1.heap.size ∧ rt < w1.heap.size ∧ rm < w1.heap.size ∧ fm < w1.heap.size := ⟨hT1.hT.lt, hT1.hN.lt, hT1.hM.lt, hT1.hF.lt⟩
  have hkn := knew_c t fb _ l now w1 (HF.out.turn hT01 (by simp)) hlf (by omega)
  have j8 : w1.cell? ⟨w.heap.size, 8, none⟩ = some (.slice xf l.length cf) := h_cell hJ1 8 rfl
  have j9 : w1.cell? ⟨w.heap.size, 9, none⟩ = some (.int .i64 now) := h_cell hJ1 9 rfl
  have HX1 := Lib.hid (And.intro hT1 (And.intro hT01 (And.intro hJ1 hR1)))
  clear hX hJ hRs hB1 hT1 hJ1 hR1 hT01 HTR HM
  go_wp2_with (go_at_call 41; refine hkn.mono ?_; rintro e w2 ⟨kn, fb', th, fv', rfl, g1, g2, g3, g4, g5, hK2, hF2, hM2, hB2⟩; have hJ2 := (Turn.below (S := []) hB2).ob HX1.out.2.2.1 (by simp); have i0 : w2.cell? ⟨w.heap.size, 0, none⟩ = some (.slice xa sa.length ca) := h_cell hJ2 0 rfl; have i1 : w2.cell? ⟨w.heap.size, 1, none⟩ = some (.slice xe se.length ce) := h_cell hJ2 1 rfl; have i2 : w2.cell? ⟨w.heap.size, 2, none⟩ = some (.string sE) := h_cell hJ2 2 rfl; have i5 : w2.cell? ⟨w.heap.size, 5, none⟩ = some (.int .i64 l1) := h_cell hJ2 5 rfl; have i6 : w2.cell? ⟨w.heap.size, 6, none⟩ = some (.int .i64 l2) := h_cell hJ2 6 rfl; have i7 : w2.cell? ⟨w.heap.size, 7, none⟩ = some (.int .i64 l3) := h_cell hJ2 7 rfl; have HX2 := Lib.hid (And.intro hK2 (And.intro hF2 (And.intro hM2 (And.intro hB2 hJ2)))); clear hK2 hF2 hM2 hB2 hJ2)
  obtain ⟨hK2, hF2, hM2, hB2, hJ2⟩ := HX2.out
  obtain ⟨hT1, hT01, hJ1, hR1⟩ := HX1.out
  have hT02 : Turn [] w w2 := hT01.trans (Turn.below hB2)
  refine (hN kn _ _ sa se sE l1 l2 l3 w2 (HA.out.turn hT02 (by simp)) (HE.out.turn hT02 (by simp)) hla hle).mono ?_
  rintro e w3 ⟨p, tb, kin, av', ev', rfl, q1, q2, q3, hP3, hTb3, hKi3, ho1, ho2, hB3⟩
  have hT23 : Turn [] w2 w3 := Turn.below hB3
  have hT03 := hT02.trans hT23
  have hK3 := hT23.ob hK2 (by simp)
  have hF3 := hF2.turn hT23 (by simp)
  have hM3 := hT23.map hM2 (by simp)
  have hJ3 := hT23.ob hJ2 (by simp)
  have hR3 := hT23.ob ((Turn.below (S := []) hB2).ob hR1 (by simp)) (by simp)
  have hTr3 := (hT1.turn (Turn.below (S := []) hB2) (by simp)).turn hT23 (by simp)
  have z2 := hB2.size
  have z3 := hB3.size
  have p11 : w3.cell? ⟨p, 11, none⟩ = some (ptr kin) := h_cell hP3 11 rfl
  have k2 : w3.cell? ⟨kin, 2, none⟩ = some (.slice none 0 0) := h_cell hKi3 2 rfl
  have y2 := h_fz hKi3 2
  have j10 : w3.cell? ⟨w.heap.size, 10, none⟩ = some (.slice none 0 0) := h_cell hJ3 10 rfl
  have hcl := Tryz.slices_Clone_nil_f43 0 0 w3.drew
  have HX3 := Lib.hid (And.intro hP3 (And.intro hTb3 (And.intro hKi3 (And.intro hK3 (And.intro hF3 (And.intro hM3 (And.intro hJ3 (And.intro hR3 (And.intro hTr3 (And.intro hT03 (And.intro ho1 ho2)))))))))))
  clear hP3 hTb3 hKi3 ho1 ho2 hB3 hK3 hF3 hM3 hJ3 hR3 hTr3 hT03 hT23 hK2 hF2 hM2 hB2 hJ2 hT1 hT01 hJ1 hR1 hT02 HX1 HX2 hkn j8 j9 i0 i1 i2 i5 i6 i7 hN HA HE
  go_upto_region 6 with fail
  go_cut [] (fun wx => Hid (Turn [kin] w3 wx ∧ KnAt0 wx kin (.slice none 0 0)))
  case first =>
    go_region_with (go_at_call 43; refine hcl.mono ?_; rintro e w' ⟨rfl, hw'⟩; rw [hw']; clear hw')
    all_goals
      go_wp2_with fail
      go_meet
      refine ⟨(Turn.set w3 kin 2 _ (by simp)).drew, ?_⟩
      have := h_set HX3.out.2.2.1 2 (.slice none 0 0)
      exact (show (w3.setCell ⟨kin, 2, none⟩ (.slice none 0 0)).heap[kin]? = _ from this)
  case rest =>
    obtain ⟨hT34, hKi4⟩ := hcut.out
    obtain ⟨hP3, hTb3, hKi3, hK3, hF3, hM3, hJ3, hR3, hTr3, hT03, ho1, ho2⟩ := HX3.out
    have nk1 : p ≠ kin := h_ne hP3 hKi3 (by decide)
    have nk2 : tb ≠ kin := h_ne hTb3 hKi3 (by decide)
    have nk3 : kn ≠ kin := h_ne hK3 hKi3 (by decide)
    have nk4 : w.heap.size ≠ kin := h_ne hJ3 hKi3 (by decide)
    have nk5 : w.heap.size + 1 ≠ kin := h_ne hR3 hKi3 (by decide)
    have hP4 := hT34.ob hP3 (by simpa using nk1)
    have hTb4 := hT34.ob hTb3 (by simpa using nk2)
    have hK4 := hT34.ob hK3 (by simpa using nk3)
    have hJ4 := hT34.ob hJ3 (by simpa using nk4)
    have hR4 := hT34.ob hR3 (by simpa using nk5)
    have hthk : th ≠ kin := fun e => by
      obtain ⟨es, c, he, _⟩ := hM3
      rw [e] at he
      rw [show w3.heap[kin]? = _ from hKi3] at he
      cases he
    have hM4 := hT34.map hM3 (by simpa using hthk)
    have hkz : w.heap.size ≤ kin := by have := hT03.size; omega
    have hT04 : Turn [] w wc := ⟨hT34.os.trans hT03.os, hT34.tape.trans hT03.tape, hT34.output.trans hT03.output, Nat.le_trans hT03.size hT34.size, fun b hb hn => (hT34.block b (Nat.lt_of_lt_of_le hb hT03.size) (by simp; omega)).trans (hT03.block b hb hn)⟩
    have hsrc := source_by kn th 0 _ (ptr t) fv' 0 now 0 mE ins wc hK4 hM4 (by decide) (by decide) (by decide) hli (HI.out.turn hT04 (by simp))
    have j3 : wc.cell? ⟨w.heap.size, 3, none⟩ = some (.slice xi ins.length ci) := h_cell hJ4 3 rfl
    have HX4 := Lib.hid (And.intro hP4 (And.intro hTb4 (And.intro hKi4 (And.intro hJ4 (And.intro hR4 (And.intro hT34 (And.intro hT04 HX3.out)))))))
    clear hP3 hTb3 hKi3 hK3 hF3 hM3 hJ3 hR3 hTr3 hT03 ho1 ho2 hP4 hTb4 hK4 hJ4 hR4 hKi4 hT34 hM4 hT04 HX3 p11 k2 y2 j10 hcl hcut
    go_wp2_with (first
      | (go_at_call 44; refine hsrc.mono ?_; rintro e w5 ⟨so, rv, rfl, gso, hS5, hor5, hK5, hM5, hT45⟩; have hsk1 := sink_c kn th 1 (ptr t) fv' 0 now 1 _ w5 (by simpa using hK5) hM5 (by decide) (by decide) (by decide); have HX5 := Lib.hid (And.intro hS5 (And.intro hor5 hT45)); clear hS5 hor5 hK5 hM5 hT45)
      | (go_at_call 45; refine hsk1.mono ?_; rintro e w6 ⟨s1, rfl, gs1, hS6, hK6, hM6, hT56⟩; have hsk2 := sink_c kn th 2 (ptr t) fv' 0 now 2 _ w6 (by simpa using hK6) hM6 (by decide) (by decide) (by decide); have HX6 := Lib.hid (And.intro hS6 hT56); clear hS6 hK6 hM6 hT56)
      | (go_at_call 45; refine hsk2.mono ?_; rintro e w7 ⟨s2, rfl, gs2, hS7, hK7, hM7, hT67⟩; have HX7 := Lib.hid (And.intro hS7 (And.intro hK7 (And.intro hM7 hT67))); clear hS7 hK7 hM7 hT67))
    have HS : ∃ rb D, Hid (PutS w (gh0 p kn tb so s1 s2 th fb' rb kin (ptr t) fv' av' ev' l now l1 l2 l3) (w7.alloc (.cells #[.int .i64 1, .int .i64 2, .int .i64 3] 3)) 0 t rt rm fm D sa ins rv) ∧ (tb < w7.heap.size ∧ so < w7.heap.size ∧ s1 < w7.heap.size ∧ s2 < w7.heap.size) := by
      obtain ⟨hP4, hTb4, hKi4, hJ4, hR4, hT34, hT04, hP3, hTb3, hKi3, hK3, hF3, hM3, hJ3, hR3, hTr3, hT03, ho1, ho2⟩ := HX4.out
      obtain ⟨hS5, hor5, hT45⟩ := HX5.out
      obtain ⟨hS6, hT56⟩ := HX6.out
      obtain ⟨hS7, hK7, hM7, hT67⟩ := HX7.out
      obtain ⟨es, cm, hmb⟩ := map_block hM3
      have a1 := h_lt hK3
      have a2 := hM3.lt
      have a3 := hT34.size
      have a4 := hT45.size
      have a5 := hT56.size
      have a6 := hT67.size
      have aw := hT04.size
      have b1 := h_ne hP3 hK3 (by decide)
      have b2 := h_ne_map hP3 hmb
      have b3 := h_ne hTb3 hK3 (by decide)
      have b4 := h_ne_map hTb3 hmb
      have b5 := h_ne hR3 hK3 (by decide)
      have b6 := h_ne_map hR3 hmb
      have b7 := row_ne ho1 hK3 (by decide)
      have b8 := row_not_map ho1 hmb
      have b9 := row_ne ho1 hKi3 (by decide)
      have l5 := h_lt hS5
      have l6 := h_lt hS6
      have l7 := h_lt hS7
      have lp := h_lt hP3
      have lt' := h_lt hTb3
      have hTA : Turn [kn, th] wc (w7.alloc (.cells #[.int .i64 1, .int .i64 2, .int .i64 3] 3)) := ((hT45.trans hT56).trans hT67).trans (Turn.alloc _ _)
      have hTB : Turn [kn, th] w5 (w7.alloc (.cells #[.int .i64 1, .int .i64 2, .int .i64 3] 3)) := (hT56.trans hT67).trans (Turn.alloc _ _)
      have hTC : Turn [kn, th] w6 (w7.alloc (.cells #[.int .i64 1, .int .i64 2, .int .i64 3] 3)) := hT67.trans (Turn.alloc _ _)
      have hTD : Turn [] w7 (w7.alloc (.cells #[.int .i64 1, .int .i64 2, .int .i64 3] 3)) := Turn.alloc _ _
      have hge := hTA.size
      have hgB := hTB.size
      have hrg : ∀ g, rv.ownBlock = some g → wc.heap.size ≤ g := fun g hg => own_ge hor5 hg
      have hrl : ∀ g, rv.ownBlock = some g → g < w5.heap.size := fun g hg => own_lt hor5 hg
      obtain ⟨rb, hrb, hrb1, hrb2, hrb3⟩ : ∃ rb, (∀ b, rv.ownBlock = some b → b = rb) ∧ rb < w5.heap.size ∧ (rb ≠ kn ∧ rb ≠ so ∧ rb ≠ p) ∧ w.heap.size ≤ rb := by
        by_cases h : ∃ g, rv.ownBlock = some g
        · obtain ⟨g, hg⟩ := h
          have := hrg g hg
          exact ⟨g, fun b hb => by rw [hg] at hb; cases hb; rfl, hrl g hg, ⟨by omega, fun e => row_ne hor5 hS5 (by decide) (e ▸ hg), by omega⟩, by omega⟩
        · have e1 := h_ne hTb3 hP3 (by decide)
          exact ⟨tb, fun b hb => absurd ⟨b, hb⟩ h, by omega, ⟨b3, by omega, e1⟩, by omega⟩
      have hN : ∀ g, av'.ownBlock = some g → g ∉ [kin] := fun g hg e => b9 (by simp at e; exact e ▸ hg)
      have hN2 : ∀ g, av'.ownBlock = some g → g ∉ [kn, th] := fun g hg e => by
        simp at e
        rcases e with e | e
        · exact b7 (e ▸ hg)
        · exact b8 (e ▸ hg)
      have f2 : SoAt (w7.alloc (.cells #[.int .i64 1, .int .i64 2, .int .i64 3] 3)) so 0 rv := hTB.ob hS5 (by simp; omega)
      have f3 : SkAt (w7.alloc (.cells #[.int .i64 1, .int .i64 2, .int .i64 3] 3)) s1 0 (.slice none 0 0) := hTC.ob hS6 (by simp; omega)
      have f4 := hF3.turn hT34 (by simp; omega)
      have f5 := f4.turn hTA (by simp; exact ⟨g4, g5⟩)
      have f6 := own_less0 (own_turn hor5 hTB (fun g hg e => by have := hrg g hg; simp at e; omega)) (Nat.zero_le _)
      have f7 : Tr0 w.heap.size (w7.alloc (.cells #[.int .i64 1, .int .i64 2, .int .i64 3] 3)) t rt rm fm := ((hTr3.turn hT34 (by simp; omega)).turn hTA (by simp; omega)).less (by omega)
      have f8 := turn_since hT04 hTA (fun b hb => by simp at hb; omega)
      refine ⟨rb, D3 so s1 s2, (?_ : PutS _ _ _ _ _ _ _ _ _ _ _ _), by omega⟩
      exact { fs := ⟨hTA.ob hTb4 (by simp; exact ⟨b3, b4⟩), f2, f3, hTD.ob hS7 (by simp)⟩, kn := hTD.ob hK7 (by simp), fl := f5, pr := hTA.ob hP4 (by simp; exact ⟨b1, b2⟩), row := f6, rb := hrb, rlt := ⟨by show rb < _; omega, by show fb' < _; omega⟩, b := ⟨hTD.map hM7 (by simp), f7, own_less0 (own_turn (own_turn ho1 hT34 hN) hTA hN2) (Nat.zero_le _), hTA.ob hR4 (by simp; exact ⟨b5, b6⟩)⟩, since := f8, ge := (by show w.heap.size ≤ p ∧ w.heap.size ≤ kn ∧ w.heap.size ≤ tb ∧ w.heap.size ≤ so ∧ w.heap.size ≤ s1 ∧ w.heap.size ≤ s2; omega), look := D3_look so s1 s2, s12 := (by show s1 ≠ s2; omega), fne := (by show fb' ≠ kn ∧ fb' ≠ so ∧ fb' ≠ s1 ∧ fb' ≠ s2 ∧ fb' ≠ p ∧ fb' ≠ tb; omega), rne := ⟨hrb2.1, hrb2.2.1, (by show rb ≠ s1; omega), (by show rb ≠ s2; omega), hrb2.2.2⟩ }
    obtain ⟨rb, D, HS, hlt7⟩ := HS
    generalize hG : gh0 p kn tb so s1 s2 th fb' rb kin (ptr t) fv' av' ev' l now l1 l2 l3 = G at HS
    have hG2 : G.tb = tb ∧ G.p = p ∧ G.kn = kn ∧ G.tr = ptr t ∧ (G.faults = l ∧ G.l1 = l1 ∧ G.l2 = l2 ∧ G.l3 = l3) ∧ (G.last = 3 ∧ G.cwd = sE ∧ G.box = .nilIface ∧ G.isChild = false) ∧ G.s1 = s1 ∧ G.s2 = s2 ∧ G.so = so := by rw [← hG]; exact ⟨rfl, rfl, rfl, rfl, ⟨rfl, rfl, rfl, rfl⟩, ⟨rfl, rfl, rfl, rfl⟩, rfl, rfl, rfl⟩
    obtain ⟨rfl, rfl, rfl, htr, hGs, hGl, rfl, rfl, rfl⟩ := hG2
    have z8 : ∀ i, (w7.alloc (.cells #[.int .i64 1, .int .i64 2, .int .i64 3] 3)).cell? ⟨w7.heap.size, i, none⟩ = (#[Value.int .i64 1, .int .i64 2, .int .i64 3] : Array Value)[i]? := fun i => h_cells _ _ _ i
    have d0 : (w7.alloc (.cells #[.int .i64 1, .int .i64 2, .int .i64 3] 3)).cell? ⟨w7.heap.size, 0, none⟩ = some (.int .i64 1) := z8 0
    have d1 : (w7.alloc (.cells #[.int .i64 1, .int .i64 2, .int .i64 3] 3)).cell? ⟨w7.heap.size, 1, none⟩ = some (.int .i64 2) := z8 1
    have d2 : (w7.alloc (.cells #[.int .i64 1, .int .i64 2, .int .i64 3] 3)).cell? ⟨w7.heap.size, 2, none⟩ = some (.int .i64 3) := z8 2
    clear hG HX4 HX5 HX6 HX7 hsrc hsk1 hsk2 z8
    go_loopw [62] (fun i wr => ∃ n : Nat, i = .int .i64 n ∧ n ≤ 3 ∧ Hid (PutS w G wr n t rt rm fm D sa ins rv) ∧ wr.cell? ⟨w7.heap.size, 0, none⟩ = some (.int .i64 1) ∧ wr.cell? ⟨w7.heap.size, 1, none⟩ = some (.int .i64 2) ∧ wr.cell? ⟨w7.heap.size, 2, none⟩ = some (.int .i64 3)) (fun i _ => 3 - (intOf i).toNat)
    case atStart => exact ⟨0, rfl, by decide, HS, d0, d1, d2⟩
    case round =>
      obtain ⟨n, rfl, hn, HI, e0, e1, e2⟩ := hrel
      clear HS d0 d1 d2
      have hn4 : n = 0 ∨ n = 1 ∨ n = 2 ∨ n = 3 := by omega
      have p1 : wr.cell? ⟨G.p, 1, none⟩ = some (ptr G.tb) := h_cell HI.out.pr 1 rfl
      rcases hn4 with rfl | rfl | rfl | rfl
      · have hu := put_0 (G := G) (show FS G wr _ 0 0 0 rv (.slice none 0 0) (.slice none 0 0) from HI.out.fs) HI.out.kn HI.out.b.map HI.out.look.1
        go_wp2_with (go_at_call 46; refine hu.mono ?_; rintro r w2 ⟨rfl, hF2, hT2⟩)
        exact ⟨⟨1, rfl, by decide, HI.out.turn hT2 (by simp) hF2, hT2.cell e0 (by simp; omega), hT2.cell e1 (by simp; omega), hT2.cell e2 (by simp; omega)⟩, by decide⟩
      · have hu := put_1 (G := G) (show FS G wr _ 1 0 0 rv (.slice none 0 0) (.slice none 0 0) from HI.out.fs) HI.out.kn HI.out.b.map HI.out.look.2.1 HI.out.s12
        go_wp2_with (go_at_call 46; refine hu.mono ?_; rintro r w2 ⟨rfl, hF2, hT2⟩)
        exact ⟨⟨2, rfl, by decide, HI.out.turn hT2 (by simp) hF2, hT2.cell e0 (by simp; omega), hT2.cell e1 (by simp; omega), hT2.cell e2 (by simp; omega)⟩, by decide⟩
      · have hu := put_2 (G := G) (show FS G wr _ 1 1 0 rv (.slice none 0 0) (.slice none 0 0) from HI.out.fs) HI.out.kn HI.out.b.map HI.out.look.2.2 HI.out.s12
        go_wp2_with (go_at_call 46; refine hu.mono ?_; rintro r w2 ⟨rfl, hF2, hT2⟩)
        exact ⟨⟨3, rfl, by decide, HI.out.turn hT2 (by simp) hF2, hT2.cell e0 (by simp; omega), hT2.cell e1 (by simp; omega), hT2.cell e2 (by simp; omega)⟩, by decide⟩
      · have hR := HI.out.rdy hGl (by rw [hGs.1]; exact hmild)
        have hst := hstart G wr rv hR hGs.1 hGs.2 HI.out.since
        have HR := Lib.hid hR
        clear hR hstart e0 e1 e2 p1
        go_wp2_with fail
        refine hst.mono ?_
        rintro e w10 ⟨m', base, nx, rfl, hm1, hm2, hm3, hp10, hmc10, hnx, hwt10, hT10⟩
        have hpw := started_pw HR.out hli hc0 hm1 hm2 hm3 hp10 hmc10 hwt10 hT10
        have m5 : w10.cell? ⟨m', 5, none⟩ = some (.bool false) := h_cell hmc10 5 rfl
        have y5 := h_fz hmc10 5
        have HPW := Lib.hid (And.intro hpw (And.intro hT10 (And.intro hnx hmc10)))
        clear hst hpw hp10 hmc10 hnx hwt10 hT10
        go_wp2_with fail
        obtain ⟨hpw, hT10, hnx, hmc10⟩ := HPW.out
        have hI := HI.out
        have hTm : Turn [m'] w10 (w10.setCell ⟨m', 5, none⟩ (.bool true)) := Turn.set _ _ _ _ (by simp)
        have hB10 := hI.b.turn hT10 (fun b hb => by obtain rfl : b = G.p := by simpa using hb
                                                    exact hI.b.far hI.pr (by decide) (by decide) (by decide) (by decide))
        have hB11 := hB10.turn hTm (fun b hb => by obtain rfl : b = m' := by simpa using hb
                                                   exact hB10.far hmc10 (by decide) (by decide) (by decide) (by decide))
        have hge := hI.ge
        have hsz := hI.since.size
        have hs11 : Turn [] w (w10.setCell ⟨m', 5, none⟩ (.bool true)) := turn_since (turn_since hI.since hT10 (fun b hb => by simp at hb; omega)) hTm (fun b hb => by simp at hb; omega)
        generalize w10.setCell ⟨m', 5, none⟩ (.bool true) = w11 at hpw hTm hB11 hs11 ⊢
        have hfar : ∀ b ∈ privL (G.begun m' base f0 u0 c0) (.slice none 0 0) (.slice none 0 0), Far w.heap.size G.th t rt rm fm G.args b ∧ w.heap.size ≤ b := fun b hb => by
          rcases mem_privL.1 hb with rfl | h | rfl | rfl | rfl | rfl | h | h
          · exact ⟨hB11.far hpw.pr (by decide) (by decide) (by decide) (by decide), hge.1⟩
          · rw [h]
            exact ⟨hB11.far hpw.mc (by decide) (by decide) (by decide) (by decide), by show w.heap.size ≤ m'; omega⟩
          · exact ⟨hB11.far hpw.ki.kn (by decide) (by decide) (by decide) (by decide), hge.2.1⟩
          · exact ⟨hB11.far hpw.ki.so (by decide) (by decide) (by decide) (by decide), hge.2.2.2.1⟩
          · exact ⟨hB11.far hpw.ki.k1 (by decide) (by decide) (by decide) (by decide), hge.2.2.2.2.1⟩
          · exact ⟨hB11.far hpw.ki.k2 (by decide) (by decide) (by decide) (by decide), hge.2.2.2.2.2⟩
          · simp [Value.ownBlock] at h
          · simp [Value.ownBlock] at h
        have hftb : Far w.heap.size G.th t rt rm fm G.args G.tb := hB11.far hpw.ki.tb (by decide) (by decide) (by decide) (by decide)
        have hstep := step_runsB (Q := Q) hpw hnx rfl (hcf _) (fun pg pc an ab base' ansv u hTu => hmain _ u hGs.1 hGs.2 rfl rfl (hB11.turn hTu (fun b hb => (hfar b hb).1)).av (turn_since hs11 hTu (fun b hb => (hfar b hb).2)))
        have HL := Lib.hid (And.intro hB11 (And.intro hs11 (And.intro hfar (And.intro hftb (And.intro hI.look hI.ge)))))
        clear hpw hT10 hnx hmc10 hTm hB10 hB11 hs11 hfar hftb hmain HPW hI HI HR m5 y5
        go_loopg [] 1 (fun g wr => wr = w11)
        case atStart => exact rfl
        case round =>
          subst hrel
          go_wp2_with (go_at_call 47; refine hstep.mono ?_; rintro e w12 ⟨rfl, G', st, k', held', peak', steps', rv', v1', v2', S, ⟨pg, pc, an, ab, bs, ansv, rfl⟩, hFin, hq, hT12, hS12⟩)
          obtain ⟨hB11, hs11, hfar, hftb, hlook, hge⟩ := HL.out
          have hS' : ∀ b ∈ S, Far w.heap.size G.th t rt rm fm G.args b ∧ w.heap.size ≤ b := fun b hb => by
            rcases hS12 b hb with h | h | h
            · rw [h]; exact ⟨hftb, hge.2.2.1⟩
            · exact hfar b h
            · have := hs11.size
              exact ⟨hB11.new h, by omega⟩
          have hB12 := hB11.turn hT12 (fun b hb => (hS' b hb).1)
          have hs12 := turn_since hs11 hT12 (fun b hb => (hS' b hb).2)
          have HA : Hid (∀ u, Below w12.heap.size w12 u → Asks (G.begun m' base f0 u0 c0) t k' peak' steps' st u) := fun u hu => by
            have := run_asks hFin hB12 ⟨hlook.2.1, hlook.2.2⟩ (hQ _ _ _ _ _ hq) u hu
            exact ⟨this.out, this.err, this.status, this.dump, this.steps, this.peak, this.used⟩
          have HZ := Lib.hid (And.intro hq (And.intro hs12 hB12.res))
          clear hB11 hs11 hfar hftb hlook hge hS' hB12 hs12 hFin hq hT12 hS12 HL hstep
          have a1 := (HA.out w12 (Below.refl _ _)).out
          refine a1.mono ?_
          rintro e w13 ⟨ov, rfl, ho1, hB13⟩
          have a2 := (HA.out w13 hB13).err
          obtain ⟨xo, co, rfl⟩ := own_shape ho1
          clear a1
          go_wp2_with (first
            | (go_at_call 48; refine a2.mono ?_; rintro e w14 ⟨ev2, rfl, ho2, hB14⟩; have hB24 := hB13.trans (hB14.mono hB13.size); have a3 := (HA.out w14 hB24).status; have a4 := (HA.out w14 hB24).dump; obtain ⟨xe2, ce2, rfl⟩ := own_shape ho2; clear a2)
            | (go_at_call 49; refine a3.mono ?_; rintro e w' ⟨rfl, hw'⟩; rw [hw']; clear hw' a3)
            | (go_at_call 50; refine a4.mono ?_; rintro e w15 ⟨rfl, hB15⟩; have hB25 := hB24.trans (hB15.mono hB24.size); have a5 := (HA.out w15 hB25).steps; have a6 := (HA.out w15 hB25).peak; have a7 := (HA.out w15 hB25).used; clear a4)
            | (go_at_call 51; refine a5.mono ?_; rintro e w' ⟨rfl, hw'⟩; rw [hw']; clear hw' a5)
            | (go_at_call 52; refine a6.mono ?_; rintro e w' ⟨rfl, hw'⟩; rw [hw']; clear hw' a6)
            | (go_at_call 53; refine a7.mono ?_; rintro e w' ⟨rfl, hw'⟩; rw [hw']; clear hw' a7; have hr15 := (Turn.below (S := []) hB25).ob HZ.out.2.2 (by simp); have r0 := h_cell hr15 0 rfl; have r1 := h_cell hr15 1 rfl; have r2 := h_cell hr15 2 rfl; have r3 := h_cell hr15 3 rfl; have r4 := h_cell hr15 4 rfl; have r5 := h_cell hr15 5 rfl; have r6 := h_cell hr15 6 rfl; have y0 := h_fz hr15 0; have y1 := h_fz hr15 1; have y2 := h_fz hr15 2; have y3 := h_fz hr15 3; have y4 := h_fz hr15 4; have y5 := h_fz hr15 5; have y6 := h_fz hr15 6; clear hr15))
          obtain ⟨hq, hs12, hres⟩ := HZ.out
          have hr15 : RsAt w15 (w.heap.size + 1) _ _ _ _ _ _ _ := (Turn.below (S := []) hB25).ob hres (by simp)
          have hset := hr15.set (.slice xo k'.out.length co) (.slice xe2 k'.err.length ce2) (.int .i64 st) (.slice none 0 0) (.int .i64 steps') (.int .i64 peak') (.int .i64 k'.used)
          have htrn := RsAt.turn w15 (w.heap.size + 1) (.slice xo k'.out.length co) (.slice xe2 k'.err.length ce2) (.int .i64 st) (.slice none 0 0) (.int .i64 steps') (.int .i64 peak') (.int .i64 k'.used)
          refine bodyPost_ret (results_rs rfl rfl hset rfl) rfl ?_
          have q13 := hB13.size
          have q14 := hB14.size
          have q15 := hB15.size
          have qw := hs12.size
          have qr := h_lt hres
          refine ⟨_, _, st, k', held', peak', steps', rfl, ?_, ?_, hq, ?_⟩
          · have o1 := own_turn (own_turn (own_turn ho1 (Turn.below (S := []) hB14) (by simp)) (Turn.below (S := []) hB15) (by simp)) htrn (fun g hg e => by have := own_ge ho1 hg; simp at e; omega)
            exact own_less0 o1 (by omega)
          · have o2 := own_turn (own_turn ho2 (Turn.below (S := []) hB15) (by simp)) htrn (fun g hg e => by have := own_ge ho2 hg; simp at e; omega)
            exact own_less0 o2 (by omega)
          · have hT := turn_since (turn_since hs12 (Turn.below (S := []) hB25) (by simp)) htrn (fun b hb => by simp at hb; omega)
            exact ⟨hT.os, hT.tape, hT.output, hT.size, fun b hb => hT.block b hb (by simp)⟩
end Go.Proofs.YteimilnecahifaaGreatDoor

namespace Go.Proofs.YteimilnecahifaaGreatDoor
open Go.RowKit Go.Maps

/-- What is left of goOn behind main's panic. -/
theorem goOn_panicked {w u : World} {p kn tb kin : Nat} {args env box : Value} {cwd : ByteArray} {l1 l2 l3 held peak : Int} {isChild : Bool} {m : Nat} {main past : Value} {told steps status : Int} {once : Bool} {f : Fn} {y z : Array Value} {S : List Nat} {R : World → Prop}
    (hS : ∀ b ∈ S, b < w.heap.size ∨ w.heap.size + 1 < b) (hp : PrAt u p kn tb args env cwd l1 l2 l3 held peak box kin isChild (ptr m)) (h : McAt u m p main past told (.func f y z) once steps false status) (hT : Turn S (GoW w p m (.pointer none)).drew u)
    (hR : R (u.drew.setCell ⟨p, 13, none⟩ (.pointer none))) (a' : Act) (ha : a'.defers = goD w) :
    bodyPostD Tryz.prog Tryz.f75 (fun e w' => e = .returned (.tuple #[]) ∧ R w') (.panic waitsP) a' u := by
  have b1 : u.cell? ⟨w.heap.size + 1, 0, none⟩ = some (.pointer none) := hT.cell (goW_box w p m (.pointer none)).1 (fun h => by have h2 : w.heap.size + 1 < w.heap.size ∨ w.heap.size + 1 < w.heap.size + 1 := hS _ h; omega)
  have b2 : u.cell? ⟨w.heap.size, 0, none⟩ = some (ptr m) := hT.cell (goW_box w p m (.pointer none)).2 (fun h => by have h2 : w.heap.size < w.heap.size ∨ w.heap.size + 1 < w.heap.size := hS _ h; omega)
  show Leaves _ _ a'.tmps _ a'.defers _ u
  rw [ha]
  refine leaves_cons (f := 104) (args := #[ptr (w.heap.size + 1), ptr w.heap.size]) (by simp) (by simp [go_sem]) ?_
  refine (catch_waits b1 b2 hp h (.inl rfl)).mono ?_
  rintro e u' w'' ⟨rfl, rfl, rfl⟩
  simp [Leaves, settle, results, Tryz.results75, go_sem]
  exact hR

end Go.Proofs.YteimilnecahifaaGreatDoor

namespace Go.Proofs.YteimilnecahifaaGreatDoor
open Go.RowKit Go.Maps

set_option maxHeartbeats 2000000 in
set_option maxRecDepth 100000 in
/-- Where main comes to its first call: 'R' says what is known there. -/
theorem goOn_firstB {w : World} {p kn tb kin : Nat} {args env box : Value} {cwd : ByteArray} {l1 l2 l3 held peak : Int} {isChild : Bool} {m f0 : Nat} {c0 : Value} {past : Value} {told steps status : Int} {once : Bool} {told' : Int} {R : Value → Int → Int → World → Prop}
    (hp : PrAt w p kn tb args env cwd l1 l2 l3 held peak box kin isChild (.pointer none)) (h : McAt w m p (.func (.func f0) #[c0] #[]) past told .nilFunc once steps false status) (hcf : ∀ u : World, (callFunc f0 #[c0, ptr p]).run Tryz.prog u = .ok (.enter f0 #[c0, ptr p]) u)
    (hmain : Calls Tryz.prog f0 #[c0, ptr p] (GoW w p m (.pointer none)).drew fun e u' => e = .panicked waitsP ∧ ∃ f y z held' peak', PrAt u' p kn tb args env cwd l1 l2 l3 held' peak' box kin isChild (ptr m) ∧ McAt u' m p (.func (.func f0) #[c0] #[]) past told' (.func f y z) once steps false status ∧ R (.func f y z) held' peak' u' ∧ Turn [m, p] (GoW w p m (.pointer none)).drew u') :
    Calls Tryz.prog 75 #[ptr m] w fun e w' => e = .returned (.tuple #[]) ∧ ∃ f y z held' peak' u', R (.func f y z) held' peak' u' ∧ PrAt w' p kn tb args env cwd l1 l2 l3 held' peak' box kin isChild (.pointer none) ∧ McAt w' m p (.func (.func f0) #[c0] #[]) past told' (.func f y z) once steps false status ∧ Turn [p] u' w' ∧ Turn [m, p] w u' := by
  have hmf : ∀ (fn : Fn) (first cap : Array Value) (w : World), (Instr.makeFunc fn first cap).run Tryz.prog w = .ok (.func fn first cap) w := fun _ _ _ _ => rfl
  have m0 := h_cell h 0 rfl
  have m1 := h_cell h 1 rfl
  have m3 := h_cell h 3 rfl
  have y3 := h_fz h 3
  have p13 := h_cell hp 13 rfl
  have z13 := h_fz hp 13
  have hne : m ≠ p := h_ne h hp (by decide)
  have hml := h_lt h
  have hpl := h_lt hp
  have hcall := hmain
  have HG := Lib.hid (goW_turn (w := w) (p := p) (m := m) (before := .pointer none))
  clear h hp hmain
  go_enter_defers Tryz.func75, Tryz.ntmps75
  go_wp2_with fail
  go_region
  go_wp2_with fail
  refine Code.wp_mono (AtPanic.imp (D0 := [{ target := Target.fn (Fn.func 104) #[ptr (w.heap.size + 1), ptr w.heap.size], args := #[] }])) ?_
  go_region_dies
  all_goals
    refine hcall.mono ?_
    rintro e u ⟨rfl, f, y, z, held', peak', hp2, hm2, hR, hT2⟩
    refine ⟨rfl, fun a' ha' => ?_⟩
    refine goOn_panicked (S := [m, p]) (by simp; omega) hp2 hm2 hT2 ?_ a' ha'
    have hne2 : m ≠ p := h_ne hm2 hp2 (by decide)
    refine ⟨f, y, z, held', peak', u, hR, by simpa using h_set (w := u.drew) hp2 13 (.pointer none), s_other (w := u.drew) hm2 hne2, (Turn.refl [p] u).drew.trans (Turn.set _ p 13 _ (by simp)), HG.out.drew.trans hT2⟩
end Go.Proofs.YteimilnecahifaaGreatDoor
