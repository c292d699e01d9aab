/- The contracts of what makes, puts, takes and drains a node. -/
import Derived.Maps.OwnOps
import Derived.BigQuiet
import Derived.BigRegion
import Derived.Deep.RegionWith
import Derived.Deep.QuietTactic
import Derived.Deep.RegionHeld
import Derived.Test.YtbbmihlabllliaaGreatDoorTurn
import Derived.Test.YtbbmihlabllliaaGreatDoorShelf
namespace Go.Proofs.YtbbmihlabllliaaGreatDoor
open Go.RowKit Go.Shelf Go.Maps

/-- A place as it is handed on. -/
abbrev plV (d : Nat) (name : ByteArray) (node : Value) (slash : Bool) : Value := .agg #[.pointer (some ⟨d, 0, none⟩), .string name, node, .bool slash]

set_option maxRecDepth 100000 in
set_option maxHeartbeats 2000000 in
theorem made_dir (t d : Nat) (name : ByteArray) (slash : Bool) (mode tick last : Int) (r f nm : Value) (w : World) (hT : TrAt w t r f nm (.int .i64 last)) (hl : 0 ≤ last) (hl2 : last < 4611686018427387904) :
    Calls Tryz.prog 114 #[.pointer (some ⟨t, 0, none⟩), plV d name (.pointer none) slash, .bool true, .int .i64 mode, .int .i64 tick] w fun e w' => ∃ n mb, e = .returned (.pointer (some ⟨n, 0, none⟩)) ∧ w.heap.size ≤ n ∧ w.heap.size ≤ mb ∧
      NdAt w' n ⟨last + 1, mode, tick, true, ptr d, .map (some mb), .slice none 0 0, 0, 0⟩ ∧ w'.ownsMap Tryz.prog 9 R mb 0 (.map []) ∧ TrAt w' t r f nm (.int .i64 (last + 1)) ∧ Turn [t] w w' := by
  have hlt := hT.lt
  have hT2 := hT.set3 (.int .i64 (last + 1))
  have c3 : ∀ o, (w.alloc o).cell? ⟨t, 3, none⟩ = some (.int .i64 last) := fun o => (tr_alloc hT o).c3
  have z3 : ∀ o, (w.alloc o).frozen? ⟨t, 3, none⟩ = false := fun o => (tr_alloc hT o).fz 3
  have d3 : ∀ o, ((w.setCell ⟨t, 3, none⟩ (.int .i64 (last + 1))).alloc o).cell? ⟨t, 3, none⟩ = some (.int .i64 (last + 1)) := fun o => (tr_alloc hT2 o).c3
  have hmm := @run_makeMap Tryz.prog
  go_enter Tryz.func114, Tryz.ntmps114
  go_wp2
  go_ret
  refine ⟨w.heap.size + 1, w.heap.size + 1 + 1, rfl, by omega, by omega, ?_, ?_, ?_, ?_⟩
  · exact al_old _ (al_new _ _ (by simp [World.setCell]))
  · have h := World.ownsMap_made (((w.setCell ⟨t, 3, none⟩ (.int .i64 (last + 1))).alloc (.cells #[.pointer (some ⟨d, 0, none⟩), .string name, .pointer none, .bool slash] 197)).alloc (.cells #[.int .i64 (last + 1), .int .i64 mode, .int .i64 tick, .bool true, .pointer (some ⟨d, 0, none⟩), .map (some (w.heap.size + 1 + 1)), .slice none 0 0, .int .i64 0, .int .i64 0] 134)) Tryz.prog 9 R
    simpa [World.setCell] using h
  · exact tr_alloc (tr_alloc (tr_alloc hT2 _) _) _
  · exact (((Turn.set w t 3 _ (by simp)).trans (Turn.alloc _ _)).trans (Turn.alloc _ _)).trans (Turn.alloc _ _)

set_option maxRecDepth 100000 in
set_option maxHeartbeats 4000000 in
theorem made_file (t d fb N : Nat) (name : ByteArray) (slash : Bool) (mode tick last : Int) (r nm : Value) (F : DataW Value) (w : World) (hT : TrAt w t r (.map (some fb)) nm (.int .i64 last)) (hF : w.ownsMap Tryz.prog 3 R fb N F) (hN : N < 1000000) (hl : 0 ≤ last) (hl2 : last < 4611686018427387904) :
    Calls Tryz.prog 114 #[.pointer (some ⟨t, 0, none⟩), plV d name (.pointer none) slash, .bool false, .int .i64 mode, .int .i64 tick] w fun e w' => ∃ n, e = .returned (.pointer (some ⟨n, 0, none⟩)) ∧ w.heap.size ≤ n ∧
      NdAt w' n ⟨last + 1, mode, tick, false, .pointer none, .map none, .slice none 0 0, 0, 0⟩ ∧ w'.ownsMap Tryz.prog 3 R fb (N + 1) (F.put (ik (last + 1)) (.held (ptr n))) ∧ TrAt w' t r (.map (some fb)) nm (.int .i64 (last + 1)) ∧ Turn [t, fb] w w' := by
  have hlt := hT.lt
  have hfl := hF.lt
  have hne : fb ≠ t := fun e => by
    obtain ⟨es, c, he, _⟩ := hF
    rw [e, show w.heap[t]? = _ from hT] at he; cases he
  have hT2 := hT.set3 (.int .i64 (last + 1))
  have c3 : ∀ o, (w.alloc o).cell? ⟨t, 3, none⟩ = some (.int .i64 last) := fun o => (tr_alloc hT o).c3
  have z3 : ∀ o, (w.alloc o).frozen? ⟨t, 3, none⟩ = false := fun o => (tr_alloc hT o).fz 3
  have d3 : ∀ o, ((w.setCell ⟨t, 3, none⟩ (.int .i64 (last + 1))).alloc o).cell? ⟨t, 3, none⟩ = some (.int .i64 (last + 1)) := fun o => (tr_alloc hT2 o).c3
  have d1 : ∀ o o', (((w.setCell ⟨t, 3, none⟩ (.int .i64 (last + 1))).alloc o).alloc o').cell? ⟨t, 1, none⟩ = some (.map (some fb)) := fun o o' => (tr_alloc (tr_alloc hT2 o) o').c1
  obtain ⟨o1, ho1⟩ : ∃ o1, o1 = Obj.cells #[.pointer (some ⟨d, 0, none⟩), .string name, .pointer none, .bool slash] 197 := ⟨_, rfl⟩
  obtain ⟨o2, ho2⟩ : ∃ o2, o2 = Obj.cells #[.int .i64 (last + 1), .int .i64 mode, .int .i64 tick, .bool false, .pointer none, .map none, .slice none 0 0, .int .i64 0, .int .i64 0] 134 := ⟨_, rfl⟩
  obtain ⟨w2, hrun, hown, hgrow⟩ := ((((hF.setCell (a := ⟨t, 3, none⟩) hne (.int .i64 (last + 1))).alloc o1).alloc o2).drew).update keyed3 under62 (by unfold maxLen; omega) (key := .int .i64 (last + 1)) (val := .pointer (some ⟨w.heap.size + 1, 0, none⟩)) (keyOf_int_mk Tryz.underlying3 (WalkArith.wf_i64 (by omega))) (rfl : R _ = some (.held (ptr (w.heap.size + 1)), []))
  have hN2 : NdAt w2 (w.heap.size + 1) ⟨last + 1, mode, tick, false, .pointer none, .map none, .slice none 0 0, 0, 0⟩ := by
    have h0 : NdAt (((w.setCell ⟨t, 3, none⟩ (.int .i64 (last + 1))).alloc o1).alloc o2).drew (w.heap.size + 1) ⟨last + 1, mode, tick, false, .pointer none, .map none, .slice none 0 0, 0, 0⟩ := by
      show (((w.setCell ⟨t, 3, none⟩ (.int .i64 (last + 1))).alloc o1).alloc o2).heap[w.heap.size + 1]? = _
      rw [ho2]; exact al_new _ _ (by simp [World.setCell])
    exact (hgrow.block _ h0.lt (by simp; omega)).trans h0
  have hT3 : TrAt w2 t r (.map (some fb)) nm (.int .i64 (last + 1)) := by
    have h0 : TrAt (((w.setCell ⟨t, 3, none⟩ (.int .i64 (last + 1))).alloc o1).alloc o2).drew t r (.map (some fb)) nm (.int .i64 (last + 1)) := tr_alloc (tr_alloc hT2 o1) o2
    exact (hgrow.block _ h0.lt (by simp; omega)).trans h0
  have hTu : Turn [t, fb] w w2 := ((((Turn.set w t 3 _ (by simp)).trans (Turn.alloc _ o1)).trans (Turn.alloc _ o2)).drew).trans (Turn.grown hgrow (by simp))
  rw [ho1, ho2] at hrun
  clear hgrow hT2 ho1 ho2 hT hF
  go_enter Tryz.func114, Tryz.ntmps114
  go_wp2_with fail
  go_region
  go_wp2
  go_ret
  exact ⟨w.heap.size + 1, rfl, by omega, hN2, hown, hT3, hTu⟩

set_option maxHeartbeats 1000000 in
theorem clone_c (s : ByteArray) (w : World) (hs : s.size ≤ 281474976710656) : Calls Tryz.prog 154 #[.string s] w fun e w' => e = .returned (.string s) ∧ Below w.heap.size w w' := by
  go_enter Tryz.func154, Tryz.ntmps154
  go_wp2_with (go_at_call 177; refine (Tryz.stringslite_Clone s w hs).mono ?_; rintro e w2 ⟨rfl, hB⟩)
  go_ret
  exact ⟨rfl, hB⟩

theorem nd_ne_map {w : World} {b mb k N : Nat} {x : Nd} {D : DataW Value} (h : NdAt w b x) (hm : w.ownsMap Tryz.prog k R mb N D) : mb ≠ b := fun e => by
  obtain ⟨es, c, he, _⟩ := hm
  rw [e, show w.heap[b]? = _ from h] at he; cases he
theorem tr_ne_map {w : World} {t mb k N : Nat} {r f n l : Value} {D : DataW Value} (h : TrAt w t r f n l) (hm : w.ownsMap Tryz.prog k R mb N D) : mb ≠ t := fun e => by
  obtain ⟨es, c, he, _⟩ := hm
  rw [e, show w.heap[t]? = _ from h] at he; cases he
theorem nd_ne_tr {w : World} {b t : Nat} {x : Nd} {r f n l : Value} (h : NdAt w b x) (ht : TrAt w t r f n l) : b ≠ t := fun e => by
  rw [e] at h
  have := (show w.heap[t]? = _ from h).symm.trans ht
  simp [Nd.arr] at this

def putN (d : Nat) (x : Nd) : Nd := if x.dir = true then { x with above := ptr d } else { x with links := x.links + 1 }

set_option maxRecDepth 100000 in
set_option maxHeartbeats 4000000 in
theorem put_c (t d n mb N : Nat) (name : ByteArray) (v : Value) (hv : v = .pointer none ∨ ∃ c, v = .pointer (some ⟨c, 0, none⟩)) (slash : Bool) (nm : Int) (r f la : Value) (D : DataW Value) (xd x : Nd) (w : World) (hs : name.size ≤ 2147483648)
    (hT : TrAt w t r f (.int .i64 nm) la) (hd : NdAt w d xd) (hent : xd.ents = .map (some mb)) (hM : w.ownsMap Tryz.prog 9 R mb N D) (hn : NdAt w n x) (_hdn : d ≠ n) (hN : N < 1000000) (h1 : 0 ≤ nm) (h2 : nm < 4611686018427387904) (h3 : 0 ≤ x.links) (h4 : x.links < 4611686018427387904) :
    Calls Tryz.prog 113 #[.pointer (some ⟨t, 0, none⟩), plV d name v slash, .pointer (some ⟨n, 0, none⟩)] w fun e w' => (∃ v, e = .returned v) ∧
      w'.ownsMap Tryz.prog 9 R mb (N + 1) (D.put (sk name) (.held (ptr n))) ∧ NdAt w' n (putN d x) ∧ TrAt w' t r f (.int .i64 (nm + 1)) la ∧ Turn [mb, t, n] w w' := by
  have hdt := nd_ne_tr hd hT
  have hnt := nd_ne_tr hn hT
  have hmd := nd_ne_map hd hM
  have hmn := nd_ne_map hn hM
  have hmt := tr_ne_map hT hM
  have hd5 : ∀ o, (w.alloc o).cell? ⟨d, 5, none⟩ = some (.map (some mb)) := fun o => by rw [← hent]; exact (nd_alloc hd o).c5
  obtain ⟨o1, ho1⟩ : ∃ o1, o1 = Obj.cells #[.pointer (some ⟨d, 0, none⟩), .string name, v, .bool slash] 197 := ⟨_, rfl⟩
  have hb1 : (w.alloc o1).heap[w.heap.size]? = some o1 := al_new _ _ rfl
  have hz1 : (w.alloc o1).heap.size = w.heap.size + 1 := World.size_alloc _ _
  have hw1 : ∃ w1, w1 = w.alloc o1 := ⟨_, rfl⟩
  obtain ⟨w1, hw1⟩ := hw1
  have hd1 := nd_alloc hd o1
  have hn1 := nd_alloc hn o1
  have hT1 := tr_alloc hT o1
  have hM1 := hM.alloc o1
  have hU1 : Turn [mb, t, n] w (w.alloc o1) := Turn.alloc _ _
  rw [← hw1] at hb1 hz1 hd1 hn1 hT1 hM1 hU1
  have hrest : ∀ w2, Below w1.heap.size w1 w2 → ∃ w3, (Instr.mapUpdate 132 (.map (some mb)) (.string name) (.pointer (some ⟨n, 0, none⟩))).run Tryz.prog w2 = .ok () w3 ∧ w3.ownsMap Tryz.prog 9 R mb (N + 1) (D.put (sk name) (.held (ptr n))) ∧ NdAt w3 n x ∧ TrAt w3 t r f (.int .i64 nm) la ∧ Turn [mb, t, n] w w3 ∧ w3.cell? ⟨w.heap.size, 0, none⟩ = some (.pointer (some ⟨d, 0, none⟩)) ∧ w2.cell? ⟨w.heap.size, 0, none⟩ = some (.pointer (some ⟨d, 0, none⟩)) ∧ w2.cell? ⟨d, 5, none⟩ = some (.map (some mb)) := by
    intro w2 hB
    have hM2 := hM1.kept (row := none) ⟨hB.os, hB.tape, hB.output, hB.size, fun k hk _ => hB.block k hk⟩ (by simp)
    obtain ⟨w3, hrun, hown, hgrow⟩ := hM2.update keyed9 under80 (by unfold maxLen; omega) (key := .string name) (val := .pointer (some ⟨n, 0, none⟩)) (WideMaps.keyOf_string_mk Tryz.underlying9 (by unfold maxLen; omega)) (rfl : R _ = some (.held (ptr n), []))
    have hU3 : Turn [mb, t, n] w2 w3 := Turn.grown hgrow (by simp)
    have hU3' : Turn [mb] w2 w3 := Turn.grown hgrow (by simp)
    have hb2 : w2.heap[w.heap.size]? = some o1 := (hB.block _ (by omega)).trans hb1
    have hc2 : w2.cell? ⟨w.heap.size, 0, none⟩ = some (.pointer (some ⟨d, 0, none⟩)) := by rw [ho1] at hb2; simp [World.cell?, hb2]
    exact ⟨w3, hrun, hown, hU3'.nd (hn1.below hB hn1.lt) (by simp; omega), hU3'.tr (hT1.below hB hT1.lt) (by simp; omega), (hU1.trans (Turn.below hB)).trans hU3, hU3'.cell hc2 (by simp; have := hM.lt; omega), hc2, by rw [← hent]; exact (hd1.below hB hd1.lt).c5⟩
  have k0 : w1.cell? ⟨w.heap.size, 0, none⟩ = some (.pointer (some ⟨d, 0, none⟩)) := by rw [ho1] at hb1; simp [World.cell?, hb1]
  have k1 : w1.cell? ⟨w.heap.size, 1, none⟩ = some (.string name) := by rw [ho1] at hb1; simp [World.cell?, hb1]
  have k5 : w1.cell? ⟨d, 5, none⟩ = some (.map (some mb)) := by rw [← hent]; exact hd1.c5
  rw [ho1] at hw1
  have HR := Lib.hid hrest
  have hlt := hT.lt
  clear hrest hb1 ho1 hd1 hn1 hT1 hM1 hU1 hd5 hT hd hn hM
  rcases hv with rfl | ⟨c, rfl⟩
  all_goals
    go_enter Tryz.func113, Tryz.ntmps113
    go_wp2_with fail
    rw [← hw1]
    clear hw1
    go_region_with (go_at_call 154; refine (clone_c name _ (by omega)).mono ?_; rintro e w2 ⟨rfl, hB2⟩; obtain ⟨w3, hrun, hown, hn3, hT3, hU3, hc3, hc2, h52⟩ := HR.out w2 (below_undrew hB2); have t2 := hT3.c2; have tz := hT3.fz 2)
  all_goals
    have hT4 := hT3.set2 (.int .i64 (nm + 1))
    have hn4 := nd_setCell hn3 (a := ⟨t, 2, none⟩) (.int .i64 (nm + 1)) hnt
    have hc4 := (World.cell?_setCell_far w3 ⟨t, 2, none⟩ ⟨w.heap.size, 0, none⟩ (.int .i64 (nm + 1)) (by simp; omega)).trans hc3
    have e3 := hn4.c3
    have e4 := hn4.c4
    have e7 := hn4.c7
    have y4 := hn4.fz 4
    have y7 := hn4.fz 7
    cases hx : x.dir with
    | true =>
      rw [hx] at e3
      go_wp2
      go_end0
      exact ⟨⟨_, rfl⟩, (hown.setCell (a := ⟨t, 2, none⟩) hmt _).setCell (a := ⟨n, 4, none⟩) hmn _, hn4.set 4 _ (by simp [Nd.arr, putN, hx]), tr_setCell hT4 _ (fun e => hnt e.symm), (hU3.trans (Turn.set _ _ _ _ (by simp))).trans (Turn.set _ _ _ _ (by simp))⟩
    | false =>
      rw [hx] at e3
      go_wp2
      go_end0
      exact ⟨⟨_, rfl⟩, (hown.setCell (a := ⟨t, 2, none⟩) hmt _).setCell (a := ⟨n, 7, none⟩) hmn _, hn4.set 7 _ (by simp [Nd.arr, putN, hx]), tr_setCell hT4 _ (fun e => hnt e.symm), (hU3.trans (Turn.set _ _ _ _ (by simp))).trans (Turn.set _ _ _ _ (by simp))⟩
end Go.Proofs.YtbbmihlabllliaaGreatDoor
