/- proc.Go: a machine whose main, a bound method, comes to its first call. -/
import Derived.Test.YteimilnecahifaaGreatDoorMGoWB
import Derived.Test.YteimilnecahifaaGreatDoorMStepB
import Derived.Test.YteimilnecahifaaGreatDoorMRunB
namespace Go.Proofs.YteimilnecahifaaGreatDoor
open Go.RowKit Go.Maps

set_option maxHeartbeats 2000000 in
set_option maxRecDepth 100000 in
/-- Go: a machine whose main comes to its first call. -/
theorem go_firstB {w : World} {p kn tb kin : Nat} {args env box : Value} {cwd : ByteArray} {l1 l2 l3 held peak : Int} {isChild : Bool} {f0 : Nat} {c0 : Value} {R : Nat → Value → Int → Int → World → Prop}
    (hp : PrAt w p kn tb args env cwd l1 l2 l3 held peak box kin isChild (.pointer none)) (hcf : ∀ u : World, (callFunc f0 #[c0, ptr p]).run Tryz.prog u = .ok (.enter f0 #[c0, ptr p]) u)
    (hmain : ∀ u m, w.heap.size = m → PrAt u p kn tb args env cwd l1 l2 l3 held peak box kin isChild (ptr m) → McAt u m p (.func (.func f0) #[c0] #[]) (.slice none 0 0) 0 .nilFunc false 0 false 0 → Turn [p] w u → Calls Tryz.prog f0 #[c0, ptr p] u fun e u' => e = .panicked waitsP ∧ ∃ f y z held' peak', PrAt u' p kn tb args env cwd l1 l2 l3 held' peak' box kin isChild (ptr m) ∧ McAt u' m p (.func (.func f0) #[c0] #[]) (.slice none 0 0) 0 (.func f y z) false 0 false 0 ∧ R m (.func f y z) held' peak' u' ∧ Turn [m, p] u u') :
    Calls Tryz.prog 82 #[ptr p, .func (.func f0) #[c0] #[]] w fun e w' => ∃ m f y z held' peak' u', e = .returned (ptr m) ∧ w.heap.size = m ∧ R m (.func f y z) held' peak' u' ∧ PrAt w' p kn tb args env cwd l1 l2 l3 held' peak' box kin isChild (.pointer none) ∧ McAt w' m p (.func (.func f0) #[c0] #[]) (.slice none 0 0) 0 (.func f y z) false 0 false 0 ∧ Turn [p] u' w' ∧ Turn [p] w u' := by
  have hm1 : McAt (w.alloc (.cells #[ptr p, .func (.func f0) #[c0] #[], .slice none 0 0, .int .i64 0, .nilFunc, .bool false, .int .i64 0, .bool false, .int .i64 0] 98)) w.heap.size p (.func (.func f0) #[c0] #[]) (.slice none 0 0) 0 .nilFunc false 0 false 0 := al_new _ _ rfl
  have hp1 : PrAt (w.alloc (.cells #[ptr p, .func (.func f0) #[c0] #[], .slice none 0 0, .int .i64 0, .nilFunc, .bool false, .int .i64 0, .bool false, .int .i64 0] 98)) p kn tb args env cwd l1 l2 l3 held peak box kin isChild (.pointer none) := al_old _ hp
  have hTa : Turn [p] w (w.alloc (.cells #[ptr p, .func (.func f0) #[c0] #[], .slice none 0 0, .int .i64 0, .nilFunc, .bool false, .int .i64 0, .bool false, .int .i64 0] 98)) := Turn.alloc w _
  have hlt := h_lt hp
  have hgt : Turn [w.heap.size, p] (w.alloc (.cells #[ptr p, .func (.func f0) #[c0] #[], .slice none 0 0, .int .i64 0, .nilFunc, .bool false, .int .i64 0, .bool false, .int .i64 0] 98)) (GoW (w.alloc (.cells #[ptr p, .func (.func f0) #[c0] #[], .slice none 0 0, .int .i64 0, .nilFunc, .bool false, .int .i64 0, .bool false, .int .i64 0] 98)) p w.heap.size (.pointer none)).drew := goW_turn.drew
  have hwg : ∀ {u : World}, Turn [w.heap.size, p] (w.alloc (.cells #[ptr p, .func (.func f0) #[c0] #[], .slice none 0 0, .int .i64 0, .nilFunc, .bool false, .int .i64 0, .bool false, .int .i64 0] 98)) u → Turn [p] w u := fun {u} h => ⟨h.os.trans hTa.os, h.tape.trans hTa.tape, h.output.trans hTa.output, Nat.le_trans hTa.size h.size, fun b hb hn => (h.block b (Nat.lt_of_lt_of_le hb hTa.size) (by simp at hn ⊢; omega)).trans (hTa.block b hb hn)⟩
  have hg := goOn_firstB (R := R w.heap.size) hp1 hm1 hcf (hmain _ w.heap.size rfl (goW_pr hp1 hm1) (goW_mc hp1 hm1) (hwg hgt))
  have HW := Lib.hid (fun u (h : Turn [w.heap.size, p] (w.alloc (.cells #[ptr p, .func (.func f0) #[c0] #[], .slice none 0 0, .int .i64 0, .nilFunc, .bool false, .int .i64 0, .bool false, .int .i64 0] 98)) u) => hwg h)
  clear hmain hp hm1 hp1 hTa hgt hwg
  go_enter Tryz.func82, Tryz.ntmps82
  go_wp2_with (go_at_call 75; refine hg.mono ?_; rintro e w2 ⟨rfl, f, y, z, held', peak', u', hR, hp2, hm2, hT2, hT3⟩)
  go_ret
  exact ⟨w.heap.size, f, y, z, held', peak', u', rfl, rfl, hR, hp2, hm2, hT2, HW.out u' hT3⟩
end Go.Proofs.YteimilnecahifaaGreatDoor

namespace Go.Proofs.YteimilnecahifaaGreatDoor
open Go.RowKit Go.Shelf Go.Maps

/-- The process behind its end, where main made no call. -/
structure FinZ (G : Gh) (w : World) (k : KC) (st : Int) (rv v1 v2 : Value) : Prop where
  pr : PrAt w G.p G.kn G.tb G.args G.env G.cwd G.l1 G.l2 G.l3 0 0 G.box G.kin G.isChild (.pointer none)
  mc : ∃ once, McAt w G.m G.p .nilFunc (.slice none 0 0) 0 .nilFunc once 0 true st
  kn : KnAt w G.kn G.tr G.fv k.used G.now G.th G.last
  fs : FS G w (tabI G 3) 0 0 0 rv v1 v2
  o1 : w.ownsRow 0 5 1 v1 k.out.length (u8s k.out)
  o2 : w.ownsRow 0 5 1 v2 k.err.length (u8s k.err)
set_option maxHeartbeats 4000000 in
set_option maxRecDepth 100000 in
/-- Where main comes to its end without a call. -/
theorem goOn_endsZ {G : Gh} {w : World} {k : KC} {rv : Value} {f0 : Nat} {c0 : Value} {st : Int} (hp : PrAt w G.p G.kn G.tb G.args G.env G.cwd G.l1 G.l2 G.l3 0 0 G.box G.kin G.isChild (.pointer none)) (hmc : McAt w G.m G.p (.func (.func f0) #[c0] #[]) (.slice none 0 0) 0 .nilFunc false 0 false 0) (hk : KI G w k rv (.slice none 0 0) (.slice none 0 0)) (fm : G.fb ≠ G.m ∧ G.rb ≠ G.m ∧ G.fb ≠ G.p ∧ G.rb ≠ G.p)
    (hcf : ∀ u : World, (callFunc f0 #[c0, ptr G.p]).run Tryz.prog u = .ok (.enter f0 #[c0, ptr G.p]) u)
    (hmain : Calls Tryz.prog f0 #[c0, ptr G.p] (GoW w G.p G.m (.pointer none)).drew fun e u' => e = .returned (.int .i64 st) ∧ Turn [] (GoW w G.p G.m (.pointer none)).drew u') :
    Calls Tryz.prog 75 #[ptr G.m] w fun e w' => e = .returned (.tuple #[]) ∧ FinZ G w' k st rv (.slice none 0 0) (.slice none 0 0) ∧ Turn [G.p, G.m, G.tb, G.so, G.s1, G.s2] w w' := by
  have hmf : ∀ (fn : Fn) (first cap : Array Value) (w : World), (Instr.makeFunc fn first cap).run Tryz.prog w = .ok (.func fn first cap) w := fun _ _ _ _ => rfl
  have m0 : w.cell? ⟨G.m, 0, none⟩ = some (ptr G.p) := h_cell hmc 0 rfl
  have m1 : w.cell? ⟨G.m, 1, none⟩ = some (.func (.func f0) #[c0] #[]) := h_cell hmc 1 rfl
  have m3 : w.cell? ⟨G.m, 3, none⟩ = some (.int .i64 0) := h_cell hmc 3 rfl
  have y3 := h_fz hmc 3
  have p13 : w.cell? ⟨G.p, 13, none⟩ = some (.pointer none) := h_cell hp 13 rfl
  have z13 := h_fz hp 13
  have hne : G.m ≠ G.p := h_ne hmc hp (by decide)
  have hml := h_lt hmc
  have hpl := h_lt hp
  have n2 := h_ne hmc hk.kn (by decide)
  have n3 := h_ne hmc hk.so (by decide)
  have n4 := h_ne hmc hk.k1 (by decide)
  have n5 := h_ne hmc hk.k2 (by decide)
  have n6 := h_ne hmc hk.tb (by decide)
  have q2 := h_ne hp hk.kn (by decide)
  have q3 := h_ne hp hk.so (by decide)
  have q4 := h_ne hp hk.k1 (by decide)
  have q5 := h_ne hp hk.k2 (by decide)
  have q6 := h_ne hp hk.tb (by decide)
  have hv : ∀ b : Nat, (Value.slice none 0 0).ownBlock ≠ some b := fun b => by simp [Value.ownBlock]
  have hTg : Turn [G.m, G.p] w (GoW w G.p G.m (.pointer none)).drew := goW_turn.drew
  have hpg : PrAt (GoW w G.p G.m (.pointer none)).drew G.p G.kn G.tb G.args G.env G.cwd G.l1 G.l2 G.l3 0 0 G.box G.kin G.isChild (ptr G.m) := goW_pr hp hmc
  have hmg : McAt (GoW w G.p G.m (.pointer none)).drew G.m G.p (.func (.func f0) #[c0] #[]) (.slice none 0 0) 0 .nilFunc false 0 false 0 := goW_mc hp hmc
  have hkg : KI G (GoW w G.p G.m (.pointer none)).drew k rv (.slice none 0 0) (.slice none 0 0) := hk.keep hTg (fun b hb => by
    have hb : b = G.m ∨ b = G.p := by simpa using hb
    rcases hb with rfl | rfl
    · exact ⟨n2, n3, n4, n5, n6, fm.1.symm, fm.2.1.symm, hv _, hv _⟩
    · exact ⟨q2, q3, q4, q5, q6, fm.2.2.1.symm, fm.2.2.2.symm, hv _, hv _⟩)
  have hlt : G.tb < w.heap.size ∧ G.so < w.heap.size ∧ G.s1 < w.heap.size ∧ G.s2 < w.heap.size := ⟨h_lt hk.tb, h_lt hk.so, h_lt hk.k1, h_lt hk.k2⟩
  have HH := Lib.hid (And.intro hTg (And.intro hpg (And.intro hmg hkg)))
  clear hp hmc hk hTg hpg hmg hkg
  go_enter_defers Tryz.func75, Tryz.ntmps75
  go_wp2_with fail
  go_region
  go_wp2_with fail
  refine Code.wp_mono (AtPanic.imp (D0 := [{ target := Target.fn (Fn.func 104) #[ptr (w.heap.size + 1), ptr w.heap.size], args := #[] }])) ?_
  go_region_with (refine hmain.mono ?_; rintro e u ⟨rfl, hT⟩)
  all_goals
    obtain ⟨hTg, hpg, hmg, hkg⟩ := HH.out
    have hPu := hT.ob hpg (by simp)
    have hMu : McAt u G.m G.p (.func (.func f0) #[c0] #[]) (.slice none 0 0) 0 .nilFunc false 0 false 0 := hT.ob hmg (by simp)
    have hKu := hkg.keep hT (by simp)
    have hl := isLeft_goes hMu
    have hend := end_c (h_cell hPu 1 rfl) hne.symm hMu ⟨hKu.tb, hKu.so, hKu.k1, hKu.k2⟩ hKu.s12 st
    have hbx : u.cell? ⟨w.heap.size, 0, none⟩ = some (ptr G.m) := hT.cell (goW_box w G.p G.m (.pointer none)).2 (by simp)
    have HP := Lib.hid (And.intro hPu (And.intro hMu (And.intro hKu (And.intro hT hTg))))
    clear hPu hMu hKu hT hTg hpg hmg hkg hmain m0 m1 m3 y3 p13 z13
    simp only [AtPanic, Act.put, List.getElem_toArray, List.getElem_cons_succ, List.getElem_cons_zero, List.setIfInBounds_toArray, List.set_cons_succ, List.set_cons_zero]
    go_wp2_with (first
      | (go_at_call 105; refine hl.mono ?_; rintro e w' ⟨rfl, hw'⟩; rw [hw']; clear hw')
      | (go_at_call 103; refine hend.mono ?_; rintro e u2 ⟨⟨r, rfl⟩, hM2, hF2, hT2⟩))
    obtain ⟨hPu, hMu, hKu, hT, hTg⟩ := HP.out
    have hnes := hKu.nes
    have hp2 := hT2.ob hPu (by simp; exact ⟨hne.symm, q6, q3, q4, q5⟩)
    have hTT : Turn [G.m, G.tb, G.so, G.s1, G.s2] (GoW w G.p G.m (.pointer none)).drew u2 := (hT.mono (by simp)).trans hT2
    refine goOn_left (S := [G.m, G.tb, G.so, G.s1, G.s2]) (fun b hb => ?_) hp2 (h_cell hM2 0 rfl) hTT ?_ _ rfl
    · simp only [List.mem_cons, List.not_mem_nil, or_false] at hb
      omega
    · have hX : Turn [G.p] u2 (u2.drew.setCell ⟨G.p, 13, none⟩ (.pointer none)) := (Turn.refl [G.p] u2).drew.trans (Turn.set _ G.p 13 _ (by simp))
      have hpr : PrAt (u2.drew.setCell ⟨G.p, 13, none⟩ (.pointer none)) G.p G.kn G.tb G.args G.env G.cwd G.l1 G.l2 G.l3 0 0 G.box G.kin G.isChild (.pointer none) := by simpa using h_set (w := u2.drew) hp2 13 (.pointer none)
      refine ⟨⟨hpr, ⟨false, hX.ob hM2 (by simpa using hne)⟩, hX.ob (hT2.ob hKu.kn (by simp; exact ⟨n2.symm, hnes.2.2.2.2.2.1.symm, hnes.1, hnes.2.1, hnes.2.2.1⟩)) (by simpa using q2.symm), ⟨hX.ob hF2.tb (by simpa using q6.symm), hX.ob hF2.so (by simpa using q3.symm), hX.ob hF2.k1 (by simpa using q4.symm), hX.ob hF2.k2 (by simpa using q5.symm)⟩, own_turn (own_turn hKu.o1 hT2 (fun g hg => by simp [Value.ownBlock] at hg)) hX (fun g hg => by simp [Value.ownBlock] at hg), own_turn (own_turn hKu.o2 hT2 (fun g hg => by simp [Value.ownBlock] at hg)) hX (fun g hg => by simp [Value.ownBlock] at hg)⟩, ?_⟩
      exact ((hTg.mono (by simp)).trans (hTT.mono (by simp))).trans (hX.mono (by simp))
end Go.Proofs.YteimilnecahifaaGreatDoor

namespace Go.Proofs.YteimilnecahifaaGreatDoor
open Go.RowKit Go.Shelf Go.Maps

set_option maxHeartbeats 2000000 in
set_option maxRecDepth 100000 in
theorem go_endsZ {G : Gh} {w : World} {k : KC} {rv : Value} {f0 : Nat} {c0 : Value} {st : Int} (hp : PrAt w G.p G.kn G.tb G.args G.env G.cwd G.l1 G.l2 G.l3 0 0 G.box G.kin G.isChild (.pointer none)) (hk : KI G w k rv (.slice none 0 0) (.slice none 0 0)) (fm : G.fb ≠ G.p ∧ G.rb ≠ G.p)
    (hcf : ∀ u : World, (callFunc f0 #[c0, ptr G.p]).run Tryz.prog u = .ok (.enter f0 #[c0, ptr G.p]) u)
    (hmain : ∀ u m, PrAt u G.p G.kn G.tb G.args G.env G.cwd G.l1 G.l2 G.l3 0 0 G.box G.kin G.isChild (ptr m) → Turn [G.p] w u → Calls Tryz.prog f0 #[c0, ptr G.p] u fun e u' => e = .returned (.int .i64 st) ∧ Turn [] u u') :
    Calls Tryz.prog 82 #[ptr G.p, .func (.func f0) #[c0] #[]] w fun e w' => ∃ m, e = .returned (ptr m) ∧ w.heap.size ≤ m ∧ m < w'.heap.size ∧ FinZ { G with m := m } w' k st rv (.slice none 0 0) (.slice none 0 0) ∧ Turn [G.p, G.tb, G.so, G.s1, G.s2] w w' := by
  have hm1 : McAt (w.alloc (.cells #[ptr G.p, .func (.func f0) #[c0] #[], .slice none 0 0, .int .i64 0, .nilFunc, .bool false, .int .i64 0, .bool false, .int .i64 0] 98)) w.heap.size G.p (.func (.func f0) #[c0] #[]) (.slice none 0 0) 0 .nilFunc false 0 false 0 := al_new _ _ rfl
  have hp1 : PrAt (w.alloc (.cells #[ptr G.p, .func (.func f0) #[c0] #[], .slice none 0 0, .int .i64 0, .nilFunc, .bool false, .int .i64 0, .bool false, .int .i64 0] 98)) G.p G.kn G.tb G.args G.env G.cwd G.l1 G.l2 G.l3 0 0 G.box G.kin G.isChild (.pointer none) := al_old _ hp
  have hTa : Turn [] w (w.alloc (.cells #[ptr G.p, .func (.func f0) #[c0] #[], .slice none 0 0, .int .i64 0, .nilFunc, .bool false, .int .i64 0, .bool false, .int .i64 0] 98)) := Turn.alloc w _
  have hk1 : KI { G with m := w.heap.size } (w.alloc (.cells #[ptr G.p, .func (.func f0) #[c0] #[], .slice none 0 0, .int .i64 0, .nilFunc, .bool false, .int .i64 0, .bool false, .int .i64 0] 98)) k rv (.slice none 0 0) (.slice none 0 0) := (hk.keep hTa (by simp)).like rfl
  have hlt := hk.lt
  have hz : (w.alloc (.cells #[ptr G.p, .func (.func f0) #[c0] #[], .slice none 0 0, .int .i64 0, .nilFunc, .bool false, .int .i64 0, .bool false, .int .i64 0] 98)).heap.size = w.heap.size + 1 := by simp
  have hwg : ∀ {u : World} {S : List Nat}, Turn (w.heap.size :: S) (w.alloc (.cells #[ptr G.p, .func (.func f0) #[c0] #[], .slice none 0 0, .int .i64 0, .nilFunc, .bool false, .int .i64 0, .bool false, .int .i64 0] 98)) u → Turn S w u := fun {u} {S} h => ⟨h.os.trans hTa.os, h.tape.trans hTa.tape, h.output.trans hTa.output, Nat.le_trans hTa.size h.size, fun b hb hn => (h.block b (Nat.lt_of_lt_of_le hb hTa.size) (by simp; exact ⟨by omega, hn⟩)).trans (hTa.block b hb (by simp))⟩
  have hgt : Turn [w.heap.size, G.p] (w.alloc (.cells #[ptr G.p, .func (.func f0) #[c0] #[], .slice none 0 0, .int .i64 0, .nilFunc, .bool false, .int .i64 0, .bool false, .int .i64 0] 98)) (GoW (w.alloc (.cells #[ptr G.p, .func (.func f0) #[c0] #[], .slice none 0 0, .int .i64 0, .nilFunc, .bool false, .int .i64 0, .bool false, .int .i64 0] 98)) G.p w.heap.size (.pointer none)).drew := goW_turn.drew
  have hg := goOn_endsZ (G := { G with m := w.heap.size }) (st := st) hp1 hm1 hk1 ⟨by show G.fb ≠ w.heap.size; omega, by show G.rb ≠ w.heap.size; omega, fm⟩ hcf (hmain _ w.heap.size (goW_pr hp1 hm1) (hwg hgt))
  have HW := Lib.hid (fun u (h : Turn [G.p, w.heap.size, G.tb, G.so, G.s1, G.s2] (w.alloc (.cells #[ptr G.p, .func (.func f0) #[c0] #[], .slice none 0 0, .int .i64 0, .nilFunc, .bool false, .int .i64 0, .bool false, .int .i64 0] 98)) u) => hwg (S := [G.p, G.tb, G.so, G.s1, G.s2]) (h.mono (by simp)))
  clear hmain hp hm1 hp1 hTa hgt hwg hk hk1 hz hlt
  go_enter Tryz.func82, Tryz.ntmps82
  go_wp2_with (go_at_call 75; refine hg.mono ?_; rintro e w2 ⟨rfl, hF, hT2⟩)
  go_ret
  obtain ⟨on, hmc⟩ := hF.mc
  exact ⟨w.heap.size, rfl, Nat.le_refl _, h_lt hmc, hF, HW.out _ hT2⟩
/-- A step behind the end does nothing. -/
theorem step_done {w : World} {m p : Nat} {main past next : Value} {told steps st : Int} {once : Bool} (h : McAt w m p main past told next once steps true st) :
    Calls Tryz.prog 47 #[ptr m] w fun e w' => e = .returned (.bool true) ∧ w' = w := by
  have c7 := h_cell h 7 rfl
  clear h
  go_enter Tryz.func47, Tryz.ntmps47
  go_wp2
  go_ret
  exact ⟨rfl, rfl⟩
section
variable {n0 : Nat} {G : Gh} {w : World} {t rt rm fm : Nat} {D : DataW Value} {sa : List ByteArray} {k : KC} {st : Int} {rv v1 v2 : Value}
theorem run_asksZ (hF : FinZ G w k st rv v1 v2) (hB : RunB n0 w G.th t rt rm fm D G.args sa) (hlk : lookT D (ik 2) = iSk G.s1 ∧ lookT D (ik 3) = iSk G.s2) (hb : k.out.length ≤ 1073741824 ∧ k.err.length ≤ 1073741824) (u : World) (hu : Below w.heap.size w u) : Asks G t k 0 0 st u := by
  have hT : Turn [] w u := Turn.below hu
  have hK := hT.ob hF.kn (by simp)
  have hM := hT.map hB.map (by simp)
  obtain ⟨on, hmc0⟩ := hF.mc
  have hmc : McAt u G.m G.p .nilFunc (.slice none 0 0) 0 .nilFunc on 0 true st := hT.ob hmc0 (by simp)
  have htr := hB.tr.turn hT (by simp)
  have o1 := own_turn hF.o1 hT (by simp)
  have o2 := own_turn hF.o2 hT (by simp)
  exact ⟨said_c _ _ _ _ _ _ _ _ _ _ _ _ _ _ _ hK hM (by decide) hlk.1 (hT.ob hF.fs.k1 (by simp)) (by_own o1) hb.1, said_c _ _ _ _ _ _ _ _ _ _ _ _ _ _ _ hK hM (by decide) hlk.2 (hT.ob hF.fs.k2 (by simp)) (by_own o2) hb.2, status_c hmc, dump_none t rt rm 0 (xr rt rm) _ _ _ u htr.hT htr.hN rfl htr.hM, steps_c hmc, peak_c hmc (hT.ob hF.pr (by simp)), used_c hK⟩
end
/-- What start is to answer where main makes no call: a machine that has ended. -/
def EndedZ (G : Gh) (w : World) (ins : List UInt8) (rv : Value) (st : Int) (e : Ending) (w' : World) : Prop :=
  ∃ m, e = .returned (ptr m) ∧ w.heap.size ≤ m ∧ m < w'.heap.size ∧ FinZ { G with m := m } w' ⟨0, ins, [], []⟩ st rv (.slice none 0 0) (.slice none 0 0) ∧ Turn [G.p, G.tb, G.so, G.s1, G.s2] w w'
end Go.Proofs.YteimilnecahifaaGreatDoor
