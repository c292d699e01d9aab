/- As KBegun, with what lies apart. -/
import Derived.Test.YtbbmihlabllliaaGreatDoorKBegun
namespace Go.Proofs.YtbbmihlabllliaaGreatDoor
open Go.RowKit Go.Shelf Go.Maps

set_option maxRecDepth 100000 in
set_option maxHeartbeats 2000000 in
theorem knew_c2 (t fb : Nat) (fv : Value) (l : List (Int × Int)) (now : Int) (w : World) (hF : Fl w fv fb l) (hl : l.length ≤ 1048576) (h0 : 0 < w.heap.size) :
    Calls Tryz.prog 24 #[ptr t, fv, .int .i64 now] w fun e w' => ∃ k fb' th fv', e = .returned (ptr k) ∧ w.heap.size ≤ k ∧ w.heap.size ≤ th ∧ fb' < w'.heap.size ∧ (fb' = 0 ∨ w.heap.size ≤ fb') ∧ fb' ≠ k ∧ fb' ≠ th ∧ KnAt w' k (ptr t) fv' 0 now th 0 ∧ Fl w' fv' fb' l ∧ w'.ownsMap Tryz.prog 3 R th 0 mE ∧ Below w.heap.size w w' := by
  have hmm := @run_makeMap Tryz.prog
  have hcl := faults_clone fv fb l w hF hl
  clear hF
  go_enter Tryz.func24, Tryz.ntmps24
  go_wp2_with (go_at_call 60; refine hcl.mono ?_; rintro e w1 ⟨fv', fb', rfl, hF1, hor, hB1⟩; have HF1 := Lib.hid hF1; obtain ⟨a', cap', rfl, _⟩ := hF1)
  go_ret
  have hz := hB1.size
  have hU : Turn [] w1 ((w1.alloc (.map #[] 0)).alloc (.cells #[ptr t, .slice a' l.length cap', .int .i64 0, .int .i64 now, .map (some w1.heap.size), .int .i64 0] 116)) := (Turn.alloc _ _).trans (Turn.alloc _ _)
  have hlt : fb' < w1.heap.size := by
    rcases hor with ⟨h1, h2⟩ | ⟨h1, cs, h2⟩
    · rw [h2]; omega
    · exact h_lt h2
  refine ⟨w1.heap.size + 1, fb', w1.heap.size, _, rfl, by omega, by omega, by simp; omega, (by rcases hor with ⟨h1, _⟩ | ⟨h1, _⟩ <;> omega), by omega, by omega, al_new _ _ (by simp), HF1.out.turn hU (by simp), (World.ownsMap_made w1 Tryz.prog 3 R).alloc _, (hB1.alloc hz _).alloc (by simp; omega) _⟩


/-- The kernel, its tree, its faults: all in blocks below M. -/
structure Bs2 (w0 : World) (M : Nat) (w : World) (t rt rm fm k fb th : Nat) (fv : Value) (l : List (Int × Int)) (now : Int) : Prop where
  tr : Tr0 w0.heap.size w t rt rm fm
  hK : KnAt w k (ptr t) fv 0 now th 0
  hF : Fl w fv fb l
  hM : w.ownsMap Tryz.prog 3 R th 0 mE
  k0 : w0.heap.size ≤ k
  th0 : w0.heap.size ≤ th
  fk : fb ≠ k
  ft : fb ≠ th
  tf : th ≠ fm
  tm : th ≠ rm
  f3 : fb ≠ t ∧ fb ≠ fm ∧ fb ≠ rm
  t1 : t < M
  rt1 : rt < M
  rm1 : rm < M
  fm1 : fm < M
  k1 : k < M
  fb1 : fb < M
  th1 : th < M
  m0 : w0.heap.size ≤ M
  bl : Below w0.heap.size w0 w
theorem Bs2.turn {S : List Nat} {w0 : World} {M : Nat} {w w' : World} {t rt rm fm k fb th : Nat} {fv : Value} {l : List (Int × Int)} {now : Int} (h : Bs2 w0 M w t rt rm fm k fb th fv l now) (hU : Turn S w w') (hS : ∀ x, x ∈ S → M ≤ x) : Bs2 w0 M w' t rt rm fm k fb th fv l now := by
  have hno : ∀ x, x < M → x ∉ S := fun x hx e => by have := hS x e; omega
  have hm := h.m0
  exact { h with
    tr := h.tr.turn hU ⟨hno _ h.t1, hno _ h.rt1, hno _ h.rm1, hno _ h.fm1⟩
    hK := hU.ob h.hK (hno _ h.k1)
    hF := h.hF.turn hU (hno _ h.fb1)
    hM := hU.map h.hM (hno _ h.th1)
    bl := h.bl.trans ⟨hU.os, hU.tape, hU.output, hU.size, fun x hx => hU.block x (by have := h.bl.size; omega) (hno x (by omega))⟩ }


/-- What is begun. -/
def BegunOut2 (w0 : World) (l : List (Int × Int)) (now : Int) (w : World) (pb : Nat) : Prop :=
  ∃ M t rt rm fm k fb th fv t0 t1 x1 x2 x3, Bs2 w0 M w t rt rm fm k fb th fv l now ∧ w.heap[pb]? = some (.cells #[ptr k, x1, ptr t0, ptr t1, x2, x3] 48) ∧ TbAt w t0 k nils ∧ TbAt w t1 k nils ∧ M ≤ t0 ∧ M ≤ t1 ∧ M ≤ pb ∧ t0 ≠ t1

set_option maxRecDepth 100000 in
set_option maxHeartbeats 4000000 in
theorem begun_c2 (fb0 : Nat) (fv0 : Value) (l : List (Int × Int)) (now : Int) (w : World) (hl : l.length ≤ 1048576) (h00 : 0 < w.heap.size) (hfl : ∀ w', Below w.heap.size w w' → Fl w' fv0 fb0 l) :
    Calls Tryz.prog 7 #[.slice none 0 0, fv0, .int .i64 now] w fun e w' => ∃ pb, e = .returned (ptr pb) ∧ BegunOut2 w l now w' pb := by
  have HFL := Lib.hid hfl
  clear hfl
  go_enter Tryz.func7, Tryz.ntmps7
  go_wp2_with fail
  refine (load_c w).mono ?_
  rintro e w1 ⟨t, rt, rm, fm, rfl, htr1, hB1⟩
  go_wp2_with fail
  refine (rload_c w1).mono ?_
  rintro e w2 ⟨rt2, rfl, hB2⟩
  have hz1 := hB1.size
  have hB12 : Below w.heap.size w w2 := hB1.trans (hB2.mono hz1)
  have htr2 := htr1.turn (S := []) (Turn.below hB2) (by simp)
  have hkn := knew_c2 t fb0 fv0 l now w2 (HFL.out w2 hB12) hl (by have := hB12.size; omega)
  have H2 := Lib.hid (And.intro htr2 hB12)
  clear htr1 htr2 hB1 hB2 hB12
  go_wp2_with fail
  refine hkn.mono ?_
  rintro e w3 ⟨k, fb, th, fv, rfl, hk0, hth0, hfb1, hfb9, hfk, hft, hK3, hF3, hM3, hB3⟩
  obtain ⟨htr2, hB12⟩ := H2.out
  have hz12 := hB12.size
  have hz3 := hB3.size
  have hB13 : Below w.heap.size w w3 := hB12.trans (hB3.mono hz12)
  have htr3 := htr2.turn (S := []) (Turn.below hB3) (by simp)
  have hbs3 : Bs2 w w3.heap.size w3 t rt rm fm k fb th fv l now := ⟨htr3, hK3, hF3, hM3, by omega, by omega, hfk, hft, by have := htr2.hF.lt; omega, by have := htr2.hM.lt; omega, (by have := htr2.hT.lt; have := htr2.hF.lt; have := htr2.hM.lt; have := htr2.ht; have := htr2.hfm; have := htr2.hrm; omega), htr3.hT.lt, htr3.hN.lt, htr3.hM.lt, htr3.hF.lt, h_lt hK3, hfb1, hM3.lt, by omega, hB13⟩
  have hrn := rnew_c rt2 fb0 fv0 l now w3 (HFL.out w3 hB13) hl
  have H3 := Lib.hid hbs3
  clear H2 htr2 hB12 hB3 hB13 htr3 hbs3 hkn hK3 hF3 hM3
  go_wp2_with fail
  refine hrn.mono ?_
  rintro e w4 ⟨rk, c3, rfl, hrk, hR4, hB4⟩
  have hz4 := hB4.size
  have H4 := Lib.hid (H3.out.turn (S := []) (Turn.below hB4) (by simp))
  have HR4 := Lib.hid hR4
  have hrl := h_lt hR4
  clear H3 hrn hB4 hR4
  go_wp2_with fail
  have H5 : Hid (Bs2 w w3.heap.size (w4.alloc (.cells #[ptr k, ptr rk, .pointer none, .pointer none, .pointer none, .pointer none] 48)) t rt rm fm k fb th fv l now ∧ Bg w w3.heap.size w4.heap.size rk k 0 (w4.alloc (.cells #[ptr k, ptr rk, .pointer none, .pointer none, .pointer none, .pointer none] 48)) (.pointer none) (.pointer none) (.pointer none) (.pointer none) (.slice none 0 0) (ptr rt2) c3 (.int .i64 0) (.int .i64 now) []) := ⟨H4.out.turn (S := []) (Turn.alloc _ _) (by simp), al_new _ _ rfl, al_old _ HR4.out, World.ownsRow_nil _ _ _ _, by omega, hrk, fun h => by omega, fun h => by omega, by simp; omega⟩
  clear H4 HR4
  go_loopg [12] 2 (fun g i wr => ∃ n : Nat, n + g = 2 ∧ i = .int .i64 n ∧ Hid (Bs2 w w3.heap.size wr t rt rm fm k fb th fv l now ∧ ∃ a0 a1 b0 b1 v xs, Bg w w3.heap.size w4.heap.size rk k n wr a0 a1 b0 b1 v (ptr rt2) c3 (.int .i64 0) (.int .i64 now) xs))
  case atStart => exact ⟨0, rfl, rfl, H5.out.1, _, _, _, _, _, _, H5.out.2⟩
  case round =>
    clear H5
    obtain ⟨n, hng, rfl, HI⟩ := hrel
    cases gk with
    | zero =>
      obtain rfl : n = 2 := by omega
      obtain ⟨hbs, a0, a1, b0, b1, v, xs, hbg⟩ := HI.out
      go_wp2_with fail
      go_ret
      obtain ⟨t0, t1, e0, e1, hT1, ht1, hne⟩ := hbg.A1 (by omega)
      obtain ⟨t0', e0', hT0, ht0⟩ := hbg.A0 (by omega)
      obtain rfl : t0 = t0' := by rw [e0] at e0'; simpa using e0'
      subst e0
      subst e1
      exact ⟨w4.heap.size, rfl, w3.heap.size, t, rt, rm, fm, k, fb, th, fv, t0, t1, _, _, _, hbs, hbg.hP, hT0, hT1, ht0, ht1, hbg.p1, hne⟩
    | succ g =>
      obtain ⟨hbs, a0, a1, b0, b1, v, xs, hbg⟩ := HI.out
      have hng' : n = 0 ∨ n = 1 := by omega
      rcases hng' with rfl | rfl
      · have pc0 := h_cell hbg.hP 0 rfl
        have q2 := h_cell hbg.hP 2 rfl
        have pc0' := fun o => al_cell o pc0
        have q2' := fun o => al_cell o q2
        have z2' : ∀ o, (wr.alloc o).frozen? ⟨w4.heap.size, 2, none⟩ = false := fun o => h_fz (al_old o hbg.hP) 2
        have hpl := h_lt hbg.hP
        have HS := Lib.hid (And.intro hbs hbg)
        clear hbs hbg HI
        go_upto_region 11 with fail
        go_cut [] (fun wx => Hid (Bs2 w w3.heap.size wx t rt rm fm k fb th fv l now ∧ ∃ tn, TbAt wx tn k nils ∧ w3.heap.size ≤ tn ∧ (∀ t0, a0 = ptr t0 → True) ∧ Bg w w3.heap.size w4.heap.size rk k 0 wx (ptr tn) a1 b0 b1 v (ptr rt2) c3 (.int .i64 0) (.int .i64 now) xs))
        case first =>
          go_region_with (go_at_call 26; refine (ktable_c k _).mono ?_; rintro e w' ⟨rfl, hw⟩; rw [hw])
          go_wp2_with fail
          go_meet
          obtain ⟨hbs, hbg⟩ := HS.out
          have hU : Turn [w4.heap.size] wr ((wr.setCell ⟨w4.heap.size, 2, none⟩ (ptr wr.heap.size)).alloc (.cells #[ptr k, .nilIface, .nilIface, .nilIface, .nilIface, .nilIface, .nilIface, .nilIface, .nilIface, .nilIface, .nilIface, .nilIface, .nilIface, .nilIface, .nilIface, .nilIface, .nilIface] 119)).drew := ((Turn.set wr w4.heap.size 2 _ (by simp)).trans (Turn.alloc _ _)).drew
          have hz := hbg.z
          have hp1 := hbg.p1
          refine ⟨hbs.turn hU (by simpa using hp1), wr.heap.size, al_new _ _ (by simp [World.setCell]), hz, fun _ _ => trivial, al_old _ (by simpa using h_set hbg.hP 2 (ptr wr.heap.size)), hU.ob hbg.hR (by simpa using h_ne hbg.hR hbg.hP (by decide)), own_turn hbg.ho hU (fun g hg e => by simp at e; exact row_ne hbg.ho hbg.hP (by decide) (e ▸ hg)), hp1, hbg.r1, fun h => by omega, fun h => by omega, Nat.le_trans hz hU.size⟩
        case rest =>
          obtain ⟨hbs, tn, hTn, htn, hdf, hbg⟩ := hcut.out
          clear hcut pc0 q2 pc0' q2' z2' hpl HS
          have r0 := h_cell hbg.hP 1 rfl
          have hrt := rtable_c rk w3.heap.size 0 (ptr rt2) (.slice none 0 0) c3 (.int .i64 0) (.int .i64 now) v xs wc.drew hbg.hR hbg.ho (by omega) hbg.z
          have HS := Lib.hid (And.intro hbs (And.intro hTn (And.intro hdf hbg)))
          have HP := Lib.hid (fun w' (hU : Turn (rk :: v.ownBlock.toList) wc w') => (show w'.heap[w4.heap.size]? = some (.cells #[ptr k, ptr rk, ptr tn, a1, b0, b1] 48) from hU.ob hbg.hP (fun e => by
            rcases List.mem_cons.1 e with e | e
            · exact h_ne hbg.hP hbg.hR (by decide) e
            · exact row_ne hbg.ho hbg.hP (by decide) (by simpa using e))))
          clear hbs hTn hdf hbg
          go_upto_region 12 with fail
          go_cut [] (fun wx => Hid (Bs2 w w3.heap.size wx t rt rm fm k fb th fv l now ∧ ∃ tn xn v' xs', Bg w w3.heap.size w4.heap.size rk k 1 wx (ptr tn) a1 (ptr xn) b1 v' (ptr rt2) c3 (.int .i64 0) (.int .i64 now) xs'))
          case first =>
            go_region_with (go_at_call 27; refine hrt.mono ?_; rintro e w' ⟨v', xn, rfl, hR', ho', hU0⟩; have hU' := undrewT hU0; have hP' := HP.out w' hU'; have s4 := h_cell hP' 4 rfl; have s4z := h_fz hP' 4)
            go_wp2_with fail
            go_meet
            obtain ⟨hbs, hTn, hdf, hbg⟩ := HS.out
            have hUs : Turn [w4.heap.size] w' (w'.setCell ⟨w4.heap.size, 4, none⟩ (ptr xn)) := Turn.set w' w4.heap.size 4 _ (by simp)
            have hUall : Turn (w4.heap.size :: rk :: v.ownBlock.toList) wc (w'.setCell ⟨w4.heap.size, 4, none⟩ (ptr xn)) := Turn.trans (hU'.mono (fun x hx => List.mem_cons_of_mem _ hx)) (hUs.mono (by simp))
            have hTS : ∀ tt, TbAt wc tt k nils → tt ∉ w4.heap.size :: rk :: v.ownBlock.toList := fun tt hT e => by
              rcases List.mem_cons.1 e with e | e
              · exact h_ne hT hbg.hP (by decide) e
              · rcases List.mem_cons.1 e with e | e
                · exact h_ne hT hbg.hR (by decide) e
                · exact row_ne hbg.ho hT (by decide) (by simpa using e)
            have hnS := hTS tn hTn
            refine ⟨hbs.turn hUall (fun x hx => ?_), tn, xn, v', _, by simpa using h_set hP' 4 (ptr xn), hUs.ob hR' (by simpa using h_ne hR' hP' (by decide)), own_turn ho' hUs (fun g hg e => by simp at e; exact row_ne ho' hP' (by decide) (e ▸ hg)), hbg.p1, hbg.r1, fun _ => ⟨tn, rfl, hUall.ob hTn hnS, htn⟩, fun h => by omega, Nat.le_trans hbg.z hUall.size⟩
            rcases List.mem_cons.1 hx with rfl | hx
            · exact hbg.p1
            · rcases List.mem_cons.1 hx with rfl | hx
              · exact hbg.r1
              · exact own_ge hbg.ho (by simpa using hx)
          case rest =>
            obtain ⟨hbs, tn', xn, v', xs', hbg⟩ := hcut.out
            clear hcut HS HP hrt r0
            have e1 := h_cell hbg.hP 2 rfl
            go_wp2_with fail
            go_roundg g
            case measure => omega
            case rel => exact ⟨1, by omega, by go_num, hbs, _, _, _, _, _, _, hbg⟩
      · have pc0 := h_cell hbg.hP 0 rfl
        have q2 := h_cell hbg.hP 3 rfl
        have pc0' := fun o => al_cell o pc0
        have q2' := fun o => al_cell o q2
        have z2' : ∀ o, (wr.alloc o).frozen? ⟨w4.heap.size, 3, none⟩ = false := fun o => h_fz (al_old o hbg.hP) 3
        have hpl := h_lt hbg.hP
        have HS := Lib.hid (And.intro hbs hbg)
        clear hbs hbg HI
        go_upto_region 11 with fail
        go_cut [] (fun wx => Hid (Bs2 w w3.heap.size wx t rt rm fm k fb th fv l now ∧ ∃ tn, TbAt wx tn k nils ∧ w3.heap.size ≤ tn ∧ (∀ t0, a0 = ptr t0 → t0 ≠ tn) ∧ Bg w w3.heap.size w4.heap.size rk k 1 wx a0 (ptr tn) b0 b1 v (ptr rt2) c3 (.int .i64 0) (.int .i64 now) xs))
        case first =>
          go_region_with (go_at_call 26; refine (ktable_c k _).mono ?_; rintro e w' ⟨rfl, hw⟩; rw [hw])
          go_wp2_with fail
          go_meet
          obtain ⟨hbs, hbg⟩ := HS.out
          have hU : Turn [w4.heap.size] wr ((wr.setCell ⟨w4.heap.size, 3, none⟩ (ptr wr.heap.size)).alloc (.cells #[ptr k, .nilIface, .nilIface, .nilIface, .nilIface, .nilIface, .nilIface, .nilIface, .nilIface, .nilIface, .nilIface, .nilIface, .nilIface, .nilIface, .nilIface, .nilIface, .nilIface] 119)).drew := ((Turn.set wr w4.heap.size 3 _ (by simp)).trans (Turn.alloc _ _)).drew
          have hz := hbg.z
          have hp1 := hbg.p1
          refine ⟨hbs.turn hU (by simpa using hp1), wr.heap.size, al_new _ _ (by simp [World.setCell]), hz, fun t0 e0 => by obtain ⟨t0', e1, h1, _⟩ := hbg.A0 (by omega); have := h_lt h1; rw [e0] at e1; simp at e1; omega, al_old _ (by simpa using h_set hbg.hP 3 (ptr wr.heap.size)), hU.ob hbg.hR (by simpa using h_ne hbg.hR hbg.hP (by decide)), own_turn hbg.ho hU (fun g hg e => by simp at e; exact row_ne hbg.ho hbg.hP (by decide) (e ▸ hg)), hp1, hbg.r1, fun h => by obtain ⟨t0, e0, h1, h2⟩ := hbg.A0 h; exact ⟨t0, e0, hU.ob h1 (by simpa using h_ne h1 hbg.hP (by decide)), h2⟩, fun h => by omega, Nat.le_trans hz hU.size⟩
        case rest =>
          obtain ⟨hbs, tn, hTn, htn, hdf, hbg⟩ := hcut.out
          clear hcut pc0 q2 pc0' q2' z2' hpl HS
          have r0 := h_cell hbg.hP 1 rfl
          have hrt := rtable_c rk w3.heap.size 1 (ptr rt2) (.slice none 0 0) c3 (.int .i64 0) (.int .i64 now) v xs wc.drew hbg.hR hbg.ho (by omega) hbg.z
          have HS := Lib.hid (And.intro hbs (And.intro hTn (And.intro hdf hbg)))
          have HP := Lib.hid (fun w' (hU : Turn (rk :: v.ownBlock.toList) wc w') => (show w'.heap[w4.heap.size]? = some (.cells #[ptr k, ptr rk, a0, ptr tn, b0, b1] 48) from hU.ob hbg.hP (fun e => by
            rcases List.mem_cons.1 e with e | e
            · exact h_ne hbg.hP hbg.hR (by decide) e
            · exact row_ne hbg.ho hbg.hP (by decide) (by simpa using e))))
          clear hbs hTn hdf hbg
          go_upto_region 12 with fail
          go_cut [] (fun wx => Hid (Bs2 w w3.heap.size wx t rt rm fm k fb th fv l now ∧ ∃ tn xn v' xs', Bg w w3.heap.size w4.heap.size rk k 2 wx a0 (ptr tn) b0 (ptr xn) v' (ptr rt2) c3 (.int .i64 0) (.int .i64 now) xs'))
          case first =>
            go_region_with (go_at_call 27; refine hrt.mono ?_; rintro e w' ⟨v', xn, rfl, hR', ho', hU0⟩; have hU' := undrewT hU0; have hP' := HP.out w' hU'; have s4 := h_cell hP' 5 rfl; have s4z := h_fz hP' 5)
            go_wp2_with fail
            go_meet
            obtain ⟨hbs, hTn, hdf, hbg⟩ := HS.out
            have hUs : Turn [w4.heap.size] w' (w'.setCell ⟨w4.heap.size, 5, none⟩ (ptr xn)) := Turn.set w' w4.heap.size 5 _ (by simp)
            have hUall : Turn (w4.heap.size :: rk :: v.ownBlock.toList) wc (w'.setCell ⟨w4.heap.size, 5, none⟩ (ptr xn)) := Turn.trans (hU'.mono (fun x hx => List.mem_cons_of_mem _ hx)) (hUs.mono (by simp))
            have hTS : ∀ tt, TbAt wc tt k nils → tt ∉ w4.heap.size :: rk :: v.ownBlock.toList := fun tt hT e => by
              rcases List.mem_cons.1 e with e | e
              · exact h_ne hT hbg.hP (by decide) e
              · rcases List.mem_cons.1 e with e | e
                · exact h_ne hT hbg.hR (by decide) e
                · exact row_ne hbg.ho hT (by decide) (by simpa using e)
            have hnS := hTS tn hTn
            refine ⟨hbs.turn hUall (fun x hx => ?_), tn, xn, v', _, by simpa using h_set hP' 5 (ptr xn), hUs.ob hR' (by simpa using h_ne hR' hP' (by decide)), own_turn ho' hUs (fun g hg e => by simp at e; exact row_ne ho' hP' (by decide) (e ▸ hg)), hbg.p1, hbg.r1, fun _ => by obtain ⟨t0, e0, h1, h2⟩ := hbg.A0 (by omega); exact ⟨t0, e0, hUall.ob h1 (hTS t0 h1), h2⟩, fun _ => by obtain ⟨t0, e0, h1, h2⟩ := hbg.A0 (by omega); exact ⟨t0, tn, e0, rfl, hUall.ob hTn hnS, htn, hdf t0 e0⟩, Nat.le_trans hbg.z hUall.size⟩
            rcases List.mem_cons.1 hx with rfl | hx
            · exact hbg.p1
            · rcases List.mem_cons.1 hx with rfl | hx
              · exact hbg.r1
              · exact own_ge hbg.ho (by simpa using hx)
          case rest =>
            obtain ⟨hbs, tn', xn, v', xs', hbg⟩ := hcut.out
            clear hcut HS HP hrt r0
            have e1 := h_cell hbg.hP 3 rfl
            go_wp2_with fail
            go_roundg g
            case measure => omega
            case rel => exact ⟨2, by omega, by go_num, hbs, _, _, _, _, _, _, hbg⟩
end Go.Proofs.YtbbmihlabllliaaGreatDoor
