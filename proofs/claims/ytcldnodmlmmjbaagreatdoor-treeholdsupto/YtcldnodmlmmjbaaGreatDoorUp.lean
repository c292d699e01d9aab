/- The chapter's examples come out true. -/
import Derived.Lib.SmallJoins
import Derived.Test.YtcldnodmlmmjbaaGreatDoorAwake
namespace Go.Proofs.YtcldnodmlmmjbaaGreatDoor
open Go.RowKit Go.Shelf Go.Maps

theorem ca_ne : ¬ s_c = s_a := by decide
theorem ac_ne : ¬ s_a = s_c := by decide
theorem db_ne : ¬ s_d = s_b := by decide

/-- The first of the calls: a directory is made in the root. -/
theorem up_1 (t rt rm fm : Nat) (m : Int) (w1 : World) (hm : w1.cell? ⟨0, 0, none⟩ = some (.int .i64 m)) (hN : NdAt w1 rt (xr rt rm)) (hM : w1.ownsMap Tryz.prog 9 R rm 0 mE) (hT : TrAt w1 t (ptr rt) (.map (some fm)) (.int .i64 0) (.int .i64 1)) :
    Calls Tryz.prog 22 #[.pointer (some ⟨t, 0, none⟩), .string sE, .string p_a, .bool true, .int .i64 493, .int .i64 0] w1 fun r w' => ∃ na md am, r = .returned (.tuple #[.int .i64 2, .int .i64 0]) ∧ w1.heap.size ≤ na ∧ w1.heap.size ≤ am ∧
      NdAt w' na (xa rt am md) ∧ w'.ownsMap Tryz.prog 9 R rm 1 (mE.put (sk s_a) (.held (ptr na))) ∧ w'.ownsMap Tryz.prog 9 R am 0 mE ∧ TrAt w' t (ptr rt) (.map (some fm)) (.int .i64 1) (.int .i64 2) ∧ Turn [t, rm] w1 w' := by
  have hr0 : (g0 rt rm rt).isSome = true := by rw [g0_rt]; rfl
  have hsk : seekF (g0 rt rm) rt rt p_a 2 = .ok ⟨rt, s_a, .pointer none, false⟩ := by
    have := seekF_mk (g := g0 rt rm) (root := rt) (home := rt) (s := p_a) (non := 2) ab_a.2.2 (by rw [ite_self, ah_a]; exact toDir_empty (g0_rt rt rm) rfl pts_r) (by rw [la_a, empt_no.1, dots_no.1]; rfl) (by rw [la_a]; exact nm_a) (g0_rt rt rm)
    rw [this, la_a, ab_a.2.1, look_empty]
  refine (make_dir (g0 rt rm) (closed0 rt rm) t rt rt rt 0 rm 0 fm 0 s_a false 0 1 (xr rt rm) mE mE sE p_a 493 0 m w1 (by decide) (by decide) ⟨hm, gr0 rt rm hN hM⟩ hT hr0 hr0 (toDir_empty (g0_rt rt rm) rfl pts_E) ⟨hsk, ⟨_, hN, rfl⟩, by omega, by omega, by omega, by decide, g0_rt rt rm, hN, rfl, hM, by omega⟩ rfl (by decide) (by decide)).mono ?_
  rintro r w' ⟨n, md, mb2, rfl, h1, h2, h3, h4, h5, h6, h7⟩
  exact ⟨n, md, mb2, rfl, h1, h2, h3, h4, h5, h6, h7⟩

/-- Two directories. -/
def g2 (rt rm na : Nat) (Dr : DataW Value) (x2 : Nd) : Graph := gOf [(rt, xr rt rm, Dr), (na, x2, mE)]
theorem g2_r (rt rm na : Nat) (Dr : DataW Value) (x2 : Nd) : g2 rt rm na Dr x2 rt = some (xr rt rm, Dr) := by simp [g2, gOf]
theorem g2_a {rt rm na : Nat} {Dr : DataW Value} {x2 : Nd} (h : rt ≠ na) : g2 rt rm na Dr x2 na = some (x2, mE) := by simp [g2, gOf, h]
theorem g2_inv {rt rm na : Nat} {Dr : DataW Value} {x2 : Nd} (h : rt ≠ na) {k : Nat} {x : Nd} {D : DataW Value} (hk : g2 rt rm na Dr x2 k = some (x, D)) : (k = rt ∧ x = xr rt rm ∧ D = Dr) ∨ (k = na ∧ x = x2 ∧ D = mE) := by
  by_cases k1 : rt = k
  · subst k1; rw [g2_r] at hk; cases hk; exact .inl ⟨rfl, rfl, rfl⟩
  · by_cases k2 : na = k
    · subst k2; rw [g2_a h] at hk; cases hk; exact .inr ⟨rfl, rfl, rfl⟩
    · simp [g2, gOf, k1, k2] at hk

/-- The second one: a file is made in the directory. -/
theorem up_2 (t rt rm fm na am : Nat) (md m : Int) (w2 : World) (hm : w2.cell? ⟨0, 0, none⟩ = some (.int .i64 m)) (hra : rt ≠ na) (hfa : am ≠ fm) (hN : NdAt w2 rt (xr rt rm)) (hM : w2.ownsMap Tryz.prog 9 R rm 1 (mE.put (sk s_a) (.held (ptr na)))) (ha : NdAt w2 na (xa rt am md)) (hMa : w2.ownsMap Tryz.prog 9 R am 0 mE) (hF : w2.ownsMap Tryz.prog 3 R fm 0 mE) (hT : TrAt w2 t (ptr rt) (.map (some fm)) (.int .i64 1) (.int .i64 2)) :
    Calls Tryz.prog 22 #[.pointer (some ⟨t, 0, none⟩), .string p_a, .string s_b, .bool false, .int .i64 420, .int .i64 0] w2 fun r w' => ∃ nb md2, r = .returned (.tuple #[.int .i64 3, .int .i64 0]) ∧ w2.heap.size ≤ nb ∧
      NdAt w' nb (xb md2 0 (.slice none 0 0) 1) ∧ w'.ownsMap Tryz.prog 9 R am 1 (mE.put (sk s_b) (.held (ptr nb))) ∧ w'.ownsMap Tryz.prog 3 R fm 1 (mE.put (ik 3) (.held (ptr nb))) ∧ TrAt w' t (ptr rt) (.map (some fm)) (.int .i64 2) (.int .i64 3) ∧ Turn [t, fm, am] w2 w' := by
  have hl : look (mE.put (sk s_a) (.held (ptr na))) (sk s_a) = ptr na := look_put_same isMap_E (isKey_s _) _
  have hgr := g2_r rt rm na (mE.put (sk s_a) (.held (ptr na))) (xa rt am md)
  have hga : g2 rt rm na (mE.put (sk s_a) (.held (ptr na))) (xa rt am md) na = some (xa rt am md, mE) := g2_a hra
  have hcl : Closed (g2 rt rm na (mE.put (sk s_a) (.held (ptr na))) (xa rt am md)) := fun k x D hk hd => by
    rcases g2_inv hra hk with ⟨rfl, rfl, rfl⟩ | ⟨rfl, rfl, rfl⟩
    · refine ⟨⟨k, rfl, by rw [hgr]; rfl⟩, fun s => ?_⟩
      rw [lookPut isMap_E]
      by_cases hs : s = s_a
      · rw [if_pos hs]; exact .inr ⟨na, rfl, by rw [hga]; rfl⟩
      · rw [if_neg hs]; exact .inl (look_empty _)
    · exact ⟨⟨rt, rfl, by rw [hgr]; rfl⟩, fun s => .inl (look_empty _)⟩
  have hGr : Gr w2 (g2 rt rm na (mE.put (sk s_a) (.held (ptr na))) (xa rt am md)) := fun k x D hk => by
    rcases g2_inv hra hk with ⟨rfl, rfl, rfl⟩ | ⟨rfl, rfl, rfl⟩
    · exact ⟨hN, fun _ => ⟨rm, 1, rfl, hM⟩⟩
    · exact ⟨ha, fun _ => ⟨am, 0, rfl, hMa⟩⟩
  have hr0 : (g2 rt rm na (mE.put (sk s_a) (.held (ptr na))) (xa rt am md) rt).isSome = true := by rw [hgr]; rfl
  have hr1 : (g2 rt rm na (mE.put (sk s_a) (.held (ptr na))) (xa rt am md) na).isSome = true := by rw [hga]; rfl
  have hh : toDir (g2 rt rm na (mE.put (sk s_a) (.held (ptr na))) (xa rt am md)) rt p_a = .ok na := by
    have := step_name hgr rfl a_dot.1 a_dot.2 nm_a hl
    simp [toDir, pts_a, leadF, this, dirF, hga]
  have hsk : seekF (g2 rt rm na (mE.put (sk s_a) (.held (ptr na))) (xa rt am md)) rt na s_b 2 = .ok ⟨na, s_b, .pointer none, false⟩ := by
    have := seekF_mk (g := g2 rt rm na (mE.put (sk s_a) (.held (ptr na))) (xa rt am md)) (root := rt) (home := na) (s := s_b) (non := 2) ab_b.2.2 (by rw [if_neg (by rw [ab_b.1]; decide), ah_b]; exact toDir_empty hga rfl pts_E) (by rw [la_b, empt_no.2.1, dots_no.2.1]; rfl) (by rw [la_b]; exact nm_b) hga
    rw [this, la_b, ab_b.2.1, look_empty]
  refine (make_file _ hcl t rt na na 1 am 0 fm 0 s_b false 1 2 (xa rt am md) mE mE p_a s_b 420 0 m w2 (by decide) (by decide) ⟨hm, hGr⟩ hT hr0 hr1 hh ⟨hsk, ⟨_, rt, ha, rfl, hra, _, hN, rfl⟩, by omega, by omega, by omega, by decide, hga, ha, rfl, hMa, by omega⟩ rfl hF (by omega) hfa (by decide) (by decide)).mono ?_
  rintro r w' ⟨n, md2, rfl, h1, h2, h3, h4, h5, h6⟩
  exact ⟨n, md2, rfl, h1, h2, h3, h4, h5, h6⟩

set_option maxRecDepth 100000 in
set_option maxHeartbeats 8000000 in
theorem awake_says : AwakeSays := fun m w hm => by
  have h0lt : 0 < w.heap.size := World.block_lt_of_cell? w _ hm
  go_enter Tryz.func7, Tryz.ntmps7
  go_wp2_with fail
  refine (new_c _).mono ?_
  rintro e w1 ⟨t, rt, rm, fm, rfl, ht, hrt, hrm, hfm, hmf, hN1, hM1, hF1, hT1, hB1⟩
  have hm1 : w1.cell? ⟨0, 0, none⟩ = some (.int .i64 m) := (hB1.cell (p := ⟨0, 0, none⟩) h0lt).trans hm
  have HU1 := Lib.hid (up_1 t rt rm fm m w1 hm1 hN1 hM1 hT1)
  go_wp2_with fail
  refine HU1.out.mono ?_
  rintro e w2 ⟨na, md1, am, rfl, hna, ham, ha2, hM2, hMa2, hT2, hU2⟩
  have e1 := nd_ne_tr hN1 hT1
  have e2 := nd_ne_map hN1 hM1
  have e3 := tr_ne_map hT1 hF1
  have e4 := hN1.lt
  have e5 := hF1.lt
  have e6 := hM1.lt
  have e7 := hT1.lt
  have e11 := tr_ne_map hT1 hM1
  have e12 := nd_ne_map hN1 hF1
  have hN2 := hU2.nd hN1 (by simp; omega)
  have hF2 := hU2.map hF1 (by simp; omega)
  have hm2 : w2.cell? ⟨0, 0, none⟩ = some (.int .i64 m) := hU2.cell hm1 (by simp; omega)
  have hB2 : Below w.heap.size w w2 := hB1.trans (hU2.toBelow hB1.size (by simp; omega))
  have HU2 := Lib.hid (up_2 t rt rm fm na am md1 m w2 hm2 (by omega) (by omega) hN2 hM2 ha2 hMa2 hF2 hT2)
  have e8 := nd_ne_map ha2 hMa2
  have e9 := nd_ne_tr ha2 hT2
  have HK := Lib.hid (And.intro hN2 (And.intro hM2 (And.intro ha2 (And.intro hB2 (And.intro hU2.size hB1.size)))))
  clear hN1 hM1 hF1 hT1 HU1 hM2 hMa2 hT2 hU2 hN2 hF2 ha2 hB1 hB2 hm1 hm2
  go_wp2_with fail
  refine HU2.out.mono ?_
  rintro e w3 ⟨nb, md2, rfl, hnb, hb3, hMa3, hF3, hT3, hU3⟩
  clear HU2
  have hcv := Joins.run_convert_bytes_const_at (P := Tryz.prog) w3 33 5 #[.int .u8 120, .int .u8 121] 2 2 w3.heap.size rfl Tryz.underlying33 Tryz.underlying5
  obtain ⟨hN2, hM2, ha2, hB2, hz2, hz1⟩ := HK.out
  have hnl := hb3.lt
  have hb4 := nd_alloc hb3 (.cells #[.int .u8 120, .int .u8 121] 5 (2, 3))
  have hT4 := tr_alloc hT3 (.cells #[.int .u8 120, .int .u8 121] 5 (2, 3))
  have hF4 := hF3.alloc (.cells #[.int .u8 120, .int .u8 121] 5 (2, 3))
  have hMa4 := hMa3.alloc (.cells #[.int .u8 120, .int .u8 121] 5 (2, 3))
  have hN4 := nd_alloc (hU3.nd hN2 (by have := hN2.lt; have := nd_ne_map hN2 hM2; simp; omega)) (.cells #[.int .u8 120, .int .u8 121] 5 (2, 3))
  have hM4 := (hU3.map hM2 (by have := hM2.lt; simp; omega)).alloc (.cells #[.int .u8 120, .int .u8 121] 5 (2, 3))
  have ha4 := nd_alloc (hU3.nd ha2 (by have := ha2.lt; simp; omega)) (.cells #[.int .u8 120, .int .u8 121] 5 (2, 3))
  have hB4 : Below w.heap.size w (w3.alloc (.cells #[.int .u8 120, .int .u8 121] 5 (2, 3))) := (hB2.trans (hU3.toBelow hB2.size (by simp; omega))).alloc (by have := hU3.size; have := hB2.size; omega) _
  have hw5 : Calls Tryz.prog 23 #[.pointer (some ⟨t, 0, none⟩), .int .i64 3, .int .i64 0, .slice (some ⟨w3.heap.size, 0, none⟩) 2 2, .int .i64 1] (w3.alloc (.cells #[.int .u8 120, .int .u8 121] 5 (2, 3))) fun e w' => (∃ v, e = .returned v) ∧ ∃ v', NdAt w' nb (xb md2 1 v' 1) ∧ w'.ownsRow (w3.alloc (.cells #[.int .u8 120, .int .u8 121] 5 (2, 3))).heap.size 5 1 v' 2 (u8s [120, 121]) ∧ Turn [nb] (w3.alloc (.cells #[.int .u8 120, .int .u8 121] 5 (2, 3))) w' := by
    refine (write_end t nb fm 1 _ 3 1 (xb md2 0 (.slice none 0 0) 1) none 0 0 _ w3.heap.size 0 2 2 [] [120, 121] _ _ _ _ hT4 hF4 wf3 (look_put_same isMap_E (isKey_i 3) _) hb4 rfl (World.ownsRow_nil _ _ _ _) (Nat.le_refl _) (by decide) (by decide) (by decide) rfl (by decide) (fun j hj => ?_) (by simp [Value.ownBlock]) (by omega)).mono ?_
    · rw [World.cell?_alloc_mark]
      obtain rfl | rfl : j = 0 ∨ j = 1 := by omega
      · rfl
      · rfl
    · rintro e w' ⟨hv, v', h1, h2, h3, _⟩
      exact ⟨hv, v', h1, h2, h3⟩
  have e10 := hT3.lt
  have HA : Hid (∀ v' w', NdAt w' nb (xb md2 1 v' 1) → w'.ownsRow (w3.alloc (.cells #[.int .u8 120, .int .u8 121] 5 (2, 3))).heap.size 5 1 v' 2 (u8s [120, 121]) → Turn [nb] (w3.alloc (.cells #[.int .u8 120, .int .u8 121] 5 (2, 3))) w' →
      Aw w t rt rm fm na am nb 1 1 (mE.put (sk s_a) (.held (ptr na))) (mE.put (sk s_b) (.held (ptr nb))) md1 md2 1 1 2 v' (w3.alloc (.cells #[.int .u8 120, .int .u8 121] 5 (2, 3))).heap.size m w') := fun v' w' k1 k2 k3 => by
    have c1 := nd_ne_map hb4 hF4
    have c2 := nd_ne_map hb4 hM4
    have c3 := nd_ne_map hb4 hMa4
    have c4 := nd_ne_tr hb4 hT4
    have l1 := hN2.lt
    have l2 := ha2.lt
    have l3 := hM2.lt
    exact { hm := hm, z0 := h0lt, t0 := ht, r0 := hrm, f0 := hfm, a0 := by omega, b0 := by omega, ra := by omega, rb := by omega, ab := by omega, rf := hmf, rmam := by omega, fmam := by omega, nr := by omega, n_a := by omega,
            hT := k3.tr hT4 (by simp; omega), hr := k3.nd hN4 (by simp; omega), hM := k3.map hM4 (by simp; omega), ha := k3.nd ha4 (by simp; omega), hMa := k3.map hMa4 (by simp; omega), hb := k1, hF := k3.map hF4 (by simp; omega), hrow := k2,
            bl := hB4.trans (k3.toBelow hB4.size (by simp; omega)),
            cr := fun s => by
              rw [lookPut isMap_E]
              by_cases hs : s = s_a
              · rw [if_pos hs]; exact .inr (.inl rfl)
              · rw [if_neg hs]; exact .inl (look_empty _),
            ca := fun s => by
              rw [lookPut isMap_E]
              by_cases hs : s = s_b
              · rw [if_pos hs]; exact .inr rfl
              · rw [if_neg hs]; exact .inl (look_empty _) }
  have HW := Lib.hid hw5
  clear hw5 hb4 hT4 hF4 hMa4 hN4 hM4 ha4 hB4 hN2 hM2 ha2 hB2 hz2 hz1 hb3 hMa3 hF3 hT3 hU3 HK
  go_wp2_with fail
  refine HW.out.mono ?_
  rintro e w5 ⟨⟨u5, rfl⟩, v', k1, k2, k3⟩
  have k5 := HA.out v' w5 k1 k2 k3
  clear k1 k2 k3 HA HW hcv
  have la1 : look (mE.put (sk s_a) (.held (ptr na))) (sk s_a) = ptr na := look_put_same isMap_E (isKey_s _) _
  have lb2 : look (mE.put (sk s_b) (.held (ptr nb))) (sk s_b) = ptr nb := look_put_same isMap_E (isKey_s _) _
  have lc1 : look (mE.put (sk s_a) (.held (ptr na))) (sk s_c) = .pointer none := by rw [lookPut isMap_E, if_neg ca_ne]; exact look_empty _
  have im1 : IsMap (mE.put (sk s_a) (.held (ptr na))) := k5.hM.isMap
  have la3 : look ((mE.put (sk s_a) (.held (ptr na))).put (sk s_c) (.held (ptr nb))) (sk s_a) = ptr na := by rw [lookPut im1, if_neg ac_ne]; exact la1
  have lc3 : look ((mE.put (sk s_a) (.held (ptr na))).put (sk s_c) (.held (ptr nb))) (sk s_c) = ptr nb := look_put_same im1 (isKey_s _) _
  have ld4 : look ((mE.put (sk s_b) (.held (ptr nb))).del (sk s_b)) (sk s_d) = .pointer none := by rw [lookDel, if_neg db_ne, lookPut isMap_E, if_neg db_ne]; exact look_empty _
  have HL := Lib.hid (And.intro la1 (And.intro lb2 (And.intro lc1 (And.intro la3 (And.intro lc3 ld4)))))
  clear la1 lb2 lc1 im1 la3 lc3 ld4
  go_wp2_with fail
  refine (aw_stat k5 HL.out.1 HL.out.2.1).mono ?_
  rintro e w6 ⟨rfl, k6⟩
  clear k5
  go_wp2_with fail
  obtain ⟨w7, hw7⟩ : ∃ w7, w7 = w6.alloc (.cells #[.int .i64 3, .bool false, .int .i64 md2, .int .i64 1, .int .i64 2, .int .i64 1] 46) := ⟨_, rfl⟩
  have hz6 := (Below.refl w6.heap.size w6).alloc (Nat.le_refl _) (.cells #[.int .i64 3, .bool false, .int .i64 md2, .int .i64 1, .int .i64 2, .int .i64 1] 46)
  have k7 := k6.below hz6
  have hst7 : StAt (w6.alloc (.cells #[.int .i64 3, .bool false, .int .i64 md2, .int .i64 1, .int .i64 2, .int .i64 1] 46)) w6.heap.size (.int .i64 3) (.bool false) (.int .i64 md2) (.int .i64 1) (.int .i64 2) (.int .i64 1) := al_new _ _ rfl
  rw [← hw7] at k7 hst7 ⊢
  clear hw7 hz6 k6
  refine (aw_link k7 HL.out.1 HL.out.2.1 HL.out.2.2.1 (by decide) (by decide) (by decide) (by decide) (by decide)).mono ?_
  rintro e w8 ⟨rfl, k8, s8⟩
  have hst8 := s8 _ _ _ _ _ _ _ hst7
  clear k7 hst7 s8
  go_wp2_with fail
  refine (aw_remove k8 HL.out.2.2.2.1 HL.out.2.1 (by decide) (by decide) (by decide) (by decide)).mono ?_
  rintro e w9 ⟨rfl, k9, s9⟩
  have hst9 := s9 _ _ _ _ _ _ _ hst8
  clear k8 hst8 s9
  go_wp2_with fail
  refine (aw_rename k9 HL.out.2.2.2.1 HL.out.2.2.2.2.2).mono ?_
  rintro e w10 ⟨rfl, k10, s10⟩
  have hst10 := s10 _ _ _ _ _ _ _ hst9
  clear k9 hst9 s10
  go_wp2_with fail
  refine (aw_rmroot k10).mono ?_
  rintro e w11 ⟨rfl, k11, s11⟩
  have hst11 := s11 _ _ _ _ _ _ _ hst10
  clear k10 hst10 s11
  go_wp2_with fail
  refine (aw_find k11 HL.out.2.2.2.2.1).mono ?_
  rintro e w12 ⟨rfl, k12, s12⟩
  have hst12 := s12 _ _ _ _ _ _ _ hst11
  clear k11 hst11 s12
  have q0 : w12.cell? ⟨w6.heap.size, 0, none⟩ = some (.int .i64 3) := by simpa using hst12.c 0
  have q4 : w12.cell? ⟨w6.heap.size, 4, none⟩ = some (.int .i64 2) := by simpa using hst12.c 4
  have q5 : w12.cell? ⟨w6.heap.size, 5, none⟩ = some (.int .i64 1) := by simpa using hst12.c 5
  go_wp2_with (first
    | (go_at_call 26; refine (aw_read k12).mono ?_; rintro e w13 ⟨vy, rfl, k13, hcy, s13⟩; have hfl := aw_files k13)
    | (go_at_call 14; refine hfl.mono ?_; rintro e w14 ⟨rfl, hw14⟩; rw [hw14]))
  go_ret
  exact ⟨rfl, k13.bl⟩
end Go.Proofs.YtcldnodmlmmjbaaGreatDoor
