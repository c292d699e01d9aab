/- KernPipes, walked: where no byte is to be sent. -/
import Derived.Test.YtblaikdpnngkhaaGreatDoorKPre
namespace Go.Proofs.YtblaikdpnngkhaaGreatDoor
open Go.RowKit Go.Shelf Go.Maps

set_option maxRecDepth 100000 in
set_option maxHeartbeats 40000000 in
theorem pipes_nil (hup : AwakeK) (zv fv : Value) (fb : Nat) (ns : List Int) (l : List (Int × Int)) (hn1 : ns.length ≤ 1048576) (hl1 : l.length ≤ 1048576) (m : Int) (w : World) (hm : w.cell? ⟨0, 0, none⟩ = some (.int .i64 m))
    (hzv : Zs w.heap.size w zv ns) (hfv : Fl w fv fb l) (hfb : fb < w.heap.size) :
    Calls Tryz.prog 4 #[.slice none 0 0, zv, fv] w fun e w' => e = .returned (.bool true) ∧ Below w.heap.size w w' := by
  have hup' := hup m w hm
  have HZV := Lib.hid hzv
  have HFV := Lib.hid hfv
  obtain ⟨az, cz, rfl, _⟩ := hzv
  obtain ⟨af, cf, rfl, _⟩ := hfv
  have h00 : 0 < w.heap.size := World.block_lt_of_cell? w _ hm
  clear hm
  go_enter Tryz.func4, Tryz.ntmps4
  go_wp2_with (go_at_call 6; refine hup'.mono ?_; rintro e w1 ⟨rfl, hB1⟩)
  have HB1 := Lib.hid hB1
  have hz1 := hB1.size
  clear hB1 hup'
  go_loopg [8] l.length (fun g i wr => wr = w1 ∧ ∃ n : Nat, n + g = l.length ∧ i = .int .i64 n ∧ Hid (mild l n))
  case atStart => exact ⟨rfl, 0, by omega, rfl, fun j hj => by omega⟩
  case round =>
    obtain ⟨rfl, n, hng, rfl, HM⟩ := hrel
    cases gk with
    | zero =>
      obtain rfl : n = l.length := by omega
      have hfl : ∀ w', Below wr.heap.size wr w' → Fl w' (.slice af l.length cf) fb l := fun w' h => (HFV.out.below HB1.out hfb).below h (by omega)
      have hbe := begun_c fb (.slice af l.length cf) l 0 wr hl1 (by omega) hfl
      clear hfl
      go_wp2_with fail
      refine hbe.mono ?_
      rintro e w2 ⟨pb, rfl, M, t, rt, rm, fm, k, fbn, th, fvn, t0, t1, x1, x2, x3, hbs, hpb, hT0, hT1, hMt0, hMt1, hMpb, htne⟩
      clear hbe
      have hB2 : Below w.heap.size w w2 := HB1.out.trans (hbs.bl.mono hz1)
      by_cases hg : ns.length ≤ 500
      · have g1 : ¬ (500 : Int) < (ns.length : Int) := by omega
        have pc0 := h_cell hpb 0 rfl
        have hpi := pipe_c k th 0 (ptr t) fvn 0 0 0 mE w2 hbs.hK hbs.hM (by decide) (by decide) (by decide)
        have HS2 := Lib.hid (And.intro hbs (And.intro hpb (And.intro hT0 hT1)))
        clear hbs hpb hT0 hT1
        go_wp2_with fail
        refine hpi.mono ?_
        rintro e w3 ⟨p, re, we, rfl, hp0, hr0, hw0, hP3, hR3, hW3, hK3, hM3, hU3⟩
        clear hpi pc0
        have hsx : Sx w w3 k fbn th t0 t1 pb p re we (ptr t) fvn x1 x2 x3 l nils 0 := by
          obtain ⟨hbs, hpb, hT0, hT1⟩ := HS2.out
          have c1 := hbs.k1
          have c2 := hbs.th1
          have c3 := hbs.fb1
          have c4 := hbs.k0
          have c5 := hbs.th0
          have c6 := hbs.m0
          have c7 := h_lt hT0
          have c8 := h_lt hT1
          have c9 := h_lt hpb
          have d1 := hB2.size
          have hN0 : ∀ x, M ≤ x → x ∉ [k, th] := fun x hx => by simp; omega
          have hF3 : Fl w3 fvn fbn l := hbs.hF.turn hU3 (by have := hbs.fk; have := hbs.ft; simp; omega)
          exact { hK := by simpa using hK3, hM := by simpa using hM3, hF := hF3, hP := hP3, hR := hR3, hW := hW3, T0 := hU3.ob hT0 (hN0 _ hMt0), T1 := hU3.ob hT1 (hN0 _ hMt1), hp := hU3.ob hpb (hN0 _ hMpb), ne := htne, fl := by have := hU3.size; omega, fk := hbs.fk, fp := by omega, fr := by omega, fw := by omega, f0 := by omega, f1 := by omega, k0 := by omega, p0 := by omega, r0 := by omega, w0' := by omega, t00 := by omega, t10 := by omega, bl := hB2.trans ⟨hU3.os, hU3.tape, hU3.output, hU3.size, fun x hx => hU3.block x (by omega) (by simp; omega)⟩ }
        clear HS2 hP3 hR3 hW3 hK3 hM3 hU3 hp0 hr0 hw0
        have pc2 := h_cell hsx.hp 2 rfl
        have hput := sx_put0 hsx
        clear hsx
        go_wp2_with fail
        refine hput.mono ?_
        rintro e w4 ⟨rfl, hsx⟩
        clear hput pc2
        have pc3 := h_cell hsx.hp 3 rfl
        have hput := sx_put1 hsx [] HM.out
        clear hsx
        go_wp2_with fail
        refine hput.mono ?_
        rintro e w5 ⟨rfl, hrs⟩
        clear hput pc3
        obtain ⟨F, hFl, HRS⟩ : ∃ F : PF, F.l = l ∧ Hid (Rs w [] F t0 t1 pb x1 x2 x3 w5 0 0 0 0 (.slice none 0 0) (.slice none 0 0)) := ⟨_, rfl, hrs⟩
        obtain ⟨T, HT⟩ : ∃ T, Hid (T = ns.length + 2 * l.length + 4) := ⟨_, rfl⟩
        clear hrs hMt0 hMt1 hMpb htne HM hB2
        go_wp2_with fail
        go_loopg [14, 15, 16] T (fun g v14 v15 v16 wx => ∃ (j u : Nat) (ga : Option Addr) (gc : Nat), j + g = T ∧ v16 = .int .i64 j ∧ v15 = .int .i64 0 ∧ v14 = .slice ga 0 gc ∧ Hid (∃ pv, Rs w [] F t0 t1 pb x1 x2 x3 wx 0 0 0 u (.slice ga 0 gc) pv))
        case atStart => exact ⟨0, 0, none, 0, by omega, rfl, rfl, rfl, _, HRS.out⟩
        case round =>
          clear HRS
          obtain ⟨j, u, ga, gc, hjg, rfl, rfl, rfl, HI⟩ := hrel
          obtain ⟨pv, hrs⟩ := HI.out
          cases gk with
          | zero =>
            as_aux_lemma =>
            have hlt : ¬ (j : Int) < (ns.length : Int) + 2 * (l.length : Int) + 4 := by have := HT.out; omega
            have pc3 : wr.cell? ⟨pb, 3, none⟩ = some (ptr t1) := h_cell hrs.lp.hp 3 rfl
            have hcl := rs_close (bs := []) hrs
            clear HI hrs HT hjg
            go_wp2_with fail
            refine hcl.mono ?_
            rintro e w6 ⟨rfl, hes⟩
            have HES := Lib.hid hes
            clear hcl pc3 hes hlt
            go_wp2_with fail
            go_loopg [24, 25] (l.length + 1) (fun g v24 v25 wx => ∃ i u : Nat, i + g = l.length + 1 ∧ v25 = .int .i64 i ∧ ((v24 = .int .i64 9 ∧ i ≤ u) ∨ v24 = .int .i64 0) ∧ Hid (∃ pv, Es w [] F t0 t1 pb x1 x2 x3 wx u (.slice ga 0 gc) pv))
            case atStart => exact ⟨0, u, by omega, rfl, .inl ⟨rfl, Nat.zero_le _⟩, pv, HES.out⟩
            case round =>
              clear HES
              obtain ⟨i, u3, hig, rfl, hor, HE⟩ := hrel
              obtain ⟨pv3, hes⟩ := HE.out
              have hu3 := hes.ps.hu
              rw [hFl] at hu3
              have cvg : (convert 33 9 (.slice ga 0 gc)).run Tryz.prog wr = .ok (.string ⟨([] : List UInt8).toArray⟩) wr := conv_b hes.go rfl
              have cvb := conv_n wr
              cases gk with
              | zero =>
                obtain rfl : i = l.length + 1 := by omega
                obtain rfl := hor.resolve_left (fun h => by omega)
                have hc : ¬ ((l.length : Int) + 1) ≤ (l.length : Int) := by omega
                have hbl := hes.bl
                clear HE hes
                go_wp2_with fail
                go_ret
                exact ⟨rfl, hbl⟩
              | succ g =>
                have hc : (i : Int) ≤ (l.length : Int) := by omega
                rcases hor with ⟨rfl, hiu⟩ | rfl
                · have pc2 : wr.cell? ⟨pb, 2, none⟩ = some (ptr t0) := h_cell hes.hp 2 rfl
                  have hrd := es_read hes
                  clear HE hes cvg cvb
                  go_wp2_with fail
                  refine hrd.mono ?_
                  rintro e w7 ⟨u4, hh, a7, c7, pv4, rfl, hed⟩
                  have hhh := hed.hh
                  have HED := Lib.hid hed.st
                  clear hed hrd pc2
                  go_wp2_with fail
                  go_roundg g
                  case measure => omega
                  case rel =>
                    refine ⟨i + 1, u4, by omega, by go_num, ?_, pv4, HED.out⟩
                    rcases hhh with rfl | ⟨rfl, h2⟩
                    · exact .inr rfl
                    · exact .inl ⟨rfl, by omega⟩
                · have hbl := hes.bl
                  clear HE hes
                  go_wp2_with fail
                  go_ret
                  exact ⟨rfl, hbl⟩
          | succ g =>
            as_aux_lemma =>
            have hlt : (j : Int) < (ns.length : Int) + 2 * (l.length : Int) + 4 := by have := HT.out; omega
            have hjb : (j : Int) ≤ 6000000 := by omega
            have HR := Lib.hid hrs
            clear HI hrs
            go_upto_if 112 with fail
            go_cut [17] (fun s17 wx => wr = wx ∧ ∃ n : Nat, s17 = .int .i64 n ∧ 1 ≤ n ∧ n ≤ 5001)
            case first =>
              as_aux_lemma =>
              by_cases hj : j < ns.length
              · have hj1 : (j : Int) < (ns.length : Int) := by omega
                have hj2 : 0 ≤ (j : Int) ∧ (j : Int) < (ns.length : Int) := by omega
                obtain ⟨bz, oz, rfl, hcz⟩ : ∃ bz oz, az = some ⟨bz, oz, none⟩ ∧ wr.cell? ⟨bz, oz + j, none⟩ = some (.int .i64 (ns[j]?.getD 0)) := by
                  obtain ⟨a, cap, e, h0 | ⟨b, o, rfl, hb, hc⟩⟩ := HZV.out.below HR.out.lp.bl
                  · omega
                  · injection e with e1; exact ⟨b, o, e1, hc j hj⟩
                obtain ⟨s1, s2, s3, s4⟩ := sz_n (ns[j]?.getD 0)
                generalize ns[j]?.getD 0 = x at hcz s1 s2 s3 s4
                generalize hy : x.tmod 70 = y at s1 s2 s3 s4
                generalize hz : (y + 70).tmod 70 = z at s1 s2
                go_wp2_with fail
                go_meet
                case rel => exact ⟨rfl, (z + 1).toNat, by first | go_num | (simp; omega), by omega, by omega⟩
              · have hj1 : ¬ (j : Int) < (ns.length : Int) := by omega
                go_wp2_with fail
                go_meet
                case rel => exact ⟨rfl, 1, by first | rfl | go_num, by omega, by omega⟩
            case rest =>
              obtain ⟨rfl, n, rfl, hn1, hn2⟩ := hcut
              clear hlt
              have ht1 : (0 : Int) < (n : Int) := by omega
              go_upto_region 24 with fail
              go_cut [19, 20] (fun s19 s20 wx => ∃ (u1 : Nat) (ge : Int), s19 = .int .i64 0 ∧ s20 = .int .i64 ge ∧ Hid (∃ pv', WrS w [] F t0 t1 pb x1 x2 x3 0 0 0 u 0 0 u1 ge (.slice ga 0 gc) pv' wx))
              case first =>
                as_aux_lemma =>
                have hrsd := HR.out.quiet (w' := wr.drew) (Turn.refl [] wr).drew
                have pc3 : wr.cell? ⟨pb, 3, none⟩ = some (ptr t1) := h_cell HR.out.lp.hp 3 rfl
                have hwr := rs_write hrsd 0 (Nat.le_refl _) (Nat.le_refl _) (by decide) (.slice none 0 0) ⟨none, 0, rfl, Nat.le_refl _, .inl rfl⟩
                clear hrsd
                go_region_held3 (fun w' => w'.cell? ⟨pb, 3, none⟩ = some (ptr t1)) (first | go_keep | exact h_cell hws.st.lp.hp 3 rfl) (first | (go_at_call 13; refine hwr.mono ?_; rintro e w' ⟨mm, u1, ge, pv', rfl, hws⟩; obtain rfl : mm = 0 := (by have := hws.ml; omega)))
                all_goals
                  go_wp2_with fail
                  go_meet
                all_goals exact ⟨u1, ge, rfl, rfl, pv', hws⟩
              case rest =>
              obtain ⟨u1, ge, rfl, rfl, HWS⟩ := hcut
              clear HR
              go_upto_region 25 with fail
              go_cut [163] (fun s163 wx => s163 = .bool false ∧ wc = wx)
              case first =>
                as_aux_lemma =>
                have hge : ge = 0 ∨ ge = 9 ∨ ge = 10 := by obtain ⟨_, h⟩ := HWS.out; exact h.gg
                clear HWS
                rcases hge with rfl | rfl | rfl
                all_goals
                  go_wp2_with fail
                  go_meet
                all_goals exact ⟨rfl, rfl⟩
              case rest =>
              obtain ⟨rfl, rfl⟩ := hcut
              go_upto_region 28 with fail
              go_cut [175] (fun s175 wx => (∃ bq : Bool, s175 = .bool bq) ∧ wc = wx)
              case first =>
                as_aux_lemma =>
                have hm3 : (j : Int).tmod 3 = (j : Int) % 3 := Int.tmod_eq_emod_of_nonneg (by omega)
                by_cases h3 : (j : Int) % 3 = 1
                · have h3a : ((j : Int).tmod 3 == 1) = true := by rw [hm3, h3]; rfl
                  have h3b : ((j : Int) % 3 == 1) = true := by rw [h3]; rfl
                  clear hm3
                  go_wp2_with fail
                  go_meet
                  case rel => exact ⟨⟨true, rfl⟩, rfl⟩
                · have h3b : ((j : Int) % 3 == 1) = false := by simpa using h3
                  have h3a : ((j : Int).tmod 3 == 1) = false := by rw [hm3]; exact h3b
                  clear hm3
                  by_cases hj : ns.length ≤ j
                  · have hj1 : (ns.length : Int) ≤ (j : Int) := by omega
                    go_wp2_with fail
                    go_meet
                    case rel => exact ⟨⟨true, rfl⟩, rfl⟩
                  · have hj1 : ¬ (ns.length : Int) ≤ (j : Int) := by omega
                    go_wp2_with fail
                    go_meet
                    case rel => exact ⟨⟨false, rfl⟩, rfl⟩
              case rest =>
              obtain ⟨⟨bq, rfl⟩, rfl⟩ := hcut
              go_upto_if 175 with fail
              go_cut [14] (fun s14 wx => ∃ (u2 : Nat) (ga' : Option Addr) (gc' : Nat), s14 = .slice ga' 0 gc' ∧ Hid (∃ pv', Rs w [] F t0 t1 pb x1 x2 x3 wx 0 0 0 u2 (.slice ga' 0 gc') pv'))
              case first =>
                as_aux_lemma =>
                obtain ⟨pv1, hws⟩ := HWS.out
                cases bq with
                | false =>
                  have HST := Lib.hid hws.st
                  clear hws HWS
                  go_wp2_with fail
                  go_meet
                  case rel => exact ⟨u1, ga, gc, rfl, pv1, HST.out⟩
                | true =>
                  have pc2 : wc.cell? ⟨pb, 2, none⟩ = some (ptr t0) := h_cell hws.st.lp.hp 2 rfl
                  have hrd := rs_read hws.st n hn1 (by omega)
                  clear hws HWS
                  go_wp2_with fail
                  refine hrd.mono ?_
                  rintro e w' ⟨n1, u2, hh, v1, pv2, rfl, hrd2⟩
                  clear hrd pc2
                  obtain rfl : n1 = 0 := by have := hrd2.st.rs; omega
                  obtain ⟨i5, hi5, hz0, hz1, hz2⟩ := info_parts info5
                  have hee := hrd2.ee
                  have hnl : ¬ (n : Int) < 0 := by omega
                  have hgo : w'.ownsRow F.B 5 1 (.slice ga 0 gc) 0 (u8s (([] : List UInt8).take 0)) := hrd2.st.go
                  have hbase : F.B ≤ w'.heap.size := hrd2.st.ps.hB
                  have HRD := Lib.hid hrd2
                  rcases (row_split hrd2.out).2 with ⟨rfl, h0⟩ | ⟨g1, cap1, rfl, hb, hg, hn, hcm, hcell⟩
                  · clear hrd2
                    rcases hee with rfl | rfl | rfl
                    all_goals
                      go_wp2_with (at_builtin; refine wpList_append_own_none rfl (.tmp 202) (.tmp 203) 33 rfl F.B 5 i5 1 Tryz.underlying33 hi5 _ _ _ rfl hgo rfl ?_)
                      go_meet
                    all_goals exact ⟨u2, ga, gc, rfl, pv2, HRD.out.st⟩
                  · clear hrd2 hcell
                    rcases hee with rfl | rfl | rfl
                    all_goals
                      go_wp2_with (at_builtin; refine wpList_append_own_at _ rfl (.tmp 202) (.tmp 203) 33 rfl F.B 5 i5 (.int .u8 0) 1 1 Tryz.underlying33 hi5 hz0 hz1 hz2 rfl (by decide) (.slice ga 0 gc) 0 _ rfl hgo ⟨g1, 0, none⟩ 0 cap1 [] rfl rfl (by simp) (by simp) (by decide) (by decide) hbase ?_; intro v2 w2 hown hgrow _ hat; obtain ⟨a2, c2, rfl⟩ := own_slice2 hown)
                      go_meet
                    all_goals exact ⟨u2, a2, c2, rfl, pv2, HRD.out.st.app (by simpa [u8s] using hown) hgrow hat⟩
              case rest =>
              obtain ⟨u2, ga', gc', rfl, HF2⟩ := hcut
              clear HWS
              go_upto_region 33 with fail
              go_cut [218] (fun s218 wx => s218 = .bool false ∧ Turn [] wc wx)
              case first =>
                as_aux_lemma =>
                obtain ⟨pv2, hrs2⟩ := HF2.out
                have cv1 : ∀ k, (convert 33 9 (.slice ga' 0 gc')).run Tryz.prog (wc.drewN k) = .ok (.string ⟨([] : List UInt8).toArray⟩) (wc.drewN k) := fun k => conv_b (l := []) (hrs2.quiet (w' := wc.drewN k) ((Turn.refl [] wc).drewN k)).go rfl
                have cv2 : ∀ k, (convert 33 9 (.slice none 0 0)).run Tryz.prog (wc.drewN k) = .ok (.string ⟨([] : List UInt8).toArray⟩) (wc.drewN k) := fun k => conv_n _
                have cv3 := cv1 1
                have cv4 := cv2 1
                clear hrs2
                go_quiet (fail)
                go_wp2_with fail
                go_meet
                case rel => exact ⟨rfl, (Turn.refl [] wc).drewN _⟩
              case rest =>
              obtain ⟨rfl, hUq⟩ := hcut
              go_wp2_with fail
              go_roundg g
              case measure => omega
              case rel =>
                obtain ⟨pv2, hrs2⟩ := HF2.out
                exact ⟨j + 1, u2, ga', gc', by omega, by go_num, by first | rfl | go_num, rfl, pv2, hrs2.quiet hUq⟩
      · have g1 : (500 : Int) < (ns.length : Int) := by omega
        go_wp2_with fail
        go_ret
        exact ⟨rfl, hB2⟩
    | succ g =>
      have hlt : n < l.length := by omega
      obtain ⟨o, rfl, hcell⟩ : ∃ o, af = some ⟨fb, o, none⟩ ∧ ∀ j, j < l.length → wr.cell? ⟨fb, o + j * 2, none⟩ = some (.int .i64 (l[j]?.getD (0, 0)).1) := by
        obtain ⟨a, cap, e, _, _, ⟨h0, _⟩ | ⟨o, rfl, hc⟩⟩ := HFV.out.below HB1.out hfb
        · omega
        · injection e with e1; exact ⟨o, e1, fun j hj => (hc j hj).1⟩
      have q1 := hcell n hlt
      have hnb : 0 ≤ (n : Int) ∧ (n : Int) < (l.length : Int) := by omega
      clear hcell
      by_cases hk1 : (l[n]?.getD (0, 0)).1 = 1
      · rw [hk1] at q1
        go_wp2_with fail
        go_roundg g
        case measure => omega
        case rel => exact ⟨rfl, n + 1, by omega, by go_num, fun j hj => by
          by_cases hjn : j = n
          · rw [hjn]; exact .inl hk1
          · exact HM.out j (by omega)⟩
      · by_cases hk2 : (l[n]?.getD (0, 0)).1 = 2
        · rw [hk2] at q1
          go_wp2_with fail
          go_roundg g
          case measure => omega
          case rel => exact ⟨rfl, n + 1, by omega, by go_num, fun j hj => by
            by_cases hjn : j = n
            · rw [hjn]; exact .inr hk2
            · exact HM.out j (by omega)⟩
        · have k1 : ((l[n]?.getD (0, 0)).1 != 1) = true := by simpa using hk1
          have k2 : ((l[n]?.getD (0, 0)).1 != 2) = true := by simpa using hk2
          generalize (l[n]?.getD (0, 0)).1 = x at q1 k1 k2
          clear hk1 hk2
          go_wp2_with fail
          go_ret
          exact ⟨rfl, HB1.out⟩
end Go.Proofs.YtblaikdpnngkhaaGreatDoor
