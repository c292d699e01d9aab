/- KernFiles, walked. -/
import Derived.Test.YtbbmihlabllliaaGreatDoorKFiles
namespace Go.Proofs.YtbbmihlabllliaaGreatDoor
open Go.RowKit Go.Shelf Go.Maps

theorem Ps.at {B n cp i : Nat} {w : World} {ap : Option Addr} {ps : List (List UInt8)} (h : Ps B w (.slice ap n cp) ps) (hi : i < ps.length) :
    ∃ bp op A c, ap = some ⟨bp, op, none⟩ ∧ bp < B ∧ w.cell? ⟨bp, op + i, none⟩ = some (.slice A (ps[i]?.getD []).length c) ∧ Pv B w (.slice A (ps[i]?.getD []).length c) (ps[i]?.getD []) := by
  obtain ⟨a, cap, e, h0 | ⟨b, o, rfl, hB, hc⟩⟩ := h
  · omega
  · injection e with e1
    obtain ⟨v1, h1, h2⟩ := hc i hi
    obtain ⟨A, c, hv⟩ : ∃ A c, v1 = .slice A (ps[i]?.getD []).length c := by
      rcases h2 with ⟨rfl, h3⟩ | ⟨a, c, rfl, _⟩
      · exact ⟨none, 0, by rw [h3]; rfl⟩
      · exact ⟨_, _, rfl⟩
    subst hv
    exact ⟨b, o, A, c, e1, hB, h1, h2⟩
theorem Lst.bl {w0 : World} {t0 pb : Nat} {l : List (Int × Int)} {w : World} {i : Nat} {wv : Value} {bs : List UInt8} (h : Lst w0 t0 pb l w i wv bs) : Below w0.heap.size w0 w := by
  rcases h with ⟨_, ⟨M, t, rt, rm, fm, k, fb, th, fv, x1, x2, x3, x4, hb, _⟩, _⟩ | ⟨_, F, u, N, last, D, dv, _, _, _, hS, _⟩
  · exact hb.bl
  · exact hS.bl

set_option maxRecDepth 100000 in
set_option maxHeartbeats 40000000 in
theorem files_walk (hup : AwakeK) (pv zv fv : Value) (fb : Nat) (ps : List (List UInt8)) (ns : List Int) (l : List (Int × Int)) (most : Int) (hp1 : ps.length ≤ 1048576) (hp2 : ∀ j : Nat, (ps[j]?.getD []).length ≤ 1048576) (_hn1 : ns.length ≤ 1048576) (hl1 : l.length ≤ 1048576) (m : Int) (w : World) (hm : w.cell? ⟨0, 0, none⟩ = some (.int .i64 m))
    (hpv : Ps w.heap.size w pv ps) (hzv : Zs w.heap.size w zv ns) (hfv : Fl w fv fb l) (hfb : fb < w.heap.size) :
    Calls Tryz.prog 5 #[pv, zv, fv, .int .i64 most] w fun e w' => e = .returned (.bool true) ∧ Below w.heap.size w w' := by
  have hup' := hup m w hm
  have HPV := Lib.hid hpv
  have HZV := Lib.hid hzv
  have HFV := Lib.hid hfv
  have HM0 := Lib.hid hm
  have HP2 := Lib.hid hp2
  obtain ⟨ap, cp, rfl, _⟩ := hpv
  obtain ⟨az, cz, rfl, _⟩ := hzv
  obtain ⟨af, cf, rfl, _⟩ := hfv
  have h00 : 0 < w.heap.size := World.block_lt_of_cell? w _ hm
  clear hm hp2
  go_enter Tryz.func5, Tryz.ntmps5
  go_wp2_with (go_at_call 6; refine hup'.mono ?_; rintro e w1 ⟨rfl, hB1⟩)
  have HB1 := Lib.hid hB1
  have hz1 := hB1.size
  clear hB1 hup'
  go_loopg [10] l.length (fun g i wr => wr = w1 ∧ ∃ n : Nat, n + g = l.length ∧ i = .int .i64 n ∧ Hid (mild l n))
  case atStart => exact ⟨rfl, 0, by omega, rfl, fun j hj => by omega⟩
  case round =>
    obtain ⟨rfl, n, hng, rfl, HM⟩ := hrel
    cases gk with
    | zero =>
      obtain rfl : n = l.length := by omega
      have hfl : ∀ w', Below wr.heap.size wr w' → Fl w' (.slice af l.length cf) fb l := fun w' h => (HFV.out.below HB1.out hfb).below h (by omega)
      have hbe := begun_c2 fb (.slice af l.length cf) l 3 wr hl1 (by omega) hfl
      clear hfl
      go_wp2_with fail
      refine hbe.mono ?_
      rintro e w2 ⟨pb, rfl, M, t, rt, rm, fm, k, fbn, th, fvn, t0, t1, x1, x2, x3, hbs, hpb, hT0, hT1, hMt0, hMt1, hMpb, htne⟩
      clear hbe hT1 hMt1 htne
      have hB2 : Below w.heap.size w w2 := HB1.out.trans (hbs.bl.mono hz1)
      have HBG : Hid (Lst w t0 pb l w2 0 (.slice none 0 0) []) := .inl ⟨rfl, ⟨M, t, rt, rm, fm, k, fbn, th, fvn, x1, _, _, _, hbs.base HB1.out, hpb, hT0, hMt0, hMpb⟩, rfl, rfl⟩
      have pc2 := h_cell hpb 2 rfl
      have HB2 := Lib.hid hB2
      clear hbs hpb hT0 hMt0 hMpb hB2
      by_cases hg0 : ps.length ≤ 200
      · have g1 : ¬ (200 : Int) < (ps.length : Int) := by omega
        by_cases hg1 : 1 ≤ most
        · have g2 : ¬ most < 1 := by omega
          go_wp2_with fail
          go_loopg [14, 15] ps.length (fun g v14 v15 wx => wx = w2 ∧ ∃ i : Nat, i + g = ps.length ∧ v15 = .int .i64 i ∧ v14 = .int .i64 (upTo ps i : Nat))
          case atStart => exact ⟨rfl, 0, by omega, rfl, rfl⟩
          case round =>
            obtain ⟨rfl, i, hig, rfl, rfl⟩ := hrel
            cases gk with
            | succ g =>
              obtain ⟨bp, op, A, c, rfl, hBp, hc1, _⟩ := (HPV.out.below HB2.out).at (i := i) (by omega)
              have hj2 : 0 ≤ (i : Int) ∧ (i : Int) < (ps.length : Int) := by omega
              have hu1 : upTo ps i ≤ i * 1048576 := upTo_le ps 1048576 HP2.out i
              have hu2 := HP2.out i
              have hu3 : ((upTo ps i : Nat) : Int) ≤ 209715200 := by omega
              have hu4 : (((ps[i]?.getD []).length : Nat) : Int) ≤ 1048576 := by omega
              clear hu1 hu2
              have HU : Hid (upTo ps (i + 1) = upTo ps i + (ps[i]?.getD []).length) := rfl
              go_wp2_with fail
              go_roundg g
              case measure => omega
              case rel => exact ⟨rfl, i + 1, by omega, by go_num, by rw [HU.out]; go_num⟩
            | zero =>
              obtain rfl : i = ps.length := by omega
              by_cases hs8 : upTo ps ps.length ≤ 8192
              · have g3 : ¬ (8192 : Int) < ((upTo ps ps.length : Nat) : Int) := by omega
                go_wp2_with fail
                clear pc2
                go_loopg [13, 16] ps.length (fun g v13 v16 wx => ∃ (i : Nat) (wa : Option Addr) (wc : Nat) (bs : List UInt8), i + g = ps.length ∧ v16 = .int .i64 i ∧ v13 = .slice wa bs.length wc ∧ Hid (Lst w t0 pb l wx i (.slice wa bs.length wc) bs ∧ bs.length ≤ upTo ps i))
                case atStart => exact ⟨0, none, 0, [], by omega, rfl, rfl, HBG.out, Nat.zero_le _⟩
                case round =>
                  clear HBG HB2
                  obtain ⟨i, wa, wc0, bs, hig, rfl, rfl, HI⟩ := hrel
                  cases gk with
                  | zero =>
                    as_aux_lemma =>
                    obtain rfl : i = ps.length := by omega
                    have hi1 : ¬ (ps.length : Int) < (ps.length : Int) := by omega
                    by_cases hp0 : ps.length = 0
                    · have hp0' : ((ps.length : Int) == 0) = true := beq_iff_eq.2 (by omega)
                      have hbl := HI.out.1.bl
                      clear HI
                      go_wp2_with fail
                      go_ret
                      exact ⟨rfl, hbl⟩
                    · have hp0' : ((ps.length : Int) == 0) = false := beq_eq_false_iff_ne.2 (by omega)
                      have hbs8 : bs.length ≤ 8192 := Nat.le_trans HI.out.2 hs8
                      have hopn := run_open (HI.out.1.resolve_left (fun h => hp0 h.1)).2 (by omega) m HM0.out s_f (.inr rfl) 1 (.inl rfl)
                      clear HI hs8 g3
                      go_wp2_with fail
                      refine hopn.mono ?_
                      rintro r w3 ⟨rfl, F, u, N, last, D, dv, e, rfl, rfl, rfl, hop, ho, hdj, hN, rfl⟩
                      have HRL : Hid (Rl w F N ((ps.length : Int) + 1) D e bs (.slice wa bs.length wc0) (.slice none 0 0) w3 0 0 u) := ⟨⟨dv, hop, hdj, by simp [Value.ownBlock]⟩, ho, by simpa [u8s] using World.ownsRow_nil _ _ _ _, by simp [Value.ownBlock], Nat.zero_le _, by omega⟩
                      clear hopn hop ho hdj hp0 hp0' hi1
                      go_wp2_with fail
                      go_loopg [27, 28] (bs.length + F.l.length + 2) (fun g v27 v28 wx => ∃ (n p u : Nat) (ga : Option Addr) (gc : Nat), n + g = bs.length + F.l.length + 2 ∧ v28 = .int .i64 n ∧ v27 = .slice ga p gc ∧ Hid (Rl w F N ((ps.length : Int) + 1) D e bs (.slice wa bs.length wc0) (.slice ga p gc) wx n p u))
                      case atStart => exact ⟨0, 0, u, none, 0, by omega, rfl, rfl, HRL.out⟩
                      case round =>
                        clear HRL
                        obtain ⟨n, p, u2, ga, gc, hng2, rfl, rfl, HL⟩ := hrel
                        cases gk with
                        | zero =>
                          as_aux_lemma =>
                          have hrl := HL.out
                          obtain rfl : p = bs.length := by have := hrl.ms; have := hrl.pl; omega
                          have hnc : ¬ (n : Int) ≤ (bs.length : Int) + (F.l.length : Int) + 1 := by omega
                          obtain ⟨dv2, hop2, _, _⟩ := hrl.op
                          have pc0 : wr.cell? ⟨F.pb, 0, none⟩ = some (ptr F.k) := h_cell hop2.st.hp 0 rfl
                          have kc0 : wr.cell? ⟨F.k, 0, none⟩ = some (ptr F.t) := h_cell hop2.st.hK 0 rfl
                          have hst := st_stat hop2.st m HM0.out p_f (.inl rfl)
                          have hgo := hrl.go
                          rw [List.take_length] at hgo
                          have hwo := hrl.wo
                          have hbl := hop2.st.bl
                          have HX := Lib.hid (And.intro hgo (And.intro hwo hbl))
                          clear hrl hop2 hgo hwo hbl HL
                          go_wp2_with (first
                            | (go_at_call 17; go_in)
                            | (go_at_call 18; refine hst.mono ?_; rintro r w5 ⟨rfl, hB5⟩; have hwB := hB5.size; have cvg : ∀ o, (convert 33 9 (.slice ga bs.length gc)).run Tryz.prog (w5.alloc o) = .ok (.string ⟨bs.toArray⟩) (w5.alloc o) := (fun o => conv_b (own_turn HX.out.1 ((Turn.below hB5).trans (Turn.alloc (S := []) w5 o)) (by simp)) rfl); have cvw : ∀ o, (convert 33 9 (.slice wa bs.length wc0)).run Tryz.prog (w5.alloc o) = .ok (.string ⟨bs.toArray⟩) (w5.alloc o) := (fun o => conv_b (own_turn HX.out.2.1 ((Turn.below hB5).trans (Turn.alloc (S := []) w5 o)) (by simp)) rfl)))
                          go_ret
                          obtain ⟨_, _, hbl⟩ := HX.out
                          exact ⟨rfl, (hbl.trans (hB5.mono hbl.size)).alloc (Nat.le_trans hbl.size hB5.size) _⟩
                        | succ g2 =>
                          as_aux_lemma =>
                          have hnc : (n : Int) ≤ (bs.length : Int) + (F.l.length : Int) + 1 := by omega
                          have hll : F.l.length ≤ 1048576 := hl1
                          have hrd := rl_read HL.out most hg1 hbs8
                          clear HL
                          go_wp2_with fail
                          refine hrd.mono ?_
                          rintro r w5 ⟨mm, u3, hh, v1, rfl, hhh, hml, hrm⟩
                          clear hrd
                          obtain ⟨i5, hi5, hz0, hz1', hz2⟩ := info_parts info5
                          have hnl : ¬ most < (mm : Int) := by omega
                          have hpm : p + mm ≤ bs.length := hrm.pl
                          have hgo := hrm.go
                          have hbase : F.B ≤ w5.heap.size := by obtain ⟨_, h, _⟩ := hrm.op; exact h.st.hB
                          have HRM := Lib.hid hrm
                          rcases (row_split hrm.out).2 with ⟨rfl, h0⟩ | ⟨g1', cap1, rfl, hb, hg, hn, hcm, hcell⟩
                          · obtain rfl : mm = 0 := h0
                            clear hrm
                            rcases hhh with rfl | rfl
                            all_goals
                              go_wp2_with (at_builtin; refine wpList_append_own_none rfl (.tmp 226) (.tmp 227) 33 rfl F.B 5 i5 1 Tryz.underlying33 hi5 _ _ _ rfl hgo rfl ?_)
                              go_roundg g2
                              case measure => omega
                              case rel => exact ⟨n + 1, p, u3, ga, gc, by omega, by go_num, rfl, HRM.out.none⟩
                          · have hnews : ∀ i u, (u8s ((bs.drop p).take mm))[i]? = some u → w5.cell? ((⟨g1', 0, none⟩ : Addr).add i) = some u := fun i u hu => by
                              have hl3 : ((bs.drop p).take mm).length = mm := (row_split hrm.out).1
                              have hi : i < mm := by have := (List.getElem?_eq_some_iff.1 hu).1; rw [u8s_length] at this; omega
                              rw [Addr.add_lit, Nat.zero_add, hcell i hi, ← hu]
                              simp only [u8s, List.getElem?_map]
                              rw [List.getElem?_eq_getElem (by omega)]
                              rfl
                            have hnl2 : (u8s ((bs.drop p).take mm)).length = mm * 1 := by rw [u8s_length, (row_split hrm.out).1]; omega
                            have HN := Lib.hid hnews
                            have HL2 := Lib.hid hnl2
                            clear hrm hnews hcell hnl2
                            rcases hhh with rfl | rfl
                            all_goals
                              go_wp2_with (at_builtin; refine wpList_append_own_at _ rfl (.tmp 226) (.tmp 227) 33 rfl F.B 5 i5 (.int .u8 0) 1 1 Tryz.underlying33 hi5 hz0 hz1' hz2 rfl (by decide) (.slice ga p gc) p (u8s (bs.take p)) rfl hgo ⟨g1', 0, none⟩ mm cap1 (u8s ((bs.drop p).take mm)) rfl HL2.out HN.out (u8s_one _) (by unfold maxLen; omega) (by omega) hbase ?_; intro v2 w6 hown hgrow _ hat; obtain ⟨a2, c2, rfl⟩ := own_slice2 hown)
                              go_roundg g2
                              case measure => omega
                              case rel =>
                                have hown2 : w6.ownsRow F.B 5 1 (.slice a2 (p + mm) c2) (p + mm) (u8s (bs.take (p + mm))) := by
                                  rw [List.take_add, show u8s (bs.take p ++ (bs.drop p).take mm) = u8s (bs.take p) ++ u8s ((bs.drop p).take mm) by simp [u8s]]
                                  exact hown
                                exact ⟨n + 1, p + mm, u3, a2, c2, by omega, by go_num, rfl, HRM.out.app hown2 hgrow hat⟩
                  | succ g =>
                    as_aux_lemma =>
                    have hi1 : (i : Int) < (ps.length : Int) := by omega
                    have hj2 : 0 ≤ (i : Int) ∧ (i : Int) < (ps.length : Int) := by omega
                    obtain ⟨bp, op, A, c, rfl, hBp, hc0, hPv0⟩ := HPV.out.at (i := i) (by omega)
                    obtain ⟨cs, hcs⟩ : ∃ cs, ps[i]?.getD [] = cs := ⟨_, rfl⟩
                    rw [hcs] at hc0 hPv0
                    have hbig : upTo ps i + cs.length ≤ 8192 := by
                      have h1 : upTo ps (i + 1) = upTo ps i + (ps[i]?.getD []).length := rfl
                      have h2 := upTo_mono ps (a := i + 1) (b := ps.length) (by omega)
                      rw [hcs] at h1
                      omega
                    have HUP : Hid (upTo ps (i + 1) = upTo ps i + cs.length) := by
                      have h1 : upTo ps (i + 1) = upTo ps i + (ps[i]?.getD []).length := rfl
                      rw [hcs] at h1
                      exact h1
                    have HPV0 := Lib.hid hPv0
                    have HC0 := Lib.hid hc0
                    clear hs8 g3 hc0 hPv0 hcs
                    go_upto_region 23 with fail
                    go_cut [113] (fun s113 wx => ∃ bq : Bool, s113 = .bool bq ∧ (bq = false → i ≠ 0) ∧ wr = wx)
                    case first =>
                      by_cases hj : i < ns.length
                      · have hj1 : (i : Int) < (ns.length : Int) := by omega
                        have hj3 : 0 ≤ (i : Int) ∧ (i : Int) < (ns.length : Int) := by omega
                        obtain ⟨bz, oz, rfl, hcz⟩ : ∃ bz oz, az = some ⟨bz, oz, none⟩ ∧ wr.cell? ⟨bz, oz + i, none⟩ = some (.int .i64 (ns[i]?.getD 0)) := by
                          obtain ⟨a, cap, e, h0 | ⟨b, o, rfl, hb, hc⟩⟩ := HZV.out.below HI.out.1.bl
                          · omega
                          · injection e with e1; exact ⟨b, o, e1, hc i hj⟩
                        generalize ns[i]?.getD 0 = x at hcz
                        by_cases hx : x = 2
                        · subst hx
                          go_wp2_with fail
                          go_meet
                          case rel => exact ⟨true, rfl, (fun h => by cases h), rfl⟩
                        · have hx' : (x == 2) = false := beq_eq_false_iff_ne.2 hx
                          by_cases h0 : i = 0
                          · subst h0
                            rw [Nat.add_zero] at hcz
                            go_wp2_with fail
                            go_meet
                            case rel => exact ⟨true, rfl, (fun h => by cases h), rfl⟩
                          · have h0' : ((i : Int) == 0) = false := beq_eq_false_iff_ne.2 (by omega)
                            go_wp2_with fail
                            go_meet
                            case rel => exact ⟨false, rfl, fun _ => h0, rfl⟩
                      · have hj1 : ¬ (i : Int) < (ns.length : Int) := by omega
                        by_cases h0 : i = 0
                        · subst h0
                          go_wp2_with fail
                          go_meet
                          case rel => exact ⟨true, rfl, (fun h => by cases h), rfl⟩
                        · have h0' : ((i : Int) == 0) = false := beq_eq_false_iff_ne.2 (by omega)
                          go_wp2_with fail
                          go_meet
                          case rel => exact ⟨false, rfl, fun _ => h0, rfl⟩
                    case rest =>
                    obtain ⟨bq, rfl, hbq, rfl⟩ := hcut
                    go_upto_if 113 with fail
                    go_cut [13, 17] (fun s13 s17 wx => wr = wx ∧ ∃ (how : Int) (wa' : Option Addr) (wc' : Nat) (bs' : List UInt8), s17 = .int .i64 how ∧ s13 = .slice wa' bs'.length wc' ∧ Hid ((how = 2 ∧ Value.slice wa' bs'.length wc' = .slice none 0 0 ∧ bs' = []) ∨ (how = 3 ∧ i ≠ 0 ∧ Value.slice wa' bs'.length wc' = .slice wa bs.length wc0 ∧ bs' = bs)))
                    case first =>
                      cases bq with
                      | true =>
                        go_wp2_with fail
                        go_meet
                        case rel => exact ⟨rfl, 2, none, 0, [], rfl, rfl, .inl ⟨rfl, rfl, rfl⟩⟩
                      | false =>
                        go_wp2_with fail
                        go_meet
                        case rel => exact ⟨rfl, 3, wa, wc0, bs, rfl, rfl, .inr ⟨rfl, hbq (by trivial), rfl, rfl⟩⟩
                    case rest =>
                    obtain ⟨rfl, how, wa', wc', bs', rfl, rfl, HH⟩ := hcut
                    have hhow : how = 2 ∨ how = 3 := HH.out.imp And.left And.left
                    have hbs' : bs'.length ≤ upTo ps i := by
                      rcases HH.out with ⟨_, _, rfl⟩ | ⟨_, _, _, rfl⟩
                      · exact Nat.zero_le _
                      · exact HI.out.2
                    have hopn := lst_open HI.out.1 HM.out (by omega) m HM0.out how (.slice wa' bs'.length wc') bs' HH.out
                    clear HI
                    go_wp2_with fail
                    refine hopn.mono ?_
                    rintro r w3 ⟨rfl, F, u, N, last, D, dv, e, rfl, rfl, rfl, hop, ho, hdj, hN, rfl⟩
                    have hw23 : how = 2 → bs' = [] := fun h => by
                      rcases HH.out with ⟨_, _, h2⟩ | ⟨h3, _⟩
                      · exact h2
                      · omega
                    have hbl3 := hop.st.bl
                    have hpc3 : w3.cell? ⟨bp, op + i, none⟩ = some (.slice A cs.length c) := (hbl3.cell (p := ⟨bp, op + i, none⟩) hBp).trans HC0.out
                    have HWL : Hid (Wl w F N ((i : Int) + 1) D e how bs' cs (.slice wa' bs'.length wc') w3 0 0 u A c) := by
                      refine ⟨⟨dv, 0, by simpa using hop, ?_, hdj⟩, ho, Nat.zero_le _, by have := hop.st.hu; omega, fun hlt => ?_⟩
                      · rcases hhow with rfl | rfl
                        · refine .inl ⟨rfl, ?_⟩
                          rw [hw23 rfl]; rfl
                        · exact .inr rfl
                      · rcases HPV0.out.below hbl3 with ⟨_, h2⟩ | ⟨a, c2, hv, hc2, h0 | ⟨b, o, rfl, hB, hcell⟩⟩
                        · rw [h2] at hlt; simp at hlt
                        · omega
                        · injection hv with e1 e2 e3
                          refine ⟨b, o, e1, hB, by omega, fun j hj => ?_⟩
                          rw [Nat.zero_add]
                          exact hcell j (by omega)
                    have hcsb : cs.length ≤ 8192 := by omega
                    have hlb : F.l.length ≤ 1048576 := hl1
                    have hbc8 : bs'.length + cs.length ≤ 8192 := by omega
                    clear hopn hop ho hdj hw23 hbl3 HH
                    go_upto_block 6 with fail
                    go_cut [20] (fun s20 wx => ∃ (A' : Option Addr) (cx' : Nat), s20 = .slice A' 0 cx' ∧ Hid (∃ n u', Wl w F N ((i : Int) + 1) D e how bs' cs (.slice wa' bs'.length wc') wx n cs.length u' A' cx'))
                    case first =>
                      as_aux_lemma =>
                      clear hpc3
                      go_wp2_with fail
                      go_loopg [20, 21] (cs.length + F.l.length + 1) (fun g v20 v21 wx => ∃ (n s Lr u : Nat) (A : Option Addr) (cx : Nat), n + g = cs.length + F.l.length + 1 ∧ Lr + s = cs.length ∧ v21 = .int .i64 n ∧ v20 = .slice A Lr cx ∧ Hid (Wl w F N ((i : Int) + 1) D e how bs' cs (.slice wa' bs'.length wc') wx n s u A cx))
                      case atStart => exact ⟨0, 0, cs.length, u, A, c, by omega, by omega, rfl, rfl, HWL.out⟩
                      case round =>
                        clear HWL
                        obtain ⟨n, s, Lr, u2, A2, cx2, hng2, hLr, rfl, rfl, HW⟩ := hrel
                        have hblx : Below w.heap.size w wr := by obtain ⟨_, _, h, _⟩ := HW.out.op; exact h.st.bl
                        have hpcx : wr.cell? ⟨bp, op + i, none⟩ = some (.slice A cs.length c) := (hblx.cell (p := ⟨bp, op + i, none⟩) hBp).trans HC0.out
                        by_cases hs : Lr = 0
                        · subst hs
                          obtain rfl : s = cs.length := by omega
                          go_wp2_with fail
                          go_meet
                          case rel => exact ⟨A2, cx2, rfl, n, u2, HW.out⟩
                        · have hms := HW.out.ms
                          cases gk with
                          | zero => exact absurd hms (by omega)
                          | succ g2 =>
                            have hnc : (n : Int) ≤ (cs.length : Int) + (F.l.length : Int) := by omega
                            have hgt : (0 : Int) < (Lr : Int) := by omega
                            have hwr := wl_write HW.out (by omega) hbc8
                            rw [show cs.length - s = Lr by omega] at hwr
                            obtain ⟨b2, o2, rfl, _, hcx, _⟩ := HW.out.at_ (by omega)
                            rw [show cs.length - s = Lr by omega] at hcx
                            clear HW hms
                            go_wp2_with fail
                            refine hwr.mono ?_
                            rintro r w5 ⟨mm, ge, rfl, hge, hmm, HU⟩
                            clear hwr hpcx hblx
                            obtain ⟨A3, hA3⟩ : ∃ A3, (if cx2 = mm then some (⟨b2, o2, none⟩ : Addr) else some ⟨b2, o2 + mm, none⟩) = A3 := ⟨_, rfl⟩
                            have k1 : ¬ (mm : Int) < 0 := by omega
                            have k2 : ¬ (Lr : Int) < (mm : Int) := by omega
                            have k3 : (mm : Int) ≤ (Lr : Int) := by omega
                            have k4 : (0 : Int) ≤ (mm : Int) := by omega
                            have k5 : (Lr : Int) ≤ (cx2 : Int) := by omega
                            have k6 : ¬ (cx2 : Int) < (Lr : Int) := by omega
                            rcases hge with rfl | rfl
                            all_goals
                              go_wp2_with fail
                              go_roundg g2
                              case measure => omega
                              case rel =>
                                obtain ⟨u3, hU⟩ := HU.out
                                exact ⟨n + 1, s + mm, Lr - mm, u3, A3, cx2 - mm, by omega, by omega, by go_num, rfl, hU A3 (cx2 - mm) ⟨hA3, rfl⟩⟩
                    case rest =>
                    obtain ⟨A3, cx3, rfl, HW3⟩ := hcut
                    clear HWL hpc3
                    go_upto_region 37 with fail
                    go_cut [13] (fun s13 wx => ∃ (wa3 : Option Addr) (wc3 : Nat), s13 = .slice wa3 (bs' ++ cs).length wc3 ∧ Hid (∃ u dv place, Op w F wx u N ((i : Int) + 1) D (bs' ++ cs) dv e how place ∧ wx.ownsRow F.B 5 1 (.slice wa3 (bs' ++ cs).length wc3) (bs' ++ cs).length (u8s (bs' ++ cs)) ∧ ∀ g, (Value.slice wa3 (bs' ++ cs).length wc3).ownBlock = some g → dv.ownBlock ≠ some g))
                    case first =>
                      as_aux_lemma =>
                      obtain ⟨n3, u3, hwl⟩ := HW3.out
                      obtain ⟨hblx, hbase⟩ : Below w.heap.size w wc ∧ F.B ≤ wc.heap.size := by obtain ⟨_, _, h, _⟩ := hwl.op; exact ⟨h.st.bl, h.st.hB⟩
                      have hpcx : wc.cell? ⟨bp, op + i, none⟩ = some (.slice A cs.length c) := (hblx.cell (p := ⟨bp, op + i, none⟩) hBp).trans HC0.out
                      obtain ⟨i5, hi5, hz0, hz1', hz2⟩ := info_parts info5
                      have hwo := hwl.wo
                      have HWL := Lib.hid hwl
                      rcases HPV0.out.below hblx with ⟨hv, rfl⟩ | ⟨a, c2, hv, hc2, hor⟩
                      · injection hv with e1 e2 e3
                        subst e1
                        subst e3
                        clear hwl hblx HW3
                        go_wp2_with (at_builtin; refine wpList_append_own_none rfl (.tmp 173) (.tmp 177) 33 rfl F.B 5 i5 1 Tryz.underlying33 hi5 _ _ _ rfl hwo rfl ?_)
                        go_meet
                        case rel =>
                          obtain ⟨dv, place, hop, _, hdj⟩ := HWL.out.op
                          refine ⟨wa', wc', by simp, u3, dv, place, by simpa using hop, ?_, ?_⟩
                          · simpa using HWL.out.wo
                          · simpa using hdj
                      · injection hv with e1 e2 e3
                        subst e1
                        subst e3
                        have hnews : ∀ j v, (u8s cs)[j]? = some v → wc.cell? (a.add j) = some v := fun j v hv => by
                          have hj : j < cs.length := by have := (List.getElem?_eq_some_iff.1 hv).1; rw [u8s_length] at this; omega
                          rcases hor with h0 | ⟨b, o, rfl, hB, hcell⟩
                          · omega
                          · rw [Addr.add_lit, hcell j hj, ← hv]
                            simp only [u8s, List.getElem?_map]
                            rw [List.getElem?_eq_getElem (by omega)]
                            rfl
                        have hnl2 : (u8s cs).length = cs.length * 1 := by rw [u8s_length]; omega
                        have HN := Lib.hid hnews
                        have HL2 := Lib.hid hnl2
                        clear hwl hblx HW3 hnews hnl2 hor
                        go_wp2_with (at_builtin; refine wpList_append_own_at _ rfl (.tmp 173) (.tmp 177) 33 rfl F.B 5 i5 (.int .u8 0) 1 1 Tryz.underlying33 hi5 hz0 hz1' hz2 rfl (by decide) (.slice wa' bs'.length wc') bs'.length (u8s bs') rfl hwo a cs.length c (u8s cs) rfl HL2.out HN.out (u8s_one _) (by unfold maxLen; omega) (by omega) hbase ?_; intro v2 w6 hown hgrow _ hat; obtain ⟨a2, c3, rfl⟩ := own_slice2 hown)
                        go_meet
                        case rel =>
                          have hown2 : w6.ownsRow F.B 5 1 (.slice a2 (bs' ++ cs).length c3) (bs' ++ cs).length (u8s (bs' ++ cs)) := by
                            rw [List.length_append, show u8s (bs' ++ cs) = u8s bs' ++ u8s cs by simp [u8s]]
                            exact hown
                          obtain ⟨dv, place, h1, h2, h3⟩ := wl_app HWL.out hown2 hgrow (by rw [List.length_append]; exact hat)
                          exact ⟨a2, c3, by rw [List.length_append], u3, dv, place, h1, h2, h3⟩
                    case rest =>
                    obtain ⟨wa3, wc3, rfl, HC⟩ := hcut
                    obtain ⟨u4, dv4, pl4, hop4, ho4, hdj4⟩ := HC.out
                    have hcl := fin_close hop4 (by omega) ho4 hdj4 hN
                    clear HC HW3 hop4 ho4 hdj4
                    go_wp2_with fail
                    refine hcl.mono ?_
                    rintro r w6 ⟨rfl, hrun⟩
                    have HR := Lib.hid hrun
                    clear hcl hrun
                    go_wp2_with fail
                    go_roundg g
                    case measure => omega
                    case rel => exact ⟨i + 1, wa3, wc3, bs' ++ cs, by omega, by go_num, by simp, .inr ⟨by omega, HR.out⟩, by rw [List.length_append, HUP.out]; omega⟩
              · have g3 : (8192 : Int) < ((upTo ps ps.length : Nat) : Int) := by omega
                go_wp2_with fail
                go_ret
                exact ⟨rfl, HB2.out⟩
        · have g2 : most < 1 := by omega
          go_wp2_with fail
          go_ret
          exact ⟨rfl, HB2.out⟩
      · have g1 : (200 : Int) < (ps.length : Int) := by omega
        go_wp2_with fail
        go_ret
        exact ⟨rfl, HB2.out⟩
    | succ g =>
      have hlt : n < l.length := by omega
      obtain ⟨o, rfl, hcell⟩ : ∃ o, af = some ⟨fb, o, none⟩ ∧ ∀ j, j < l.length → wr.cell? ⟨fb, o + j * 2, none⟩ = some (.int .i64 (l[j]?.getD (0, 0)).1) := by
        obtain ⟨a, cap, e, _, _, ⟨h0, _⟩ | ⟨o, rfl, hc⟩⟩ := HFV.out.below HB1.out hfb
        · omega
        · injection e with e1; exact ⟨o, e1, fun j hj => (hc j hj).1⟩
      have q1 := hcell n hlt
      have hnb : 0 ≤ (n : Int) ∧ (n : Int) < (l.length : Int) := by omega
      clear hcell
      by_cases hk1 : (l[n]?.getD (0, 0)).1 = 1
      · rw [hk1] at q1
        go_wp2_with fail
        go_roundg g
        case measure => omega
        case rel => exact ⟨rfl, n + 1, by omega, by go_num, fun j hj => by
          by_cases hjn : j = n
          · rw [hjn]; exact .inl hk1
          · exact HM.out j (by omega)⟩
      · by_cases hk2 : (l[n]?.getD (0, 0)).1 = 2
        · rw [hk2] at q1
          go_wp2_with fail
          go_roundg g
          case measure => omega
          case rel => exact ⟨rfl, n + 1, by omega, by go_num, fun j hj => by
            by_cases hjn : j = n
            · rw [hjn]; exact .inr hk2
            · exact HM.out j (by omega)⟩
        · have k1 : ((l[n]?.getD (0, 0)).1 != 1) = true := by simpa using hk1
          have k2 : ((l[n]?.getD (0, 0)).1 != 2) = true := by simpa using hk2
          generalize (l[n]?.getD (0, 0)).1 = x at q1 k1 k2
          clear hk1 hk2
          go_wp2_with fail
          go_ret
          exact ⟨rfl, HB1.out⟩
end Go.Proofs.YtbbmihlabllliaaGreatDoor
