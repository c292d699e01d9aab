/- The program's Parse keeps what is asked. -/
import Derived.WalkMore
import Derived.Deep.LoopGhost
import Derived.Test.YtfkoehfkiommpaaGreatDoorYLett
import Derived.Test.YtfkoehfkiommpaaGreatDoorYSame
import Derived.Test.YtfkoehfkiommpaaGreatDoorMNew
import Derived.Maps.OwnSet
import Derived.Test.YtfkoehfkiommpaaGreatDoorKMay
import Derived.Test.YtfkoehfkiommpaaGreatDoorMPs
import Derived.Test.YtfkoehfkiommpaaGreatDoorMReadB
namespace Go.Proofs.YtfkoehfkiommpaaGreatDoor.Op
open Go.RowKit Go.Maps

theorem own_less {w : World} {base base' e s n : Nat} {v : Value} {xs : List Value} (h : w.ownsRow base e s v n xs) (hb : base' ≤ base) : w.ownsRow base' e s v n xs := by
  refine ⟨h.1, ?_⟩
  rcases h.2 with h | ⟨g, cap, cur, h1, h2, h3⟩
  · exact .inl h
  · exact .inr ⟨g, cap, cur, h1, Nat.le_trans hb h2, h3⟩
theorem told_end {w w1 wr w2 : World} {lv ov : Value} {l : Opts} {o : List ByteArray} (hb1 : Below w.heap.size w w1) (hb : Below w1.heap.size w1 wr) (hO : OptsAt wr w1.heap.size lv l) (hr : w2.ownsRow wr.heap.size 9 1 ov (0 + o.length) ([] ++ o.map .string)) (hg : wr.grownBy w2 none) :
    ToldC w (some (l, o)) (.returned (.tuple #[lv, ov, .int .i64 0])) w2 ∧ Below w.heap.size w w2 := by
  have h1 := hb1.size
  have h2 := hb.size
  have hb2 : Below wr.heap.size wr w2 := (Below.refl _ _).grown hg (Nat.le_refl _) (fun j ej => by cases ej)
  have hr' : w2.ownsRow wr.heap.size 9 1 ov o.length (o.map .string) := by simpa using hr
  exact ⟨⟨lv, ov, rfl, own_less (own_below hO hb2) h1, strs_own hr', .inr (own_less hr' (by omega))⟩, (hb1.trans (hb.mono h1)).trans (hb2.mono (by omega))⟩
theorem strs_slice {w : World} {v : Value} {ss : List ByteArray} (h : StrsAt w v ss) : ∃ x c, v = .slice x ss.length c := by
  rcases h with ⟨rfl, rfl⟩ | ⟨b, off, cap, rfl, _⟩
  · exact ⟨none, 0, rfl⟩
  · exact ⟨_, cap, rfl⟩
theorem strs_nth {w : World} {x : Option Addr} {n c k : Nat} {ss : List ByteArray} (h : StrsAt w (.slice x n c) ss) (hk : k < n) : ∃ b off, x = some ⟨b, off, none⟩ ∧ n ≤ c ∧ c ≤ 9223372036854775807 ∧ b < w.heap.size ∧ w.cell? ⟨b, off + k, none⟩ = some (.string (nth ss k)) := by
  rcases h with ⟨h, rfl⟩ | ⟨b, off, cap, h, h2, h3, h4⟩
  · cases h; omega
  · cases h; exact ⟨b, off, rfl, h2.1, h2.2, h3, h4 k hk⟩
theorem slice_from {w : World} {x : Option Addr} {n cv k : Nat} {ss : List ByteArray} (hn : n = ss.length) (h : StrsAt w (.slice x n cv) ss) (hk : k ≤ n) :
    ∃ y c, (∀ u : World, (Instr.sliceAt 31 (.slice x n cv) (some (.int .i64 k)) none none).run Tryz.prog u = .ok (.slice y (n - k) c) u) ∧ StrsAt w (.slice y (n - k) c) (ss.drop k) := by
  have u22 := Tryz.underlying31
  have z9 := Tryz.sizeOf9
  rcases h with ⟨h, rfl⟩ | ⟨b, off, cap, h, ⟨h1, h2⟩, h3, h4⟩
  · cases h
    obtain rfl : k = 0 := by omega
    refine ⟨none, 0, fun u => ?_, .inl ⟨by simp, by simp⟩⟩
    simp [Instr.sliceAt, go_sem, z9]
  · cases h
    by_cases hc : cv = k
    · subst hc
      have e : ss.length - cv = 0 := by omega
      have e1 : cv = ss.length := by omega
      refine ⟨some ⟨b, off, none⟩, 0, fun u => ?_, ?_⟩
      · subst e1
        simp [Instr.sliceAt, go_sem, z9]
      · rw [e]
        exact strs_end rfl (by omega) h3
    · refine ⟨some ⟨b, off + k, none⟩, cv - k, fun u => ?_, strs_cut rfl hk h1 h2 h3 h4⟩
      have e2 : (k : Int) ≤ (ss.length : Int) := by omega
      have e3 : ¬ cv - k = 0 := by omega
      simp [Instr.sliceAt, go_sem, z9, e2, hc]
theorem tot_drop (l : List ByteArray) (k : Nat) (h : k < l.length) : tot (l.drop k) = (nth l k).size + tot (l.drop (k + 1)) := by rw [drop_nth l k h, tot_cons]
theorem isOp_ne {a : ByteArray} (h : IsOp a) : a ≠ dashes := by
  rintro rfl
  rcases h with h | h
  · exact absurd h (by decide)
  · exact h rfl
theorem ne_dash {a : ByteArray} (h : a.data.toList ≠ [45]) : (a.toList == [45]) = false := by rw [beq_eq_false_iff_ne, ByteArray.toList_eq]; exact h
theorem dashes_of {a : ByteArray} (h0 : a.data.toList.head? = some 45) (h : a.data.toList.drop 1 = [45]) : a = dashes := by
  cases a with | mk d =>
  simp only [dashes]; congr; rw [← Array.toList_inj]
  generalize d.toList = l at *
  match l, h0, h with
  | x :: r, h0, h => simp at h0 h; rw [h0, h]

set_option maxHeartbeats 4000000 in
set_option maxRecDepth 100000 in
theorem parse_c (v : Value) (args : List ByteArray) (spec : ByteArray) (w : World) (hs : spec.size ≤ 2097152) (ht : tot args ≤ 2097152) (hlen : args.length ≤ 2097152) (hA : StrsAt w v args) :
    Calls Tryz.prog 142 #[v, .string spec] w fun e w' => ToldC w (parseS spec [] args) e w' ∧ Below w.heap.size w w' := by
  obtain ⟨i0, hi, hz0, hz1, hz2⟩ := info_parts2 info_opt
  obtain ⟨R, hR⟩ : ∃ R, R = parseS spec [] args := ⟨_, rfl⟩
  rw [← hR]
  obtain ⟨xv, cv, rfl⟩ := strs_slice hA
  have HR : Hid (R = parseS spec [] (args.drop 0)) := by rw [List.drop_zero]; exact Lib.hid hR
  have HT : Hid (([] : Opts).length + tot (args.drop 0) ≤ 2097152) := by rw [List.drop_zero]; exact Lib.hid (by simpa using ht)
  have HU := Lib.hid Tryz.underlying283
  have HA := Lib.hid hA
  generalize hn : args.length = n at hlen HA ⊢
  have HN := Lib.hid hn
  clear ht hA hR hn
  go_enter Tryz.func142, Tryz.ntmps142
  go_wp2_with fail
  go_step3
  go_wp2_with (go_at_call 178; refine (letters_c spec w hs).mono ?_; rintro e w1 ⟨rfl, ⟨nm, hM1⟩, hb1⟩)
  go_step3
  go_wp2_with fail
  have HM1 := Lib.hid hM1
  have HB1 := Lib.hid hb1
  have HA1 : Hid (StrsAt w1 (.slice xv n cv) args) := HA.out.below hb1
  clear hM1 hb1 HA
  go_loopw [8, 9] (fun lv kv wr => ∃ (l : Opts) (k : Nat), k ≤ n ∧ kv = .int .i64 k ∧ Hid (R = parseS spec l (args.drop k)) ∧ Hid (l.length + tot (args.drop k) ≤ 2097152) ∧ Hid (OptsAt wr w1.heap.size lv l) ∧ Hid (Below w1.heap.size w1 wr)) (fun _ kv _ => n - (intOf kv).toNat)
  case atStart => exact ⟨[], 0, by omega, rfl, HR, HT, World.ownsRow_nil _ _ _ _, Below.refl _ _⟩
  case round =>
    obtain ⟨l, k, hk, rfl, HI, HTl, HO, HB⟩ := hrel
    clear HR HT
    obtain ⟨x2, c2, hsl, hS2⟩ := slice_from HN.out.symm HA1.out hk
    have HS2 : Hid (StrsAt wr (.slice x2 (n - k) c2) (args.drop k)) := hS2.below HB.out
    clear hS2
    by_cases hlt : k < n
    · obtain ⟨b, off, rfl, hle, hcap, hbw, hc0⟩ := strs_nth HA1.out hlt
      have hcx : wr.cell? ⟨b, off + k, none⟩ = some (.string (nth args k)) := (HB.out.cell (p := ⟨b, off + k, none⟩) hbw).trans hc0
      have HJ := HI.out
      have HTt := HTl.out
      rw [tot_drop args k (by rw [HN.out]; exact hlt)] at HTt
      rw [drop_nth args k (by rw [HN.out]; exact hlt)] at HJ
      clear hc0 HI HTl
      have hda := drop_nth args k (by rw [HN.out]; exact hlt)
      generalize nth args k = a at hcx HJ HTt hda
      have hop := isOp_c a wr (by omega)
      by_cases ho : IsOp a
      · rw [parseS_stop _ _ _ _ (isOp_ne ho) ho, ← hda] at HJ
        have HJ' := Lib.hid HJ
        simp only [ho, decide_true] at hop
        clear HJ HTt ho hda
        go_wp2_with (first | (go_at_call 179; refine hop.mono ?_; rintro e wr ⟨rfl, rfl⟩) | (at_builtin; refine wpList_append_strs rfl _ _ rfl wr.heap.size _ 0 [] rfl (World.ownsRow_nil _ _ _ _) _ (args.drop k) rfl HS2.out (by rw [List.length_drop, HN.out]; omega) (Nat.le_refl _) ?_; intro v2 w2 hown2 hgrow2))
        rw [Exit.noGoto_ret]
        go_ret3
        have e := HJ'.out; subst e
        exact told_end HB1.out HB.out HO.out hown2 hgrow2
      · simp only [ho, decide_false] at hop
        have h2 : ¬ a.size < 2 := fun h => ho (.inl h)
        have hh : a.data.toList.head? = some 45 := Classical.byContradiction fun h => ho (.inr h)
        obtain ⟨k', hk'⟩ : ∃ k', k' = k + 1 := ⟨_, rfl⟩
        have HK : Hid (((k : Int) + 1) = (k' : Int)) := Lib.hid (by omega)
        rw [← hk'] at hda HJ HTt
        have hkn : k' ≤ n := by omega
        obtain ⟨x3, c3, hsl3, hS3⟩ := slice_from HN.out.symm HA1.out hkn
        have HS3 : Hid (StrsAt wr (.slice x3 (n - k') c3) (args.drop k')) := hS3.below HB.out
        clear hS3 HS2 hsl
        have hgl : (a.extract 1 a.size).data.toList = a.data.toList.drop 1 := by rw [by_tail]
        have hgz : (a.extract 1 a.size).size = a.size - 1 := by simp
        have hex : (1 : Int) ≤ (a.size : Int) := by omega
        rw [← HK.out] at hsl3
        have HKK := Lib.hid hk'
        have HGZ := Lib.hid hgz
        clear hk'
        by_cases hdd : a = dashes
        · rw [parseS_dd _ _ _ _ hdd] at HJ
          have HJ' := Lib.hid HJ
          have hge : ((a.extract 1 a.size).toList == [45]) = true := by rw [ByteArray.toList_eq, hgl, hdd]; rfl
          clear HJ HTt ho hda hh hgl hdd hgz
          go_wp2_with (first | (go_at_call 179; refine hop.mono ?_; rintro e wr ⟨rfl, rfl⟩) | (at_builtin; refine wpList_append_strs rfl _ _ rfl wr.heap.size _ 0 [] rfl (World.ownsRow_nil _ _ _ _) _ (args.drop k') rfl HS3.out (by rw [List.length_drop, HN.out]; omega) (Nat.le_refl _) ?_; intro v2 w2 hown2 hgrow2))
          rw [Exit.noGoto_ret]
          go_ret3
          have e := HJ'.out; subst e
          exact told_end HB1.out HB.out HO.out hown2 hgrow2
        · have hge : ((a.extract 1 a.size).toList == [45]) = false := ne_dash (fun e => hdd (dashes_of hh (hgl ▸ e)))
          rw [parseS_go _ _ _ _ hdd ho, ← hgl] at HJ
          have HTg : l.length + (a.extract 1 a.size).size + tot (args.drop k') ≤ 2097152 := by rw [hgz]; omega
          clear HTt ho hda hh hgl hdd hgz HS3 hsl3
          go_wp2_with (go_at_call 179; refine hop.mono ?_; rintro e wr ⟨rfl, rfl⟩)
          rw [← HGZ.out, HK.out]
          clear HGZ
          generalize a.extract 1 a.size = g at *
          have HJ' : Hid (R = goS spec l (g.data.toList.drop 0) (args.drop k')) := HJ
          have HT' : Hid (l.length + (g.size - 0) + tot (args.drop k') ≤ 2097152) := HTg
          have hgs : g.size ≤ 2097152 := by omega
          clear HJ HTg hop hge hcx
          go_loopw [8, 9, 36] (fun lv kv mv wi => ∃ (m : Nat) (l' : Opts), m ≤ g.size ∧ mv = .int .i64 m ∧ kv = .int .i64 k' ∧ Hid (R = goS spec l' (g.data.toList.drop m) (args.drop k')) ∧ Hid (l'.length + (g.size - m) + tot (args.drop k') ≤ 2097152) ∧ Hid (OptsAt wi w1.heap.size lv l') ∧ Hid (Below w1.heap.size w1 wi)) (fun _ _ mv _ => g.size - (intOf mv).toNat)
          case atStart => exact ⟨0, l, by omega, rfl, rfl, HJ', HT', HO, HB⟩
          case round =>
            obtain ⟨m, l', hm, rfl, rfl, HI, HM, HO2, HB2⟩ := hrel
            clear HJ' HT' HO HB
            by_cases hml : m < g.size
            · have HJ := HI.out
              have HT := HM.out
              rw [by_drop g m hml] at HJ
              have hll : l'.length ≤ 2097152 := by omega
              clear HI HM
              have hlk := (HM1.out.below HB2.out).look1 HU.out (zeroKind wr) g[m]
              rw [letF_all] at hlk
              by_cases hk0 : kindS spec g[m] = 0
              · rw [goS_0 hk0] at HJ
                rw [hk0] at hlk
                simp only [if_pos, Option.getD_none] at hlk
                have HJ' := Lib.hid HJ
                clear HJ HT hk0
                go_wp2_with fail
                rw [Exit.noGoto_ret]
                go_ret3
                have e := HJ'.out; subst e
                exact ⟨⟨_, _, rfl, World.ownsRow_nil _ _ _ _, .inl ⟨rfl, rfl⟩, .inl rfl⟩, HB1.out.trans (HB2.out.mono HB1.out.size)⟩
              by_cases hk1 : kindS spec g[m] = 1
              · rw [goS_1 hk1] at HJ
                rw [hk1] at hlk
                simp only [Nat.one_ne_zero, if_false, Option.getD_some] at hlk
                have HJ' := Lib.hid HJ
                have HT' : Hid ((l' ++ [(g[m], (⟨#[]⟩ : ByteArray))]).length + (g.size - (m + 1)) + tot (args.drop k') ≤ 2097152) := by show _ ≤ _; rw [List.length_append, List.length_singleton]; omega
                clear HJ HT hk0 hk1
                go_wp2_with (at_builtin; refine wpList_append_own _ rfl _ _ 232 rfl w1.heap.size 287 i0 (.agg #[.int .u8 0, .string ⟨#[]⟩]) 2 24 Tryz.underlying232 hi hz0 hz1 hz2 rfl (by decide) _ _ _ rfl (HO2.out.alloc _) ⟨wr.heap.size, 0, none⟩ 1 1 [.int .u8 (g[m].toNat : Int), .string ⟨#[]⟩] rfl rfl (cell_two_new _ _ _ _) (by simp [Value.oneCell']) (by unfold maxLen; omega) (by omega) (by have := HB2.out.size; simp; omega) ?_; intro v2 w2 hown2 hgrow2 _)
                have hbw2 : Below w1.heap.size w1 w2 := (HB2.out.alloc HB2.out.size _).grown hgrow2 (by have := HB2.out.size; simp; omega) (fun j ej => own_ge2 HO2.out j ej)
                exact ⟨⟨m + 1, _, by omega, by go_num, rfl, HJ', HT', opts_snoc hown2, hbw2⟩, by simp [intOf]; omega⟩
              · have hk2 : kindS spec g[m] = 2 := by have := kindS_le spec g[m]; omega
                rw [hk2] at hlk
                simp only [if_false, Option.getD_some, show ¬ (2 : Nat) = 0 from by decide] at hlk
                have hm1 : IntKind.i64.wrap ((m : Int) + 1) = (m : Int) + 1 := IntWalk.i64_in _ (by omega)
                by_cases hm2 : m + 1 < g.size
                · rw [goS_2 hk0 hk1 (by rw [by_drop g (m + 1) hm2]; simp), ← by_tail g (m + 1)] at HJ
                  have HJ' := Lib.hid HJ
                  have HT' : Hid ((l' ++ [(g[m], g.extract (m + 1) g.size)]).length + tot (args.drop k') ≤ 2097152) := by show _ ≤ _; rw [List.length_append, List.length_singleton]; omega
                  have hne : ((g.extract (m + 1) g.size).toList == []) = false := by
                    rw [beq_eq_false_iff_ne, ByteArray.toList_eq, by_tail]
                    show g.data.toList.drop (m + 1) ≠ []
                    rw [by_drop g (m + 1) hm2]; simp
                  have hw2 : 0 ≤ (m : Int) + 1 ∧ (m : Int) + 1 ≤ (g.size : Int) := by omega
                  have hw3 : ((m : Int) + 1).toNat = m + 1 := by omega
                  clear HJ HT hk0 hk1 hk2
                  go_wp2_with (at_builtin; refine wpList_append_own _ rfl _ _ 232 rfl w1.heap.size 287 i0 (.agg #[.int .u8 0, .string ⟨#[]⟩]) 2 24 Tryz.underlying232 hi hz0 hz1 hz2 rfl (by decide) _ _ _ rfl (HO2.out.alloc _) ⟨wr.heap.size, 0, none⟩ 1 1 [.int .u8 (g[m].toNat : Int), .string (g.extract (m + 1) g.size)] rfl rfl (cell_two_new _ _ _ _) (by simp [Value.oneCell']) (by unfold maxLen; omega) (by omega) (by have := HB2.out.size; simp; omega) ?_; intro v2 w2 hown2 hgrow2 _)
                  have hbw2 : Below w1.heap.size w1 w2 := (HB2.out.alloc HB2.out.size _).grown hgrow2 (by have := HB2.out.size; simp; omega) (fun j ej => own_ge2 HO2.out j ej)
                  exact ⟨⟨_, k', hkn, rfl, HJ', HT', opts_snoc hown2, hbw2⟩, by have := HKK.out; simp [intOf]; omega⟩
                · have hme : m + 1 = g.size := by omega
                  rw [by_drop_end g (m + 1) (by omega)] at HJ
                  have hemp : ((g.extract (m + 1) g.size).toList == []) = true := by
                    rw [ByteArray.toList_eq, by_tail]
                    show (g.data.toList.drop (m + 1) == []) = true
                    rw [by_drop_end g (m + 1) (by omega)]; rfl
                  have hw2 : 0 ≤ (m : Int) + 1 ∧ (m : Int) + 1 ≤ (g.size : Int) := by omega
                  have hw3 : ((m : Int) + 1).toNat = m + 1 := by omega
                  by_cases hkl : k' < n
                  · obtain ⟨b2, off2, hx, _, _, _, hc2⟩ := strs_nth HA1.out hkl
                    cases hx
                    have hcx2 : wr.cell? ⟨b, off + k', none⟩ = some (.string (nth args k')) := (HB2.out.cell (p := ⟨b, off + k', none⟩) hbw).trans hc2
                    rw [drop_nth args k' (by rw [HN.out]; exact hkl), goS_4 hk0 hk1] at HJ
                    rw [tot_drop args k' (by rw [HN.out]; exact hkl)] at HT
                    clear hc2
                    generalize nth args k' = sj at hcx2 HJ HT
                    have HJ' := Lib.hid HJ
                    have HT' : Hid ((l' ++ [(g[m], sj)]).length + tot (args.drop (k' + 1)) ≤ 2097152) := by show _ ≤ _; rw [List.length_append, List.length_singleton]; omega
                    have hkq : ¬ ((k' : Int) = (n : Int)) := by omega
                    clear HJ HT hk0 hk1 hk2 hme
                    go_wp2_with (at_builtin; refine wpList_append_own _ rfl _ _ 232 rfl w1.heap.size 287 i0 (.agg #[.int .u8 0, .string ⟨#[]⟩]) 2 24 Tryz.underlying232 hi hz0 hz1 hz2 rfl (by decide) _ _ _ rfl (HO2.out.alloc _) ⟨wr.heap.size, 0, none⟩ 1 1 [.int .u8 (g[m].toNat : Int), .string sj] rfl rfl (cell_two_new _ _ _ _) (by simp [Value.oneCell']) (by unfold maxLen; omega) (by omega) (by have := HB2.out.size; simp; omega) ?_; intro v2 w2 hown2 hgrow2 _)
                    have hbw2 : Below w1.heap.size w1 w2 := (HB2.out.alloc HB2.out.size _).grown hgrow2 (by have := HB2.out.size; simp; omega) (fun j ej => own_ge2 HO2.out j ej)
                    exact ⟨⟨_, k' + 1, hkl, by go_num, HJ', HT', opts_snoc hown2, hbw2⟩, by have := HKK.out; simp [intOf]; omega⟩
                  · obtain rfl : k' = n := by omega
                    rw [List.drop_eq_nil_of_le (by rw [HN.out]; omega), goS_3 hk0 hk1] at HJ
                    have HJ' := Lib.hid HJ
                    clear HJ HT hk0 hk1 hk2 hme
                    go_wp2_with fail
                    rw [Exit.noGoto_ret]
                    go_ret3
                    have e := HJ'.out; subst e
                    exact ⟨⟨_, _, rfl, World.ownsRow_nil _ _ _ _, .inl ⟨rfl, rfl⟩, .inl rfl⟩, HB1.out.trans (HB2.out.mono HB1.out.size)⟩
            · have HJ := HI.out
              have HT := HM.out
              obtain rfl : m = g.size := by omega
              rw [by_drop_end g g.size (Nat.le_refl _), goS_nil] at HJ
              have HJ' := Lib.hid HJ
              have HT' : Hid (l'.length + tot (args.drop k') ≤ 2097152) := by show _ ≤ _; omega
              have hI : ¬ ((g.size : Int) < (g.size : Int)) := by omega
              clear HI HM HJ HT
              go_wp2
              exact ⟨⟨l', k', hkn, rfl, HJ', HT', HO2, HB2⟩, by have := HKK.out; simp [intOf]; omega⟩
    · obtain rfl : k = n := by omega
      have HJ : Hid (R = some (l, args.drop k)) := by have := HI.out; rw [List.drop_eq_nil_of_le (by rw [HN.out]; omega), parseS_nil] at this; rw [List.drop_eq_nil_of_le (by rw [HN.out]; omega)]; exact Lib.hid this
      have hI : ¬ ((k : Int) < (k : Int)) := by omega
      rw [Nat.sub_self] at hsl
      have HS3 : Hid (StrsAt wr (.slice x2 0 c2) (args.drop k)) := by have := HS2.out; rw [Nat.sub_self] at this; exact this
      clear HI HTl HS2
      go_wp2_with (at_builtin; refine wpList_append_strs rfl _ _ rfl wr.heap.size _ 0 [] rfl (World.ownsRow_nil _ _ _ _) _ (args.drop k) rfl HS3.out (by rw [List.length_drop, HN.out]; omega) (Nat.le_refl _) ?_; intro v2 w2 hown2 hgrow2)
      go_ret3
      have e := HJ.out; subst e
      exact told_end HB1.out HB.out HO.out hown2 hgrow2
end Go.Proofs.YtfkoehfkiommpaaGreatDoor.Op

namespace Go.Proofs.YtfkoehfkiommpaaGreatDoor
open Go.RowKit Go.Shelf Go.Maps

set_option maxRecDepth 100000 in
set_option maxHeartbeats 2000000 in
theorem args_p {w : World} {p kn tb kin : Nat} {args env box runs : Value} {cwd : ByteArray} {l1 l2 l3 held peak : Int} {isChild : Bool} (hp : PrAt w p kn tb args env cwd l1 l2 l3 held peak box kin isChild runs) (sa : List ByteArray) (hl : sa.length ≤ 1048576) (hA : w.ownsRow 0 9 1 args sa.length (sa.map .string)) :
    Calls Tryz.prog 117 #[ptr p] w fun e w' => ∃ v', e = .returned v' ∧ w'.ownsRow w.heap.size 9 1 v' sa.length (sa.map .string) ∧ Below w.heap.size w w' := by
  have hc := sclone_c args sa w hl (ss_own hA)
  obtain ⟨xa, ca, rfl⟩ := own_shape hA
  have p2 : w.cell? ⟨p, 2, none⟩ = some (.slice xa sa.length ca) := h_cell hp 2 rfl
  have hlt := h_lt hp
  clear hp hA
  go_enter Tryz.func117, Tryz.ntmps117
  go_wp2_with (go_at_call 105; refine hc.mono ?_; rintro e w1 ⟨v', rfl, ho, hB⟩)
  go_ret
  exact ⟨v', rfl, ho, hB⟩

theorem strs_of_ss {w : World} {v : Value} {ss : List ByteArray} (h : SsAt w v ss) : Op.StrsAt w v ss := h

section
variable {E : Ev} {md : Option Bool} {w : World} {s : Sx} {M : List Nat}
theorem own_lt2 {W : World} {base e s n b : Nat} {v : Value} {xs : List Value} (h : W.ownsRow base e s v n xs) (ej : v.ownBlock = some b) : b < W.heap.size := by
  rcases h.2 with ⟨rfl, _⟩ | ⟨g, cap, cur, rfl, hb, hg, _⟩
  · simp [Value.ownBlock] at ej
  · have e2 : g = b := by simpa [Value.ownBlock] using ej
    subst e2
    exact (Array.getElem?_eq_some_iff.1 hg).1
/-- The block of operands. -/
def restB (ov : Value) (rest : List ByteArray) : List Nat := if rest = [] then [] else ov.ownBlock.toList
/-- What a utility does with its task. -/
def DoOut (E : Ev) (md : Option Bool) (M : List Nat) (Q : Int → Sx → Prop) (w : World) (tk : Nat) (e : Ending) (w2 : World) : Prop :=
  Waits md E M e w w2 ∨ (md ≠ none ∧ ∃ v st s2, e = .returned v ∧ w2.cell? ⟨tk, 3, none⟩ = some (.int .i64 st) ∧ PS E (some false) w2 s2 M ∧ Kept M w w2 ∧ Q st s2)
/-- What its main does. -/
def UmOut (E : Ev) (md : Option Bool) (M : List Nat) (Q : Int → Sx → Prop) (w : World) (e : Ending) (w2 : World) : Prop :=
  Waits md E M e w w2 ∨ (md ≠ none ∧ ∃ st s2, e = .returned (.int .i64 st) ∧ PS E (some false) w2 s2 M ∧ Kept M w w2 ∧ Q st s2)
set_option maxRecDepth 100000 in
set_option maxHeartbeats 4000000 in
theorem umain_c {Q : Int → Sx → Prop} (hp : PS E md w s M) (sa : List ByteArray) (hl0 : 0 < sa.length) (hl : sa.length ≤ 1048576) (ht : Op.tot (sa.drop 1) ≤ 2097152) (hA : w.ownsRow 0 9 1 E.G.args sa.length (sa.map .string)) (spec : ByteArray) (hs : spec.size ≤ 2097152) (fd : Nat) (o : Op.Opts) (rest : List ByteArray) (hP : Op.parseS spec [] (sa.drop 1) = some (o, rest))
    (hcf : ∀ (z : Array Value) (u : World), (callFunc fd z).run Tryz.prog u = .ok (.enter fd z) u)
    (hdo : ∀ tk lv ov w1, w.heap.size ≤ tk → PS E md w1 s (tk :: (lv.ownBlock.toList ++ (restB ov rest ++ M))) → TkAt w1 tk E.G.p lv ov 0 false → Op.OptsAt w1 w.heap.size lv o → Op.RestAt w1 w.heap.size ov rest → Below w.heap.size w w1 → Calls Tryz.prog fd #[ptr tk] w1 (DoOut E md M Q w1 tk)) :
    Calls Tryz.prog 119 #[.agg #[.string spec, .func (.func fd) #[] #[]], ptr E.G.p] w (UmOut E md M Q w) := by
  obtain ⟨held, peak, hpr⟩ := hp.prAt
  have HX := Lib.hid (And.intro hp (And.intro hpr hA))
  clear hp hpr hA
  go_enter Tryz.func119, Tryz.ntmps119
  go_wp2_with fail
  have hBU : Below w.heap.size w (w.alloc (.cells #[.string spec, .func (.func fd) #[] #[]] 208)) := (Below.refl _ w).alloc (Nat.le_refl _) _
  have u0 : (w.alloc (.cells #[.string spec, .func (.func fd) #[] #[]] 208)).heap[w.heap.size]? = some (.cells #[.string spec, .func (.func fd) #[] #[]] 208 (0, 0)) := al_new _ _ rfl
  have hsU : w.heap.size < (w.alloc (.cells #[.string spec, .func (.func fd) #[] #[]] 208)).heap.size := by simp
  generalize w.alloc (.cells #[.string spec, .func (.func fd) #[] #[]] 208) = U at hBU u0 hsU ⊢
  have v0 : U.cell? ⟨w.heap.size, 0, none⟩ = some (.string spec) := h_cell u0 0 rfl
  have hargs := args_p (w := U.drew) ((Turn.below (S := []) hBU).drew.ob HX.out.2.1 (by simp)) sa hl (own_turn HX.out.2.2 (Turn.below (S := []) hBU).drew (by simp))
  have HT := Lib.hid (And.intro ht (And.intro hs hP))
  clear ht hs hP
  go_region_with (first
    | (go_at_call 117; refine hargs.mono ?_; rintro e w1 ⟨av, rfl, ho1, hB1⟩; obtain ⟨xa, ca, rfl⟩ := own_shape ho1; obtain ⟨y2, c2, hsl0, hS2⟩ := Op.slice_from rfl (strs_of_ss (ss_own ho1)) hl0; have hsl : ∀ u : World, (Instr.sliceAt 31 (.slice xa sa.length ca) (some (.int .i64 1)) none none).run Tryz.prog u = .ok (.slice y2 (sa.length - 1) c2) u := hsl0; have v1 : w1.cell? ⟨w.heap.size, 0, none⟩ = some (.string spec) := (hB1.cell (p := ⟨w.heap.size, 0, none⟩) (by simpa using hsU)).trans v0; have hpa := Op.parse_c (.slice y2 (sa.length - 1) c2) (sa.drop 1) spec w1 HT.out.2.1 HT.out.1 (by rw [List.length_drop]; omega) hS2; have HB1 := Lib.hid (And.intro hB1 ho1); clear hsl0 hS2 hB1 ho1 hargs v0)
    | (go_at_call 142; refine hpa.mono ?_; rintro e w2 ⟨hTo, hB2⟩; rw [HT.out.2.2] at hTo; obtain ⟨lv, ov, he, hO2, hR2⟩ := hTo; have he2 : e = .returned (.tuple #[lv, ov, .int .i64 0]) := he; clear he; have hO2 : Op.OptsAt w2 w1.heap.size lv o := hO2; have hR2 : Op.RestAt w2 w1.heap.size ov rest := hR2; obtain ⟨xl, cl, rfl⟩ : ∃ a c, lv = .slice a o.length c := Op.own_slice2 hO2; obtain ⟨xo, co, rfl⟩ := Op.strs_slice hR2.1; subst he2; have HZ := Lib.hid (And.intro hB2 (And.intro hO2 hR2)); clear hpa hB2 hO2 hR2))
  all_goals
    have hBw : Below w.heap.size w w2 := ((hBU.trans ((show Below U.heap.size U U.drew from ⟨rfl, rfl, rfl, Nat.le_refl _, fun _ _ => rfl⟩).mono hBU.size)).trans (HB1.out.1.mono hBU.size)).trans (HZ.out.1.mono (Nat.le_trans hBU.size HB1.out.1.size))
    have hs2 : w.heap.size < w2.heap.size := Nat.lt_of_lt_of_le hsU (Nat.le_trans HB1.out.1.size HZ.out.1.size)
    have hu2 : w2.heap[w.heap.size]? = some (.cells #[.string spec, .func (.func fd) #[] #[]] 208 (0, 0)) := (Turn.below (S := []) HZ.out.1).ob ((Turn.below (S := []) HB1.out.1).ob u0 (by simp)) (by simp)
    have HY : Hid (Op.OptsAt w2 w.heap.size (.slice xl o.length cl) o ∧ Op.RestAt w2 w.heap.size (.slice xo rest.length co) rest) := Lib.hid ⟨Op.own_less HZ.out.2.1 (Nat.le_trans hBU.size HB1.out.1.size), HZ.out.2.2.1, HZ.out.2.2.2.imp id fun h => Op.own_less h (Nat.le_trans hBU.size HB1.out.1.size)⟩
    have hBt : Below w.heap.size w (w2.alloc (.cells #[ptr E.G.p, (.slice xl o.length cl), (.slice xo rest.length co), .int .i64 0, .bool false] 237)) := hBw.alloc hBw.size _
    have hBs : Below w2.heap.size w2 (w2.alloc (.cells #[ptr E.G.p, (.slice xl o.length cl), (.slice xo rest.length co), .int .i64 0, .bool false] 237)) := (Below.refl _ w2).alloc (Nat.le_refl _) _
    have htk : TkAt (w2.alloc (.cells #[ptr E.G.p, (.slice xl o.length cl), (.slice xo rest.length co), .int .i64 0, .bool false] 237)) w2.heap.size E.G.p (.slice xl o.length cl) (.slice xo rest.length co) 0 false := al_new _ _ rfl
    have hut := (Turn.below (S := []) hBs).ob hu2 (by simp)
    have hst : (w2.alloc (.cells #[ptr E.G.p, (.slice xl o.length cl), (.slice xo rest.length co), .int .i64 0, .bool false] 237)).heap.size = w2.heap.size + 1 := by simp
    have x1 : (w2.alloc (.cells #[ptr E.G.p, (.slice xl o.length cl), (.slice xo rest.length co), .int .i64 0, .bool false] 237)).cell? ⟨w.heap.size, 1, none⟩ = some (.func (.func fd) #[] #[]) := h_cell hut 1 rfl
    have hlv : ∀ b, (Value.slice xl o.length cl).ownBlock = some b → w.heap.size ≤ b ∧ b < w2.heap.size := fun b e => ⟨Op.own_ge2 HY.out.1 b e, own_lt2 HY.out.1 e⟩
    have hov : ∀ b, b ∈ restB (.slice xo rest.length co) rest → w.heap.size ≤ b ∧ b < w2.heap.size := fun b e => by
      unfold restB at e
      split at e
      · simp at e
      · rename_i hne
        rcases HY.out.2.2 with h | h
        · exact absurd h hne
        · exact ⟨Op.own_ge2 h b (by simpa [Option.mem_toList] using e), own_lt2 h (by simpa [Option.mem_toList] using e)⟩
    have hcall := hdo w2.heap.size (Value.slice xl o.length cl) (.slice xo rest.length co) _ hBw.size (HX.out.1.own (Turn.below (S := []) hBt) (by simp) (fun b hb => by
      simp only [List.mem_cons, List.mem_append, Option.mem_toList] at hb
      rcases hb with rfl | h | h | h
      · exact .inr ⟨hBw.size, by omega⟩
      · exact .inr ⟨(hlv b h).1, by have := (hlv b h).2; omega⟩
      · exact .inr ⟨(hov b h).1, by have := (hov b h).2; omega⟩
      · exact .inl h)) htk (Op.own_below HY.out.1 hBs) (HY.out.2.below hBs) hBt
    clear hdo HZ HB1 HX hBw hu2 hut hBs htk
    go_wp2_with fail
    refine hcall.mono ?_
    rintro e w3 (hW | ⟨hmd, v, st, s2, rfl, h3, hp3, hk3, hq⟩)
    · obtain ⟨rfl, rfl, hW'⟩ := hW
      exact ⟨rfl, .inl (Waits.after (Kept.below hBt) ⟨rfl, rfl, hW'⟩)⟩
    go_wp2_with fail
    go_ret
    exact .inr ⟨hmd, st, s2, rfl, hp3, (Kept.below hBt).trans hk3, hq⟩
end
end Go.Proofs.YtfkoehfkiommpaaGreatDoor

namespace Go.Proofs.YtfkoehfkiommpaaGreatDoor
open Go.RowKit Go.Maps

/-- A map of at most n entries, that holds for a string what f tells. -/
def MapS (w : World) (b n : Nat) (f : ByteArray → Option Value) : Prop :=
  ∃ D : DataW Value, w.ownsMap Tryz.prog 9 R b n D ∧ IsMap D ∧ ∀ s, Maps.has D (sk s) = (f s).isSome ∧ ∀ z, D.atKey (sk s) (.held z) = .held ((f s).getD z)
theorem skS_inj {a b : ByteArray} (h : sk a = sk b) : a = b := by
  have h1 : a.data.toList = b.data.toList := by simpa [sk] using h
  cases a; cases b
  congr
  exact Array.toList_inj.1 h1
theorem MapS.made (w : World) : MapS (w.alloc (.map #[] 0)) w.heap.size 0 (fun _ => none) :=
  ⟨_, World.ownsMap_made w Tryz.prog 9 R, isMap_empty, fun c => ⟨rfl, fun z => by simp [DataW.atKey]⟩⟩
theorem MapS.kept {w w' : World} {b n : Nat} {f : ByteArray → Option Value} {row : Option Nat} (h : MapS w b n f) (hg : w.grownBy w' row) (hne : some b ≠ row) : MapS w' b n f :=
  let ⟨D, h1, h2⟩ := h; ⟨D, h1.kept hg hne, h2⟩
theorem MapS.lt {w : World} {b n : Nat} {f : ByteArray → Option Value} (h : MapS w b n f) : b < w.heap.size := let ⟨_, h1, _⟩ := h; h1.lt
theorem MapS.below {w w' : World} {b n : Nat} {f : ByteArray → Option Value} (h : MapS w b n f) (hb : Below w.heap.size w w') : MapS w' b n f :=
  h.kept (row := none) ⟨hb.os, hb.tape, hb.output, hb.size, fun k hk _ => hb.block k hk⟩ (by simp)
theorem MapS.less {w : World} {b n n' : Nat} {f : ByteArray → Option Value} (h : MapS w b n f) (e : n = n') : MapS w b n' f := e ▸ h
/-- 'v, ok := m[s]'. -/
theorem MapS.look {w : World} {b n : Nat} {f : ByteArray → Option Value} (h : MapS w b n f) {t e : TypeId} (ht : Tryz.prog.underlying t = some (.map 9 e)) {z : Value} (hz : (zeroValue e).run Tryz.prog w = .ok z w) (s : ByteArray) (hs : s.size ≤ maxLen) :
    (Instr.lookup t (.map (some b)) (.string s) true).run Tryz.prog w = .ok (.tuple #[(f s).getD z, .bool (f s).isSome]) w := by
  obtain ⟨D, h1, _, h3⟩ := h
  obtain ⟨v, ps, hr, hv⟩ := h1.look_ok keyed9 ht hz (zd := .held z) (zp := []) rfl (WideMaps.keyOf_string_mk Tryz.underlying9 hs)
  rw [show (Lit.string s.data.toList) = sk s from rfl, (h3 s).2 z] at hv
  have e1 : v = (f s).getD z := by
    simp only [R, Option.some.injEq, Prod.mk.injEq, DataW.held.injEq] at hv; exact hv.1
  rw [hr, e1, show (Lit.string s.data.toList) = sk s from rfl, (h3 s).1]
/-- 'm[s] = v'. -/
theorem MapS.put {w : World} {b n : Nat} {f : ByteArray → Option Value} (h : MapS w b n f) {t e : TypeId} (ht : Tryz.prog.underlying t = some (.map 9 e)) (hn : n < maxLen) (s : ByteArray) (hs : s.size ≤ maxLen) (v : Value) :
    ∃ w', (Instr.mapUpdate t (.map (some b)) (.string s) v).run Tryz.prog w = .ok () w' ∧ MapS w' b (n + 1) (fun d => if d = s then some v else f d) ∧ w.grownBy w' (some b) := by
  obtain ⟨D, h1, h2, h3⟩ := h
  obtain ⟨w', hr, ho, hg⟩ := h1.update keyed9 ht hn (key := .string s) (val := v) (d := .held v) (ps := []) (WideMaps.keyOf_string_mk Tryz.underlying9 hs) rfl
  refine ⟨w', hr, ⟨_, ho, ho.isMap, fun d => ?_⟩, hg⟩
  have hk : ∀ d, WideAt.IsKeyLit (sk d) := fun d => by simp [WideAt.IsKeyLit]
  rw [show (Lit.string s.data.toList) = sk s from rfl]
  by_cases hd : d = s
  · subst hd
    rw [has_put_same h2 (hk d)]
    refine ⟨by simp, fun z => ?_⟩
    rw [atKey_put_same h2 (hk d)]; simp
  · have hne : sk d ≠ sk s := fun e => hd (skS_inj e)
    simp only [has_put_other hne, if_neg hd]
    exact ⟨(h3 d).1, fun z => by rw [atKey_put_other hne]; exact (h3 d).2 z⟩
end Go.Proofs.YtfkoehfkiommpaaGreatDoor

namespace Go.Proofs.YtfkoehfkiommpaaGreatDoor
open Go.RowKit Go.Shelf Go.Maps

set_option maxRecDepth 100000 in
set_option maxHeartbeats 2000000 in
theorem source_by (k th N : Nat) (iv : Value) (tr fs : Value) (used now last : Int) (D : DataW Value) (d : List UInt8) (w : World) (hK : KnAt w k tr fs used now th last) (hM : w.ownsMap Tryz.prog 3 R th N D) (hN : N < 999999) (h0 : 0 ≤ last) (h1 : last < 4611686018427387903)
    (hn : d.length ≤ 1048576) (hB : ByAt w iv d) :
    Calls Tryz.prog 64 #[ptr k, iv] w fun r w' => ∃ e rv, r = .returned (.int .i64 (last + 1)) ∧ w.heap.size ≤ e ∧ SoAt w' e 0 rv ∧ w'.ownsRow w.heap.size 5 1 rv d.length (u8s d) ∧ KnAt w' k tr fs used now th (last + 1) ∧ w'.ownsMap Tryz.prog 3 R th (N + 1) (D.put (ik (last + 1)) (.held (iSo e))) ∧ Turn [k, th] w w' := by
  have hkl := h_lt hK
  have hml := hM.lt
  have hcl := bclone_by iv d w hn hB
  obtain ⟨xi, ci, rfl⟩ := hB.shape
  have HH := Lib.hid (And.intro hK hM)
  clear hK hM hB
  go_enter Tryz.func64, Tryz.ntmps64
  go_wp2_with fail
  refine hcl.mono ?_
  rintro e w1 ⟨rv, rfl, ho1, hB1⟩
  obtain ⟨a1, c1, rfl⟩ : ∃ a c, rv = .slice a d.length c := own_shape ho1
  obtain ⟨hK, hM⟩ := HH.out
  have hz1 := hB1.size
  have hU1 : Turn [k, th] w w1 := Turn.below hB1
  have hK1 : KnAt w1 k tr fs used now th last := (Turn.below (S := []) hB1).ob hK (by simp)
  have hM1 : w1.ownsMap Tryz.prog 3 R th N D := (Turn.below (S := []) hB1).map hM (by simp)
  have hadd := add_c k th N tr fs (iSo w1.heap.size) used now last D (w1.alloc (.cells #[.int .i64 0, .slice a1 d.length c1] 175)) (al_old _ hK1) (hM1.alloc _) (by omega) h0 (by omega)
  have HA := Lib.hid (And.intro ho1 hU1)
  clear hcl HH hK hM hK1 hM1 ho1 hU1 hB1
  go_wp2_with fail
  refine hadd.mono ?_
  rintro r w2 ⟨rfl, hK2, hM2, hU2⟩
  obtain ⟨ho1, hU1⟩ := HA.out
  clear hadd HA
  go_wp2_with fail
  go_ret
  refine ⟨w1.heap.size, .slice a1 d.length c1, rfl, hz1, hU2.ob (al_new _ _ rfl) (by simp; omega), own_turn (ho1.alloc _) hU2 (fun g hg e => by have := own_ge ho1 hg; simp at e; omega), hK2, hM2, (hU1.trans (Turn.alloc _ _)).trans hU2⟩


set_option maxRecDepth 100000 in
set_option maxHeartbeats 2000000 in
theorem sink_c (k th N : Nat) (tr fs : Value) (used now last : Int) (D : DataW Value) (w : World) (hK : KnAt w k tr fs used now th last) (hM : w.ownsMap Tryz.prog 3 R th N D) (hN : N < 999999) (h0 : 0 ≤ last) (h1 : last < 4611686018427387903) :
    Calls Tryz.prog 65 #[ptr k] w fun r w' => ∃ e, r = .returned (.int .i64 (last + 1)) ∧ w.heap.size ≤ e ∧ SkAt w' e 0 (.slice none 0 0) ∧ KnAt w' k tr fs used now th (last + 1) ∧ w'.ownsMap Tryz.prog 3 R th (N + 1) (D.put (ik (last + 1)) (.held (iSk e))) ∧ Turn [k, th] w w' := by
  have hkl := h_lt hK
  have hml := hM.lt
  have hadd := add_c k th N tr fs (iSk w.heap.size) used now last D (w.alloc (.cells #[.int .i64 0, .slice none 0 0] 178)) (al_old _ hK) (hM.alloc _) (by omega) h0 (by omega)
  clear hK hM
  go_enter Tryz.func65, Tryz.ntmps65
  go_wp2_with (go_at_call 106; refine hadd.mono ?_; rintro r w2 ⟨rfl, hK2, hM2, hU2⟩)
  go_ret
  exact ⟨w.heap.size, rfl, Nat.le_refl _, hU2.ob (al_new _ _ rfl) (by simp; omega), hK2, hM2, (Turn.alloc _ _).trans hU2⟩

set_option maxRecDepth 100000 in
set_option maxHeartbeats 2000000 in
theorem said_c (k th N s : Nat) (tr fs v : Value) (used now last c n : Int) (D : DataW Value) (d : List UInt8) (w : World) (hK : KnAt w k tr fs used now th last) (hM : w.ownsMap Tryz.prog 3 R th N D) (hn : (Lit.int .i64 n).wf = true) (hlk : lookT D (ik n) = iSk s) (hS : SkAt w s c v) (hB : ByAt w v d) (hd : d.length ≤ 1048576) :
    Calls Tryz.prog 68 #[ptr k, .int .i64 n] w fun r w' => ∃ v', r = .returned v' ∧ w'.ownsRow w.heap.size 5 1 v' d.length (u8s d) ∧ Below w.heap.size w w' := by
  have hcl := bclone_by v d w hd hB
  obtain ⟨xv, cv, rfl⟩ := hB.shape
  have s1 := h_cell hS 1 rfl
  have t1 := ta_sk_sk
  have hsd : Calls Tryz.prog 112 #[iSk s] w fun r w' => ∃ v', r = .returned v' ∧ w'.ownsRow w.heap.size 5 1 v' d.length (u8s d) ∧ Below w.heap.size w w' := by
    clear hK hM
    go_enter Tryz.func112, Tryz.ntmps112
    go_wp2_with (go_at_call 107; refine hcl.mono ?_; rintro r w2 ⟨v', rfl, ho, hB2⟩)
    go_ret
    exact ⟨v', rfl, ho, hB2⟩
  have k4 := h_cell hK 4 rfl
  have hl := lookTI hM hn
  rw [hlk] at hl
  clear hK hM hcl
  go_enter Tryz.func68, Tryz.ntmps68
  go_wp2_with (go_at_call 112; refine hsd.mono ?_; rintro r w2 ⟨v', rfl, ho, hB2⟩)
  go_ret
  exact ⟨v', rfl, ho, hB2⟩
set_option maxRecDepth 100000 in
set_option maxHeartbeats 1000000 in
theorem set_sk (t k fd e : Nat) (c : Int) (hs : Array Value) (w : World) (hT : TbAt w t k hs) (hfd : fd < 16) (hx : hs[fd]? = some .nilIface) (hc : w.cell? ⟨e, 0, none⟩ = some (.int .i64 c)) (hz : w.frozen? ⟨e, 0, none⟩ = false) (h0 : 0 ≤ c) (h1 : c < 4611686018427387904) (hne : t ≠ e) :
    Calls Tryz.prog 109 #[ptr t, .int .i64 fd, iSk e] w fun r w' => (∃ v, r = .returned v) ∧ w' = (w.setCell ⟨e, 0, none⟩ (.int .i64 (c + 1))).setCell ⟨t, 1 + fd, none⟩ (iSk e) := by
  have q1 := tb_cell hT fd hx
  have q3 : 0 ≤ (fd : Int) ∧ (fd : Int) < 16 := by omega
  have hT2 : TbAt (w.setCell ⟨e, 0, none⟩ (.int .i64 (c + 1))) t k hs := s_other hT hne
  have q4 := tb_cell hT2 fd hx
  have q5 := h_fz hT2 (1 + fd)
  have hT3 := tb_set hT2 fd (iSk e)
  have q6 := tb_kern hT3
  have hg := gain_c e c w hc hz h0 h1
  have hmm := m_gain_sk
  clear hT hT2 hT3
  go_enter Tryz.func109, Tryz.ntmps109
  go_wp2_with (first
    | (go_at_call 336; refine hg.mono ?_; rintro r w2 ⟨⟨v, rfl⟩, hw2⟩; rw [hw2]; clear hw2)
    | (go_at_call 131; refine (leave_nil k _).mono ?_; rintro r w3 ⟨⟨v, rfl⟩, hw3⟩; rw [hw3]; clear hw3))
  go_end0
  exact ⟨⟨_, rfl⟩, rfl⟩

end Go.Proofs.YtfkoehfkiommpaaGreatDoor
