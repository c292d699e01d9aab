/- The program's Parse keeps what is asked. -/
import Derived.WalkMore
import Derived.Deep.LoopGhost
import Derived.Test.YtgppaclfgekknaaOLett
namespace Go.Proofs.Ytgppaclfgekknaa
open Go.RowKit Go.Maps

theorem own_less {w : World} {base base' e s n : Nat} {v : Value} {xs : List Value} (h : w.ownsRow base e s v n xs) (hb : base' ≤ base) : w.ownsRow base' e s v n xs := by
  refine ⟨h.1, ?_⟩
  rcases h.2 with h | ⟨g, cap, cur, h1, h2, h3⟩
  · exact .inl h
  · exact .inr ⟨g, cap, cur, h1, Nat.le_trans hb h2, h3⟩
theorem told_end {w w1 wr w2 : World} {lv ov : Value} {l : Opts} {o : List ByteArray} (hb1 : Below w.heap.size w w1) (hb : Below w1.heap.size w1 wr) (hO : OptsAt wr w1.heap.size lv l) (hr : w2.ownsRow wr.heap.size 9 1 ov (0 + o.length) ([] ++ o.map .string)) (hg : wr.grownBy w2 none) :
    ToldC w (some (l, o)) (.returned (.tuple #[lv, ov, .int .i64 0])) w2 ∧ Below w.heap.size w w2 := by
  have h1 := hb1.size
  have h2 := hb.size
  have hb2 : Below wr.heap.size wr w2 := (Below.refl _ _).grown hg (Nat.le_refl _) (fun j ej => by cases ej)
  have hr' : w2.ownsRow wr.heap.size 9 1 ov o.length (o.map .string) := by simpa using hr
  exact ⟨⟨lv, ov, rfl, own_less (own_below hO hb2) h1, strs_own hr', .inr (own_less hr' (by omega))⟩, (hb1.trans (hb.mono h1)).trans (hb2.mono (by omega))⟩
theorem strs_slice {w : World} {v : Value} {ss : List ByteArray} (h : StrsAt w v ss) : ∃ x c, v = .slice x ss.length c := by
  rcases h with ⟨rfl, rfl⟩ | ⟨b, off, cap, rfl, _⟩
  · exact ⟨none, 0, rfl⟩
  · exact ⟨_, cap, rfl⟩
theorem strs_nth {w : World} {x : Option Addr} {n c k : Nat} {ss : List ByteArray} (h : StrsAt w (.slice x n c) ss) (hk : k < n) : ∃ b off, x = some ⟨b, off, none⟩ ∧ n ≤ c ∧ c ≤ 9223372036854775807 ∧ b < w.heap.size ∧ w.cell? ⟨b, off + k, none⟩ = some (.string (nth ss k)) := by
  rcases h with ⟨h, rfl⟩ | ⟨b, off, cap, h, h2, h3, h4⟩
  · cases h; omega
  · cases h; exact ⟨b, off, rfl, h2.1, h2.2, h3, h4 k hk⟩
theorem slice_from {w : World} {x : Option Addr} {n cv k : Nat} {ss : List ByteArray} (hn : n = ss.length) (h : StrsAt w (.slice x n cv) ss) (hk : k ≤ n) :
    ∃ y c, (∀ u : World, (Instr.sliceAt 22 (.slice x n cv) (some (.int .i64 k)) none none).run Try.prog u = .ok (.slice y (n - k) c) u) ∧ StrsAt w (.slice y (n - k) c) (ss.drop k) := by
  have u22 := Try.underlying22
  have z9 := Try.sizeOf9
  rcases h with ⟨h, rfl⟩ | ⟨b, off, cap, h, ⟨h1, h2⟩, h3, h4⟩
  · cases h
    obtain rfl : k = 0 := by omega
    refine ⟨none, 0, fun u => ?_, .inl ⟨by simp, by simp⟩⟩
    simp [Instr.sliceAt, go_sem, z9]
  · cases h
    by_cases hc : cv = k
    · subst hc
      have e : ss.length - cv = 0 := by omega
      have e1 : cv = ss.length := by omega
      refine ⟨some ⟨b, off, none⟩, 0, fun u => ?_, ?_⟩
      · subst e1
        simp [Instr.sliceAt, go_sem, z9]
      · rw [e]
        exact strs_end rfl (by omega) h3
    · refine ⟨some ⟨b, off + k, none⟩, cv - k, fun u => ?_, strs_cut rfl hk h1 h2 h3 h4⟩
      have e2 : (k : Int) ≤ (ss.length : Int) := by omega
      have e3 : ¬ cv - k = 0 := by omega
      simp [Instr.sliceAt, go_sem, z9, e2, hc]
theorem tot_drop (l : List ByteArray) (k : Nat) (h : k < l.length) : tot (l.drop k) = (nth l k).size + tot (l.drop (k + 1)) := by rw [drop_nth l k h, tot_cons]
theorem isOp_ne {a : ByteArray} (h : IsOp a) : a ≠ dashes := by
  rintro rfl
  rcases h with h | h
  · exact absurd h (by decide)
  · exact h rfl
theorem ne_dash {a : ByteArray} (h : a.data.toList ≠ [45]) : (a.toList == [45]) = false := by rw [beq_eq_false_iff_ne, ByteArray.toList_eq]; exact h
theorem dashes_of {a : ByteArray} (h0 : a.data.toList.head? = some 45) (h : a.data.toList.drop 1 = [45]) : a = dashes := by
  cases a with | mk d =>
  simp only [dashes]; congr; rw [← Array.toList_inj]
  generalize d.toList = l at *
  match l, h0, h with
  | x :: r, h0, h => simp at h0 h; rw [h0, h]

set_option maxHeartbeats 4000000 in
set_option maxRecDepth 100000 in
theorem parse_c (v : Value) (args : List ByteArray) (spec : ByteArray) (w : World) (hs : spec.size ≤ 2097152) (ht : tot args ≤ 2097152) (hlen : args.length ≤ 2097152) (hA : StrsAt w v args) :
    Calls Try.prog 6 #[v, .string spec] w fun e w' => ToldC w (parseS spec [] args) e w' ∧ Below w.heap.size w w' := by
  obtain ⟨i0, hi, hz0, hz1, hz2⟩ := info_parts2 info_opt
  obtain ⟨R, hR⟩ : ∃ R, R = parseS spec [] args := ⟨_, rfl⟩
  rw [← hR]
  obtain ⟨xv, cv, rfl⟩ := strs_slice hA
  have HR : Hid (R = parseS spec [] (args.drop 0)) := by rw [List.drop_zero]; exact Lib.hid hR
  have HT : Hid (([] : Opts).length + tot (args.drop 0) ≤ 2097152) := by rw [List.drop_zero]; exact Lib.hid (by simpa using ht)
  have HU := Lib.hid Try.underlying37
  have HA := Lib.hid hA
  generalize hn : args.length = n at hlen HA ⊢
  have HN := Lib.hid hn
  clear ht hA hR hn
  go_enter Try.func6, Try.ntmps6
  go_wp2_with fail
  go_step3
  go_wp2_with (go_at_call 13; refine (letters_c spec w hs).mono ?_; rintro e w1 ⟨rfl, ⟨nm, hM1⟩, hb1⟩)
  go_step3
  go_wp2_with fail
  have HM1 := Lib.hid hM1
  have HB1 := Lib.hid hb1
  have HA1 : Hid (StrsAt w1 (.slice xv n cv) args) := HA.out.below hb1
  clear hM1 hb1 HA
  go_loopw [8, 9] (fun lv kv wr => ∃ (l : Opts) (k : Nat), k ≤ n ∧ kv = .int .i64 k ∧ Hid (R = parseS spec l (args.drop k)) ∧ Hid (l.length + tot (args.drop k) ≤ 2097152) ∧ Hid (OptsAt wr w1.heap.size lv l) ∧ Hid (Below w1.heap.size w1 wr)) (fun _ kv _ => n - (intOf kv).toNat)
  case atStart => exact ⟨[], 0, by omega, rfl, HR, HT, World.ownsRow_nil _ _ _ _, Below.refl _ _⟩
  case round =>
    obtain ⟨l, k, hk, rfl, HI, HTl, HO, HB⟩ := hrel
    clear HR HT
    obtain ⟨x2, c2, hsl, hS2⟩ := slice_from HN.out.symm HA1.out hk
    have HS2 : Hid (StrsAt wr (.slice x2 (n - k) c2) (args.drop k)) := hS2.below HB.out
    clear hS2
    by_cases hlt : k < n
    · obtain ⟨b, off, rfl, hle, hcap, hbw, hc0⟩ := strs_nth HA1.out hlt
      have hcx : wr.cell? ⟨b, off + k, none⟩ = some (.string (nth args k)) := (HB.out.cell (p := ⟨b, off + k, none⟩) hbw).trans hc0
      have HJ := HI.out
      have HTt := HTl.out
      rw [tot_drop args k (by rw [HN.out]; exact hlt)] at HTt
      rw [drop_nth args k (by rw [HN.out]; exact hlt)] at HJ
      clear hc0 HI HTl
      have hda := drop_nth args k (by rw [HN.out]; exact hlt)
      generalize nth args k = a at hcx HJ HTt hda
      have hop := isOp_c a wr (by omega)
      by_cases ho : IsOp a
      · rw [parseS_stop _ _ _ _ (isOp_ne ho) ho, ← hda] at HJ
        have HJ' := Lib.hid HJ
        simp only [ho, decide_true] at hop
        clear HJ HTt ho hda
        go_wp2_with (first | (go_at_call 14; refine hop.mono ?_; rintro e wr ⟨rfl, rfl⟩) | (at_builtin; refine wpList_append_strs rfl _ _ rfl wr.heap.size _ 0 [] rfl (World.ownsRow_nil _ _ _ _) _ (args.drop k) rfl HS2.out (by rw [List.length_drop, HN.out]; omega) (Nat.le_refl _) ?_; intro v2 w2 hown2 hgrow2))
        rw [Exit.noGoto_ret]
        go_ret3
        have e := HJ'.out; subst e
        exact told_end HB1.out HB.out HO.out hown2 hgrow2
      · simp only [ho, decide_false] at hop
        have h2 : ¬ a.size < 2 := fun h => ho (.inl h)
        have hh : a.data.toList.head? = some 45 := Classical.byContradiction fun h => ho (.inr h)
        obtain ⟨k', hk'⟩ : ∃ k', k' = k + 1 := ⟨_, rfl⟩
        have HK : Hid (((k : Int) + 1) = (k' : Int)) := Lib.hid (by omega)
        rw [← hk'] at hda HJ HTt
        have hkn : k' ≤ n := by omega
        obtain ⟨x3, c3, hsl3, hS3⟩ := slice_from HN.out.symm HA1.out hkn
        have HS3 : Hid (StrsAt wr (.slice x3 (n - k') c3) (args.drop k')) := hS3.below HB.out
        clear hS3 HS2 hsl
        have hgl : (a.extract 1 a.size).data.toList = a.data.toList.drop 1 := by rw [by_tail]
        have hgz : (a.extract 1 a.size).size = a.size - 1 := by simp
        have hex : (1 : Int) ≤ (a.size : Int) := by omega
        rw [← HK.out] at hsl3
        have HKK := Lib.hid hk'
        have HGZ := Lib.hid hgz
        clear hk'
        by_cases hdd : a = dashes
        · rw [parseS_dd _ _ _ _ hdd] at HJ
          have HJ' := Lib.hid HJ
          have hge : ((a.extract 1 a.size).toList == [45]) = true := by rw [ByteArray.toList_eq, hgl, hdd]; rfl
          clear HJ HTt ho hda hh hgl hdd hgz
          go_wp2_with (first | (go_at_call 14; refine hop.mono ?_; rintro e wr ⟨rfl, rfl⟩) | (at_builtin; refine wpList_append_strs rfl _ _ rfl wr.heap.size _ 0 [] rfl (World.ownsRow_nil _ _ _ _) _ (args.drop k') rfl HS3.out (by rw [List.length_drop, HN.out]; omega) (Nat.le_refl _) ?_; intro v2 w2 hown2 hgrow2))
          rw [Exit.noGoto_ret]
          go_ret3
          have e := HJ'.out; subst e
          exact told_end HB1.out HB.out HO.out hown2 hgrow2
        · have hge : ((a.extract 1 a.size).toList == [45]) = false := ne_dash (fun e => hdd (dashes_of hh (hgl ▸ e)))
          rw [parseS_go _ _ _ _ hdd ho, ← hgl] at HJ
          have HTg : l.length + (a.extract 1 a.size).size + tot (args.drop k') ≤ 2097152 := by rw [hgz]; omega
          clear HTt ho hda hh hgl hdd hgz HS3 hsl3
          go_wp2_with (go_at_call 14; refine hop.mono ?_; rintro e wr ⟨rfl, rfl⟩)
          rw [← HGZ.out, HK.out]
          clear HGZ
          generalize a.extract 1 a.size = g at *
          have HJ' : Hid (R = goS spec l (g.data.toList.drop 0) (args.drop k')) := HJ
          have HT' : Hid (l.length + (g.size - 0) + tot (args.drop k') ≤ 2097152) := HTg
          have hgs : g.size ≤ 2097152 := by omega
          clear HJ HTg hop hge hcx
          go_loopw [8, 9, 36] (fun lv kv mv wi => ∃ (m : Nat) (l' : Opts), m ≤ g.size ∧ mv = .int .i64 m ∧ kv = .int .i64 k' ∧ Hid (R = goS spec l' (g.data.toList.drop m) (args.drop k')) ∧ Hid (l'.length + (g.size - m) + tot (args.drop k') ≤ 2097152) ∧ Hid (OptsAt wi w1.heap.size lv l') ∧ Hid (Below w1.heap.size w1 wi)) (fun _ _ mv _ => g.size - (intOf mv).toNat)
          case atStart => exact ⟨0, l, by omega, rfl, rfl, HJ', HT', HO, HB⟩
          case round =>
            obtain ⟨m, l', hm, rfl, rfl, HI, HM, HO2, HB2⟩ := hrel
            clear HJ' HT' HO HB
            by_cases hml : m < g.size
            · have HJ := HI.out
              have HT := HM.out
              rw [by_drop g m hml] at HJ
              have hll : l'.length ≤ 2097152 := by omega
              clear HI HM
              have hlk := (HM1.out.below HB2.out).look1 HU.out (zeroKind wr) g[m]
              rw [letF_all] at hlk
              by_cases hk0 : kindS spec g[m] = 0
              · rw [goS_0 hk0] at HJ
                rw [hk0] at hlk
                simp only [if_pos, Option.getD_none] at hlk
                have HJ' := Lib.hid HJ
                clear HJ HT hk0
                go_wp2_with fail
                rw [Exit.noGoto_ret]
                go_ret3
                have e := HJ'.out; subst e
                exact ⟨⟨_, _, rfl, World.ownsRow_nil _ _ _ _, .inl ⟨rfl, rfl⟩, .inl rfl⟩, HB1.out.trans (HB2.out.mono HB1.out.size)⟩
              by_cases hk1 : kindS spec g[m] = 1
              · rw [goS_1 hk1] at HJ
                rw [hk1] at hlk
                simp only [Nat.one_ne_zero, if_false, Option.getD_some] at hlk
                have HJ' := Lib.hid HJ
                have HT' : Hid ((l' ++ [(g[m], (⟨#[]⟩ : ByteArray))]).length + (g.size - (m + 1)) + tot (args.drop k') ≤ 2097152) := by show _ ≤ _; rw [List.length_append, List.length_singleton]; omega
                clear HJ HT hk0 hk1
                go_wp2_with (at_builtin; refine wpList_append_own _ rfl _ _ 24 rfl w1.heap.size 35 i0 (.agg #[.int .u8 0, .string ⟨#[]⟩]) 2 24 Try.underlying24 hi hz0 hz1 hz2 rfl (by decide) _ _ _ rfl (HO2.out.alloc _) ⟨wr.heap.size, 0, none⟩ 1 1 [.int .u8 (g[m].toNat : Int), .string ⟨#[]⟩] rfl rfl (cell_two_new _ _ _ _) (by simp [Value.oneCell']) (by unfold maxLen; omega) (by omega) (by have := HB2.out.size; simp; omega) ?_; intro v2 w2 hown2 hgrow2 _)
                have hbw2 : Below w1.heap.size w1 w2 := (HB2.out.alloc HB2.out.size _).grown hgrow2 (by have := HB2.out.size; simp; omega) (fun j ej => own_ge2 HO2.out j ej)
                exact ⟨⟨m + 1, _, by omega, by go_num, rfl, HJ', HT', opts_snoc hown2, hbw2⟩, by simp [intOf]; omega⟩
              · have hk2 : kindS spec g[m] = 2 := by have := kindS_le spec g[m]; omega
                rw [hk2] at hlk
                simp only [if_false, Option.getD_some, show ¬ (2 : Nat) = 0 from by decide] at hlk
                have hm1 : IntKind.i64.wrap ((m : Int) + 1) = (m : Int) + 1 := IntWalk.i64_in _ (by omega)
                by_cases hm2 : m + 1 < g.size
                · rw [goS_2 hk0 hk1 (by rw [by_drop g (m + 1) hm2]; simp), ← by_tail g (m + 1)] at HJ
                  have HJ' := Lib.hid HJ
                  have HT' : Hid ((l' ++ [(g[m], g.extract (m + 1) g.size)]).length + tot (args.drop k') ≤ 2097152) := by show _ ≤ _; rw [List.length_append, List.length_singleton]; omega
                  have hne : ((g.extract (m + 1) g.size).toList == []) = false := by
                    rw [beq_eq_false_iff_ne, ByteArray.toList_eq, by_tail]
                    show g.data.toList.drop (m + 1) ≠ []
                    rw [by_drop g (m + 1) hm2]; simp
                  have hw2 : 0 ≤ (m : Int) + 1 ∧ (m : Int) + 1 ≤ (g.size : Int) := by omega
                  have hw3 : ((m : Int) + 1).toNat = m + 1 := by omega
                  clear HJ HT hk0 hk1 hk2
                  go_wp2_with (at_builtin; refine wpList_append_own _ rfl _ _ 24 rfl w1.heap.size 35 i0 (.agg #[.int .u8 0, .string ⟨#[]⟩]) 2 24 Try.underlying24 hi hz0 hz1 hz2 rfl (by decide) _ _ _ rfl (HO2.out.alloc _) ⟨wr.heap.size, 0, none⟩ 1 1 [.int .u8 (g[m].toNat : Int), .string (g.extract (m + 1) g.size)] rfl rfl (cell_two_new _ _ _ _) (by simp [Value.oneCell']) (by unfold maxLen; omega) (by omega) (by have := HB2.out.size; simp; omega) ?_; intro v2 w2 hown2 hgrow2 _)
                  have hbw2 : Below w1.heap.size w1 w2 := (HB2.out.alloc HB2.out.size _).grown hgrow2 (by have := HB2.out.size; simp; omega) (fun j ej => own_ge2 HO2.out j ej)
                  exact ⟨⟨_, k', hkn, rfl, HJ', HT', opts_snoc hown2, hbw2⟩, by have := HKK.out; simp [intOf]; omega⟩
                · have hme : m + 1 = g.size := by omega
                  rw [by_drop_end g (m + 1) (by omega)] at HJ
                  have hemp : ((g.extract (m + 1) g.size).toList == []) = true := by
                    rw [ByteArray.toList_eq, by_tail]
                    show (g.data.toList.drop (m + 1) == []) = true
                    rw [by_drop_end g (m + 1) (by omega)]; rfl
                  have hw2 : 0 ≤ (m : Int) + 1 ∧ (m : Int) + 1 ≤ (g.size : Int) := by omega
                  have hw3 : ((m : Int) + 1).toNat = m + 1 := by omega
                  by_cases hkl : k' < n
                  · obtain ⟨b2, off2, hx, _, _, _, hc2⟩ := strs_nth HA1.out hkl
                    cases hx
                    have hcx2 : wr.cell? ⟨b, off + k', none⟩ = some (.string (nth args k')) := (HB2.out.cell (p := ⟨b, off + k', none⟩) hbw).trans hc2
                    rw [drop_nth args k' (by rw [HN.out]; exact hkl), goS_4 hk0 hk1] at HJ
                    rw [tot_drop args k' (by rw [HN.out]; exact hkl)] at HT
                    clear hc2
                    generalize nth args k' = sj at hcx2 HJ HT
                    have HJ' := Lib.hid HJ
                    have HT' : Hid ((l' ++ [(g[m], sj)]).length + tot (args.drop (k' + 1)) ≤ 2097152) := by show _ ≤ _; rw [List.length_append, List.length_singleton]; omega
                    have hkq : ¬ ((k' : Int) = (n : Int)) := by omega
                    clear HJ HT hk0 hk1 hk2 hme
                    go_wp2_with (at_builtin; refine wpList_append_own _ rfl _ _ 24 rfl w1.heap.size 35 i0 (.agg #[.int .u8 0, .string ⟨#[]⟩]) 2 24 Try.underlying24 hi hz0 hz1 hz2 rfl (by decide) _ _ _ rfl (HO2.out.alloc _) ⟨wr.heap.size, 0, none⟩ 1 1 [.int .u8 (g[m].toNat : Int), .string sj] rfl rfl (cell_two_new _ _ _ _) (by simp [Value.oneCell']) (by unfold maxLen; omega) (by omega) (by have := HB2.out.size; simp; omega) ?_; intro v2 w2 hown2 hgrow2 _)
                    have hbw2 : Below w1.heap.size w1 w2 := (HB2.out.alloc HB2.out.size _).grown hgrow2 (by have := HB2.out.size; simp; omega) (fun j ej => own_ge2 HO2.out j ej)
                    exact ⟨⟨_, k' + 1, hkl, by go_num, HJ', HT', opts_snoc hown2, hbw2⟩, by have := HKK.out; simp [intOf]; omega⟩
                  · obtain rfl : k' = n := by omega
                    rw [List.drop_eq_nil_of_le (by rw [HN.out]; omega), goS_3 hk0 hk1] at HJ
                    have HJ' := Lib.hid HJ
                    clear HJ HT hk0 hk1 hk2 hme
                    go_wp2_with fail
                    rw [Exit.noGoto_ret]
                    go_ret3
                    have e := HJ'.out; subst e
                    exact ⟨⟨_, _, rfl, World.ownsRow_nil _ _ _ _, .inl ⟨rfl, rfl⟩, .inl rfl⟩, HB1.out.trans (HB2.out.mono HB1.out.size)⟩
            · have HJ := HI.out
              have HT := HM.out
              obtain rfl : m = g.size := by omega
              rw [by_drop_end g g.size (Nat.le_refl _), goS_nil] at HJ
              have HJ' := Lib.hid HJ
              have HT' : Hid (l'.length + tot (args.drop k') ≤ 2097152) := by show _ ≤ _; omega
              have hI : ¬ ((g.size : Int) < (g.size : Int)) := by omega
              clear HI HM HJ HT
              go_wp2
              exact ⟨⟨l', k', hkn, rfl, HJ', HT', HO2, HB2⟩, by have := HKK.out; simp [intOf]; omega⟩
    · obtain rfl : k = n := by omega
      have HJ : Hid (R = some (l, args.drop k)) := by have := HI.out; rw [List.drop_eq_nil_of_le (by rw [HN.out]; omega), parseS_nil] at this; rw [List.drop_eq_nil_of_le (by rw [HN.out]; omega)]; exact Lib.hid this
      have hI : ¬ ((k : Int) < (k : Int)) := by omega
      rw [Nat.sub_self] at hsl
      have HS3 : Hid (StrsAt wr (.slice x2 0 c2) (args.drop k)) := by have := HS2.out; rw [Nat.sub_self] at this; exact this
      clear HI HTl HS2
      go_wp2_with (at_builtin; refine wpList_append_strs rfl _ _ rfl wr.heap.size _ 0 [] rfl (World.ownsRow_nil _ _ _ _) _ (args.drop k) rfl HS3.out (by rw [List.length_drop, HN.out]; omega) (Nat.le_refl _) ?_; intro v2 w2 hown2 hgrow2)
      go_ret3
      have e := HJ.out; subst e
      exact told_end HB1.out HB.out HO.out hown2 hgrow2
end Go.Proofs.Ytgppaclfgekknaa
