/- The walk of the first law. -/
import Derived.Test.YtgppaclfgekknaaOLaw
namespace Go.Proofs.Ytgppaclfgekknaa
open Go.RowKit

theorem bne_self_int (x : Int) : (x != x) = false := by simp
theorem bne_self_bool (x : Bool) : (x != x) = false := by simp

set_option maxHeartbeats 4000000 in
set_option maxRecDepth 100000 in
/-- Behind 'own': both answers, their comparison, the questions, the writing over, the comparison once more. -/
theorem parses_some (S : Says) (hW : Wakes) (b off cap : Nat) (args : List ByteArray) (spec : ByteArray) (c : UInt8) (w : World) (hs : spec.size ≤ 2097152) (ht : tot args ≤ 2097152) (hlen : args.length ≤ 2097152) (hlc : args.length ≤ cap) (hcap : cap ≤ 9223372036854775807) (hb : b < w.heap.size) (hc : ∀ j, j < args.length → w.cell? ⟨b, off + j, none⟩ = some (.string (nth args j))) :
    Calls Try.prog 3 #[.slice (some ⟨b, off, none⟩) args.length cap, .string spec, .int .u8 (c.toNat : Int)] w fun e w' => e = .returned (.bool true) ∧ Below w.heap.size w w' := by
  obtain ⟨i0, hi, hz0, hz1, hz2⟩ := info_parts2 info_str
  have HA : Hid (StrsAt w (.slice (some ⟨b, off, none⟩) args.length cap) args) := .inr ⟨b, off, cap, rfl, ⟨hlc, hcap⟩, hb, hc⟩
  have HC := Lib.hid hc
  have hol := opts_le spec args
  have hrl := rest_le spec args
  have HP := Lib.hid (fun v w => S.parse v args spec w hs ht hlen)
  have HQ := Lib.hid (fun v w => refParse_c v args spec w hs ht hlen)
  have HH := Lib.hid S.has
  have HL := Lib.hid S.last
  have HW := Lib.hid hW
  clear hc S hW
  generalize parseS spec [] args = R at hol hrl HP HQ
  have hol2 : (optsOf R).length ≤ 2097152 := by omega
  have hrl2 : (restOf R).length ≤ 2097152 := by omega
  have hx1 := bne_self_int (codeOf R)
  have hx2 := bne_self_bool (hasS (optsOf R) c)
  generalize hn : args.length = n at *
  have HN := Lib.hid hn
  clear hn hol hrl
  go_enter Try.func3, Try.ntmps3
  go_wp2_with (first
    | (go_at_call 5; refine (HW.out _).mono ?_; rintro e w1 ⟨rfl, hb1⟩)
    | (at_builtin; refine wpList_append_own _ rfl _ _ 22 rfl w.heap.size 9 i0 (.string ⟨#[]⟩) 1 16 Try.underlying22 hi hz0 hz1 hz2 rfl (by decide) _ 0 [] rfl (World.ownsRow_nil _ _ _ _) ⟨b, off, none⟩ n cap (args.map .string) rfl (by rw [List.length_map, HN.out, Nat.mul_one]) (strs_news (cells_below hb1 hb HC.out) HN.out) (strs_one args) (by unfold maxLen; omega) (by omega) hb1.size ?_; intro ow w2 hown hgrow2 _))
  have hb2 : Below w.heap.size w w2 := hb1.grown hgrow2 hb1.size (fun k e => by cases e)
  have HOW : Hid (StrsAt w2 ow args) := strs_own (by rw [HN.out]; simpa using hown)
  have HA2 : Hid (StrsAt w2 (.slice (some ⟨b, off, none⟩) n cap) args) := HA.out.below hb2
  clear HA HC hown hgrow2 hb1
  go_wp2_with (first
    | (go_at_call 6; refine (HP.out ow w2 HOW.out).mono ?_; rintro e w3 ⟨⟨la, va, rfl, hoa, hra⟩, hb3⟩; obtain ⟨xa, ca, rfl⟩ := ptr_some hra.1)
    | (go_at_call 7; refine (HQ.out _ w3 (HA2.out.below hb3)).mono ?_; rintro e w4 ⟨htold, hb4⟩; obtain ⟨lb, vb, rfl, hob, hrb⟩ := told_ref htold))
  have HM : Hid (Mid w2 w4 la lb (.slice xa (restOf R).length ca) vb (optsOf R) (restOf R)) := ⟨⟨_, own_below hoa hb4⟩, ⟨_, hob⟩, hra.below hb4, hrb, hb3.trans (hb4.mono hb3.size)⟩
  clear hoa hra hb3 htold hb4 hob hrb HP HQ
  obtain ⟨ba, hoa⟩ := HM.out.a
  obtain ⟨bb, hob⟩ := HM.out.b
  have hsm := same_yes ba bb la lb _ vb (optsOf R) (restOf R) w4 hol2 hrl2 hoa hob HM.out.c.1 HM.out.d
  have hBB : ((optsOf R).any fun _ => false) = ((optsOf R).any fun _ => false) := rfl
  clear hBB
  go_wp2_with (first
    | (go_at_call 8; refine hsm.mono ?_; rintro e w5 ⟨rfl, m5, hw5⟩; have HM5 : Hid (Mid w2 w5 la lb (.slice xa (restOf R).length ca) vb (optsOf R) (restOf R)) := HM.out.below (by rw [hw5]; exact below_drewN2 (Below.refl _ _) m5); clear hw5)
    | (go_at_call 9; refine (HH.out _ la (optsOf R) c w5 hol2 HM5.out.a.choose_spec).mono ?_; rintro e w6 ⟨rfl, hb6⟩; have HM6 := Lib.hid (HM5.out.below hb6); clear hb6)
    | (go_at_call 10; refine (refHas_c _ lb (optsOf R) c w6 hol2 HM6.out.b.choose_spec).mono ?_; rintro e w' ⟨rfl, hw'⟩; rw [hw']; clear hw'))
  have hla := HL.out _ la (optsOf R) c w6 hol2 HM6.out.a.choose_spec
  rcases hls : lastS (optsOf R) c with _ | s
  all_goals
    rw [hls] at hla
    simp only [lastV] at hla
  · skip
    go_wp2_with (first
      | (go_at_call 11; refine hla.mono ?_; rintro e w7 ⟨rfl, hb7⟩; have HM7 := Lib.hid (HM6.out.below hb7); clear hb7)
      | (go_at_call 12; refine (refLast_c _ lb (optsOf R) c w7 hol2 HM7.out.b.choose_spec).mono ?_; rw [hls]; simp only [lastV]; rintro e w' ⟨rfl, hw'⟩; rw [hw']; clear hw'))
    have HZ := Lib.hid (mid_row HM7.out rfl)
    have HB := Lib.hid HM7.out.bl
    clear hla hls HM HM5 HM6 HM7 HH HL HW hsm hoa hob
    generalize (restOf R).length = K at *
    go_loopw [20] (fun i wr => ∃ j : Nat, j ≤ K ∧ i = .int .i64 j ∧ Hid (RowAt wr w2.heap.size xa K) ∧ Hid (Below w2.heap.size w2 wr)) (fun i _ => K - (intOf i).toNat)
    case atStart => exact ⟨0, by omega, rfl, HZ, HB⟩
    case round =>
      obtain ⟨j, hj, rfl, HZ', HB'⟩ := hrel
      clear HZ HB
      by_cases hlt : j < K
      · obtain ⟨g, cur, rfl, hg1, hg2, hg3⟩ := HZ'.out (by omega)
        have c0 : wr.cell? ⟨g, j, none⟩ = some cur[j] := by simp [World.cell?, hg2]
        have z0 : wr.frozen? ⟨g, j, none⟩ = false := by simp [World.frozen?, hg2]
        have hjI : (j : Int) < (K : Int) := by omega
        have HG := Lib.hid hg2
        clear hg2
        go_wp2
        refine ⟨⟨j + 1, by omega, by go_num, fun _ => ⟨g, cur.setIfInBounds j (.string ⟨#[63]⟩), rfl, hg1, by simp [World.setCell, Array.getElem?_modify, HG.out], by simpa using hg3⟩, HB'.out.setCell (p := ⟨g, j, none⟩) hg1 _⟩, by simp [intOf]; omega⟩
      · have hjI : ¬ ((j : Int) < (K : Int)) := by omega
        have hsm := same_yes 0 0 (.slice none 0 0) (.slice none 0 0) ow (.slice (some ⟨b, off, none⟩) n cap) [] args wr (by simp) (by rw [HN.out]; exact hlen) (World.ownsRow_nil _ _ _ _) (World.ownsRow_nil _ _ _ _) (HOW.out.below HB'.out) (HA2.out.below HB'.out)
        clear HZ'
        go_wp2_with (go_at_call 8; refine hsm.mono ?_; rintro e w9 ⟨rfl, m9, hw9⟩)
        go_ret
        refine ⟨rfl, ?_⟩
        clear hw9
        exact below_drewN2 (hb2.trans (HB'.out.mono hb2.size)) m9
  · have hss := str_self s
    go_wp2_with (first
      | (go_at_call 11; refine hla.mono ?_; rintro e w7 ⟨rfl, hb7⟩; have HM7 := Lib.hid (HM6.out.below hb7); clear hb7)
      | (go_at_call 12; refine (refLast_c _ lb (optsOf R) c w7 hol2 HM7.out.b.choose_spec).mono ?_; rw [hls]; simp only [lastV]; rintro e w' ⟨rfl, hw'⟩; rw [hw']; clear hw'))
    have HZ := Lib.hid (mid_row HM7.out rfl)
    have HB := Lib.hid HM7.out.bl
    clear hla hls HM HM5 HM6 HM7 HH HL HW hsm hoa hob
    generalize (restOf R).length = K at *
    go_loopw [20] (fun i wr => ∃ j : Nat, j ≤ K ∧ i = .int .i64 j ∧ Hid (RowAt wr w2.heap.size xa K) ∧ Hid (Below w2.heap.size w2 wr)) (fun i _ => K - (intOf i).toNat)
    case atStart => exact ⟨0, by omega, rfl, HZ, HB⟩
    case round =>
      obtain ⟨j, hj, rfl, HZ', HB'⟩ := hrel
      clear HZ HB
      by_cases hlt : j < K
      · obtain ⟨g, cur, rfl, hg1, hg2, hg3⟩ := HZ'.out (by omega)
        have c0 : wr.cell? ⟨g, j, none⟩ = some cur[j] := by simp [World.cell?, hg2]
        have z0 : wr.frozen? ⟨g, j, none⟩ = false := by simp [World.frozen?, hg2]
        have hjI : (j : Int) < (K : Int) := by omega
        have HG := Lib.hid hg2
        clear hg2
        go_wp2
        refine ⟨⟨j + 1, by omega, by go_num, fun _ => ⟨g, cur.setIfInBounds j (.string ⟨#[63]⟩), rfl, hg1, by simp [World.setCell, Array.getElem?_modify, HG.out], by simpa using hg3⟩, HB'.out.setCell (p := ⟨g, j, none⟩) hg1 _⟩, by simp [intOf]; omega⟩
      · have hjI : ¬ ((j : Int) < (K : Int)) := by omega
        have hsm := same_yes 0 0 (.slice none 0 0) (.slice none 0 0) ow (.slice (some ⟨b, off, none⟩) n cap) [] args wr (by simp) (by rw [HN.out]; exact hlen) (World.ownsRow_nil _ _ _ _) (World.ownsRow_nil _ _ _ _) (HOW.out.below HB'.out) (HA2.out.below HB'.out)
        clear HZ'
        go_wp2_with (go_at_call 8; refine hsm.mono ?_; rintro e w9 ⟨rfl, m9, hw9⟩)
        go_ret
        refine ⟨rfl, ?_⟩
        clear hw9
        exact below_drewN2 (hb2.trans (HB'.out.mono hb2.size)) m9
set_option maxHeartbeats 4000000 in
set_option maxRecDepth 100000 in
/-- Behind 'own': both answers, their comparison, the questions, the writing over, the comparison once more. -/
theorem parses_nil (S : Says) (hW : Wakes) (spec : ByteArray) (c : UInt8) (w : World) (hs : spec.size ≤ 2097152) :
    Calls Try.prog 3 #[.slice none 0 0, .string spec, .int .u8 (c.toNat : Int)] w fun e w' => e = .returned (.bool true) ∧ Below w.heap.size w w' := by
  have ht : tot [] ≤ 2097152 := by simp [tot]
  have hlen : ([] : List ByteArray).length ≤ 2097152 := by simp
  obtain ⟨args, hargs⟩ : ∃ args : List ByteArray, args = [] := ⟨_, rfl⟩
  rw [← hargs] at ht hlen
  have hol := opts_le spec args
  have hrl := rest_le spec args
  have HP := Lib.hid (fun v w => S.parse v args spec w hs ht hlen)
  have HQ := Lib.hid (fun v w => refParse_c v args spec w hs ht hlen)
  have HH := Lib.hid S.has
  have HL := Lib.hid S.last
  have HW := Lib.hid hW
  clear S hW
  generalize parseS spec [] args = R at hol hrl HP HQ
  have hol2 : (optsOf R).length ≤ 2097152 := by omega
  have hrl2 : (restOf R).length ≤ 2097152 := by omega
  have hx1 := bne_self_int (codeOf R)
  have hx2 := bne_self_bool (hasS (optsOf R) c)
  clear hol hrl
  go_enter Try.func3, Try.ntmps3
  go_wp2_with (go_at_call 5; refine (HW.out _).mono ?_; rintro e w2 ⟨rfl, hb2⟩)
  have HOW : Hid (StrsAt w2 (.slice none 0 0) args) := .inl ⟨rfl, hargs⟩
  have HA2 := HOW
  clear hargs
  go_wp2_with (first
    | (go_at_call 6; refine (HP.out _ w2 HOW.out).mono ?_; rintro e w3 ⟨⟨la, va, rfl, hoa, hra⟩, hb3⟩; obtain ⟨xa, ca, rfl⟩ := ptr_some hra.1)
    | (go_at_call 7; refine (HQ.out _ w3 (HA2.out.below hb3)).mono ?_; rintro e w4 ⟨htold, hb4⟩; obtain ⟨lb, vb, rfl, hob, hrb⟩ := told_ref htold))
  have HM : Hid (Mid w2 w4 la lb (.slice xa (restOf R).length ca) vb (optsOf R) (restOf R)) := ⟨⟨_, own_below hoa hb4⟩, ⟨_, hob⟩, hra.below hb4, hrb, hb3.trans (hb4.mono hb3.size)⟩
  clear hoa hra hb3 htold hb4 hob hrb HP HQ
  obtain ⟨ba, hoa⟩ := HM.out.a
  obtain ⟨bb, hob⟩ := HM.out.b
  have hsm := same_yes ba bb la lb _ vb (optsOf R) (restOf R) w4 hol2 hrl2 hoa hob HM.out.c.1 HM.out.d
  have hBB : ((optsOf R).any fun _ => false) = ((optsOf R).any fun _ => false) := rfl
  clear hBB
  go_wp2_with (first
    | (go_at_call 8; refine hsm.mono ?_; rintro e w5 ⟨rfl, m5, hw5⟩; have HM5 : Hid (Mid w2 w5 la lb (.slice xa (restOf R).length ca) vb (optsOf R) (restOf R)) := HM.out.below (by rw [hw5]; exact below_drewN2 (Below.refl _ _) m5); clear hw5)
    | (go_at_call 9; refine (HH.out _ la (optsOf R) c w5 hol2 HM5.out.a.choose_spec).mono ?_; rintro e w6 ⟨rfl, hb6⟩; have HM6 := Lib.hid (HM5.out.below hb6); clear hb6)
    | (go_at_call 10; refine (refHas_c _ lb (optsOf R) c w6 hol2 HM6.out.b.choose_spec).mono ?_; rintro e w' ⟨rfl, hw'⟩; rw [hw']; clear hw'))
  have hla := HL.out _ la (optsOf R) c w6 hol2 HM6.out.a.choose_spec
  rcases hls : lastS (optsOf R) c with _ | s
  all_goals
    rw [hls] at hla
    simp only [lastV] at hla
  · skip
    go_wp2_with (first
      | (go_at_call 11; refine hla.mono ?_; rintro e w7 ⟨rfl, hb7⟩; have HM7 := Lib.hid (HM6.out.below hb7); clear hb7)
      | (go_at_call 12; refine (refLast_c _ lb (optsOf R) c w7 hol2 HM7.out.b.choose_spec).mono ?_; rw [hls]; simp only [lastV]; rintro e w' ⟨rfl, hw'⟩; rw [hw']; clear hw'))
    have HZ := Lib.hid (mid_row HM7.out rfl)
    have HB := Lib.hid HM7.out.bl
    clear hla hls HM HM5 HM6 HM7 HH HL HW hsm hoa hob
    generalize (restOf R).length = K at *
    go_loopw [20] (fun i wr => ∃ j : Nat, j ≤ K ∧ i = .int .i64 j ∧ Hid (RowAt wr w2.heap.size xa K) ∧ Hid (Below w2.heap.size w2 wr)) (fun i _ => K - (intOf i).toNat)
    case atStart => exact ⟨0, by omega, rfl, HZ, HB⟩
    case round =>
      obtain ⟨j, hj, rfl, HZ', HB'⟩ := hrel
      clear HZ HB
      by_cases hlt : j < K
      · obtain ⟨g, cur, rfl, hg1, hg2, hg3⟩ := HZ'.out (by omega)
        have c0 : wr.cell? ⟨g, j, none⟩ = some cur[j] := by simp [World.cell?, hg2]
        have z0 : wr.frozen? ⟨g, j, none⟩ = false := by simp [World.frozen?, hg2]
        have hjI : (j : Int) < (K : Int) := by omega
        have HG := Lib.hid hg2
        clear hg2
        go_wp2
        refine ⟨⟨j + 1, by omega, by go_num, fun _ => ⟨g, cur.setIfInBounds j (.string ⟨#[63]⟩), rfl, hg1, by simp [World.setCell, Array.getElem?_modify, HG.out], by simpa using hg3⟩, HB'.out.setCell (p := ⟨g, j, none⟩) hg1 _⟩, by simp [intOf]; omega⟩
      · have hjI : ¬ ((j : Int) < (K : Int)) := by omega
        have hsm := same_yes 0 0 (.slice none 0 0) (.slice none 0 0) (.slice none 0 0) (.slice none 0 0) [] args wr (by simp) hlen (World.ownsRow_nil _ _ _ _) (World.ownsRow_nil _ _ _ _) (HOW.out.below HB'.out) (HA2.out.below HB'.out)
        clear HZ'
        go_wp2_with (go_at_call 8; refine hsm.mono ?_; rintro e w9 ⟨rfl, m9, hw9⟩)
        go_ret
        refine ⟨rfl, ?_⟩
        clear hw9
        exact below_drewN2 (hb2.trans (HB'.out.mono hb2.size)) m9
  · have hss := str_self s
    go_wp2_with (first
      | (go_at_call 11; refine hla.mono ?_; rintro e w7 ⟨rfl, hb7⟩; have HM7 := Lib.hid (HM6.out.below hb7); clear hb7)
      | (go_at_call 12; refine (refLast_c _ lb (optsOf R) c w7 hol2 HM7.out.b.choose_spec).mono ?_; rw [hls]; simp only [lastV]; rintro e w' ⟨rfl, hw'⟩; rw [hw']; clear hw'))
    have HZ := Lib.hid (mid_row HM7.out rfl)
    have HB := Lib.hid HM7.out.bl
    clear hla hls HM HM5 HM6 HM7 HH HL HW hsm hoa hob
    generalize (restOf R).length = K at *
    go_loopw [20] (fun i wr => ∃ j : Nat, j ≤ K ∧ i = .int .i64 j ∧ Hid (RowAt wr w2.heap.size xa K) ∧ Hid (Below w2.heap.size w2 wr)) (fun i _ => K - (intOf i).toNat)
    case atStart => exact ⟨0, by omega, rfl, HZ, HB⟩
    case round =>
      obtain ⟨j, hj, rfl, HZ', HB'⟩ := hrel
      clear HZ HB
      by_cases hlt : j < K
      · obtain ⟨g, cur, rfl, hg1, hg2, hg3⟩ := HZ'.out (by omega)
        have c0 : wr.cell? ⟨g, j, none⟩ = some cur[j] := by simp [World.cell?, hg2]
        have z0 : wr.frozen? ⟨g, j, none⟩ = false := by simp [World.frozen?, hg2]
        have hjI : (j : Int) < (K : Int) := by omega
        have HG := Lib.hid hg2
        clear hg2
        go_wp2
        refine ⟨⟨j + 1, by omega, by go_num, fun _ => ⟨g, cur.setIfInBounds j (.string ⟨#[63]⟩), rfl, hg1, by simp [World.setCell, Array.getElem?_modify, HG.out], by simpa using hg3⟩, HB'.out.setCell (p := ⟨g, j, none⟩) hg1 _⟩, by simp [intOf]; omega⟩
      · have hjI : ¬ ((j : Int) < (K : Int)) := by omega
        have hsm := same_yes 0 0 (.slice none 0 0) (.slice none 0 0) (.slice none 0 0) (.slice none 0 0) [] args wr (by simp) hlen (World.ownsRow_nil _ _ _ _) (World.ownsRow_nil _ _ _ _) (HOW.out.below HB'.out) (HA2.out.below HB'.out)
        clear HZ'
        go_wp2_with (go_at_call 8; refine hsm.mono ?_; rintro e w9 ⟨rfl, m9, hw9⟩)
        go_ret
        refine ⟨rfl, ?_⟩
        clear hw9
        exact below_drewN2 (hb2.trans (HB'.out.mono hb2.size)) m9

theorem parses_c (S : Says) (hW : Wakes) (v : Value) (args : List ByteArray) (spec : ByteArray) (c : UInt8) (w : World) (hs : spec.size ≤ 2097152) (ht : tot args ≤ 2097152) (hlen : args.length ≤ 2097152) (hA : StrsAt w v args) :
    Calls Try.prog 3 #[v, .string spec, .int .u8 (c.toNat : Int)] w fun e w' => e = .returned (.bool true) ∧ Below w.heap.size w w' := by
  rcases hA with ⟨rfl, rfl⟩ | ⟨b, off, cap, rfl, ⟨h1, h2⟩, h3, h4⟩
  · exact parses_nil S hW spec c w hs
  · exact parses_some S hW b off cap args spec c w hs ht hlen h1 h2 h3 h4
end Go.Proofs.Ytgppaclfgekknaa
