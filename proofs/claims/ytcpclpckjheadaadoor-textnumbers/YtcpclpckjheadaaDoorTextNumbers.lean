/- The walk of the law on numbers. -/
import Derived.Test.YtcpclpckjheadaaDoorAwake
import Derived.Test.YtcpclpckjheadaaDoorBased
import Derived.Test.YtcpclpckjheadaaDoorRefDigits
namespace Go.Proofs.YtcpclpckjheadaaDoor
open Go.RowKit

theorem refDig_all (B : Nat) (base n : Int) (hP : ∀ u : Nat, u ≤ 9223372036854775807 → ∀ w, Calls Tryd.prog 18 #[.int .i64 u, .int .i64 base] w fun e w' => e = .returned (.string ⟨(dgB B u).toArray⟩) ∧ Below w.heap.size w w')
    (hN : ∀ u : Nat, u ≤ 9223372036854775808 → 1 ≤ u → ∀ w, Calls Tryd.prog 18 #[.int .i64 (-(u : Int)), .int .i64 base] w fun e w' => e = .returned (.string ⟨(45 :: dgB B u).toArray⟩) ∧ Below w.heap.size w w')
    (h0 : -9223372036854775808 ≤ n) (h1 : n ≤ 9223372036854775807) (w : World) : Calls Tryd.prog 18 #[.int .i64 n, .int .i64 base] w fun e w' => e = .returned (.string ⟨(digL B n).toArray⟩) ∧ Below w.heap.size w w' := by
  by_cases hn : n < 0
  · obtain ⟨u, rfl⟩ : ∃ u : Nat, n = -(u : Int) := ⟨n.natAbs, by omega⟩
    rw [digL_neg B u (by omega)]
    exact hN u (by omega) (by omega) w
  · obtain ⟨u, rfl⟩ : ∃ u : Nat, n = u := ⟨n.toNat, by omega⟩
    rw [digL_nonneg B u]
    exact hP u (by omega) w

set_option maxHeartbeats 400000 in
theorem refDigits_any (n base : Int) (h0 : -9223372036854775808 ≤ n) (h1 : n ≤ 9223372036854775807) (w : World) :
    Calls Tryd.prog 18 #[.int .i64 n, .int .i64 base] w fun e w' => e = .returned (.string ⟨(digAt base n).toArray⟩) ∧ Below w.heap.size w w' := by
  by_cases b8 : base = 8
  · subst b8
    exact refDig_all 8 8 n (fun u h w => refDig8P u h w) (fun u h h' w => refDig8N u h h' w) h0 h1 w
  by_cases b10 : base = 10
  · subst b10
    exact refDig_all 10 10 n (fun u h w => refDig10P u h w) (fun u h h' w => refDig10N u h h' w) h0 h1 w
  by_cases b16 : base = 16
  · subst b16
    exact refDig_all 16 16 n (fun u h w => refDig16P u h w) (fun u h h' w => refDig16N u h h' w) h0 h1 w
  have HD : Hid (digAt base n = []) := by show digAt base n = []; rw [digAt, if_neg b8, if_neg b10, if_neg b16]
  have e8 : (base != 8) = true := by rw [bne_iff_ne]; exact b8
  have e10 : (base != 10) = true := by rw [bne_iff_ne]; exact b10
  have e16 : (base != 16) = true := by rw [bne_iff_ne]; exact b16
  clear b8 b10 b16
  go_enter Tryd.func18, Tryd.ntmps18
  go_wp2
  go_ret
  exact ⟨retS_of HD.out, Below.refl _ _⟩

set_option maxHeartbeats 1000000 in
set_option maxRecDepth 100000 in
theorem textNumbers_any (s : ByteArray) (most n base : Int) (w : World) (hL : Laid w) (hs : s.size ≤ maxLen) (h1 : -9223372036854775808 ≤ most) (h2 : most ≤ 9223372036854775807) (h3 : -9223372036854775808 ≤ n) (h4 : n ≤ 9223372036854775807) :
    Calls Tryd.prog 4 #[.string s, .int .i64 most, .int .i64 n, .int .i64 base] w fun r w' => r = .returned (.bool true) ∧ Below w.heap.size w w' := by
  have HL := Lib.hid hL
  clear hL
  go_enter Tryd.func4, Tryd.ntmps4
  go_wp2_with fail
  refine (awake_any _ HL.out).mono ?_
  rintro r W ⟨rfl, hb⟩
  have hsz := HL.out.size
  have HL1 := Lib.hid (HL.out.below hb hsz)
  clear HL
  have N1 := Lib.hid (number_any s most W hs h1 h2)
  have N2 := Lib.hid (refNumber_any s most W hs h1 h2)
  have N3 := Lib.hid (octal_any s most W hs h1 h2)
  have N4 := Lib.hid (refOctal_any s most W hs h1 h2)
  generalize rdAll 10 most s.data.toList = R at N1 N2
  generalize rdAll 8 most s.data.toList = R' at N3 N4
  obtain ⟨ra, rb⟩ := R
  obtain ⟨rc, rd⟩ := R'
  have e1 : (ra == ra) = true := beq_self_eq_true _
  have e2 : (rc == rc) = true := beq_self_eq_true _
  go_wp2_with fail
  refine N1.out.mono ?_
  rintro r W' ⟨rfl, rfl⟩
  go_wp2_with fail
  refine N2.out.mono ?_
  rintro r W' ⟨rfl, rfl⟩
  go_wp2_with fail
  refine N3.out.mono ?_
  rintro r W' ⟨rfl, rfl⟩
  go_wp2_with fail
  refine N4.out.mono ?_
  rintro r W' ⟨rfl, rfl⟩
  clear N1 N2 N3 N4
  go_wp2_with fail
  refine (digits_any n base h3 h4 _ HL1.out.t7 HL1.out.t15 HL1.out.size HL1.out.p10).mono ?_
  rintro r W2 ⟨rfl, hb2⟩
  go_wp2_with fail
  refine (refDigits_any n base h3 h4 _).mono ?_
  rintro r W3 ⟨rfl, hb3⟩
  have e3 : (digAt base n == digAt base n) = true := beq_self_eq_true _
  go_wp2
  go_ret
  exact ⟨rfl, hb.trans ((hb2.mono hb.size).trans (hb3.mono (Nat.le_trans hb.size hb2.size)))⟩
end Go.Proofs.YtcpclpckjheadaaDoor
