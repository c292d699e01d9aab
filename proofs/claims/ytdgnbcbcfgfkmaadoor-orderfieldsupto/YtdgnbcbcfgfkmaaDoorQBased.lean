/- The document's reader of numbers to the base 10. -/
import Derived.Test.YtdgnbcbcfgfkmaaDoorQRef1
namespace Go.Proofs.YtdgnbcbcfgfkmaaDoor
open Go.RowKit

theorem ret2_of {a c : Int} {d e : Bool} {r : Int × Bool} (h : r = (c, e)) (h1 : a = c) (h2 : d = e) : Ending.returned (.tuple #[.int .i64 a, .bool d]) = .returned (.tuple #[.int .i64 r.1, .bool r.2]) := by
  subst h1; subst h2; rw [h]
set_option maxHeartbeats 2000000 in
set_option maxRecDepth 100000 in
theorem based10_any (s : ByteArray) (most : Int) (w : World) (hs : s.size ≤ maxLen) (h1 : -9223372036854775808 ≤ most) (h2 : most ≤ 9223372036854775807) :
    Calls Tryd.prog 71 #[.string s, .int .i64 most, .int .i64 10] w fun e w' => e = .returned (.tuple #[.int .i64 (rdAll 10 most s.data.toList).1, .bool (rdAll 10 most s.data.toList).2]) ∧ w' = w := by
  unfold maxLen at hs
  have hlen : s.data.toList.length = s.size := rfl
  by_cases hz : s.size = 0
  · have HA := Lib.hid (rdAll_nil (b := 10) (most := most) (s := s.data.toList) (by omega))
    have hem : ((s.size : Int) == 0) = true := by rw [beq_iff_eq]; omega
    clear hlen hz
    go_enter Tryd.func71, Tryd.ntmps71
    go_wp2
    go_ret2
    exact ⟨ret2_of HA.out rfl rfl, rfl⟩
  · have HA := Lib.hid (rdAll_go (b := 10) (most := most) (s := s.data.toList) (by omega))
    have hem : ((s.size : Int) == 0) = false := by rw [beq_eq_false_iff_ne]; omega
    generalize hR : rdAll 10 most s.data.toList = R at HA ⊢
    clear hlen hR
    go_enter Tryd.func71, Tryd.ntmps71
    go_wp2
    go_loop [8, 9] (fun n i => ∃ (k : Nat) (v : Int), k ≤ s.size ∧ i = .int .i64 k ∧ n = .int .i64 v ∧ 0 ≤ v ∧ v ≤ 9223372036854775807 ∧ (v ≤ most ∨ (k = 0 ∧ v = 0)) ∧ Hid (rd 10 most (s.data.toList.drop k) v = R)) (fun _ i => s.size - (intOf i).toNat)
    case atStart => exact ⟨0, 0, by omega, rfl, rfl, by omega, by omega, by omega, HA⟩
    case round =>
      obtain ⟨k, v, hk, rfl, rfl, hv0, hv1, hv2, HI⟩ := hrel
      by_cases hlt : k < s.size
      · have HJ0 := HI.out
        rw [drop_cons s k hlt] at HJ0
        have HJ := Lib.hid HJ0
        have HV := Lib.hid hv2
        clear HJ0 HI hv2
        have hc := s[k].toNat_lt
        by_cases hd : 48 ≤ (s[k].toNat : Int) ∧ (s[k].toNat : Int) < 58
        · obtain ⟨hd1, hd2⟩ := hd
          by_cases hg : (s[k].toNat : Int) - 48 ≤ most ∧ v * 10 ≤ most - ((s[k].toNat : Int) - 48)
          · obtain ⟨hg1, hg2⟩ := hg
            go_wp2
            exact ⟨⟨k + 1, _, by omega, by go_num, rfl, by omega, by omega, by omega, rd_go HJ.out (by omega)⟩, by simp [intOf]; omega⟩
          · have HB := Lib.hid (rd_bad HJ.out (by omega))
            have hvv := HV.out
            have HG := Lib.hid hg
            clear HJ hg
            have HT := Lib.hid (tdiv_case most 10)
            by_cases ht : most.tdiv 10 < v
            · clear hvv
              go_wp2
              go_loop [11] (fun i => ∃ j : Nat, k ≤ j ∧ j ≤ s.size ∧ i = .int .i64 j) (fun i => s.size - (intOf i).toNat)
              case atStart => exact ⟨k, by omega, by omega, rfl⟩
              case round =>
                obtain ⟨j, hj0, hj, rfl⟩ := hrel
                by_cases hjl : j < s.size
                · have hcj := s[j].toNat_lt
                  go_wp2
                  all_goals first
                    | (go_ret2; exact ⟨ret2_of HB.out rfl rfl, rfl⟩)
                    | exact ⟨⟨j + 1, by omega, by omega, by go_num⟩, by simp [intOf]; omega⟩
                · go_wp2
                  go_ret2
                  exact ⟨ret2_of HB.out rfl rfl, rfl⟩
            · have hm1 : -20 < most := by have := HT.out; omega
              have hm2 : v * 10 ≤ 9223372036854775807 := by have := HT.out; omega
              have hm3 : most - ((s[k].toNat : Int) - 48) < v * 10 := by have := HT.out; have := HG.out; omega
              clear hvv
              go_wp2
              go_loop [11] (fun i => ∃ j : Nat, k ≤ j ∧ j ≤ s.size ∧ i = .int .i64 j) (fun i => s.size - (intOf i).toNat)
              case atStart => exact ⟨k, by omega, by omega, rfl⟩
              case round =>
                obtain ⟨j, hj0, hj, rfl⟩ := hrel
                by_cases hjl : j < s.size
                · have hcj := s[j].toNat_lt
                  go_wp2
                  all_goals first
                    | (go_ret2; exact ⟨ret2_of HB.out rfl rfl, rfl⟩)
                    | exact ⟨⟨j + 1, by omega, by omega, by go_num⟩, by simp [intOf]; omega⟩
                · go_wp2
                  go_ret2
                  exact ⟨ret2_of HB.out rfl rfl, rfl⟩
        · have HB := Lib.hid (rd_bad HJ.out (by omega))
          clear HJ
          go_wp2
          all_goals first
            | (go_ret2; exact ⟨ret2_of HB.out rfl rfl, rfl⟩)
            | (exfalso; omega)
      · have hlen : s.data.toList.length = s.size := rfl
        have HE := Lib.hid (rd_end HI.out (by omega))
        clear hlen
        have hvm : v ≤ most := by omega
        clear hv2
        go_wp2
        go_ret2
        exact ⟨ret2_of HE.out rfl (by simp), rfl⟩

theorem refNumber_any (s : ByteArray) (most : Int) (w : World) (hs : s.size ≤ maxLen) (h1 : -9223372036854775808 ≤ most) (h2 : most ≤ 9223372036854775807) :
    Calls Tryd.prog 57 #[.string s, .int .i64 most] w fun e w' => e = .returned (.tuple #[.int .i64 (rdAll 10 most s.data.toList).1, .bool (rdAll 10 most s.data.toList).2]) ∧ w' = w := by
  go_enter Tryd.func57, Tryd.ntmps57
  go_wp2_with (go_at_call 71; refine (based10_any _ _ _ hs h1 h2).mono ?_; rintro e w' ⟨rfl, rfl⟩)
  go_ret2
  exact ⟨rfl, rfl⟩

end Go.Proofs.YtdgnbcbcfgfkmaaDoor
