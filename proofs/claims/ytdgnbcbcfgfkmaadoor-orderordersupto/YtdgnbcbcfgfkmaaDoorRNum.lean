/- The contract of the program's reader of numbers to the bases 8 and 10. -/
import Derived.Test.YtdgnbcbcfgfkmaaDoorProg
import Derived.Test.YtdgnbcbcfgfkmaaDoorOMath
import Derived.WalkKit
import Derived.WalkSpells
import Derived.Lib.Hide
namespace Go.Proofs.YtdgnbcbcfgfkmaaDoor
open Go.RowKit

theorem ret2_ofN {a c : Int} {d e : Bool} {r : Int × Bool} (h : r = (c, e)) (h1 : a = c) (h2 : d = e) : Ending.returned (.tuple #[.int .i64 a, .bool d]) = .returned (.tuple #[.int .i64 r.1, .bool r.2]) := by
  subst h1; subst h2; rw [h]

theorem isEmpty_falseN (s : ByteArray) (h : ¬ s.size = 0) : s.toList.isEmpty = false := by
  rw [ByteArray.toList_eq, List.isEmpty_eq_false_iff]; intro h'
  exact h (congrArg List.length h')
theorem isEmpty_trueN (s : ByteArray) (h : s.size = 0) : s.toList.isEmpty = true := by
  rw [ByteArray.toList_eq, List.isEmpty_iff, ← List.length_eq_zero_iff]
  exact h
set_option maxHeartbeats 1000000 in
set_option maxRecDepth 100000 in
theorem read_any (b : Int) (hb : b = 8 ∨ b = 10) (s : ByteArray) (most : Int) (w : World) (hs : s.size ≤ maxLen) (h1 : -9223372036854775808 ≤ most) (h2 : most ≤ 9223372036854775807) :
    Calls Tryd.prog 86 #[.string s, .int .i64 b, .int .i64 most] w fun e w' => e = .returned (.tuple #[.int .i64 (rdAll b most s.data.toList).1, .bool (rdAll b most s.data.toList).2]) ∧ w' = w := by
  unfold maxLen at hs
  have hlen : s.data.toList.length = s.size := rfl
  by_cases hz : s.size = 0
  · have HA := Lib.hid (rdAll_nil (b := b) (most := most) (s := s.data.toList) (by omega))
    have hem := isEmpty_trueN s hz
    clear hlen hz
    rcases hb with rfl | rfl
    all_goals
      go_enter Tryd.func86, Tryd.ntmps86
      go_wp2
      go_ret2
      exact ⟨ret2_ofN HA.out rfl rfl, rfl⟩
  · have HA := Lib.hid (rdAll_go (b := b) (most := most) (s := s.data.toList) (by omega))
    have hem := isEmpty_falseN s hz
    generalize hR : rdAll b most s.data.toList = R at HA ⊢
    clear hlen hR
    rcases hb with rfl | rfl
    all_goals
      go_enter Tryd.func86, Tryd.ntmps86
      go_wp2
      go_loop [8, 15] (fun n i => ∃ (k : Nat) (v : Int), k ≤ s.size ∧ i = .int .i64 k ∧ n = .int .i64 v ∧ 0 ≤ v ∧ v ≤ 9223372036854775807 ∧ Hid (rd _ most (s.data.toList.drop k) v = R)) (fun _ i => s.size - (intOf i).toNat)
      case atStart => exact ⟨0, 0, by omega, rfl, rfl, by omega, by omega, HA⟩
      case round =>
        obtain ⟨k, v, hk, rfl, rfl, hv0, hv1, HI⟩ := hrel
        by_cases hlt : k < s.size
        · have HJ0 := HI.out
          rw [drop_cons s k hlt] at HJ0
          have HJ := Lib.hid HJ0
          clear HJ0 HI
          have hc := s[k].toNat_lt
          go_wp2
          all_goals first
            | (go_ret2; exact ⟨ret2_ofN (rd_bad HJ.out (by omega)) rfl rfl, rfl⟩)
            | exact ⟨⟨k + 1, _, by omega, by go_num, rfl, by omega, by omega, rd_go HJ.out (by omega)⟩, by simp [intOf]; omega⟩
        · have hlen : s.data.toList.length = s.size := rfl
          have HE := Lib.hid (rd_end HI.out (by omega))
          clear hlen
          go_wp2
          go_ret2
          exact ⟨ret2_ofN HE.out rfl rfl, rfl⟩

theorem number_any (s : ByteArray) (most : Int) (w : World) (hs : s.size ≤ maxLen) (h1 : -9223372036854775808 ≤ most) (h2 : most ≤ 9223372036854775807) :
    Calls Tryd.prog 78 #[.string s, .int .i64 most] w fun e w' => e = .returned (.tuple #[.int .i64 (rdAll 10 most s.data.toList).1, .bool (rdAll 10 most s.data.toList).2]) ∧ w' = w := by
  go_enter Tryd.func78, Tryd.ntmps78
  go_wp2_with (go_at_call 86; refine (read_any 10 (Or.inr rfl) _ _ _ hs h1 h2).mono ?_; rintro e w' ⟨rfl, rfl⟩)
  go_ret2
  exact ⟨rfl, rfl⟩
end Go.Proofs.YtdgnbcbcfgfkmaaDoor
