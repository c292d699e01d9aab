/- The document's reader of numbers to the bases 10 and 8. -/
import Derived.Test.YtfkoehfkiommpaaGreatDoorZRef1
import Derived.Test.YtfkoehfkiommpaaGreatDoorProg
import Derived.WalkKit
import Derived.WalkSpells
import Derived.Lib.Hide
import Derived.Test.YtfkoehfkiommpaaGreatDoorZSetM
import Derived.Test.YtfkoehfkiommpaaGreatDoorZKindX
import Derived.Test.YtfkoehfkiommpaaGreatDoorKPipe
namespace Go.Proofs.YtfkoehfkiommpaaGreatDoor.Tr
open Go.RowKit

theorem ret2_of {a c : Int} {d e : Bool} {r : Int × Bool} (h : r = (c, e)) (h1 : a = c) (h2 : d = e) : Ending.returned (.tuple #[.int .i64 a, .bool d]) = .returned (.tuple #[.int .i64 r.1, .bool r.2]) := by
  subst h1; subst h2; rw [h]
set_option maxHeartbeats 2000000 in
set_option maxRecDepth 100000 in
theorem based10_any (s : ByteArray) (most : Int) (w : World) (hs : s.size ≤ maxLen) (h1 : -9223372036854775808 ≤ most) (h2 : most ≤ 9223372036854775807) :
    Calls Tryz.prog 54 #[.string s, .int .i64 most, .int .i64 10] w fun e w' => e = .returned (.tuple #[.int .i64 (rdAll 10 most s.data.toList).1, .bool (rdAll 10 most s.data.toList).2]) ∧ w' = w := by
  unfold maxLen at hs
  have hlen : s.data.toList.length = s.size := rfl
  by_cases hz : s.size = 0
  · have HA := Lib.hid (rdAll_nil (b := 10) (most := most) (s := s.data.toList) (by omega))
    have hem : ((s.size : Int) == 0) = true := by rw [beq_iff_eq]; omega
    clear hlen hz
    go_enter Tryz.func54, Tryz.ntmps54
    go_wp2
    go_ret2
    exact ⟨ret2_of HA.out rfl rfl, rfl⟩
  · have HA := Lib.hid (rdAll_go (b := 10) (most := most) (s := s.data.toList) (by omega))
    have hem : ((s.size : Int) == 0) = false := by rw [beq_eq_false_iff_ne]; omega
    generalize hR : rdAll 10 most s.data.toList = R at HA ⊢
    clear hlen hR
    go_enter Tryz.func54, Tryz.ntmps54
    go_wp2
    go_loop [8, 9] (fun n i => ∃ (k : Nat) (v : Int), k ≤ s.size ∧ i = .int .i64 k ∧ n = .int .i64 v ∧ 0 ≤ v ∧ v ≤ 9223372036854775807 ∧ (v ≤ most ∨ (k = 0 ∧ v = 0)) ∧ Hid (rd 10 most (s.data.toList.drop k) v = R)) (fun _ i => s.size - (intOf i).toNat)
    case atStart => exact ⟨0, 0, by omega, rfl, rfl, by omega, by omega, by omega, HA⟩
    case round =>
      obtain ⟨k, v, hk, rfl, rfl, hv0, hv1, hv2, HI⟩ := hrel
      by_cases hlt : k < s.size
      · have HJ0 := HI.out
        rw [drop_cons s k hlt] at HJ0
        have HJ := Lib.hid HJ0
        have HV := Lib.hid hv2
        clear HJ0 HI hv2
        have hc := s[k].toNat_lt
        by_cases hd : 48 ≤ (s[k].toNat : Int) ∧ (s[k].toNat : Int) < 58
        · obtain ⟨hd1, hd2⟩ := hd
          by_cases hg : (s[k].toNat : Int) - 48 ≤ most ∧ v * 10 ≤ most - ((s[k].toNat : Int) - 48)
          · obtain ⟨hg1, hg2⟩ := hg
            go_wp2
            exact ⟨⟨k + 1, _, by omega, by go_num, rfl, by omega, by omega, by omega, rd_go HJ.out (by omega)⟩, by simp [intOf]; omega⟩
          · have HB := Lib.hid (rd_bad HJ.out (by omega))
            have hvv := HV.out
            have HG := Lib.hid hg
            clear HJ hg
            have HT := Lib.hid (tdiv_case most 10)
            by_cases ht : most.tdiv 10 < v
            · clear hvv
              go_wp2
              go_loop [11] (fun i => ∃ j : Nat, k ≤ j ∧ j ≤ s.size ∧ i = .int .i64 j) (fun i => s.size - (intOf i).toNat)
              case atStart => exact ⟨k, by omega, by omega, rfl⟩
              case round =>
                obtain ⟨j, hj0, hj, rfl⟩ := hrel
                by_cases hjl : j < s.size
                · have hcj := s[j].toNat_lt
                  go_wp2
                  all_goals first
                    | (go_ret2; exact ⟨ret2_of HB.out rfl rfl, rfl⟩)
                    | exact ⟨⟨j + 1, by omega, by omega, by go_num⟩, by simp [intOf]; omega⟩
                · go_wp2
                  go_ret2
                  exact ⟨ret2_of HB.out rfl rfl, rfl⟩
            · have hm1 : -20 < most := by have := HT.out; omega
              have hm2 : v * 10 ≤ 9223372036854775807 := by have := HT.out; omega
              have hm3 : most - ((s[k].toNat : Int) - 48) < v * 10 := by have := HT.out; have := HG.out; omega
              clear hvv
              go_wp2
              go_loop [11] (fun i => ∃ j : Nat, k ≤ j ∧ j ≤ s.size ∧ i = .int .i64 j) (fun i => s.size - (intOf i).toNat)
              case atStart => exact ⟨k, by omega, by omega, rfl⟩
              case round =>
                obtain ⟨j, hj0, hj, rfl⟩ := hrel
                by_cases hjl : j < s.size
                · have hcj := s[j].toNat_lt
                  go_wp2
                  all_goals first
                    | (go_ret2; exact ⟨ret2_of HB.out rfl rfl, rfl⟩)
                    | exact ⟨⟨j + 1, by omega, by omega, by go_num⟩, by simp [intOf]; omega⟩
                · go_wp2
                  go_ret2
                  exact ⟨ret2_of HB.out rfl rfl, rfl⟩
        · have HB := Lib.hid (rd_bad HJ.out (by omega))
          clear HJ
          go_wp2
          all_goals first
            | (go_ret2; exact ⟨ret2_of HB.out rfl rfl, rfl⟩)
            | (exfalso; omega)
      · have hlen : s.data.toList.length = s.size := rfl
        have HE := Lib.hid (rd_end HI.out (by omega))
        clear hlen
        have hvm : v ≤ most := by omega
        clear hv2
        go_wp2
        go_ret2
        exact ⟨ret2_of HE.out rfl (by simp), rfl⟩

theorem refNumber_any (s : ByteArray) (most : Int) (w : World) (hs : s.size ≤ maxLen) (h1 : -9223372036854775808 ≤ most) (h2 : most ≤ 9223372036854775807) :
    Calls Tryz.prog 31 #[.string s, .int .i64 most] w fun e w' => e = .returned (.tuple #[.int .i64 (rdAll 10 most s.data.toList).1, .bool (rdAll 10 most s.data.toList).2]) ∧ w' = w := by
  go_enter Tryz.func31, Tryz.ntmps31
  go_wp2_with (go_at_call 54; refine (based10_any _ _ _ hs h1 h2).mono ?_; rintro e w' ⟨rfl, rfl⟩)
  go_ret2
  exact ⟨rfl, rfl⟩

set_option maxHeartbeats 2000000 in
set_option maxRecDepth 100000 in
theorem based8_any (s : ByteArray) (most : Int) (w : World) (hs : s.size ≤ maxLen) (h1 : -9223372036854775808 ≤ most) (h2 : most ≤ 9223372036854775807) :
    Calls Tryz.prog 54 #[.string s, .int .i64 most, .int .i64 8] w fun e w' => e = .returned (.tuple #[.int .i64 (rdAll 8 most s.data.toList).1, .bool (rdAll 8 most s.data.toList).2]) ∧ w' = w := by
  unfold maxLen at hs
  have hlen : s.data.toList.length = s.size := rfl
  by_cases hz : s.size = 0
  · have HA := Lib.hid (rdAll_nil (b := 8) (most := most) (s := s.data.toList) (by omega))
    have hem : ((s.size : Int) == 0) = true := by rw [beq_iff_eq]; omega
    clear hlen hz
    go_enter Tryz.func54, Tryz.ntmps54
    go_wp2
    go_ret2
    exact ⟨ret2_of HA.out rfl rfl, rfl⟩
  · have HA := Lib.hid (rdAll_go (b := 8) (most := most) (s := s.data.toList) (by omega))
    have hem : ((s.size : Int) == 0) = false := by rw [beq_eq_false_iff_ne]; omega
    generalize hR : rdAll 8 most s.data.toList = R at HA ⊢
    clear hlen hR
    go_enter Tryz.func54, Tryz.ntmps54
    go_wp2
    go_loop [8, 9] (fun n i => ∃ (k : Nat) (v : Int), k ≤ s.size ∧ i = .int .i64 k ∧ n = .int .i64 v ∧ 0 ≤ v ∧ v ≤ 9223372036854775807 ∧ (v ≤ most ∨ (k = 0 ∧ v = 0)) ∧ Hid (rd 8 most (s.data.toList.drop k) v = R)) (fun _ i => s.size - (intOf i).toNat)
    case atStart => exact ⟨0, 0, by omega, rfl, rfl, by omega, by omega, by omega, HA⟩
    case round =>
      obtain ⟨k, v, hk, rfl, rfl, hv0, hv1, hv2, HI⟩ := hrel
      by_cases hlt : k < s.size
      · have HJ0 := HI.out
        rw [drop_cons s k hlt] at HJ0
        have HJ := Lib.hid HJ0
        have HV := Lib.hid hv2
        clear HJ0 HI hv2
        have hc := s[k].toNat_lt
        by_cases hd : 48 ≤ (s[k].toNat : Int) ∧ (s[k].toNat : Int) < 56
        · obtain ⟨hd1, hd2⟩ := hd
          by_cases hg : (s[k].toNat : Int) - 48 ≤ most ∧ v * 8 ≤ most - ((s[k].toNat : Int) - 48)
          · obtain ⟨hg1, hg2⟩ := hg
            go_wp2
            exact ⟨⟨k + 1, _, by omega, by go_num, rfl, by omega, by omega, by omega, rd_go HJ.out (by omega)⟩, by simp [intOf]; omega⟩
          · have HB := Lib.hid (rd_bad HJ.out (by omega))
            have hvv := HV.out
            have HG := Lib.hid hg
            clear HJ hg
            have HT := Lib.hid (tdiv_case most 8)
            by_cases ht : most.tdiv 8 < v
            · clear hvv
              go_wp2
              go_loop [11] (fun i => ∃ j : Nat, k ≤ j ∧ j ≤ s.size ∧ i = .int .i64 j) (fun i => s.size - (intOf i).toNat)
              case atStart => exact ⟨k, by omega, by omega, rfl⟩
              case round =>
                obtain ⟨j, hj0, hj, rfl⟩ := hrel
                by_cases hjl : j < s.size
                · have hcj := s[j].toNat_lt
                  go_wp2
                  all_goals first
                    | (go_ret2; exact ⟨ret2_of HB.out rfl rfl, rfl⟩)
                    | exact ⟨⟨j + 1, by omega, by omega, by go_num⟩, by simp [intOf]; omega⟩
                · go_wp2
                  go_ret2
                  exact ⟨ret2_of HB.out rfl rfl, rfl⟩
            · have hm1 : -20 < most := by have := HT.out; omega
              have hm2 : v * 8 ≤ 9223372036854775807 := by have := HT.out; omega
              have hm3 : most - ((s[k].toNat : Int) - 48) < v * 8 := by have := HT.out; have := HG.out; omega
              clear hvv
              go_wp2
              go_loop [11] (fun i => ∃ j : Nat, k ≤ j ∧ j ≤ s.size ∧ i = .int .i64 j) (fun i => s.size - (intOf i).toNat)
              case atStart => exact ⟨k, by omega, by omega, rfl⟩
              case round =>
                obtain ⟨j, hj0, hj, rfl⟩ := hrel
                by_cases hjl : j < s.size
                · have hcj := s[j].toNat_lt
                  go_wp2
                  all_goals first
                    | (go_ret2; exact ⟨ret2_of HB.out rfl rfl, rfl⟩)
                    | exact ⟨⟨j + 1, by omega, by omega, by go_num⟩, by simp [intOf]; omega⟩
                · go_wp2
                  go_ret2
                  exact ⟨ret2_of HB.out rfl rfl, rfl⟩
        · have HB := Lib.hid (rd_bad HJ.out (by omega))
          clear HJ
          go_wp2
          all_goals first
            | (go_ret2; exact ⟨ret2_of HB.out rfl rfl, rfl⟩)
            | (exfalso; omega)
      · have hlen : s.data.toList.length = s.size := rfl
        have HE := Lib.hid (rd_end HI.out (by omega))
        clear hlen
        have hvm : v ≤ most := by omega
        clear hv2
        go_wp2
        go_ret2
        exact ⟨ret2_of HE.out rfl (by simp), rfl⟩

theorem refOctal_any (s : ByteArray) (most : Int) (w : World) (hs : s.size ≤ maxLen) (h1 : -9223372036854775808 ≤ most) (h2 : most ≤ 9223372036854775807) :
    Calls Tryz.prog 30 #[.string s, .int .i64 most] w fun e w' => e = .returned (.tuple #[.int .i64 (rdAll 8 most s.data.toList).1, .bool (rdAll 8 most s.data.toList).2]) ∧ w' = w := by
  go_enter Tryz.func30, Tryz.ntmps30
  go_wp2_with (go_at_call 54; refine (based8_any _ _ _ hs h1 h2).mono ?_; rintro e w' ⟨rfl, rfl⟩)
  go_ret2
  exact ⟨rfl, rfl⟩

end Go.Proofs.YtfkoehfkiommpaaGreatDoor.Tr

namespace Go.Proofs.YtfkoehfkiommpaaGreatDoor.Tr
open Go.RowKit

theorem isEmpty_false (s : ByteArray) (h : ¬ s.size = 0) : s.toList.isEmpty = false := by
  rw [ByteArray.toList_eq, List.isEmpty_eq_false_iff]; intro h'
  exact h (congrArg List.length h')
theorem isEmpty_true (s : ByteArray) (h : s.size = 0) : s.toList.isEmpty = true := by
  rw [ByteArray.toList_eq, List.isEmpty_iff, ← List.length_eq_zero_iff]
  exact h
set_option maxHeartbeats 1000000 in
set_option maxRecDepth 100000 in
theorem read_any (b : Int) (hb : b = 8 ∨ b = 10) (s : ByteArray) (most : Int) (w : World) (hs : s.size ≤ maxLen) (h1 : -9223372036854775808 ≤ most) (h2 : most ≤ 9223372036854775807) :
    Calls Tryz.prog 123 #[.string s, .int .i64 b, .int .i64 most] w fun e w' => e = .returned (.tuple #[.int .i64 (rdAll b most s.data.toList).1, .bool (rdAll b most s.data.toList).2]) ∧ w' = w := by
  unfold maxLen at hs
  have hlen : s.data.toList.length = s.size := rfl
  by_cases hz : s.size = 0
  · have HA := Lib.hid (rdAll_nil (b := b) (most := most) (s := s.data.toList) (by omega))
    have hem := isEmpty_true s hz
    clear hlen hz
    rcases hb with rfl | rfl
    all_goals
      go_enter Tryz.func123, Tryz.ntmps123
      go_wp2
      go_ret2
      exact ⟨ret2_of HA.out rfl rfl, rfl⟩
  · have HA := Lib.hid (rdAll_go (b := b) (most := most) (s := s.data.toList) (by omega))
    have hem := isEmpty_false s hz
    generalize hR : rdAll b most s.data.toList = R at HA ⊢
    clear hlen hR
    rcases hb with rfl | rfl
    all_goals
      go_enter Tryz.func123, Tryz.ntmps123
      go_wp2
      go_loop [8, 15] (fun n i => ∃ (k : Nat) (v : Int), k ≤ s.size ∧ i = .int .i64 k ∧ n = .int .i64 v ∧ 0 ≤ v ∧ v ≤ 9223372036854775807 ∧ Hid (rd _ most (s.data.toList.drop k) v = R)) (fun _ i => s.size - (intOf i).toNat)
      case atStart => exact ⟨0, 0, by omega, rfl, rfl, by omega, by omega, HA⟩
      case round =>
        obtain ⟨k, v, hk, rfl, rfl, hv0, hv1, HI⟩ := hrel
        by_cases hlt : k < s.size
        · have HJ0 := HI.out
          rw [drop_cons s k hlt] at HJ0
          have HJ := Lib.hid HJ0
          clear HJ0 HI
          have hc := s[k].toNat_lt
          go_wp2
          all_goals first
            | (go_ret2; exact ⟨ret2_of (rd_bad HJ.out (by omega)) rfl rfl, rfl⟩)
            | exact ⟨⟨k + 1, _, by omega, by go_num, rfl, by omega, by omega, rd_go HJ.out (by omega)⟩, by simp [intOf]; omega⟩
        · have hlen : s.data.toList.length = s.size := rfl
          have HE := Lib.hid (rd_end HI.out (by omega))
          clear hlen
          go_wp2
          go_ret2
          exact ⟨ret2_of HE.out rfl rfl, rfl⟩

theorem number_any (s : ByteArray) (most : Int) (w : World) (hs : s.size ≤ maxLen) (h1 : -9223372036854775808 ≤ most) (h2 : most ≤ 9223372036854775807) :
    Calls Tryz.prog 94 #[.string s, .int .i64 most] w fun e w' => e = .returned (.tuple #[.int .i64 (rdAll 10 most s.data.toList).1, .bool (rdAll 10 most s.data.toList).2]) ∧ w' = w := by
  go_enter Tryz.func94, Tryz.ntmps94
  go_wp2_with (go_at_call 123; refine (read_any 10 (Or.inr rfl) _ _ _ hs h1 h2).mono ?_; rintro e w' ⟨rfl, rfl⟩)
  go_ret2
  exact ⟨rfl, rfl⟩

theorem octal_any (s : ByteArray) (most : Int) (w : World) (hs : s.size ≤ maxLen) (h1 : -9223372036854775808 ≤ most) (h2 : most ≤ 9223372036854775807) :
    Calls Tryz.prog 92 #[.string s, .int .i64 most] w fun e w' => e = .returned (.tuple #[.int .i64 (rdAll 8 most s.data.toList).1, .bool (rdAll 8 most s.data.toList).2]) ∧ w' = w := by
  go_enter Tryz.func92, Tryz.ntmps92
  go_wp2_with (go_at_call 123; refine (read_any 8 (Or.inl rfl) _ _ _ hs h1 h2).mono ?_; rintro e w' ⟨rfl, rfl⟩)
  go_ret2
  exact ⟨rfl, rfl⟩
end Go.Proofs.YtfkoehfkiommpaaGreatDoor.Tr

namespace Go.Proofs.YtfkoehfkiommpaaGreatDoor.Tr
open Go.Proofs.YtfkoehfkiommpaaGreatDoor.Op
open Go.RowKit

theorem below_undrew {n : Nat} {w w2 : World} (h : Below n w.drew w2) : Below n w w2 := ⟨h.os, h.tape, h.output, h.size, h.block⟩
theorem octs_len : ∀ (m : Nat) (l : List UInt8), (octs m l).length ≤ l.length
  | 0, l => by simp [octs]
  | m + 1, [] => by simp [octs]
  | m + 1, c :: r => by
    rw [octs]
    split
    · simpa using octs_len m r
    · simp
theorem sign_len {s : List UInt8} (h : 0 < s.length) : 1 ≤ (signS s).2 ∧ (signS s).2 ≤ s.length := by
  rcases s with _ | ⟨c, _ | ⟨d, r⟩⟩
  · simp at h
  · simp [signS]
  · rw [signS]
    split
    · simp
    · split
      · simp
      · have : (octs 3 (d :: r)).length ≤ (d :: r).length := octs_len 3 _
        simp at this ⊢
        omega
theorem equal_not {s : List UInt8} (h : s.length ≤ 2 ∨ s[0]? ≠ some 91 ∨ s[1]? ≠ some 61) : equalS s = none := by
  rcases s with _ | ⟨a, _ | ⟨b, _ | ⟨d, r⟩⟩⟩
  · rfl
  · rfl
  · rfl
  · rw [equalS, if_neg]
    rintro ⟨rfl, rfl, _⟩
    rcases h with h | h | h
    · simp at h
    · simp at h
    · simp at h
theorem equal_at {s t : List UInt8} (h : s = 91 :: 61 :: t) (ht : 0 < t.length) : equalS s = if (t.drop (signS t).2)[0]? = some 61 ∧ (t.drop (signS t).2)[1]? = some 93 then some ((signS t).2 + 4, addS (signS t).1) else none := by
  subst h
  rcases t with _ | ⟨d, r⟩
  · simp at ht
  · rw [equalS]
    by_cases hc : ((d :: r).drop (signS (d :: r)).2)[0]? = some 61 ∧ ((d :: r).drop (signS (d :: r)).2)[1]? = some 93
    · rw [if_pos hc, if_pos ⟨rfl, rfl, hc⟩]
    · rw [if_neg hc, if_neg (fun h => hc h.2.2)]
theorem at_drop (s : ByteArray) (k n m : Nat) (h : k + n = m) : ((s.data.toList.drop k).drop n)[0]? = s.data.toList[m]? := by
  rw [List.drop_drop, List.getElem?_drop, h]; simp
theorem at_drop1 (s : ByteArray) (k n m : Nat) (h : k + n = m) : ((s.data.toList.drop k).drop n)[1]? = s.data.toList[m + 1]? := by
  rw [List.drop_drop, List.getElem?_drop, h]
theorem none_at (s : ByteArray) (k : Nat) (h : s.size ≤ k) : s.data.toList[k]? = none := List.getElem?_eq_none h

section
variable {xb k : Nat} {s : ByteArray} {x : St} {w : World} {ov : Value}
theorem took_none {C : Option (Nat × (St → St))} {w' : World} (hC : C = none) (hx : XsAt w' xb s k ov x.rest x.bad) (hO : Row w' (xb + 1) ov x.out) (hB : Below xb w w') : Took w xb s k x C (.returned (.bool false)) w' := by
  subst hC; exact ⟨⟨rfl, _, hx, hO⟩, hB⟩
end

set_option maxHeartbeats 4000000 in
set_option maxRecDepth 100000 in
theorem equal_m (xb k : Nat) (s : ByteArray) (x : St) (w : World) (hs : s.size ≤ 2097152) (hk : k < s.size) (hl : x.out.length ≤ 65536 * k) (hX : XAt w xb s k x) :
    Calls Tryz.prog 16 #[ptr xb] w (Took w xb s k x (equalS (s.data.toList.drop k))) := by
  obtain ⟨ov, hx, hO⟩ := hX
  have c0 : w.cell? ⟨xb, 0, none⟩ = some (.string s) := h_cell hx 0 rfl
  have c1 : w.cell? ⟨xb, 1, none⟩ = some (.int .i64 (k : Int)) := h_cell hx 1 rfl
  have HX := Lib.hid (And.intro hx hO)
  clear hx hO
  have w2 : IntKind.i64.wrap ((k : Int) + 2) = (k : Int) + 2 := IntWalk.i64_in _ (by omega)
  have w1 : IntKind.i64.wrap ((k : Int) + 1) = (k : Int) + 1 := IntWalk.i64_in _ (by omega)
  by_cases h1 : k + 2 < s.size
  · have n1 : decide ((s.size : Int) ≤ (k : Int) + 2) = false := decide_eq_false (by omega)
    by_cases h2 : s[k] = 91
    · have e2 : ((s[k].toNat : Int) != 91) = false := by have q : ((s[k].toNat : Int) == 91) = true := u8_yes 91 (by omega) h2; rw [bne, q]; rfl
      have ix1 := ix_str s (k + 1) ((k : Int) + 1) rfl (by omega)
      by_cases h3 : s[k + 1] = 61
      · have e3 : ((s[k + 1].toNat : Int) != 61) = false := by have q : ((s[k + 1].toNat : Int) == 61) = true := u8_yes 61 (by omega) h3; rw [bne, q]; rfl
        have HC : Hid (equalS (s.data.toList.drop k) = if ((s.data.toList.drop (k + 2)).drop (signS (s.data.toList.drop (k + 2))).2)[0]? = some 61 ∧ ((s.data.toList.drop (k + 2)).drop (signS (s.data.toList.drop (k + 2))).2)[1]? = some 93 then some ((signS (s.data.toList.drop (k + 2))).2 + 4, addS (signS (s.data.toList.drop (k + 2))).1) else none) := by
          refine equal_at ?_ (by rw [List.length_drop]; show 0 < s.size - (k + 2); omega)
          rw [by_drop s k hk, by_drop s (k + 1) (by omega), h2, h3]
        have hsl := sign_len (s := s.data.toList.drop (k + 2)) (by rw [List.length_drop]; show 0 < s.size - (k + 2); omega)
        rw [List.length_drop] at hsl
        have hsl2 : (signS (s.data.toList.drop (k + 2))).2 ≤ s.size - (k + 2) := hsl.2
        have hsl1 := hsl.1
        have hsg := fun u => sign_c s (k + 2) u hs h1
        generalize equalS (s.data.toList.drop k) = C at HC ⊢
        generalize signS (s.data.toList.drop (k + 2)) = P at HC hsl1 hsl2 hsg
        obtain ⟨c, n⟩ := P
        have hsg : ∀ u, Calls Tryz.prog 18 #[.string s, .int .i64 ((k : Int) + 2)] u fun e w' => e = .returned (.tuple #[.int .u8 (c.toNat : Int), .int .i64 (n : Int)]) ∧ Below u.heap.size u w' := hsg
        clear h2 h3 hsl
        simp only at hsl1 hsl2 HC
        go_enter Tryz.func16, Tryz.ntmps16
        go_wp2_with fail
        go_quiet (fail)
        have HX1 : Hid (XsAt (w.drewN nq) xb s k ov x.rest x.bad ∧ Row (w.drewN nq) (xb + 1) ov x.out ∧ Below xb w (w.drewN nq)) := ⟨HX.out.1, HX.out.2, below_drewN⟩
        have c0' : (w.drewN nq).cell? ⟨xb, 0, none⟩ = some (.string s) := c0
        have c1' : (w.drewN nq).cell? ⟨xb, 1, none⟩ = some (.int .i64 (k : Int)) := c1
        clear c0 c1 HX ix1 e2 e3 n1
        generalize w.drewN nq = W1 at HX1 c0' c1' ⊢
        go_wp2_with fail
        go_region_with (go_at_call 18; refine (hsg _).mono ?_; rintro e W2 ⟨rfl, hB2'⟩; have hB2 : Below W1.heap.size W1 W2 := below_undrew hB2'; clear hB2'; have HX2 : Hid (XsAt W2 xb s k ov x.rest x.bad ∧ Row W2 (xb + 1) ov x.out ∧ Below xb w W2) := ⟨HX1.out.1.turn hB2, row_turn HX1.out.2.1 hB2, HX1.out.2.2.trans (hB2.mono (Nat.le_of_lt (h_lt HX1.out.1)))⟩; have f0 : W2.cell? ⟨xb, 0, none⟩ = some (.string s) := h_cell HX2.out.1 0 rfl; have f1 : W2.cell? ⟨xb, 1, none⟩ = some (.int .i64 (k : Int)) := h_cell HX2.out.1 1 rfl; have f2 : W2.cell? ⟨xb, 2, none⟩ = some ov := h_cell HX2.out.1 2 rfl; clear HX1 hB2 hsg c0' c1')
        all_goals
          try simp only [Act.put, List.getElem_toArray, List.getElem_cons_succ, List.getElem_cons_zero, List.setIfInBounds_toArray, List.set_cons_succ, List.set_cons_zero]
          rw [at_drop s (k + 2) n (k + 2 + n) rfl, at_drop1 s (k + 2) n (k + 2 + n) rfl] at HC
          have hE : ∀ w', XsAt w' xb s k ov x.rest x.bad → Row w' (xb + 1) ov x.out → Below xb w w' → C = none → Took w xb s k x C (.returned (.bool false)) w' := fun w' h1 h2 h3 h4 => took_none h4 h1 h2 h3
          have HE := Lib.hid hE
          clear hE
          by_cases a1 : k + 2 + n + 1 < s.size
          · rw [by_at s (k + 2 + n) (by omega), by_at s (k + 2 + n + 1) a1] at HC
            have p1 : (k : Int) + 2 + n + 1 < (s.size : Int) := by omega
            by_cases a2 : s[k + 2 + n] = 61
            · have e2 : ((s[k + 2 + n].toNat : Int) != 61) = false := by have q : ((s[k + 2 + n].toNat : Int) == 61) = true := u8_yes 61 (by omega) a2; rw [bne, q]; rfl
              by_cases a3 : s[k + 2 + n + 1] = 93
              · have e3 : ((s[k + 2 + n + 1].toNat : Int) != 93) = false := by have q : ((s[k + 2 + n + 1].toNat : Int) == 93) = true := u8_yes 93 (by omega) a3; rw [bne, q]; rfl
                have HF : Hid (C = some (n + 4, addS c)) := by show C = _; rw [HC.out, if_pos ⟨by rw [a2], by rw [a3]⟩]
                clear HC HE a2 a3
                have hxl := h_lt HX2.out.1
                have hm2 : k + (n + 4) = k + 2 + n + 2 := by omega
                obtain ⟨i0, hi, hz0, hz1, hz2⟩ := info_parts2 info_u8
                go_wp2_with (at_builtin; refine wpList_append_own _ rfl _ _ 23 rfl (xb + 1) 5 i0 (.int .u8 0) 1 1 Tryz.underlying23 hi hz0 hz1 hz2 rfl (by decide) _ _ _ rfl (row_al HX2.out.2.1 _) ⟨W2.heap.size, 0, none⟩ 1 1 [.int .u8 (c.toNat : Int)] rfl rfl (cell_one_new _ _ _) (by simp [Value.oneCell']) (by unfold maxLen; omega) (by omega) (by simp; omega) ?_; intro v2 w3 hown2 hgrow2 _; obtain ⟨xa, ca, rfl⟩ := own_slice2 hown2; have hX4 := (HX2.out.1.al _).grown (row_al HX2.out.2.1 _) hgrow2; have f4 := h_cell hX4 2 rfl; have z4 := h_fz hX4 2; have HX5 := Lib.hid (x_app (HX2.out.1.al _) (row_al HX2.out.2.1 _) (below_al HX2.out.2.2 hxl _) hgrow2 hown2); have f5 := h_cell HX5.out.1 1 rfl; have z5 := h_fz HX5.out.1 1; clear hX4 hown2 hgrow2 HX2)
                go_ret
                rw [HF.out]
                refine ⟨⟨rfl, ?_⟩, below_set HX5.out.2.2 1 _⟩
                show XAt _ xb s (k + (n + 4)) _
                rw [hm2]
                exact ⟨_, (show XsAt _ _ _ _ _ x.rest x.bad from by simpa using HX5.out.1.setAt (k + 2 + n + 2)), row_set HX5.out.2.1 1 _⟩
              · have e3 : ((s[k + 2 + n + 1].toNat : Int) != 93) = true := by have q : ((s[k + 2 + n + 1].toNat : Int) == 93) = false := u8_no 93 (by omega) a3; rw [bne, q]; rfl
                have HF : Hid (C = none) := by show C = _; rw [HC.out, if_neg (fun h => a3 (Option.some.inj h.2))]
                clear HC a2 a3
                go_wp2_with fail
                go_ret
                exact HE.out _ HX2.out.1 HX2.out.2.1 HX2.out.2.2 HF.out
            · have e2 : ((s[k + 2 + n].toNat : Int) != 61) = true := by have q : ((s[k + 2 + n].toNat : Int) == 61) = false := u8_no 61 (by omega) a2; rw [bne, q]; rfl
              have HF : Hid (C = none) := by show C = _; rw [HC.out, if_neg (fun h => a2 (Option.some.inj h.1))]
              clear HC a2
              go_wp2_with fail
              go_ret
              exact HE.out _ HX2.out.1 HX2.out.2.1 HX2.out.2.2 HF.out
          · have p1 : ¬ (k : Int) + 2 + n + 1 < (s.size : Int) := by omega
            have HF : Hid (C = none) := by show C = _; rw [HC.out, none_at s (k + 2 + n + 1) (by omega), if_neg (by simp)]
            clear HC
            go_wp2_with fail
            go_ret
            exact HE.out _ HX2.out.1 HX2.out.2.1 HX2.out.2.2 HF.out
      · have e3 : ((s[k + 1].toNat : Int) != 61) = true := by have q : ((s[k + 1].toNat : Int) == 61) = false := u8_no 61 (by omega) h3; rw [bne, q]; rfl
        have HF : Hid (equalS (s.data.toList.drop k) = none) := equal_not (.inr (.inr (by rw [by_drop s k hk, by_drop s (k + 1) (by omega)]; simpa using h3)))
        generalize equalS (s.data.toList.drop k) = C at HF ⊢
        clear h2 h3
        go_enter Tryz.func16, Tryz.ntmps16
        go_wp2_with fail
        go_quiet (fail)
        go_wp2_with fail
        go_ret
        exact took_none HF.out HX.out.1 HX.out.2 below_drewN
    · have e2 : ((s[k].toNat : Int) != 91) = true := by have q : ((s[k].toNat : Int) == 91) = false := u8_no 91 (by omega) h2; rw [bne, q]; rfl
      have HF : Hid (equalS (s.data.toList.drop k) = none) := equal_not (.inr (.inl (by rw [by_drop s k hk]; simpa using h2)))
      generalize equalS (s.data.toList.drop k) = C at HF ⊢
      clear h2
      go_enter Tryz.func16, Tryz.ntmps16
      go_wp2_with fail
      go_quiet (fail)
      go_wp2_with fail
      go_ret
      exact took_none HF.out HX.out.1 HX.out.2 below_drewN
  · have n1 : decide ((s.size : Int) ≤ (k : Int) + 2) = true := decide_eq_true (by omega)
    have HF : Hid (equalS (s.data.toList.drop k) = none) := equal_not (.inl (by rw [List.length_drop]; show s.size - k ≤ 2; omega))
    generalize equalS (s.data.toList.drop k) = C at HF ⊢
    go_enter Tryz.func16, Tryz.ntmps16
    go_wp2_with fail
    go_quiet (fail)
    go_wp2_with fail
    go_ret
    exact took_none HF.out HX.out.1 HX.out.2 below_drewN
end Go.Proofs.YtfkoehfkiommpaaGreatDoor.Tr

namespace Go.Proofs.YtfkoehfkiommpaaGreatDoor.Tr
open Go.Proofs.YtfkoehfkiommpaaGreatDoor.Op
open Go.RowKit

/-- How many bytes of a kind a text begins with. -/
def run (p : Nat → Bool) (l : List UInt8) : Nat := (l.takeWhile fun c => p c.toNat).length
theorem run_go (p : Nat → Bool) (l : List UInt8) (k : Nat) (h : k < l.length) (hp : p (l[k]).toNat = true) : k + run p (l.drop k) = (k + 1) + run p (l.drop (k + 1)) := by
  rw [List.drop_eq_getElem_cons h]
  unfold run
  rw [List.takeWhile_cons, if_pos hp]
  simp
  omega
theorem run_stop (p : Nat → Bool) (l : List UInt8) (k : Nat) (h : k < l.length) (hp : p (l[k]).toNat = false) : k + run p (l.drop k) = k := by
  rw [List.drop_eq_getElem_cons h]
  unfold run
  rw [List.takeWhile_cons, if_neg (by rw [hp]; simp)]
  simp
theorem run_end (p : Nat → Bool) (l : List UInt8) (k : Nat) (h : l.length ≤ k) : k + run p (l.drop k) = k := by
  rw [List.drop_eq_nil_of_le h]
  simp [run]
set_option maxRecDepth 100000 in
set_option maxHeartbeats 2000000 in
theorem countOf_c (f : Nat) (p : Nat → Bool) (l : List UInt8) (w : World) (hl : l.length ≤ 2097152) (hcf : ∀ (z : Array Value) (u : World), (callFunc f z).run Tryz.prog u = .ok (.enter f z) u) (hp : Kind f #[] p w) :
    Calls Tryz.prog 90 #[.string (sb l), .func (.func f) #[] #[]] w fun e w' => e = .returned (.int .i64 (run p l : Nat)) ∧ w' = w := by
  have HP := Lib.hid hp
  have HT : Hid (0 + run p (l.drop 0) = run p l) := by show _ = _; simp
  generalize run p l = T at HT ⊢
  have hsz := sb_size l
  have HS := Lib.hid hsz
  obtain ⟨s, hs⟩ : ∃ s, s = sb l := ⟨_, rfl⟩
  have HG : Hid (∀ (k : Nat) (h : k < s.size), ∃ h2 : k < l.length, s[k] = l[k]) := by
    subst hs
    exact fun k h => ⟨by rw [sb_size] at h; exact h, sb_get l k h⟩
  rw [← hs] at hsz ⊢
  clear hs hp HS
  have hl2 : s.size ≤ 2097152 := by omega
  have HL := Lib.hid hsz
  clear hsz hl
  go_enter Tryz.func90, Tryz.ntmps90
  go_wp2
  go_loop [5] (fun n => ∃ k : Nat, k ≤ s.size ∧ n = .int .i64 k ∧ Hid (k + run p (l.drop k) = T)) (fun n => s.size - (intOf n).toNat)
  case atStart => exact ⟨0, by omega, rfl, HT⟩
  case round =>
    obtain ⟨k, hk, rfl, HR⟩ := hrel
    clear HT
    by_cases hlt : k < s.size
    · have n1 : (k : Int) < (s.size : Int) := by omega
      have hc := kind_at HP.out s[k].toNat s[k].toNat_lt
      cases hpk : p s[k].toNat with
      | true =>
        rw [hpk] at hc
        have HN : Hid ((k + 1) + run p (l.drop (k + 1)) = T) := by
          obtain ⟨h2, e⟩ := HG.out k hlt
          rw [e] at hpk
          exact (run_go p l k h2 hpk).symm.trans HR.out
        clear hpk HR
        go_wp2_with (refine hc.mono ?_; rintro e w1 ⟨rfl, hw1⟩; rw [hw1]; clear hw1)
        exact ⟨⟨k + 1, by omega, by go_num, HN⟩, by simp [intOf]; omega⟩
      | false =>
        rw [hpk] at hc
        have HN : Hid (k = T) := by
          obtain ⟨h2, e⟩ := HG.out k hlt
          rw [e] at hpk
          exact (run_stop p l k h2 hpk).symm.trans HR.out
        clear hpk HR
        go_wp2_with (refine hc.mono ?_; rintro e w1 ⟨rfl, hw1⟩; rw [hw1]; clear hw1)
        go_ret
        exact ⟨congrArg (fun n : Nat => Ending.returned (.int .i64 (n : Int))) HN.out, rfl⟩
    · have n1 : ¬ (k : Int) < (s.size : Int) := by omega
      have HN : Hid (k = T) := (run_end p l k (by have := HL.out; omega)).symm.trans HR.out
      go_wp2
      go_ret
      exact ⟨congrArg (fun n : Nat => Ending.returned (.int .i64 (n : Int))) HN.out, rfl⟩
set_option maxRecDepth 100000 in
set_option maxHeartbeats 2000000 in
theorem cutSign_nil (w : World) : Calls Tryz.prog 48 #[.string (sb [])] w fun e w' => e = .returned (.tuple #[.int .u8 0, .string ⟨#[]⟩, .bool false]) ∧ w' = w := by
  go_enter Tryz.func48, Tryz.ntmps48
  go_wp2
  go_ret3
  exact ⟨rfl, rfl⟩
/-- A string as it lies. -/
structure Str (s : ByteArray) (l : List UInt8) : Prop where
  size : s.size = l.length
  get : ∀ (k : Nat) (h : k < s.size), ∃ h2 : k < l.length, s[k] = l[k]
  sub : ∀ a b, s.extract a b = sb ((l.drop a).take (b - a))
  from_ : ∀ a, s.extract a s.size = sb (l.drop a)
theorem str_sb (l : List UInt8) : Str (sb l) l := ⟨sb_size l, fun k h => ⟨by rw [sb_size] at h; exact h, sb_get l k h⟩, sb_ext l, sb_from l⟩
theorem Str.eq {s : ByteArray} {l : List UInt8} (h : Str s l) : s = sb l := by
  have := h.from_ 0
  rw [List.drop_zero] at this
  rw [← this]
  exact sb_inj (by rw [ext_list, List.drop_zero, Nat.sub_zero, List.take_of_length_le]; exact Nat.le_refl _)
set_option maxRecDepth 100000 in
set_option maxHeartbeats 2000000 in
theorem cutSign_bs (w : World) : Calls Tryz.prog 48 #[.string (sb [92])] w fun e w' => e = .returned (.tuple #[.int .u8 92, .string (sb []), .bool true]) ∧ Below w.heap.size w w' := by
  go_enter Tryz.func48, Tryz.ntmps48
  go_wp2_with fail
  go_quiet (fail)
  go_wp2_with fail
  go_ret3
  exact ⟨rfl, below_drewN⟩
set_option maxRecDepth 100000 in
set_option maxHeartbeats 2000000 in
theorem cutSign_one (c : UInt8) (r : List UInt8) (w : World) (hl : (c :: r).length ≤ 2097152) (h1 : c ≠ 92) :
    Calls Tryz.prog 48 #[.string (sb (c :: r))] w fun e w' => e = .returned (.tuple #[.int .u8 (c.toNat : Int), .string (sb r), .bool true]) ∧ Below w.heap.size w w' := by
  obtain ⟨s, hs⟩ : ∃ s, s = sb (c :: r) := ⟨_, rfl⟩
  have HS : Hid (Str s (c :: r)) := by rw [hs]; exact str_sb _
  have hsz := HS.out.size
  rw [← hs]
  clear hs
  rw [List.length_cons] at hsz hl
  have hx : s.extract 1 s.size = sb r := HS.out.from_ 1
  have h0 : 0 < s.size := by omega
  have hl2 : s.size ≤ 2097152 := by omega
  have hg : s[0] = c := (HS.out.get 0 h0).2
  have hem : s.toList.isEmpty = false := isEmpty_false s (by omega)
  have HG : Hid (Ending.returned (.tuple #[.int .u8 (s[0].toNat : Int), .string (s.extract 1 s.size), .bool true]) = .returned (.tuple #[.int .u8 (c.toNat : Int), .string (sb r), .bool true])) := by
    show _ = _
    rw [hg, hx]
  generalize sb r = R at HG ⊢
  have e0 : ((s[0].toNat : Int) == 92) = false := u8_no 92 (by omega) (by rw [hg]; exact h1)
  have n0 : ¬ (s[0].toNat : Int) = 92 := by simpa using e0
  clear hx hsz HS hg
  go_enter Tryz.func48, Tryz.ntmps48
  go_wp2_with fail
  go_quiet (fail)
  go_wp2_with fail
  go_ret3
  exact ⟨HG.out, below_drewN⟩
theorem octs_pre : ∀ (n : Nat) (l : List UInt8), l.take (octs n l).length = octs n l
  | 0, l => by simp [octs]
  | n + 1, [] => by simp [octs]
  | n + 1, c :: r => by
    rw [octs]
    split
    · rw [List.length_cons, List.take_succ_cons, octs_pre n r]
    · simp
theorem run_oct (l : List UInt8) : run (within 48 55) (l.take 3) = (octs 3 l).length := by
  rw [octs_take]
  rfl
set_option maxRecDepth 100000 in
set_option maxHeartbeats 4000000 in
theorem cutSign_oct (d : UInt8) (r : List UInt8) (w : World) (hl : (d :: r).length ≤ 2097151) (ho : octs 3 (d :: r) ≠ []) :
    Calls Tryz.prog 48 #[.string (sb (92 :: d :: r))] w fun e w' => e = .returned (.tuple #[.int .u8 ((UInt8.ofNat (octV (octs 3 (d :: r)))).toNat : Int), .string (sb ((d :: r).drop (octs 3 (d :: r)).length)), .bool true]) ∧ Below w.heap.size w w' := by
  obtain ⟨s, hs⟩ : ∃ s, s = sb (92 :: d :: r) := ⟨_, rfl⟩
  have HS : Hid (Str s (92 :: d :: r)) := by rw [hs]; exact str_sb _
  obtain ⟨s1, hs1⟩ : ∃ s, s = sb (d :: r) := ⟨_, rfl⟩
  have HS1 : Hid (Str s1 (d :: r)) := by rw [hs1]; exact str_sb _
  have hx : s.extract 1 s.size = s1 := by rw [hs1]; exact HS.out.from_ 1
  rw [← hs]
  clear hs hs1
  have hz : s.size = (d :: r).length + 1 := HS.out.size
  have hz1 : s1.size = (d :: r).length := HS1.out.size
  have h0 : 0 < s.size := by omega
  have h10 : 0 < s1.size := by rw [hz1]; simp
  have hl2 : s.size ≤ 2097152 := by omega
  have hl1 : s1.size ≤ 2097152 := by omega
  have hg : s[0] = 92 := (HS.out.get 0 h0).2
  have e0 : ((s[0].toNat : Int) == 92) = true := u8_yes 92 (by omega) hg
  have n0 : (s[0].toNat : Int) = 92 := by simpa using e0
  have hem : s.toList.isEmpty = false := isEmpty_false s (by omega)
  have m1 : ¬ s.size = 1 := by rw [List.length_cons] at hz; have := hz1; omega
  have n1 : ¬ (s.size : Int) = 1 := by omega
  have e1 : ((s.size : Int) == 1) = false := by simpa using n1
  have hg1 : s1[0] = d := (HS1.out.get 0 h10).2
  have hcut : s1.extract 0 (min (s1.size : Int) 3).toNat = sb ((d :: r).take 3) := by
    rw [HS1.out.sub, List.drop_zero, Nat.sub_zero]
    have ht : (d :: r).take (min (s1.size : Int) 3).toNat = (d :: r).take 3 := by
      rw [List.take_eq_take_iff, ← hz1]
      omega
    rw [ht]
  have hcnt := countOf_c 91 (within 48 55) ((d :: r).take 3) w (by rw [List.length_take]; omega) (fun _ _ => by kernel_rfl) (isOctal_c w)
  rw [run_oct, ← hcut] at hcnt
  clear hcut
  have hoct := fun W => octal_any (sb (octs 3 (d :: r))) 511 W (by rw [sb_size]; unfold maxLen; have := octs_le 3 (d :: r); omega) (by omega) (by omega)
  rw [sb_data, octal_v _ (octs_all 3 _) ho (octs_le 3 _)] at hoct
  have hn0 := List.length_pos_iff.2 ho
  have hn1 : (octs 3 (d :: r)).length ≤ s1.size := by rw [hz1]; exact octs_len 3 _
  have HX : Hid (s1.extract 0 (octs 3 (d :: r)).length = sb (octs 3 (d :: r))) := by
    show _ = _
    rw [HS1.out.sub, List.drop_zero, Nat.sub_zero]
    rw [octs_pre]
  have HW : Hid (IntKind.u8.wrap ((octV (octs 3 (d :: r)) : Nat) : Int) = ((UInt8.ofNat (octV (octs 3 (d :: r)))).toNat : Int)) := wrap_byte _
  have HR : Hid (s1.extract (octs 3 (d :: r)).length s1.size = sb ((d :: r).drop (octs 3 (d :: r)).length)) := HS1.out.from_ _
  have hov := octV_le _ (octs_all 3 (d :: r)) (octs_le 3 _)
  generalize octs 3 (d :: r) = D at *
  have HZ := Lib.hid (And.intro hz (And.intro hz1 (And.intro hg hg1)))
  clear hz hz1 hg hg1 ho
  generalize hov2 : octV D = V at *
  generalize D.length = m at *
  generalize sb D = sD at *
  go_enter Tryz.func48, Tryz.ntmps48
  go_wp2_with (first
    | (go_at_call 90; refine hcnt.mono ?_; rintro e w1 ⟨rfl, hw1⟩; rw [hw1]; clear hw1)
    | (go_at_call 92; rw [show s1.extract 0 m = sD from HX.out]; refine (hoct _).mono ?_; rintro e w1 ⟨rfl, hw1⟩; rw [hw1]; clear hw1))
  go_quiet (fail)
  go_wp2_with fail
  go_ret3
  refine ⟨?_, below_drewN⟩
  rw [← HW.out, ← HR.out]
  rfl
end Go.Proofs.YtfkoehfkiommpaaGreatDoor.Tr
