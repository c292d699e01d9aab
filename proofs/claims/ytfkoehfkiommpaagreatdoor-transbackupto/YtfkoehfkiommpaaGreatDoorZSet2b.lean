/- The program's strings: signs behind a backslash. -/
import Derived.Test.YtfkoehfkiommpaaGreatDoorZSet2
namespace Go.Proofs.YtfkoehfkiommpaaGreatDoor.Tr
open Go.Proofs.YtfkoehfkiommpaaGreatDoor.Op
open Go.RowKit

set_option maxRecDepth 100000 in
set_option maxHeartbeats 4000000 in
theorem cutSign_let (d : UInt8) (r : List UInt8) (w : World) (hl : (d :: r).length ≤ 2097151) (ho : octs 3 (d :: r) = []) :
    Calls Tryz.prog 48 #[.string (sb (92 :: d :: r))] w fun e w' => e = .returned (.tuple #[.int .u8 ((codeS d).toNat : Int), .string (sb r), .bool true]) ∧ Below w.heap.size w w' := by
  obtain ⟨s, hs⟩ : ∃ s, s = sb (92 :: d :: r) := ⟨_, rfl⟩
  have HS : Hid (Str s (92 :: d :: r)) := by rw [hs]; exact str_sb _
  obtain ⟨s1, hs1⟩ : ∃ s, s = sb (d :: r) := ⟨_, rfl⟩
  have HS1 : Hid (Str s1 (d :: r)) := by rw [hs1]; exact str_sb _
  have hx : s.extract 1 s.size = s1 := by rw [hs1]; exact HS.out.from_ 1
  rw [← hs]
  clear hs hs1
  have hz : s.size = (d :: r).length + 1 := HS.out.size
  have hz1 : s1.size = (d :: r).length := HS1.out.size
  have h0 : 0 < s.size := by omega
  have h10 : 0 < s1.size := by rw [hz1]; simp
  have hl2 : s.size ≤ 2097152 := by omega
  have hl1 : s1.size ≤ 2097152 := by omega
  have hg : s[0] = 92 := (HS.out.get 0 h0).2
  have e0 : ((s[0].toNat : Int) == 92) = true := u8_yes 92 (by omega) hg
  have n0 : (s[0].toNat : Int) = 92 := by simpa using e0
  have hem : s.toList.isEmpty = false := isEmpty_false s (by omega)
  have m1 : ¬ s.size = 1 := by rw [List.length_cons] at hz; have := hz1; omega
  have n1 : ¬ (s.size : Int) = 1 := by omega
  have e1 : ((s.size : Int) == 1) = false := by simpa using n1
  have hg1 : s1[0] = d := (HS1.out.get 0 h10).2
  have hcut : s1.extract 0 (min (s1.size : Int) 3).toNat = sb ((d :: r).take 3) := by
    rw [HS1.out.sub, List.drop_zero, Nat.sub_zero]
    have ht : (d :: r).take (min (s1.size : Int) 3).toNat = (d :: r).take 3 := by
      rw [List.take_eq_take_iff, ← hz1]
      omega
    rw [ht]
  have hcnt := countOf_c 91 (within 48 55) ((d :: r).take 3) w (by rw [List.length_take]; omega) (fun _ _ => by kernel_rfl) (isOctal_c w)
  rw [run_oct, ← hcut] at hcnt
  clear hcut
  rw [ho] at hcnt
  have hix := Tryz.strings_IndexByte ⟨#[97, 98, 102, 110, 114, 116, 118]⟩ (s1[0].toNat : Int) w
  have hdd : ((s1[0].toNat : Int).toNat.toUInt8) = d := by rw [hg1]; simp
  rw [hdd, show (⟨#[97, 98, 102, 110, 114, 116, 118]⟩ : ByteArray).data.toList = [97, 98, 102, 110, 114, 116, 118] from rfl] at hix
  have HX : Hid (s1.extract 1 s1.size = sb r) := HS1.out.from_ 1
  have HD : Hid (s1[0] = d) := hg1
  have HZ := Lib.hid (And.intro hz (And.intro hz1 hg))
  clear hz hz1 hg hg1 hdd ho
  generalize sb r = R at HX ⊢
  rcases code_at d with ⟨hi, hc⟩ | ⟨i, hi7, hi, hc⟩
  · rw [hi] at hix
    rw [hc]
    go_enter Tryz.func48, Tryz.ntmps48
    go_wp2_with (first
      | (go_at_call 90; refine hcnt.mono ?_; rintro e w1 ⟨rfl, hw1⟩; rw [hw1]; clear hw1)
      | (go_at_call 93; refine hix.mono ?_; rintro e w1 ⟨rfl, hw1⟩; rw [hw1]; clear hw1))
    go_quiet (fail)
    go_wp2_with fail
    go_ret3
    exact ⟨by rw [← HX.out, ← HD.out]; rfl, below_drewN⟩
  · rw [hi] at hix
    rw [← hc]
    clear hi hc
    rcases seven hi7 with rfl | rfl | rfl | rfl | rfl | rfl | rfl
    all_goals
      clear hi7
      go_enter Tryz.func48, Tryz.ntmps48
      go_wp2_with (first
        | (go_at_call 90; refine hcnt.mono ?_; rintro e w1 ⟨rfl, hw1⟩; rw [hw1]; clear hw1)
        | (go_at_call 93; refine hix.mono ?_; rintro e w1 ⟨rfl, hw1⟩; rw [hw1]; clear hw1))
      go_quiet (fail)
      go_wp2_with fail
      go_ret3
      exact ⟨by rw [← HX.out]; rfl, below_drewN⟩
/-- The first sign of a text. -/
theorem cutSign_c (l : List UInt8) (w : World) (hl : l.length ≤ 2097152) (h0 : l ≠ []) :
    Calls Tryz.prog 48 #[.string (sb l)] w fun e w' => e = .returned (.tuple #[.int .u8 ((signS l).1.toNat : Int), .string (sb (l.drop (signS l).2)), .bool true]) ∧ Below w.heap.size w w' := by
  rcases l with _ | ⟨c, r⟩
  · exact absurd rfl h0
  · by_cases hc : c = 92
    · subst hc
      rcases r with _ | ⟨d, r⟩
      · exact cutSign_bs w
      · have hS : signS (92 :: d :: r) = if octs 3 (d :: r) = [] then (codeS d, 2) else (UInt8.ofNat (octV (octs 3 (d :: r))), (octs 3 (d :: r)).length + 1) := signS_oct rfl
        by_cases ho : octs 3 (d :: r) = []
        · rw [if_pos ho] at hS
          rw [hS]
          exact cutSign_let d r w (by simp at hl ⊢; omega) ho
        · rw [if_neg ho] at hS
          rw [hS]
          exact cutSign_oct d r w (by simp at hl ⊢; omega) ho
    · rw [signS_one rfl (.inl hc)]
      exact cutSign_one c r w hl hc
end Go.Proofs.YtfkoehfkiommpaaGreatDoor.Tr
