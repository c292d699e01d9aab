/- The contract of the library's formatter of numbers to the bases 8 and 16. -/
import Derived.Test.YteimilnecahifaaGreatDoorKBefall
import Derived.Test.YteimilnecahifaaGreatDoorNMath
import Derived.WalkKit
import Derived.WalkSpells
import Derived.Lib.Hide
import Derived.Lib.ItoaMem
import Derived.Laws.BitsAllLaws
import Derived.Test.YteimilnecahifaaGreatDoorShelf4
import Derived.WalkSmall
namespace Go.Proofs.YteimilnecahifaaGreatDoor
open Go.RowKit

def zeros65 : Array Value := Array.replicate 65 (.int .u8 0)

theorem idx_signs (d : Nat) (h : d < 16) : ∀ w, (Instr.index 9 (.string ⟨List.toArray (48 :: 49 :: 50 :: 51 :: 52 :: 53 :: 54 :: 55 :: 56 :: 57 :: 97 :: 98 :: 99 :: 100 :: 101 :: 102 :: 103 :: 104 :: 105 :: 106 :: 107 :: 108 :: 109 :: 110 :: 111 :: 112 :: 113 :: 114 :: 115 :: 116 :: 117 :: 118 :: 119 :: 120 :: 121 :: 122 :: [])⟩) (.int .u64 (d : Int))).run Tryz.prog w = .ok (.int .u8 ((sgn d).toNat : Int)) w := by
  match d, h with
  | 0, _ => intro w; kernel_rfl
  | 1, _ => intro w; kernel_rfl
  | 2, _ => intro w; kernel_rfl
  | 3, _ => intro w; kernel_rfl
  | 4, _ => intro w; kernel_rfl
  | 5, _ => intro w; kernel_rfl
  | 6, _ => intro w; kernel_rfl
  | 7, _ => intro w; kernel_rfl
  | 8, _ => intro w; kernel_rfl
  | 9, _ => intro w; kernel_rfl
  | 10, _ => intro w; kernel_rfl
  | 11, _ => intro w; kernel_rfl
  | 12, _ => intro w; kernel_rfl
  | 13, _ => intro w; kernel_rfl
  | 14, _ => intro w; kernel_rfl
  | 15, _ => intro w; kernel_rfl
  | n + 16, h => exact absurd h (by omega)

theorem rets_of {a b : List UInt8} (h : a = b) : Ending.returned (.tuple #[.slice none 0 0, .string ⟨a.toArray⟩]) = .returned (.tuple #[.slice none 0 0, .string ⟨b.toArray⟩]) := by rw [h]

theorem tail_set {A : Array Value} {i : Nat} {T : List UInt8} (h : ∀ j (hj : j < T.length), A[i + j]? = some (.int .u8 T[j].toNat)) (hi : 1 ≤ i ∧ i + T.length = 65) (hA : A.size = 65) (c : UInt8) :
    ∀ j (hj : j < (c :: T).length), (A.setIfInBounds (i - 1) (.int .u8 c.toNat))[i - 1 + j]? = some (.int .u8 (c :: T)[j].toNat) := by
  intro j hj
  cases j with
  | zero => simp [Array.getElem?_setIfInBounds, hA]; omega
  | succ j =>
    have hj' : j < T.length := by simpa using hj
    have e : i - 1 + (j + 1) = i + j := by omega
    rw [e, Array.getElem?_setIfInBounds_ne (by omega), h j hj']
    rfl

theorem slice65 (W : World) (b k : Nat) (m : Int) (hm : m = (k : Int)) (hk : k < 65) : (Instr.sliceAt 109 (.pointer (some ⟨b, 0, none⟩)) (some (.int .i64 m)) none none).run Tryz.prog W = .ok (.slice (some ⟨b, k, none⟩) (65 - k) (65 - k)) W := by
  subst hm
  have hal : Tryz.prog.arrayLen 109 = 65 := by kernel_rfl
  rw [run_sliceAt_array_l W 109 ⟨b, 0, none⟩ (by kernel_rfl) .i64 (k : Int) (by omega) (by rw [hal]; omega)]
  rw [hal]
  go_simp
  omega

theorem conv65 (w : World) (A : Array Value) (i n : Nat) (L : List UInt8) (hL : n = L.length) (h : ∀ j (hj : j < L.length), A[i + j]? = some (.int .u8 L[j].toNat)) :
    (convert 27 9 (.slice (some ⟨w.heap.size, i, none⟩) n n)).run Tryz.prog (w.alloc (.cells A 109)) = .ok (.string ⟨L.toArray⟩) (w.alloc (.cells A 109)) := by
  subst hL
  refine run_convert_bytes_back (P := Tryz.prog) _ 27 9 5 ⟨w.heap.size, i, none⟩ L.length L Tryz.underlying27 Tryz.underlying5 Tryz.underlying9 (fun j hj => ?_)
  rw [Lib.add_plain, World.cell?_alloc_new]
  exact h j hj

theorem tz8 (w : World) (h7 : w.cell? ⟨5, 7, none⟩ = some (.int .u8 3)) :
    Calls Tryz.prog 63 #[.int .u64 8] w fun e w' => e = .returned (.int .i64 3) ∧ w' = w := by
  have e1 : bits BinOp.and IntKind.u64 8 (IntKind.u64.wrap (-8)) = 8 := by kernel_rfl
  go_enter Tryz.func63, Tryz.ntmps63
  go_wp2
  go_ret
  exact ⟨rfl, rfl⟩
theorem pow8 (w : World) :
    Calls Tryz.prog 62 #[.int .i64 8] w fun e w' => e = .returned (.bool true) ∧ w' = w := by
  have e1 : bits BinOp.and IntKind.i64 8 7 = 0 := by kernel_rfl
  go_enter Tryz.func62, Tryz.ntmps62
  go_wp2
  go_ret
  exact ⟨rfl, rfl⟩
theorem and8 (u : Nat) (hu : u < 18446744073709551616) : bits BinOp.and IntKind.u64 (u : Int) 7 = ((u % 8 : Nat) : Int) := by
  have h := u64_and_nat u 7 hu (by omega)
  rw [show u &&& 7 = u % 8 from Nat.and_two_pow_sub_one_eq_mod u 3] at h
  exact h

set_option maxHeartbeats 2000000 in
set_option maxRecDepth 100000 in
theorem fmt8P (u0 : Nat) (hu0 : u0 < 18446744073709551616) (w : World) (h7 : w.cell? ⟨5, 7, none⟩ = some (.int .u8 3)) (hsz : 5 < w.heap.size) :
    Calls Tryz.prog 39 #[.slice none 0 0, .int .u64 u0, .int .i64 8, .bool false, .bool false] w fun e w' => e = .returned (.tuple #[.slice none 0 0, .string ⟨( dgB 8 u0).toArray⟩]) ∧ ∃ o, w' = w.alloc o := by
  have hz : ∀ w, (zeroValue 109).run Tryz.prog w = .ok (.agg zeros65) w := fun w => by kernel_rfl
  have h7' : (w.alloc (.cells zeros65 109)).cell? ⟨5, 7, none⟩ = some (.int .u8 3) := (World.cell?_alloc_past _ _ _ hsz).trans h7
  go_enter Tryz.func39, Tryz.ntmps39
  go_wp2_with (first | (go_at_call 62; refine (pow8 _).mono ?_; rintro e w' ⟨rfl, rfl⟩) | (go_at_call 63; refine (tz8 _ h7').mono ?_; rintro e w' ⟨rfl, rfl⟩))
  clear hz h7'
  go_loopw [1, 13] (fun vu vi wr => ∃ (A : Array Value) (i u : Nat) (T : List UInt8), vu = .int .u64 u ∧ vi = .int .i64 i ∧ wr = w.alloc (.cells A 109) ∧ A.size = 65 ∧ i + T.length = 65 ∧ 2 ≤ i ∧ u < 18446744073709551616 ∧ Hid (u < 2 ^ (i - 1)) ∧ Hid (∀ j (hj : j < T.length), A[i + j]? = some (.int .u8 T[j].toNat)) ∧ Hid (dgB 8 u ++ T = dgB 8 u0)) (fun _ vi _ => (intOf vi).toNat)
  case atStart => exact ⟨zeros65, 65, u0, [], rfl, rfl, rfl, rfl, rfl, by omega, hu0, hu0, fun j hj => absurd hj (by simp), List.append_nil _⟩
  case round =>
    obtain ⟨A, i, u, T, rfl, rfl, rfl, hA, hiT, hi2, hu64, HU, HT, HD⟩ := hrel
    obtain ⟨x, hx⟩ : ∃ x, A[i - 1]? = some x := ⟨A[i - 1]'(by omega), Array.getElem?_eq_getElem _⟩
    by_cases hge : 8 ≤ u
    · have hi5 := pow_lt_of (by omega) HU.out hi2
      obtain ⟨d, HDd⟩ : ∃ d : Nat, Hid (d = u % 8) := ⟨_, rfl⟩
      have hd : d < 8 := by have := HDd.out; omega
      have hb : bits BinOp.and IntKind.u64 (u : Int) 7 = (d : Int) := by rw [HDd.out]; exact and8 u hu64
      have hX := idx_signs d (by omega)
      go_wp2
      refine ⟨⟨A.setIfInBounds (i - 1) (.int .u8 (sgn d).toNat), i - 1, u / 8, sgn d :: T, by go_num, by go_num, rfl, by simp [hA], by simp; omega, by omega, by omega, pow_next (by omega) HU.out hi2, tail_set HT.out (by omega) hA _, ?_⟩, by simp [intOf]; omega⟩
      show dgB 8 (u / 8) ++ sgn d :: T = _
      rw [← HD.out, dgB_step (by omega) hge, HDd.out, List.append_assoc]
      rfl
    · have hX := idx_signs u (by omega)
      have HF : Hid (sgn u :: T = dgB 8 u0) := by have := HD.out; rw [dgB_small (by omega)] at this; exact this
      have HT2 := Lib.hid (tail_set HT.out (i := i) (by omega) hA (sgn u))
      have hsl := fun W => slice65 W w.heap.size (i - 1) ((i : Int) - 1) (by omega) (by omega)
      have hcv := conv65 w (A.setIfInBounds (i - 1) (.int .u8 (sgn u).toNat)) (i - 1) (65 - (i - 1)) (sgn u :: T) (by simp; omega) HT2.out
      go_wp2
      go_ret2
      exact ⟨rets_of HF.out, _, rfl⟩

set_option maxHeartbeats 2000000 in
set_option maxRecDepth 100000 in
theorem fmt8N (u0 : Nat) (hu0 : u0 < 18446744073709551616) (m : Int) (hm : IntKind.u64.wrap (-m) = (u0 : Int)) (w : World) (h7 : w.cell? ⟨5, 7, none⟩ = some (.int .u8 3)) (hsz : 5 < w.heap.size) :
    Calls Tryz.prog 39 #[.slice none 0 0, .int .u64 m, .int .i64 8, .bool true, .bool false] w fun e w' => e = .returned (.tuple #[.slice none 0 0, .string ⟨(45 :: dgB 8 u0).toArray⟩]) ∧ ∃ o, w' = w.alloc o := by
  have hz : ∀ w, (zeroValue 109).run Tryz.prog w = .ok (.agg zeros65) w := fun w => by kernel_rfl
  have h7' : (w.alloc (.cells zeros65 109)).cell? ⟨5, 7, none⟩ = some (.int .u8 3) := (World.cell?_alloc_past _ _ _ hsz).trans h7
  go_enter Tryz.func39, Tryz.ntmps39
  go_wp2_with (first | (go_at_call 62; refine (pow8 _).mono ?_; rintro e w' ⟨rfl, rfl⟩) | (go_at_call 63; refine (tz8 _ h7').mono ?_; rintro e w' ⟨rfl, rfl⟩))
  clear hz h7'
  go_loopw [1, 13] (fun vu vi wr => ∃ (A : Array Value) (i u : Nat) (T : List UInt8), vu = .int .u64 u ∧ vi = .int .i64 i ∧ wr = w.alloc (.cells A 109) ∧ A.size = 65 ∧ i + T.length = 65 ∧ 2 ≤ i ∧ u < 18446744073709551616 ∧ Hid (u < 2 ^ (i - 1)) ∧ Hid (∀ j (hj : j < T.length), A[i + j]? = some (.int .u8 T[j].toNat)) ∧ Hid (dgB 8 u ++ T = dgB 8 u0)) (fun _ vi _ => (intOf vi).toNat)
  case atStart => exact ⟨zeros65, 65, u0, [], rfl, rfl, rfl, rfl, rfl, by omega, hu0, hu0, fun j hj => absurd hj (by simp), List.append_nil _⟩
  case round =>
    obtain ⟨A, i, u, T, rfl, rfl, rfl, hA, hiT, hi2, hu64, HU, HT, HD⟩ := hrel
    obtain ⟨x, hx⟩ : ∃ x, A[i - 1]? = some x := ⟨A[i - 1]'(by omega), Array.getElem?_eq_getElem _⟩
    by_cases hge : 8 ≤ u
    · have hi5 := pow_lt_of (by omega) HU.out hi2
      obtain ⟨d, HDd⟩ : ∃ d : Nat, Hid (d = u % 8) := ⟨_, rfl⟩
      have hd : d < 8 := by have := HDd.out; omega
      have hb : bits BinOp.and IntKind.u64 (u : Int) 7 = (d : Int) := by rw [HDd.out]; exact and8 u hu64
      have hX := idx_signs d (by omega)
      go_wp2
      refine ⟨⟨A.setIfInBounds (i - 1) (.int .u8 (sgn d).toNat), i - 1, u / 8, sgn d :: T, by go_num, by go_num, rfl, by simp [hA], by simp; omega, by omega, by omega, pow_next (by omega) HU.out hi2, tail_set HT.out (by omega) hA _, ?_⟩, by simp [intOf]; omega⟩
      show dgB 8 (u / 8) ++ sgn d :: T = _
      rw [← HD.out, dgB_step (by omega) hge, HDd.out, List.append_assoc]
      rfl
    · have hX := idx_signs u (by omega)
      have HF : Hid (sgn u :: T = dgB 8 u0) := by have := HD.out; rw [dgB_small (by omega)] at this; exact this
      have HT2 := Lib.hid (tail_set HT.out (i := i) (by omega) hA (sgn u))
      obtain ⟨y, hy⟩ : ∃ y, (A.setIfInBounds (i - 1) (.int .u8 (sgn u).toNat))[i - 1 - 1]? = some y := ⟨_, Array.getElem?_eq_getElem (by simp; omega)⟩
      have HT3 := Lib.hid (tail_set HT2.out (i := i - 1) (by simp; omega) (by simp [hA]) 45)
      have hsl := fun W => slice65 W w.heap.size (i - 1 - 1) ((i : Int) - 1 - 1) (by omega) (by omega)
      have hcv := conv65 w ((A.setIfInBounds (i - 1) (.int .u8 (sgn u).toNat)).setIfInBounds (i - 1 - 1) (.int .u8 45)) (i - 1 - 1) (65 - (i - 1 - 1)) (45 :: sgn u :: T) (by simp; omega) HT3.out
      go_wp2
      go_ret2
      exact ⟨rets_of (congrArg (45 :: ·) HF.out), _, rfl⟩

theorem tz16 (w : World) (h7 : w.cell? ⟨5, 15, none⟩ = some (.int .u8 4)) :
    Calls Tryz.prog 63 #[.int .u64 16] w fun e w' => e = .returned (.int .i64 4) ∧ w' = w := by
  have e1 : bits BinOp.and IntKind.u64 16 (IntKind.u64.wrap (-16)) = 16 := by kernel_rfl
  go_enter Tryz.func63, Tryz.ntmps63
  go_wp2
  go_ret
  exact ⟨rfl, rfl⟩
theorem pow16 (w : World) :
    Calls Tryz.prog 62 #[.int .i64 16] w fun e w' => e = .returned (.bool true) ∧ w' = w := by
  have e1 : bits BinOp.and IntKind.i64 16 15 = 0 := by kernel_rfl
  go_enter Tryz.func62, Tryz.ntmps62
  go_wp2
  go_ret
  exact ⟨rfl, rfl⟩
theorem and16 (u : Nat) (hu : u < 18446744073709551616) : bits BinOp.and IntKind.u64 (u : Int) 15 = ((u % 16 : Nat) : Int) := by
  have h := u64_and_nat u 15 hu (by omega)
  rw [show u &&& 15 = u % 16 from Nat.and_two_pow_sub_one_eq_mod u 4] at h
  exact h

set_option maxHeartbeats 2000000 in
set_option maxRecDepth 100000 in
theorem fmt16P (u0 : Nat) (hu0 : u0 < 18446744073709551616) (w : World) (h7 : w.cell? ⟨5, 15, none⟩ = some (.int .u8 4)) (hsz : 5 < w.heap.size) :
    Calls Tryz.prog 39 #[.slice none 0 0, .int .u64 u0, .int .i64 16, .bool false, .bool false] w fun e w' => e = .returned (.tuple #[.slice none 0 0, .string ⟨( dgB 16 u0).toArray⟩]) ∧ ∃ o, w' = w.alloc o := by
  have hz : ∀ w, (zeroValue 109).run Tryz.prog w = .ok (.agg zeros65) w := fun w => by kernel_rfl
  have h7' : (w.alloc (.cells zeros65 109)).cell? ⟨5, 15, none⟩ = some (.int .u8 4) := (World.cell?_alloc_past _ _ _ hsz).trans h7
  go_enter Tryz.func39, Tryz.ntmps39
  go_wp2_with (first | (go_at_call 62; refine (pow16 _).mono ?_; rintro e w' ⟨rfl, rfl⟩) | (go_at_call 63; refine (tz16 _ h7').mono ?_; rintro e w' ⟨rfl, rfl⟩))
  clear hz h7'
  go_loopw [1, 13] (fun vu vi wr => ∃ (A : Array Value) (i u : Nat) (T : List UInt8), vu = .int .u64 u ∧ vi = .int .i64 i ∧ wr = w.alloc (.cells A 109) ∧ A.size = 65 ∧ i + T.length = 65 ∧ 2 ≤ i ∧ u < 18446744073709551616 ∧ Hid (u < 2 ^ (i - 1)) ∧ Hid (∀ j (hj : j < T.length), A[i + j]? = some (.int .u8 T[j].toNat)) ∧ Hid (dgB 16 u ++ T = dgB 16 u0)) (fun _ vi _ => (intOf vi).toNat)
  case atStart => exact ⟨zeros65, 65, u0, [], rfl, rfl, rfl, rfl, rfl, by omega, hu0, hu0, fun j hj => absurd hj (by simp), List.append_nil _⟩
  case round =>
    obtain ⟨A, i, u, T, rfl, rfl, rfl, hA, hiT, hi2, hu64, HU, HT, HD⟩ := hrel
    obtain ⟨x, hx⟩ : ∃ x, A[i - 1]? = some x := ⟨A[i - 1]'(by omega), Array.getElem?_eq_getElem _⟩
    by_cases hge : 16 ≤ u
    · have hi5 := pow_lt_of (by omega) HU.out hi2
      obtain ⟨d, HDd⟩ : ∃ d : Nat, Hid (d = u % 16) := ⟨_, rfl⟩
      have hd : d < 16 := by have := HDd.out; omega
      have hb : bits BinOp.and IntKind.u64 (u : Int) 15 = (d : Int) := by rw [HDd.out]; exact and16 u hu64
      have hX := idx_signs d (by omega)
      go_wp2
      refine ⟨⟨A.setIfInBounds (i - 1) (.int .u8 (sgn d).toNat), i - 1, u / 16, sgn d :: T, by go_num, by go_num, rfl, by simp [hA], by simp; omega, by omega, by omega, pow_next (by omega) HU.out hi2, tail_set HT.out (by omega) hA _, ?_⟩, by simp [intOf]; omega⟩
      show dgB 16 (u / 16) ++ sgn d :: T = _
      rw [← HD.out, dgB_step (by omega) hge, HDd.out, List.append_assoc]
      rfl
    · have hX := idx_signs u (by omega)
      have HF : Hid (sgn u :: T = dgB 16 u0) := by have := HD.out; rw [dgB_small (by omega)] at this; exact this
      have HT2 := Lib.hid (tail_set HT.out (i := i) (by omega) hA (sgn u))
      have hsl := fun W => slice65 W w.heap.size (i - 1) ((i : Int) - 1) (by omega) (by omega)
      have hcv := conv65 w (A.setIfInBounds (i - 1) (.int .u8 (sgn u).toNat)) (i - 1) (65 - (i - 1)) (sgn u :: T) (by simp; omega) HT2.out
      go_wp2
      go_ret2
      exact ⟨rets_of HF.out, _, rfl⟩

set_option maxHeartbeats 2000000 in
set_option maxRecDepth 100000 in
theorem fmt16N (u0 : Nat) (hu0 : u0 < 18446744073709551616) (m : Int) (hm : IntKind.u64.wrap (-m) = (u0 : Int)) (w : World) (h7 : w.cell? ⟨5, 15, none⟩ = some (.int .u8 4)) (hsz : 5 < w.heap.size) :
    Calls Tryz.prog 39 #[.slice none 0 0, .int .u64 m, .int .i64 16, .bool true, .bool false] w fun e w' => e = .returned (.tuple #[.slice none 0 0, .string ⟨(45 :: dgB 16 u0).toArray⟩]) ∧ ∃ o, w' = w.alloc o := by
  have hz : ∀ w, (zeroValue 109).run Tryz.prog w = .ok (.agg zeros65) w := fun w => by kernel_rfl
  have h7' : (w.alloc (.cells zeros65 109)).cell? ⟨5, 15, none⟩ = some (.int .u8 4) := (World.cell?_alloc_past _ _ _ hsz).trans h7
  go_enter Tryz.func39, Tryz.ntmps39
  go_wp2_with (first | (go_at_call 62; refine (pow16 _).mono ?_; rintro e w' ⟨rfl, rfl⟩) | (go_at_call 63; refine (tz16 _ h7').mono ?_; rintro e w' ⟨rfl, rfl⟩))
  clear hz h7'
  go_loopw [1, 13] (fun vu vi wr => ∃ (A : Array Value) (i u : Nat) (T : List UInt8), vu = .int .u64 u ∧ vi = .int .i64 i ∧ wr = w.alloc (.cells A 109) ∧ A.size = 65 ∧ i + T.length = 65 ∧ 2 ≤ i ∧ u < 18446744073709551616 ∧ Hid (u < 2 ^ (i - 1)) ∧ Hid (∀ j (hj : j < T.length), A[i + j]? = some (.int .u8 T[j].toNat)) ∧ Hid (dgB 16 u ++ T = dgB 16 u0)) (fun _ vi _ => (intOf vi).toNat)
  case atStart => exact ⟨zeros65, 65, u0, [], rfl, rfl, rfl, rfl, rfl, by omega, hu0, hu0, fun j hj => absurd hj (by simp), List.append_nil _⟩
  case round =>
    obtain ⟨A, i, u, T, rfl, rfl, rfl, hA, hiT, hi2, hu64, HU, HT, HD⟩ := hrel
    obtain ⟨x, hx⟩ : ∃ x, A[i - 1]? = some x := ⟨A[i - 1]'(by omega), Array.getElem?_eq_getElem _⟩
    by_cases hge : 16 ≤ u
    · have hi5 := pow_lt_of (by omega) HU.out hi2
      obtain ⟨d, HDd⟩ : ∃ d : Nat, Hid (d = u % 16) := ⟨_, rfl⟩
      have hd : d < 16 := by have := HDd.out; omega
      have hb : bits BinOp.and IntKind.u64 (u : Int) 15 = (d : Int) := by rw [HDd.out]; exact and16 u hu64
      have hX := idx_signs d (by omega)
      go_wp2
      refine ⟨⟨A.setIfInBounds (i - 1) (.int .u8 (sgn d).toNat), i - 1, u / 16, sgn d :: T, by go_num, by go_num, rfl, by simp [hA], by simp; omega, by omega, by omega, pow_next (by omega) HU.out hi2, tail_set HT.out (by omega) hA _, ?_⟩, by simp [intOf]; omega⟩
      show dgB 16 (u / 16) ++ sgn d :: T = _
      rw [← HD.out, dgB_step (by omega) hge, HDd.out, List.append_assoc]
      rfl
    · have hX := idx_signs u (by omega)
      have HF : Hid (sgn u :: T = dgB 16 u0) := by have := HD.out; rw [dgB_small (by omega)] at this; exact this
      have HT2 := Lib.hid (tail_set HT.out (i := i) (by omega) hA (sgn u))
      obtain ⟨y, hy⟩ : ∃ y, (A.setIfInBounds (i - 1) (.int .u8 (sgn u).toNat))[i - 1 - 1]? = some y := ⟨_, Array.getElem?_eq_getElem (by simp; omega)⟩
      have HT3 := Lib.hid (tail_set HT2.out (i := i - 1) (by simp; omega) (by simp [hA]) 45)
      have hsl := fun W => slice65 W w.heap.size (i - 1 - 1) ((i : Int) - 1 - 1) (by omega) (by omega)
      have hcv := conv65 w ((A.setIfInBounds (i - 1) (.int .u8 (sgn u).toNat)).setIfInBounds (i - 1 - 1) (.int .u8 45)) (i - 1 - 1) (65 - (i - 1 - 1)) (45 :: sgn u :: T) (by simp; omega) HT3.out
      go_wp2
      go_ret2
      exact ⟨rets_of (congrArg (45 :: ·) HF.out), _, rfl⟩
end Go.Proofs.YteimilnecahifaaGreatDoor

namespace Go.Proofs.YteimilnecahifaaGreatDoor
open Go.RowKit

theorem retS_of {a b : List UInt8} (h : b = a) : Ending.returned (.string ⟨a.toArray⟩) = .returned (.string ⟨b.toArray⟩) := by rw [h]
theorem digL_neg (B u : Nat) (h : 1 ≤ u) : digL B (-(u : Int)) = 45 :: dgB B u := by
  rw [digL, if_pos (by omega), Int.natAbs_neg, Int.natAbs_natCast]
theorem digL_nonneg (B u : Nat) : digL B (u : Int) = dgB B u := by
  rw [digL, if_neg (by omega), Int.natAbs_natCast]
theorem wrapNeg (u : Nat) (h : u ≤ 9223372036854775808) : IntKind.u64.wrap (-(IntKind.u64.wrap (-(u : Int)))) = (u : Int) := by
  rw [IntKind.wrap_u64, IntKind.wrap_u64]; omega
theorem decDigits_dgB (u : Nat) : Lib.decDigits u = dgB 10 u := by
  induction u using Nat.strongRecOn with
  | ind u ih =>
    by_cases h : u < 10
    · rw [Lib.decDigits_one h, dgB_small h, sgn, if_pos h]
    · rw [Lib.decDigits, dif_neg h, dgB_step (by omega) (by omega), ih (u / 10) (by omega), sgn, if_pos (by omega)]
theorem itoa_digL (n : Int) : Lib.itoa n = digL 10 n := by
  unfold Lib.itoa digL
  by_cases h : n < 0
  · rw [if_pos h, if_pos h, decDigits_dgB]
  · rw [if_neg h, if_neg h, decDigits_dgB]
    congr 1
    omega
theorem below_grow (w : World) (k : Nat) (os : Array Obj) : Below w.heap.size w (Sort.grow (w.drewN k) os) := by
  have h : Below w.heap.size w (w.drewN k) := (Below.refl _ _).trans ⟨rfl, rfl, rfl, Nat.le_refl _, fun _ _ => rfl⟩
  have hs : w.heap.size ≤ (w.drewN k).heap.size := h.size
  exact h.trans ⟨rfl, rfl, rfl, by simp, fun j hj => Sort.heap_grow_old _ _ (by omega)⟩

set_option maxHeartbeats 400000 in
theorem fi8P (u : Nat) (hu : u ≤ 9223372036854775807) (w : World) (h7 : w.cell? ⟨5, 7, none⟩ = some (.int .u8 3)) (hsz : 5 < w.heap.size) :
    Calls Tryz.prog 28 #[.int .i64 u, .int .i64 8] w fun e w' => e = .returned (.string ⟨(dgB 8 u).toArray⟩) ∧ ∃ o, w' = w.alloc o := by
  go_enter Tryz.func28, Tryz.ntmps28
  go_wp2_with (go_at_call 39; refine (fmt8P u (by omega) _ h7 hsz).mono ?_; rintro e w' ⟨rfl, o, rfl⟩)
  go_ret
  exact ⟨rfl, _, rfl⟩
set_option maxHeartbeats 400000 in
theorem fi8N (u : Nat) (h1 : 1 ≤ u) (hu : u ≤ 9223372036854775808) (w : World) (h7 : w.cell? ⟨5, 7, none⟩ = some (.int .u8 3)) (hsz : 5 < w.heap.size) :
    Calls Tryz.prog 28 #[.int .i64 (-(u : Int)), .int .i64 8] w fun e w' => e = .returned (.string ⟨(45 :: dgB 8 u).toArray⟩) ∧ ∃ o, w' = w.alloc o := by
  have hdec : decide (0 < u) = true := by simp; omega
  have HM := Lib.hid (wrapNeg u (by omega))
  go_enter Tryz.func28, Tryz.ntmps28
  go_wp2_with (go_at_call 39; refine (fmt8N u (by omega) _ HM.out _ h7 hsz).mono ?_; rintro e w' ⟨rfl, o, rfl⟩)
  go_ret
  exact ⟨rfl, _, rfl⟩
theorem sfi8 (n : Int) (h0 : -9223372036854775808 ≤ n) (h1 : n ≤ 9223372036854775807) (w : World) (h7 : w.cell? ⟨5, 7, none⟩ = some (.int .u8 3)) (hsz : 5 < w.heap.size) :
    Calls Tryz.prog 19 #[.int .i64 n, .int .i64 8] w fun e w' => e = .returned (.string ⟨(digL 8 n).toArray⟩) ∧ Below w.heap.size w w' := by
  by_cases hn : n < 0
  · obtain ⟨u, rfl⟩ : ∃ u : Nat, n = -(u : Int) := ⟨n.natAbs, by omega⟩
    have HD := Lib.hid (digL_neg 8 u (by omega))
    go_enter Tryz.func19, Tryz.ntmps19
    go_wp2_with (go_at_call 28; refine (fi8N u (by omega) (by omega) _ h7 hsz).mono ?_; rintro e w' ⟨rfl, o, rfl⟩)
    go_ret
    exact ⟨retS_of HD.out, (Below.refl _ _).alloc (Nat.le_refl _) _⟩
  · obtain ⟨u, rfl⟩ : ∃ u : Nat, n = u := ⟨n.toNat, by omega⟩
    have HD := Lib.hid (digL_nonneg 8 u)
    go_enter Tryz.func19, Tryz.ntmps19
    go_wp2_with (go_at_call 28; refine (fi8P u (by omega) _ h7 hsz).mono ?_; rintro e w' ⟨rfl, o, rfl⟩)
    go_ret
    exact ⟨retS_of HD.out, (Below.refl _ _).alloc (Nat.le_refl _) _⟩

set_option maxHeartbeats 400000 in
theorem fi16P (u : Nat) (hu : u ≤ 9223372036854775807) (w : World) (h7 : w.cell? ⟨5, 15, none⟩ = some (.int .u8 4)) (hsz : 5 < w.heap.size) :
    Calls Tryz.prog 28 #[.int .i64 u, .int .i64 16] w fun e w' => e = .returned (.string ⟨(dgB 16 u).toArray⟩) ∧ ∃ o, w' = w.alloc o := by
  go_enter Tryz.func28, Tryz.ntmps28
  go_wp2_with (go_at_call 39; refine (fmt16P u (by omega) _ h7 hsz).mono ?_; rintro e w' ⟨rfl, o, rfl⟩)
  go_ret
  exact ⟨rfl, _, rfl⟩
set_option maxHeartbeats 400000 in
theorem fi16N (u : Nat) (h1 : 1 ≤ u) (hu : u ≤ 9223372036854775808) (w : World) (h7 : w.cell? ⟨5, 15, none⟩ = some (.int .u8 4)) (hsz : 5 < w.heap.size) :
    Calls Tryz.prog 28 #[.int .i64 (-(u : Int)), .int .i64 16] w fun e w' => e = .returned (.string ⟨(45 :: dgB 16 u).toArray⟩) ∧ ∃ o, w' = w.alloc o := by
  have hdec : decide (0 < u) = true := by simp; omega
  have HM := Lib.hid (wrapNeg u (by omega))
  go_enter Tryz.func28, Tryz.ntmps28
  go_wp2_with (go_at_call 39; refine (fmt16N u (by omega) _ HM.out _ h7 hsz).mono ?_; rintro e w' ⟨rfl, o, rfl⟩)
  go_ret
  exact ⟨rfl, _, rfl⟩
theorem sfi16 (n : Int) (h0 : -9223372036854775808 ≤ n) (h1 : n ≤ 9223372036854775807) (w : World) (h7 : w.cell? ⟨5, 15, none⟩ = some (.int .u8 4)) (hsz : 5 < w.heap.size) :
    Calls Tryz.prog 19 #[.int .i64 n, .int .i64 16] w fun e w' => e = .returned (.string ⟨(digL 16 n).toArray⟩) ∧ Below w.heap.size w w' := by
  by_cases hn : n < 0
  · obtain ⟨u, rfl⟩ : ∃ u : Nat, n = -(u : Int) := ⟨n.natAbs, by omega⟩
    have HD := Lib.hid (digL_neg 16 u (by omega))
    go_enter Tryz.func19, Tryz.ntmps19
    go_wp2_with (go_at_call 28; refine (fi16N u (by omega) (by omega) _ h7 hsz).mono ?_; rintro e w' ⟨rfl, o, rfl⟩)
    go_ret
    exact ⟨retS_of HD.out, (Below.refl _ _).alloc (Nat.le_refl _) _⟩
  · obtain ⟨u, rfl⟩ : ∃ u : Nat, n = u := ⟨n.toNat, by omega⟩
    have HD := Lib.hid (digL_nonneg 16 u)
    go_enter Tryz.func19, Tryz.ntmps19
    go_wp2_with (go_at_call 28; refine (fi16P u (by omega) _ h7 hsz).mono ?_; rintro e w' ⟨rfl, o, rfl⟩)
    go_ret
    exact ⟨retS_of HD.out, (Below.refl _ _).alloc (Nat.le_refl _) _⟩

/-- What the program's number teller says to a base. -/
def digAt (base n : Int) : List UInt8 := if base = 8 then digL 8 n else if base = 10 then digL 10 n else if base = 16 then digL 16 n else []

set_option maxHeartbeats 400000 in
theorem digits_any (n base : Int) (h0 : -9223372036854775808 ≤ n) (h1 : n ≤ 9223372036854775807) (w : World) (h7 : w.cell? ⟨5, 7, none⟩ = some (.int .u8 3)) (h15 : w.cell? ⟨5, 15, none⟩ = some (.int .u8 4)) (hsz : 5 < w.heap.size) (htab : Lib.TabIs Tryz.prog w "internal/strconv.uint64pow10" .u64 Lib.pow10Tab) :
    Calls Tryz.prog 11 #[.int .i64 n, .int .i64 base] w fun e w' => e = .returned (.string ⟨(digAt base n).toArray⟩) ∧ Below w.heap.size w w' := by
  have HT := Lib.hid htab
  clear htab
  by_cases b8 : base = 8
  · subst b8
    go_enter Tryz.func11, Tryz.ntmps11
    go_wp2_with (go_at_call 19; refine (sfi8 n h0 h1 _ h7 hsz).mono ?_; rintro e w' ⟨rfl, hb⟩)
    go_ret
    exact ⟨rfl, hb⟩
  by_cases b10 : base = 10
  · subst b10
    go_enter Tryz.func11, Tryz.ntmps11
    go_wp2_with (go_at_call 19; refine (Tryz.strconv_FormatInt_10 n h0 h1 _ HT.out).mono ?_; rintro e w' ⟨rfl, k, os, rfl⟩)
    go_ret
    exact ⟨retS_of (itoa_digL n).symm, below_grow _ _ _⟩
  by_cases b16 : base = 16
  · subst b16
    go_enter Tryz.func11, Tryz.ntmps11
    go_wp2_with (go_at_call 19; refine (sfi16 n h0 h1 _ h15 hsz).mono ?_; rintro e w' ⟨rfl, hb⟩)
    go_ret
    exact ⟨rfl, hb⟩
  have HD : Hid (digAt base n = []) := by show digAt base n = []; rw [digAt, if_neg b8, if_neg b10, if_neg b16]
  have e8 : (base == 8) = false := by rw [beq_eq_false_iff_ne]; exact b8
  have e10 : (base == 10) = false := by rw [beq_eq_false_iff_ne]; exact b10
  have e16 : (base == 16) = false := by rw [beq_eq_false_iff_ne]; exact b16
  clear b8 b10 b16
  go_enter Tryz.func11, Tryz.ntmps11
  go_wp2
  go_ret
  exact ⟨retS_of HD.out, Below.refl _ _⟩
end Go.Proofs.YteimilnecahifaaGreatDoor
