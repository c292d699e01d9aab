/- The contract of the document's teller of numbers, to the bases 8, 10 and 16. -/
import Derived.Test.YtcpclpckjheadaaDoorDigits
namespace Go.Proofs.YtcpclpckjheadaaDoor
open Go.RowKit

def outM : Value → Nat | .string s => if s.size = 0 then 1 else 0 | _ => 0
theorem cat1 (c : UInt8) (l : List UInt8) : Value.string (⟨#[c]⟩ ++ ⟨l.toArray⟩) = .string ⟨(c :: l).toArray⟩ := by
  congr 1
theorem meas (v v' : Value) (r r' : Value) {c : UInt8} {l : List UInt8} (hv : v' = .string ⟨(c :: l).toArray⟩) (h : (intOf r').natAbs < (intOf r).natAbs) : outM v' + (intOf r').natAbs < outM v + (intOf r).natAbs := by
  subst hv; have : outM (.string ⟨(c :: l).toArray⟩) = 0 := by simp [outM, ByteArray.size]
  omega
theorem meas2 (v v' : Value) (r r' : Value) {c : UInt8} {l : List UInt8} (hv : v' = .string ⟨(c :: l).toArray⟩) (h0 : v = .string ⟨([] : List UInt8).toArray⟩) (h : (intOf r').natAbs ≤ (intOf r).natAbs) : outM v' + (intOf r').natAbs < outM v + (intOf r).natAbs := by
  subst hv; subst h0; have : outM (.string ⟨(c :: l).toArray⟩) = 0 := by simp [outM, ByteArray.size]
  have : outM (.string ⟨([] : List UInt8).toArray⟩) = 1 := rfl
  omega
theorem conv1 (w : World) (c : UInt8) : (convert 22 9 (.slice (some ⟨w.heap.size, 0, none⟩) 1 1)).run Tryd.prog (w.alloc (.cells #[.int .u8 (c.toNat : Int)] 5)) = .ok (.string ⟨#[c]⟩) (w.alloc (.cells #[.int .u8 (c.toNat : Int)] 5)) :=
  run_convert_bytes_back (P := Tryd.prog) _ 22 9 5 ⟨w.heap.size, 0, none⟩ 1 [c] Tryd.underlying22 Tryd.underlying5 Tryd.underlying9 (fun j hj => by
    obtain rfl : j = 0 := by simpa using hj
    rw [Lib.add_plain, World.cell?_alloc_new]; rfl)
theorem idx_signs16 (d : Nat) (h : d < 16) : ∀ w, (Instr.index 9 (.string ⟨#[48, 49, 50, 51, 52, 53, 54, 55, 56, 57, 97, 98, 99, 100, 101, 102]⟩) (.int .i64 (d : Int))).run Tryd.prog w = .ok (.int .u8 ((sgn d).toNat : Int)) w := by
  match d, h with
  | 0, _ => intro w; kernel_rfl
  | 1, _ => intro w; kernel_rfl
  | 2, _ => intro w; kernel_rfl
  | 3, _ => intro w; kernel_rfl
  | 4, _ => intro w; kernel_rfl
  | 5, _ => intro w; kernel_rfl
  | 6, _ => intro w; kernel_rfl
  | 7, _ => intro w; kernel_rfl
  | 8, _ => intro w; kernel_rfl
  | 9, _ => intro w; kernel_rfl
  | 10, _ => intro w; kernel_rfl
  | 11, _ => intro w; kernel_rfl
  | 12, _ => intro w; kernel_rfl
  | 13, _ => intro w; kernel_rfl
  | 14, _ => intro w; kernel_rfl
  | 15, _ => intro w; kernel_rfl
  | n + 16, h => exact absurd h (by omega)
theorem idx0 (d : Nat) (h : d = 0) : ∀ w, (Instr.index 9 (.string ⟨#[48, 49, 50, 51, 52, 53, 54, 55, 56, 57, 97, 98, 99, 100, 101, 102]⟩) (.int .i64 0)).run Tryd.prog w = .ok (.int .u8 ((sgn d).toNat : Int)) w := by
  subst h
  intro w; kernel_rfl
theorem hqv (q v : Int) (h : q = v) : Value.int .i64 q = .int .i64 v := by rw [h]

set_option maxHeartbeats 2000000 in
set_option maxRecDepth 100000 in
theorem refDig8P (u0 : Nat) (hu0 : u0 ≤ 9223372036854775807) (w : World) :
    Calls Tryd.prog 18 #[.int .i64 u0, .int .i64 8] w fun e w' => e = .returned (.string ⟨( dgB 8 u0).toArray⟩) ∧ Below w.heap.size w w' := by
  go_enter Tryd.func18, Tryd.ntmps18
  go_wp2
  go_loopw [6, 7] (fun vo vr wr => ∃ (u : Nat) (out : List UInt8), vr = .int .i64 (u : Int) ∧ vo = .string ⟨out.toArray⟩ ∧ u ≤ u0 ∧ out.length ≤ 64 ∧ Hid (DigInv 8 u0 u out) ∧ Below w.heap.size w wr ∧ w.heap.size ≤ wr.heap.size) (fun vo vr _ => outM vo + (intOf vr).natAbs)
  case atStart => exact ⟨u0, [], rfl, rfl, Nat.le_refl _, by simp, DigInv.start _ _, Below.refl _ _, Nat.le_refl _⟩
  case round =>
    obtain ⟨u, out, rfl, rfl, hu, ho, HI, hb, hsz⟩ := hrel
    by_cases hc : u ≠ 0 ∨ out = []
    · obtain ⟨d, HD⟩ : ∃ d : Nat, Hid (d = u % 8) := ⟨_, rfl⟩
      have hd : d < 8 := by have := HD.out; omega
      have hX := idx_signs16 d (by omega)
      have hcv := conv1 wr (sgn d)
      have HN : Hid (DigInv 8 u0 (u / 8) (sgn d :: out)) := by show DigInv _ _ _ _; rw [HD.out]; exact HI.out.next (by omega) hc
      have hol : (sgn d :: out).length ≤ 64 := HN.out.length (by omega) (by omega)
      have he : (u : Int) % 8 = (d : Int) := by rw [HD.out]; rfl
      have hb' : Below w.heap.size w (wr.alloc (.cells #[.int .u8 ((sgn d).toNat : Int)] 5)) := hb.alloc hsz _
      by_cases hu0' : u = 0
      · have hout : out = [] := by rcases hc with h | h; exact absurd hu0' h; exact h
        have hne : (((u : Int)) != 0) = false := by rw [bne_eq_false_iff_eq]; omega
        have hem : out.isEmpty = true := by rw [hout]; rfl
        have HO := Lib.hid hout
        have HU := Lib.hid hu0'
        clear hc hout hu0'
        go_wp2
        all_goals
          go_roundw
          case rel => exact ⟨u / 8, sgn d :: out, by first | rfl | go_num | rfl, cat1 _ _, by have := Nat.div_le_self u 8; omega, hol, HN, hb', by simp; omega⟩
          case measure => exact meas2 _ _ _ _ (cat1 _ _) (by rw [HO.out]) (by have := HU.out; simp [intOf]; omega)
      · have hne : (((u : Int)) != 0) = true := by rw [bne_iff_ne]; omega
        clear hc
        go_wp2
        all_goals
          go_roundw
          case rel => exact ⟨u / 8, sgn d :: out, by first | rfl | go_num | rfl, cat1 _ _, by have := Nat.div_le_self u 8; omega, hol, HN, hb', by simp; omega⟩
          case measure => exact meas _ _ _ _ (cat1 _ _) (by have := Nat.div_lt_self (show 0 < u by omega) (show 1 < 8 by omega); simp [intOf]; omega)
    · obtain rfl : u = 0 := by omega
      have hout : out ≠ [] := by intro h; exact hc (.inr h)
      have hem : out.isEmpty = false := by simpa using hout
      have HE := Lib.hid (HI.out.done ⟨rfl, hout⟩)
      clear hc
      go_wp2
      go_ret
      exact ⟨retS_of HE.out.symm, hb⟩

set_option maxHeartbeats 2000000 in
set_option maxRecDepth 100000 in
theorem refDig8N (u0 : Nat) (hu0 : u0 ≤ 9223372036854775808) (hu1 : 1 ≤ u0) (w : World) :
    Calls Tryd.prog 18 #[.int .i64 (-(u0 : Int)), .int .i64 8] w fun e w' => e = .returned (.string ⟨(45 :: dgB 8 u0).toArray⟩) ∧ Below w.heap.size w w' := by
  go_enter Tryd.func18, Tryd.ntmps18
  go_wp2
  go_loopw [6, 7] (fun vo vr wr => ∃ (u : Nat) (out : List UInt8), vr = .int .i64 (-(u : Int)) ∧ vo = .string ⟨out.toArray⟩ ∧ u ≤ u0 ∧ out.length ≤ 64 ∧ Hid (DigInv 8 u0 u out) ∧ Below w.heap.size w wr ∧ w.heap.size ≤ wr.heap.size) (fun vo vr _ => outM vo + (intOf vr).natAbs)
  case atStart => exact ⟨u0, [], rfl, rfl, Nat.le_refl _, by simp, DigInv.start _ _, Below.refl _ _, Nat.le_refl _⟩
  case round =>
    obtain ⟨u, out, rfl, rfl, hu, ho, HI, hb, hsz⟩ := hrel
    by_cases hc : u ≠ 0 ∨ out = []
    · obtain ⟨d, HD⟩ : ∃ d : Nat, Hid (d = u % 8) := ⟨_, rfl⟩
      have hd : d < 8 := by have := HD.out; omega
      have hX := idx_signs16 d (by omega)
      have hcv := conv1 wr (sgn d)
      have HN : Hid (DigInv 8 u0 (u / 8) (sgn d :: out)) := by show DigInv _ _ _ _; rw [HD.out]; exact HI.out.next (by omega) hc
      have hol : (sgn d :: out).length ≤ 64 := HN.out.length (by omega) (by omega)
      have hq : (-(u : Int)).tdiv 8 = -((u / 8 : Nat) : Int) := tdiv_neg_nat u 8
      have he0 : (-(u : Int)).tmod 8 = -((u % 8 : Nat) : Int) := tmod_neg_nat u 8
      rw [← HD.out] at he0
      rcases Nat.eq_zero_or_pos d with hd0 | hdp
      · have he : (-(u : Int)).tmod 8 = 0 := by rw [he0, hd0]; rfl
        have hX0 := idx0 d hd0
        clear he0 hd0 hX
        have hb' : Below w.heap.size w (wr.alloc (.cells #[.int .u8 ((sgn d).toNat : Int)] 5)) := hb.alloc hsz _
        by_cases hu0' : u = 0
        · have hout : out = [] := by rcases hc with h | h; exact absurd hu0' h; exact h
          have hne : (((-(u : Int))) != 0) = false := by rw [bne_eq_false_iff_eq]; omega
          have hem : out.isEmpty = true := by rw [hout]; rfl
          have HO := Lib.hid hout
          have HU := Lib.hid hu0'
          clear hc hout hu0'
          go_wp2
          all_goals
            go_roundw
            case rel => exact ⟨u / 8, sgn d :: out, by first | rfl | go_num | exact hqv _ _ hq, cat1 _ _, by have := Nat.div_le_self u 8; omega, hol, HN, hb', by simp; omega⟩
            case measure => exact meas2 _ _ _ _ (cat1 _ _) (by rw [HO.out]) (by have := HU.out; simp [intOf]; omega)
        · have hne : (((-(u : Int))) != 0) = true := by rw [bne_iff_ne]; omega
          clear hc
          go_wp2
          all_goals
            go_roundw
            case rel => exact ⟨u / 8, sgn d :: out, by first | rfl | go_num | exact hqv _ _ hq, cat1 _ _, by have := Nat.div_le_self u 8; omega, hol, HN, hb', by simp; omega⟩
            case measure => exact meas _ _ _ _ (cat1 _ _) (by have := Nat.div_lt_self (show 0 < u by omega) (show 1 < 8 by omega); simp [intOf]; omega)
      · have he : (-(u : Int)).tmod 8 = -(d : Int) := he0
        clear he0
        have hb' : Below w.heap.size w (wr.alloc (.cells #[.int .u8 ((sgn d).toNat : Int)] 5)) := hb.alloc hsz _
        by_cases hu0' : u = 0
        · have hout : out = [] := by rcases hc with h | h; exact absurd hu0' h; exact h
          have hne : (((-(u : Int))) != 0) = false := by rw [bne_eq_false_iff_eq]; omega
          have hem : out.isEmpty = true := by rw [hout]; rfl
          have HO := Lib.hid hout
          have HU := Lib.hid hu0'
          clear hc hout hu0'
          go_wp2
          all_goals
            go_roundw
            case rel => exact ⟨u / 8, sgn d :: out, by first | rfl | go_num | exact hqv _ _ hq, cat1 _ _, by have := Nat.div_le_self u 8; omega, hol, HN, hb', by simp; omega⟩
            case measure => exact meas2 _ _ _ _ (cat1 _ _) (by rw [HO.out]) (by have := HU.out; simp [intOf]; omega)
        · have hne : (((-(u : Int))) != 0) = true := by rw [bne_iff_ne]; omega
          clear hc
          go_wp2
          all_goals
            go_roundw
            case rel => exact ⟨u / 8, sgn d :: out, by first | rfl | go_num | exact hqv _ _ hq, cat1 _ _, by have := Nat.div_le_self u 8; omega, hol, HN, hb', by simp; omega⟩
            case measure => exact meas _ _ _ _ (cat1 _ _) (by have := Nat.div_lt_self (show 0 < u by omega) (show 1 < 8 by omega); simp [intOf]; omega)
    · obtain rfl : u = 0 := by omega
      have hout : out ≠ [] := by intro h; exact hc (.inr h)
      have hem : out.isEmpty = false := by simpa using hout
      have HE := Lib.hid (HI.out.done ⟨rfl, hout⟩)
      clear hc
      go_wp2
      go_ret
      exact ⟨retS_of (by rw [HE.out]; rfl), hb⟩

set_option maxHeartbeats 2000000 in
set_option maxRecDepth 100000 in
theorem refDig10P (u0 : Nat) (hu0 : u0 ≤ 9223372036854775807) (w : World) :
    Calls Tryd.prog 18 #[.int .i64 u0, .int .i64 10] w fun e w' => e = .returned (.string ⟨( dgB 10 u0).toArray⟩) ∧ Below w.heap.size w w' := by
  go_enter Tryd.func18, Tryd.ntmps18
  go_wp2
  go_loopw [6, 7] (fun vo vr wr => ∃ (u : Nat) (out : List UInt8), vr = .int .i64 (u : Int) ∧ vo = .string ⟨out.toArray⟩ ∧ u ≤ u0 ∧ out.length ≤ 64 ∧ Hid (DigInv 10 u0 u out) ∧ Below w.heap.size w wr ∧ w.heap.size ≤ wr.heap.size) (fun vo vr _ => outM vo + (intOf vr).natAbs)
  case atStart => exact ⟨u0, [], rfl, rfl, Nat.le_refl _, by simp, DigInv.start _ _, Below.refl _ _, Nat.le_refl _⟩
  case round =>
    obtain ⟨u, out, rfl, rfl, hu, ho, HI, hb, hsz⟩ := hrel
    by_cases hc : u ≠ 0 ∨ out = []
    · obtain ⟨d, HD⟩ : ∃ d : Nat, Hid (d = u % 10) := ⟨_, rfl⟩
      have hd : d < 10 := by have := HD.out; omega
      have hX := idx_signs16 d (by omega)
      have hcv := conv1 wr (sgn d)
      have HN : Hid (DigInv 10 u0 (u / 10) (sgn d :: out)) := by show DigInv _ _ _ _; rw [HD.out]; exact HI.out.next (by omega) hc
      have hol : (sgn d :: out).length ≤ 64 := HN.out.length (by omega) (by omega)
      have he : (u : Int) % 10 = (d : Int) := by rw [HD.out]; rfl
      have hb' : Below w.heap.size w (wr.alloc (.cells #[.int .u8 ((sgn d).toNat : Int)] 5)) := hb.alloc hsz _
      by_cases hu0' : u = 0
      · have hout : out = [] := by rcases hc with h | h; exact absurd hu0' h; exact h
        have hne : (((u : Int)) != 0) = false := by rw [bne_eq_false_iff_eq]; omega
        have hem : out.isEmpty = true := by rw [hout]; rfl
        have HO := Lib.hid hout
        have HU := Lib.hid hu0'
        clear hc hout hu0'
        go_wp2
        all_goals
          go_roundw
          case rel => exact ⟨u / 10, sgn d :: out, by first | rfl | go_num | rfl, cat1 _ _, by have := Nat.div_le_self u 10; omega, hol, HN, hb', by simp; omega⟩
          case measure => exact meas2 _ _ _ _ (cat1 _ _) (by rw [HO.out]) (by have := HU.out; simp [intOf]; omega)
      · have hne : (((u : Int)) != 0) = true := by rw [bne_iff_ne]; omega
        clear hc
        go_wp2
        all_goals
          go_roundw
          case rel => exact ⟨u / 10, sgn d :: out, by first | rfl | go_num | rfl, cat1 _ _, by have := Nat.div_le_self u 10; omega, hol, HN, hb', by simp; omega⟩
          case measure => exact meas _ _ _ _ (cat1 _ _) (by have := Nat.div_lt_self (show 0 < u by omega) (show 1 < 10 by omega); simp [intOf]; omega)
    · obtain rfl : u = 0 := by omega
      have hout : out ≠ [] := by intro h; exact hc (.inr h)
      have hem : out.isEmpty = false := by simpa using hout
      have HE := Lib.hid (HI.out.done ⟨rfl, hout⟩)
      clear hc
      go_wp2
      go_ret
      exact ⟨retS_of HE.out.symm, hb⟩

set_option maxHeartbeats 2000000 in
set_option maxRecDepth 100000 in
theorem refDig10N (u0 : Nat) (hu0 : u0 ≤ 9223372036854775808) (hu1 : 1 ≤ u0) (w : World) :
    Calls Tryd.prog 18 #[.int .i64 (-(u0 : Int)), .int .i64 10] w fun e w' => e = .returned (.string ⟨(45 :: dgB 10 u0).toArray⟩) ∧ Below w.heap.size w w' := by
  go_enter Tryd.func18, Tryd.ntmps18
  go_wp2
  go_loopw [6, 7] (fun vo vr wr => ∃ (u : Nat) (out : List UInt8), vr = .int .i64 (-(u : Int)) ∧ vo = .string ⟨out.toArray⟩ ∧ u ≤ u0 ∧ out.length ≤ 64 ∧ Hid (DigInv 10 u0 u out) ∧ Below w.heap.size w wr ∧ w.heap.size ≤ wr.heap.size) (fun vo vr _ => outM vo + (intOf vr).natAbs)
  case atStart => exact ⟨u0, [], rfl, rfl, Nat.le_refl _, by simp, DigInv.start _ _, Below.refl _ _, Nat.le_refl _⟩
  case round =>
    obtain ⟨u, out, rfl, rfl, hu, ho, HI, hb, hsz⟩ := hrel
    by_cases hc : u ≠ 0 ∨ out = []
    · obtain ⟨d, HD⟩ : ∃ d : Nat, Hid (d = u % 10) := ⟨_, rfl⟩
      have hd : d < 10 := by have := HD.out; omega
      have hX := idx_signs16 d (by omega)
      have hcv := conv1 wr (sgn d)
      have HN : Hid (DigInv 10 u0 (u / 10) (sgn d :: out)) := by show DigInv _ _ _ _; rw [HD.out]; exact HI.out.next (by omega) hc
      have hol : (sgn d :: out).length ≤ 64 := HN.out.length (by omega) (by omega)
      have hq : (-(u : Int)).tdiv 10 = -((u / 10 : Nat) : Int) := tdiv_neg_nat u 10
      have he0 : (-(u : Int)).tmod 10 = -((u % 10 : Nat) : Int) := tmod_neg_nat u 10
      rw [← HD.out] at he0
      rcases Nat.eq_zero_or_pos d with hd0 | hdp
      · have he : (-(u : Int)).tmod 10 = 0 := by rw [he0, hd0]; rfl
        have hX0 := idx0 d hd0
        clear he0 hd0 hX
        have hb' : Below w.heap.size w (wr.alloc (.cells #[.int .u8 ((sgn d).toNat : Int)] 5)) := hb.alloc hsz _
        by_cases hu0' : u = 0
        · have hout : out = [] := by rcases hc with h | h; exact absurd hu0' h; exact h
          have hne : (((-(u : Int))) != 0) = false := by rw [bne_eq_false_iff_eq]; omega
          have hem : out.isEmpty = true := by rw [hout]; rfl
          have HO := Lib.hid hout
          have HU := Lib.hid hu0'
          clear hc hout hu0'
          go_wp2
          all_goals
            go_roundw
            case rel => exact ⟨u / 10, sgn d :: out, by first | rfl | go_num | exact hqv _ _ hq, cat1 _ _, by have := Nat.div_le_self u 10; omega, hol, HN, hb', by simp; omega⟩
            case measure => exact meas2 _ _ _ _ (cat1 _ _) (by rw [HO.out]) (by have := HU.out; simp [intOf]; omega)
        · have hne : (((-(u : Int))) != 0) = true := by rw [bne_iff_ne]; omega
          clear hc
          go_wp2
          all_goals
            go_roundw
            case rel => exact ⟨u / 10, sgn d :: out, by first | rfl | go_num | exact hqv _ _ hq, cat1 _ _, by have := Nat.div_le_self u 10; omega, hol, HN, hb', by simp; omega⟩
            case measure => exact meas _ _ _ _ (cat1 _ _) (by have := Nat.div_lt_self (show 0 < u by omega) (show 1 < 10 by omega); simp [intOf]; omega)
      · have he : (-(u : Int)).tmod 10 = -(d : Int) := he0
        clear he0
        have hb' : Below w.heap.size w (wr.alloc (.cells #[.int .u8 ((sgn d).toNat : Int)] 5)) := hb.alloc hsz _
        by_cases hu0' : u = 0
        · have hout : out = [] := by rcases hc with h | h; exact absurd hu0' h; exact h
          have hne : (((-(u : Int))) != 0) = false := by rw [bne_eq_false_iff_eq]; omega
          have hem : out.isEmpty = true := by rw [hout]; rfl
          have HO := Lib.hid hout
          have HU := Lib.hid hu0'
          clear hc hout hu0'
          go_wp2
          all_goals
            go_roundw
            case rel => exact ⟨u / 10, sgn d :: out, by first | rfl | go_num | exact hqv _ _ hq, cat1 _ _, by have := Nat.div_le_self u 10; omega, hol, HN, hb', by simp; omega⟩
            case measure => exact meas2 _ _ _ _ (cat1 _ _) (by rw [HO.out]) (by have := HU.out; simp [intOf]; omega)
        · have hne : (((-(u : Int))) != 0) = true := by rw [bne_iff_ne]; omega
          clear hc
          go_wp2
          all_goals
            go_roundw
            case rel => exact ⟨u / 10, sgn d :: out, by first | rfl | go_num | exact hqv _ _ hq, cat1 _ _, by have := Nat.div_le_self u 10; omega, hol, HN, hb', by simp; omega⟩
            case measure => exact meas _ _ _ _ (cat1 _ _) (by have := Nat.div_lt_self (show 0 < u by omega) (show 1 < 10 by omega); simp [intOf]; omega)
    · obtain rfl : u = 0 := by omega
      have hout : out ≠ [] := by intro h; exact hc (.inr h)
      have hem : out.isEmpty = false := by simpa using hout
      have HE := Lib.hid (HI.out.done ⟨rfl, hout⟩)
      clear hc
      go_wp2
      go_ret
      exact ⟨retS_of (by rw [HE.out]; rfl), hb⟩

set_option maxHeartbeats 2000000 in
set_option maxRecDepth 100000 in
theorem refDig16P (u0 : Nat) (hu0 : u0 ≤ 9223372036854775807) (w : World) :
    Calls Tryd.prog 18 #[.int .i64 u0, .int .i64 16] w fun e w' => e = .returned (.string ⟨( dgB 16 u0).toArray⟩) ∧ Below w.heap.size w w' := by
  go_enter Tryd.func18, Tryd.ntmps18
  go_wp2
  go_loopw [6, 7] (fun vo vr wr => ∃ (u : Nat) (out : List UInt8), vr = .int .i64 (u : Int) ∧ vo = .string ⟨out.toArray⟩ ∧ u ≤ u0 ∧ out.length ≤ 64 ∧ Hid (DigInv 16 u0 u out) ∧ Below w.heap.size w wr ∧ w.heap.size ≤ wr.heap.size) (fun vo vr _ => outM vo + (intOf vr).natAbs)
  case atStart => exact ⟨u0, [], rfl, rfl, Nat.le_refl _, by simp, DigInv.start _ _, Below.refl _ _, Nat.le_refl _⟩
  case round =>
    obtain ⟨u, out, rfl, rfl, hu, ho, HI, hb, hsz⟩ := hrel
    by_cases hc : u ≠ 0 ∨ out = []
    · obtain ⟨d, HD⟩ : ∃ d : Nat, Hid (d = u % 16) := ⟨_, rfl⟩
      have hd : d < 16 := by have := HD.out; omega
      have hX := idx_signs16 d (by omega)
      have hcv := conv1 wr (sgn d)
      have HN : Hid (DigInv 16 u0 (u / 16) (sgn d :: out)) := by show DigInv _ _ _ _; rw [HD.out]; exact HI.out.next (by omega) hc
      have hol : (sgn d :: out).length ≤ 64 := HN.out.length (by omega) (by omega)
      have he : (u : Int) % 16 = (d : Int) := by rw [HD.out]; rfl
      have hb' : Below w.heap.size w (wr.alloc (.cells #[.int .u8 ((sgn d).toNat : Int)] 5)) := hb.alloc hsz _
      by_cases hu0' : u = 0
      · have hout : out = [] := by rcases hc with h | h; exact absurd hu0' h; exact h
        have hne : (((u : Int)) != 0) = false := by rw [bne_eq_false_iff_eq]; omega
        have hem : out.isEmpty = true := by rw [hout]; rfl
        have HO := Lib.hid hout
        have HU := Lib.hid hu0'
        clear hc hout hu0'
        go_wp2
        all_goals
          go_roundw
          case rel => exact ⟨u / 16, sgn d :: out, by first | rfl | go_num | rfl, cat1 _ _, by have := Nat.div_le_self u 16; omega, hol, HN, hb', by simp; omega⟩
          case measure => exact meas2 _ _ _ _ (cat1 _ _) (by rw [HO.out]) (by have := HU.out; simp [intOf]; omega)
      · have hne : (((u : Int)) != 0) = true := by rw [bne_iff_ne]; omega
        clear hc
        go_wp2
        all_goals
          go_roundw
          case rel => exact ⟨u / 16, sgn d :: out, by first | rfl | go_num | rfl, cat1 _ _, by have := Nat.div_le_self u 16; omega, hol, HN, hb', by simp; omega⟩
          case measure => exact meas _ _ _ _ (cat1 _ _) (by have := Nat.div_lt_self (show 0 < u by omega) (show 1 < 16 by omega); simp [intOf]; omega)
    · obtain rfl : u = 0 := by omega
      have hout : out ≠ [] := by intro h; exact hc (.inr h)
      have hem : out.isEmpty = false := by simpa using hout
      have HE := Lib.hid (HI.out.done ⟨rfl, hout⟩)
      clear hc
      go_wp2
      go_ret
      exact ⟨retS_of HE.out.symm, hb⟩

set_option maxHeartbeats 2000000 in
set_option maxRecDepth 100000 in
theorem refDig16N (u0 : Nat) (hu0 : u0 ≤ 9223372036854775808) (hu1 : 1 ≤ u0) (w : World) :
    Calls Tryd.prog 18 #[.int .i64 (-(u0 : Int)), .int .i64 16] w fun e w' => e = .returned (.string ⟨(45 :: dgB 16 u0).toArray⟩) ∧ Below w.heap.size w w' := by
  go_enter Tryd.func18, Tryd.ntmps18
  go_wp2
  go_loopw [6, 7] (fun vo vr wr => ∃ (u : Nat) (out : List UInt8), vr = .int .i64 (-(u : Int)) ∧ vo = .string ⟨out.toArray⟩ ∧ u ≤ u0 ∧ out.length ≤ 64 ∧ Hid (DigInv 16 u0 u out) ∧ Below w.heap.size w wr ∧ w.heap.size ≤ wr.heap.size) (fun vo vr _ => outM vo + (intOf vr).natAbs)
  case atStart => exact ⟨u0, [], rfl, rfl, Nat.le_refl _, by simp, DigInv.start _ _, Below.refl _ _, Nat.le_refl _⟩
  case round =>
    obtain ⟨u, out, rfl, rfl, hu, ho, HI, hb, hsz⟩ := hrel
    by_cases hc : u ≠ 0 ∨ out = []
    · obtain ⟨d, HD⟩ : ∃ d : Nat, Hid (d = u % 16) := ⟨_, rfl⟩
      have hd : d < 16 := by have := HD.out; omega
      have hX := idx_signs16 d (by omega)
      have hcv := conv1 wr (sgn d)
      have HN : Hid (DigInv 16 u0 (u / 16) (sgn d :: out)) := by show DigInv _ _ _ _; rw [HD.out]; exact HI.out.next (by omega) hc
      have hol : (sgn d :: out).length ≤ 64 := HN.out.length (by omega) (by omega)
      have hq : (-(u : Int)).tdiv 16 = -((u / 16 : Nat) : Int) := tdiv_neg_nat u 16
      have he0 : (-(u : Int)).tmod 16 = -((u % 16 : Nat) : Int) := tmod_neg_nat u 16
      rw [← HD.out] at he0
      rcases Nat.eq_zero_or_pos d with hd0 | hdp
      · have he : (-(u : Int)).tmod 16 = 0 := by rw [he0, hd0]; rfl
        have hX0 := idx0 d hd0
        clear he0 hd0 hX
        have hb' : Below w.heap.size w (wr.alloc (.cells #[.int .u8 ((sgn d).toNat : Int)] 5)) := hb.alloc hsz _
        by_cases hu0' : u = 0
        · have hout : out = [] := by rcases hc with h | h; exact absurd hu0' h; exact h
          have hne : (((-(u : Int))) != 0) = false := by rw [bne_eq_false_iff_eq]; omega
          have hem : out.isEmpty = true := by rw [hout]; rfl
          have HO := Lib.hid hout
          have HU := Lib.hid hu0'
          clear hc hout hu0'
          go_wp2
          all_goals
            go_roundw
            case rel => exact ⟨u / 16, sgn d :: out, by first | rfl | go_num | exact hqv _ _ hq, cat1 _ _, by have := Nat.div_le_self u 16; omega, hol, HN, hb', by simp; omega⟩
            case measure => exact meas2 _ _ _ _ (cat1 _ _) (by rw [HO.out]) (by have := HU.out; simp [intOf]; omega)
        · have hne : (((-(u : Int))) != 0) = true := by rw [bne_iff_ne]; omega
          clear hc
          go_wp2
          all_goals
            go_roundw
            case rel => exact ⟨u / 16, sgn d :: out, by first | rfl | go_num | exact hqv _ _ hq, cat1 _ _, by have := Nat.div_le_self u 16; omega, hol, HN, hb', by simp; omega⟩
            case measure => exact meas _ _ _ _ (cat1 _ _) (by have := Nat.div_lt_self (show 0 < u by omega) (show 1 < 16 by omega); simp [intOf]; omega)
      · have he : (-(u : Int)).tmod 16 = -(d : Int) := he0
        clear he0
        have hb' : Below w.heap.size w (wr.alloc (.cells #[.int .u8 ((sgn d).toNat : Int)] 5)) := hb.alloc hsz _
        by_cases hu0' : u = 0
        · have hout : out = [] := by rcases hc with h | h; exact absurd hu0' h; exact h
          have hne : (((-(u : Int))) != 0) = false := by rw [bne_eq_false_iff_eq]; omega
          have hem : out.isEmpty = true := by rw [hout]; rfl
          have HO := Lib.hid hout
          have HU := Lib.hid hu0'
          clear hc hout hu0'
          go_wp2
          all_goals
            go_roundw
            case rel => exact ⟨u / 16, sgn d :: out, by first | rfl | go_num | exact hqv _ _ hq, cat1 _ _, by have := Nat.div_le_self u 16; omega, hol, HN, hb', by simp; omega⟩
            case measure => exact meas2 _ _ _ _ (cat1 _ _) (by rw [HO.out]) (by have := HU.out; simp [intOf]; omega)
        · have hne : (((-(u : Int))) != 0) = true := by rw [bne_iff_ne]; omega
          clear hc
          go_wp2
          all_goals
            go_roundw
            case rel => exact ⟨u / 16, sgn d :: out, by first | rfl | go_num | exact hqv _ _ hq, cat1 _ _, by have := Nat.div_le_self u 16; omega, hol, HN, hb', by simp; omega⟩
            case measure => exact meas _ _ _ _ (cat1 _ _) (by have := Nat.div_lt_self (show 0 < u by omega) (show 1 < 16 by omega); simp [intOf]; omega)
    · obtain rfl : u = 0 := by omega
      have hout : out ≠ [] := by intro h; exact hc (.inr h)
      have hem : out.isEmpty = false := by simpa using hout
      have HE := Lib.hid (HI.out.done ⟨rfl, hout⟩)
      clear hc
      go_wp2
      go_ret
      exact ⟨retS_of (by rw [HE.out]; rfl), hb⟩
end Go.Proofs.YtcpclpckjheadaaDoor
