/- The contract of the law's comparison: options and strings that are the same. -/
import Derived.Laws.StructEq
import Derived.Test.YtgppaclfgekknaaORef
namespace Go.Proofs.Ytgppaclfgekknaa
open Go.RowKit

theorem ptr_some {w : World} {v : Value} {ss : List ByteArray} (h : StrsAt w v ss) : ∃ a c, v = .slice a ss.length c := by
  rcases h with ⟨rfl, rfl⟩ | ⟨b, off, cap, rfl, _⟩
  · exact ⟨none, 0, rfl⟩
  · exact ⟨_, cap, rfl⟩
theorem strs_at {w : World} {a : Option Addr} {c n : Nat} {ss : List ByteArray} (h : StrsAt w (.slice a n c) ss) (hn : 0 < ss.length) : ∃ b off, a = some ⟨b, off, none⟩ ∧ ∀ j, j < ss.length → w.cell? ⟨b, off + j, none⟩ = some (.string (nth ss j)) := by
  rcases h with ⟨_, rfl⟩ | ⟨b, off, cap, h, _, _, hc⟩
  · simp at hn
  · cases h; exact ⟨b, off, rfl, hc⟩
theorem eq_opt (x y : Int) (s t : ByteArray) (w : World) : (Op.equalIn 10000 35 (.agg #[.int .u8 x, .string s]) (.agg #[.int .u8 y, .string t])).run Try.prog w = .ok (x == y && s.toList == t.toList) w := by
  have u5 := Try.underlying5
  have a5 := Try.isAgg5
  have z5 := Try.sizeOf5
  have u9 := Try.underlying9
  have a9 := Try.isAgg9
  have z9 := Try.sizeOf9
  have hS : Try.prog.underlying 35 = some (.struct (Try.prog.fieldsOf 35)) := by kernel_rfl
  have hp : Try.prog.stoodInHeld 35 = false := by kernel_rfl
  rw [show (10000 : Nat) = 9999 + 1 from rfl, run_equalIn_agg w 9999 35 _ _ hS hp]
  simp only [Program.fieldsOf, Try.underlying35]
  go_simp
  by_cases h1 : x = y <;> by_cases h2 : s.toList = t.toList <;> simp [h1, h2]
theorem guard_opt : Try.prog.eqGuardType Try.prog.depth 35 = false := by kernel_rfl
theorem str_self (s : ByteArray) : (s.toList == s.toList) = true := by simp

set_option maxHeartbeats 4000000 in
set_option maxRecDepth 100000 in
/-- Two answers that tell the same. -/
theorem same_yes (ba bb : Nat) (va vb vc vd : Value) (l : Opts) (o : List ByteArray) (w : World) (hl : l.length ≤ 2097152) (ho : o.length ≤ 2097152)
    (hA : OptsAt w ba va l) (hB : OptsAt w bb vb l) (hC : StrsAt w vc o) (hD : StrsAt w vd o) :
    Calls Try.prog 8 #[va, vb, vc, vd] w fun e w' => e = .returned (.bool true) ∧ ∃ m, w' = w.drewN m := by
  obtain ⟨xa, ca, rfl⟩ := own_slice2 hA
  obtain ⟨xb, cb, rfl⟩ := own_slice2 hB
  obtain ⟨xc, cc, rfl⟩ := ptr_some hC
  obtain ⟨xd, cd, rfl⟩ := ptr_some hD
  unfold OptsAt at hA hB
  generalize hn : l.length = n at hl hA hB ⊢
  generalize hk : o.length = k at ho hC hD ⊢
  have HA := Lib.hid hA; have HB := Lib.hid hB; have HC := Lib.hid hC; have HD := Lib.hid hD
  have HN := Lib.hid hn; have HK := Lib.hid hk
  have e1 : ((n : Int) != (n : Int)) = false := by simp
  have e2 : ((k : Int) != (k : Int)) = false := by simp
  clear hA hB hC hD hn hk
  go_enter Try.func8, Try.ntmps8
  have heq := eq_opt
  have hgd := guard_opt
  go_wp2
  go_loopw [9] (fun i wr => ∃ j m : Nat, j ≤ n ∧ i = .int .i64 j ∧ wr = w.drewN m) (fun i _ => n - (intOf i).toNat)
  case atStart => exact ⟨0, 0, by omega, rfl, rfl⟩
  case round =>
    obtain ⟨j, m, hj, rfl, rfl⟩ := hrel
    by_cases hlt : j < n
    · obtain ⟨ga, rfl⟩ := own_some2 HA.out (by omega)
      obtain ⟨gb, rfl⟩ := own_some2 HB.out (by omega)
      obtain ⟨a0, a1⟩ := opt_cells HA.out HN.out.symm j hlt
      obtain ⟨b0, b1⟩ := opt_cells HB.out HN.out.symm j hlt
      generalize nthO l j = p at a0 a1 b0 b1
      have hs1 := str_self p.2
      have hjI : (j : Int) < (n : Int) := by omega
      go_wp2
      go_quiet (fail)
      go_wp2
      exact ⟨⟨j + 1, m + nq, by omega, by go_num, rfl⟩, by simp [intOf]; omega⟩
    · have hjI : ¬ ((j : Int) < (n : Int)) := by omega
      clear HA HB
      go_wp2
      go_loopw [10] (fun i wr => ∃ j m : Nat, j ≤ k ∧ i = .int .i64 j ∧ wr = w.drewN m) (fun i _ => k - (intOf i).toNat)
      case atStart => exact ⟨0, m, by omega, rfl, rfl⟩
      case round =>
        obtain ⟨j2, m2, hj2, rfl, rfl⟩ := hrel
        by_cases hlt2 : j2 < k
        · obtain ⟨bc, oc, rfl, hc⟩ := strs_at HC.out (by rw [HK.out]; omega)
          obtain ⟨bd, od, rfl, hd⟩ := strs_at HD.out (by rw [HK.out]; omega)
          have c0 := hc j2 (by rw [HK.out]; exact hlt2)
          have d0 := hd j2 (by rw [HK.out]; exact hlt2)
          generalize nth o j2 = s at c0 d0
          have hs1 := str_self s
          have hjI2 : (j2 : Int) < (k : Int) := by omega
          clear hc hd
          go_wp2
          go_quiet (fail)
          go_wp2
          exact ⟨⟨j2 + 1, m2 + nq, by omega, by go_num, rfl⟩, by simp [intOf]; omega⟩
        · have hjI2 : ¬ ((j2 : Int) < (k : Int)) := by omega
          go_wp2
          go_ret
          exact ⟨rfl, m2, rfl⟩
end Go.Proofs.Ytgppaclfgekknaa
