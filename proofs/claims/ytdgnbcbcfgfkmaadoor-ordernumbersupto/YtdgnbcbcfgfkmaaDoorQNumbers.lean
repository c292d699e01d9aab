/- Lines that are whole numbers: the walk. -/
import Derived.Test.YtdgnbcbcfgfkmaaDoorQWrit
namespace Go.Proofs.YtdgnbcbcfgfkmaaDoor
open Go.RowKit

def odN : Od := ⟨gN, none, [oneKey gN]⟩
theorem exN : readS (optsS ⟨#[110]⟩ ⟨#[]⟩ []) = some odN := by rfl
theorem wrt_len (a : Int) (z b : Nat) (hz : z ≤ 50) (hb : b ≤ 50) : (wrtS a z b).length ≤ 112 := by
  have : ∀ (f n : Nat) (acc : List UInt8), (decN f n acc).length ≤ acc.length + f := by
    intro f
    induction f with
    | zero => intro n acc; simp [decN]
    | succ f ih =>
      intro n acc
      rw [decN]
      split
      · simp
      · have := ih (n / 10) (UInt8.ofNat (48 + n % 10) :: acc)
        simp at this ⊢
        omega
  have h := this 11 a.natAbs []
  unfold wrtS
  simp only [List.length_append, List.length_replicate, decS]
  have h2 : (if a < 0 then [(45 : UInt8)] else []).length ≤ 1 := by split <;> simp
  simp at h
  omega
theorem sgI_ends (n : Int) : -1 ≤ sgI n ∧ sgI n ≤ 1 := by unfold sgI; split; (· omega); split <;> omega
set_option maxHeartbeats 4000000 in
set_option maxRecDepth 100000 in
theorem numbers_c {OrdAt : World → Nat → Od → Prop} (S : Says OrdAt) (a b z n : Int) (w : World) (ha : -9223372036854775808 ≤ a ∧ a ≤ 9223372036854775807) (hb : -9223372036854775808 ≤ b ∧ b ≤ 9223372036854775807) :
    Calls Tryd.prog 5 #[.int .i64 a, .int .i64 b, .int .i64 z, .int .i64 n] w fun e w' => e = .returned (.bool true) ∧ Below w.heap.size w w' := by
  have HS := Lib.hid S
  have haw := awake_c S w
  clear S
  have h : a < -1000000000 ∨ (-1000000000 ≤ a ∧ 1000000000 < a) ∨ (-1000000000 ≤ a ∧ a ≤ 1000000000 ∧ b < -1000000000) ∨ (-1000000000 ≤ a ∧ a ≤ 1000000000 ∧ -1000000000 ≤ b ∧ 1000000000 < b) ∨ (-1000000000 ≤ a ∧ a ≤ 1000000000 ∧ -1000000000 ≤ b ∧ b ≤ 1000000000 ∧ z < 0) ∨ (-1000000000 ≤ a ∧ a ≤ 1000000000 ∧ -1000000000 ≤ b ∧ b ≤ 1000000000 ∧ 0 ≤ z ∧ 50 < z) ∨ (-1000000000 ≤ a ∧ a ≤ 1000000000 ∧ -1000000000 ≤ b ∧ b ≤ 1000000000 ∧ 0 ≤ z ∧ z ≤ 50 ∧ n < 0) ∨ (-1000000000 ≤ a ∧ a ≤ 1000000000 ∧ -1000000000 ≤ b ∧ b ≤ 1000000000 ∧ 0 ≤ z ∧ z ≤ 50 ∧ 0 ≤ n ∧ 50 < n) ∨ (-1000000000 ≤ a ∧ a ≤ 1000000000 ∧ -1000000000 ≤ b ∧ b ≤ 1000000000 ∧ 0 ≤ z ∧ z ≤ 50 ∧ 0 ≤ n ∧ n ≤ 50) := by omega
  rcases h with h1 | ⟨h1, h2⟩ | ⟨h1, h2, h3⟩ | ⟨h1, h2, h3, h4⟩ | ⟨h1, h2, h3, h4, h5⟩ | ⟨h1, h2, h3, h4, h5, h6⟩ | ⟨h1, h2, h3, h4, h5, h6, h7⟩ | ⟨h1, h2, h3, h4, h5, h6, h7, h8⟩ | ⟨h1, h2, h3, h4, h5, h6, h7, h8⟩
  iterate 8
    · go_enter Tryd.func5, Tryd.ntmps5
      go_wp2_with (go_at_call 7; refine haw.mono ?_; rintro e w1 ⟨rfl, hb1⟩)
      go_ret
      exact ⟨rfl, hb1⟩
  obtain ⟨Z, rfl⟩ : ∃ Z : Nat, z = Z := ⟨z.toNat, by omega⟩
  obtain ⟨B, rfl⟩ : ∃ B : Nat, n = B := ⟨n.toNat, by omega⟩
  have hcv := conv_sb
  have hsb := fun u => sign_c (a - b) u
  have hwab : IntKind.i64.wrap (a - b) = a - b := IntWalk.i64_in _ (by omega)
  go_enter Tryd.func5, Tryd.ntmps5
  go_wp2_with fail
  refine haw.mono ?_
  rintro e w1 ⟨rfl, hb1⟩
  clear haw
  go_wp2_with fail
  refine (written_c a Z B w1 (by omega) (by omega) (by omega)).mono ?_
  rintro e w2 ⟨rfl, hb2⟩
  have HB2 : Hid (Below w.heap.size w w2) := hb1.trans (hb2.mono hb1.size)
  clear hb1 hb2
  have hwb := written_c b 0 0 w2 (by omega) (by omega) (by omega)
  go_wp2_with fail
  refine hwb.mono ?_
  rintro e w3 ⟨rfl, hb3⟩
  have HB3 : Hid (Below w.heap.size w w3) := HB2.out.trans (hb3.mono HB2.out.size)
  clear hb3 HB2 hwb
  have l1 := wrt_len a Z B (by omega) (by omega)
  have l2 := wrt_len b 0 0 (by omega) (by omega)
  have HM := Lib.hid (numbers_math a b Z B (by omega) (by omega) odN rfl)
  generalize wrtS a Z B = X at l1 HM ⊢
  generalize wrtS b 0 0 = Y at l2 HM ⊢
  go_wp2_with fail
  refine (opts_none ⟨#[110]⟩ (by decide) w3).mono ?_
  rintro e w4 ⟨v4, rfl, hO4, hb4⟩
  have hr := HS.out.read v4 _ w4 (by decide) (by decide) hO4
  rw [exN] at hr
  have HB4 : Hid (Below w.heap.size w w4) := HB3.out.trans (hb4.mono HB3.out.size)
  clear hO4 hb4 HB3
  go_wp2_with fail
  refine hr.mono ?_
  rintro e w5 ⟨⟨p, rfl, hP⟩, hb5⟩
  have HB5 : Hid (Below w.heap.size w w5) := HB4.out.trans (hb5.mono HB4.out.size)
  have HP := Lib.hid hP
  clear hr hb5 HB4 hP
  go_wp2_with fail
  have e1 := below_bw w5.heap.size w5 5 ⟨X.toArray⟩ (Nat.le_refl _)
  have e2 := below_bw (Lib.bytesWorld w5 5 ⟨X.toArray⟩).heap.size (Lib.bytesWorld w5 5 ⟨X.toArray⟩) 5 ⟨Y.toArray⟩ (Nat.le_refl _)
  refine (HS.out.keys p odN _ _ X Y _ (HS.out.keep _ _ _ _ (HS.out.keep _ _ _ _ HP.out e1) e2) (by omega) (by omega) ((by_conv ⟨X.toArray⟩ w5 (by rw [arr_size]; omega)).below e2) (by_conv ⟨Y.toArray⟩ _ (by rw [arr_size]; omega))).mono ?_
  rintro e w6 ⟨m, rfl, hm, hs, hb6⟩
  have HB6 : Hid (Below w.heap.size w w6) := HB5.out.trans (((e1.trans (e2.mono e1.size)).trans (hb6.mono (Nat.le_trans e1.size e2.size))).mono HB5.out.size)
  rw [HM.out] at hs
  have hsm := sign_c m w6
  rw [hs] at hsm
  have hsb6 := hsb w6
  clear hs hb6 e1 e2 HB5 HP hm hsb
  go_wp2_with fail
  refine hsm.mono ?_
  rintro e w' ⟨rfl, hw'⟩
  rw [hw']
  clear hw' hsm
  go_wp2_with fail
  refine hsb6.mono ?_
  rintro e w' ⟨rfl, hw'⟩
  rw [hw']
  clear hw' hsb6
  go_wp2_with fail
  go_ret
  exact ⟨rfl, HB6.out⟩
end Go.Proofs.YtdgnbcbcfgfkmaaDoor
