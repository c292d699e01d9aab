/- The law of numbers that are told and read again. -/
import Derived.Test.YteimilnecahifaaGreatDoorNRef2
import Derived.Test.YteimilnecahifaaGreatDoorNTake
namespace Go.Proofs.YteimilnecahifaaGreatDoor.Nm
open Go.Proofs.YteimilnecahifaaGreatDoor Go.Proofs.YteimilnecahifaaGreatDoor.Op
open Go.RowKit

def strSzN : Value → Nat
  | .string s => s.size
  | _ => 0
theorem names_X {n : Nat} (h : n ≤ 9223372036854775807) : namesS [nPrintf, fX, bz (dgB 10 n)] = some ⟨dgB 16 n, [], 0⟩ := names_printf1 (by decide) (run_X n h)
theorem names_O {n : Nat} (h : n ≤ 9223372036854775807) : namesS [nPrintf, fO, bz (dgB 10 n)] = some ⟨if n = 0 then [48] else 48 :: dgB 8 n, [], 0⟩ := names_printf1 (by decide) (run_O n h)
theorem names_D {n : Nat} (h : n ≤ 9223372036854775807) : namesS [nPrintf, fD, bz (48 :: 120 :: dgB 16 n)] = some ⟨dgB 10 n, [], 0⟩ := names_printf1 (by decide) (run_D n h)
theorem names_I {n : Nat} (h : n ≤ 9223372036854775807) : namesS [nPrintf, fI, bz (if n = 0 then [48] else 48 :: dgB 8 n)] = some ⟨dgB 10 n, [], 0⟩ := names_printf1 (by decide) (run_I n h)
theorem names_W {n m : Nat} (h : n ≤ 9223372036854775807) (h1 : 1 ≤ m) (h2 : m ≤ 1000) : namesS [nPrintf, bz (fW m), bz (dgB 10 n), bz (dgB 10 n), bz (dgB 10 n)] = some ⟨wantS 32 n m ++ 44 :: (leftS n m ++ 44 :: wantS 48 n m), [], 0⟩ :=
  names_printf1 (fun e => by have h := bz_inj (a := fW m) (b := [45, 45]) e; simp [fW] at h) (run_W n m h h1 h2)
set_option maxHeartbeats 8000000 in
set_option maxRecDepth 100000 in
theorem numbers_law {Amb : World → Prop} (S : SaysN Amb) (DN : DigN Amb) (n m : Int) (w : World) (hA : Amb w) (hn0 : -9223372036854775808 ≤ n) (hn : n ≤ 9223372036854775807) (hm0 : -9223372036854775808 ≤ m) (hm : m ≤ 9223372036854775807) : Calls Tryz.prog 4 #[.int .i64 n, .int .i64 m] w fun e w' => e = .returned (.bool true) ∧ Below w.heap.size w w' := by
  have haw := awake_c S w hA
  by_cases hbad : n < 0 ∨ m < 1 ∨ 1000 < m
  · by_cases h1 : n < 0
    · go_enter Tryz.func4, Tryz.ntmps4
      go_wp2_with (go_at_call 6; refine haw.mono ?_; rintro e w1 ⟨rfl, hB1⟩)
      go_ret
      exact ⟨rfl, hB1⟩
    by_cases h2 : m < 1
    · go_enter Tryz.func4, Tryz.ntmps4
      go_wp2_with (go_at_call 6; refine haw.mono ?_; rintro e w1 ⟨rfl, hB1⟩)
      go_ret
      exact ⟨rfl, hB1⟩
    have h3 : 1000 < m := by omega
    go_enter Tryz.func4, Tryz.ntmps4
    go_wp2_with (go_at_call 6; refine haw.mono ?_; rintro e w1 ⟨rfl, hB1⟩)
    go_ret
    exact ⟨rfl, hB1⟩
  obtain ⟨a, rfl⟩ : ∃ a : Nat, n = (a : Int) := ⟨n.toNat, by omega⟩
  obtain ⟨b, rfl⟩ : ∃ b : Nat, m = (b : Int) := ⟨m.toNat, by omega⟩
  have ha : a ≤ 9223372036854775807 := by omega
  have hb1 : 1 ≤ b := by omega
  have hb2 : b ≤ 1000 := by omega
  have n1 : ¬ (a : Int) < 0 := by omega
  have n2 : ¬ (b : Int) < 1 := by omega
  have n3 : ¬ (1000 : Int) < (b : Int) := by omega
  have HA := Lib.hid (And.intro hA S)
  have HDg : Hid (DigN Amb) := DN
  clear hA S DN hbad hn0 hn hm0 hm
  obtain ⟨rX, hX⟩ : ∃ r, Hid (r = (⟨dgB 16 a, [], 0⟩ : Res)) := ⟨_, Lib.hid rfl⟩
  obtain ⟨rO, hO⟩ : ∃ r, Hid (r = (⟨if a = 0 then [48] else 48 :: dgB 8 a, [], 0⟩ : Res)) := ⟨_, Lib.hid rfl⟩
  obtain ⟨rD, hD⟩ : ∃ r, Hid (r = (⟨dgB 10 a, [], 0⟩ : Res)) := ⟨_, Lib.hid rfl⟩
  obtain ⟨rW, hW⟩ : ∃ r, Hid (r = (⟨wantS 32 a b ++ 44 :: (leftS a b ++ 44 :: wantS 48 a b), [], 0⟩ : Res)) := ⟨_, Lib.hid rfl⟩
  go_enter Tryz.func4, Tryz.ntmps4
  go_upto_region 5 with (first
    | (go_at_call 6; refine haw.mono ?_; rintro e w1 ⟨rfl, hB1⟩; have H1 := Lib.hid (And.intro (HA.out.2.keep _ _ HA.out.1 hB1) hB1); have hdg := HDg.out a 10 w1 H1.out.1 ha (.inl rfl); clear hB1 haw)
    | (go_at_call 11; refine hdg.mono ?_; rintro e w2 ⟨rfl, hB2⟩; have H2 := Lib.hid (And.intro (HA.out.2.keep _ _ H1.out.1 hB2) (H1.out.2.trans (hB2.mono H1.out.2.size))); clear hB2 hdg H1))
  have hzd := bz_size (dgB 10 a)
  have hdl : (dgB 10 a).length ≤ 64 := dgB_length 10 (by omega) 63 a (by omega)
  have hrX := run_lit HA.out.2 [nPrintf, fX, bz (dgB 10 a)] rX w2 _ 3 rfl H2.out.1 rfl (by decide) ⟨.inr (.inl ⟨a, ha, .inl rfl⟩)⟩ (by rw [hX.out]; exact names_X ha)
  go_upto_region 6 with (go_at_call 12; refine hrX.mono ?_; rintro e w3 ⟨oa3, oc3, ea3, ec3, n13, n23, n33, rfl, hb3, hB3, -⟩; have H3 := Lib.hid (And.intro (HA.out.2.keep _ _ H2.out.1 hB3) (And.intro hb3 (H2.out.2.trans (hB3.mono H2.out.2.size)))); clear hb3 hB3 hrX H2)
  have z3 := heap_size_al w3 (.cells #[.slice oa3 rX.out.length oc3, .slice ea3 rX.err.length ec3, .int .i64 (rX.st : Int), .slice none 0 0, .int .i64 n13, .int .i64 n23, .int .i64 n33] 30)
  generalize w3.alloc _ = X3 at H3 z3 ⊢
  generalize w3.heap.size = b3 at H3 z3 ⊢
  have hrO := run_lit HA.out.2 [nPrintf, fO, bz (dgB 10 a)] rO X3 _ 3 z3 H3.out.1 rfl (by decide) ⟨.inr (.inl ⟨a, ha, .inr (.inl rfl)⟩)⟩ (by rw [hO.out]; exact names_O ha)
  go_upto_region 7 with (go_at_call 12; refine hrO.mono ?_; rintro e w4 ⟨oa4, oc4, ea4, ec4, n14, n24, n34, rfl, hb4, hB4, -⟩; have H4 := Lib.hid (And.intro (HA.out.2.keep _ _ H3.out.1 hB4) (And.intro (H3.out.2.1.below hB4) (And.intro hb4 (H3.out.2.2.trans (hB4.mono H3.out.2.2.size))))); clear hb4 hB4 hrO H3)
  have z4 := heap_size_al w4 (.cells #[.slice oa4 rO.out.length oc4, .slice ea4 rO.err.length ec4, .int .i64 (rO.st : Int), .slice none 0 0, .int .i64 n14, .int .i64 n24, .int .i64 n34] 30)
  generalize w4.alloc _ = X4 at H4 z4 ⊢
  generalize w4.heap.size = b4 at H4 z4 ⊢
  obtain ⟨p3, q3, k3, c3⟩ := H4.out.2.1.out
  obtain ⟨p4, q4, k4, c4⟩ := H4.out.2.2.1.out
  have d3 := c3 X4 (Below.refl _ _)
  have hzx : (bz rX.out).size ≤ 64 := by
    rw [bz_size, hX.out]
    exact dgB_length 16 (by omega) 63 a (by omega)
  have hcx : (⟨#[48, 120]⟩ : ByteArray) ++ bz rX.out = bz (48 :: 120 :: dgB 16 a) := by
    rw [show (⟨#[48, 120]⟩ : ByteArray) = bz [48, 120] from rfl, hX.out, bz_app]; rfl
  have hrD := run_lit HA.out.2 [nPrintf, fD, bz (48 :: 120 :: dgB 16 a)] rD X4 _ 3 z4 H4.out.1 rfl (by decide) ⟨.inr (.inl ⟨a, ha, .inr (.inr (.inl rfl))⟩)⟩ (by rw [hD.out]; exact names_D ha)
  go_upto_region 8 with (go_at_call 12; refine hrD.mono ?_; rintro e w5 ⟨oa5, oc5, ea5, ec5, n15, n25, n35, rfl, hb5, hB5, -⟩; have H5 := Lib.hid (And.intro (HA.out.2.keep _ _ H4.out.1 hB5) (And.intro (H4.out.2.1.below hB5) (And.intro (H4.out.2.2.1.below hB5) (And.intro hb5 (H4.out.2.2.2.trans (hB5.mono H4.out.2.2.2.size)))))); have k4b := (hB5.cell (World.block_lt_of_cell? _ _ k4)).trans k4; have d4 := c4 _ hB5; clear hb5 hB5 hrD H4 d3 c3 k4 k3)
  have z5 := heap_size_al w5 (.cells #[.slice oa5 rD.out.length oc5, .slice ea5 rD.err.length ec5, .int .i64 (rD.st : Int), .slice none 0 0, .int .i64 n15, .int .i64 n25, .int .i64 n35] 30)
  generalize w5.alloc _ = X5 at H5 z5 k4b d4 ⊢
  generalize w5.heap.size = b5 at H5 z5 ⊢
  have hrI := run_lit HA.out.2 [nPrintf, fI, bz rO.out] rD X5 _ 3 z5 H5.out.1 rfl (by decide) ⟨.inr (.inl ⟨a, ha, .inr (.inr (.inr (.inl (by rw [hO.out]))))⟩)⟩ (by rw [hD.out, hO.out]; exact names_I ha)
  go_upto_region 9 with (go_at_call 12; refine hrI.mono ?_; rintro e w6 ⟨oa6, oc6, ea6, ec6, n16, n26, n36, rfl, hb6, hB6, -⟩; have H6 := Lib.hid (And.intro (HA.out.2.keep _ _ H5.out.1 hB6) (And.intro (H5.out.2.1.below hB6) (And.intro (H5.out.2.2.2.1.below hB6) (And.intro hb6 (H5.out.2.2.2.2.trans (hB6.mono H5.out.2.2.2.2.size)))))); clear hb6 hB6 hrI H5 d4 k4b)
  generalize w6.alloc _ = X6 at H6 ⊢
  generalize w6.heap.size = b6 at H6 ⊢
  clear z5 z4 z3 hcx hzx c4
  have hdw := HDg.out b 10 X6 H6.out.1 (by omega) (.inl rfl)
  go_upto_region 10 with (go_at_call 11; refine hdw.mono ?_; rintro e w7 ⟨rfl, hB7⟩; have H7 := Lib.hid (And.intro (HA.out.2.keep _ _ H6.out.1 hB7) (And.intro (H6.out.2.1.below hB7) (And.intro (H6.out.2.2.1.below hB7) (And.intro (H6.out.2.2.2.1.below hB7) (H6.out.2.2.2.2.trans (hB7.mono H6.out.2.2.2.2.size)))))); clear hB7 hdw H6)
  have hzb := bz_size (dgB 10 b)
  have hbl : (dgB 10 b).length ≤ 64 := dgB_length 10 (by omega) 63 b (by omega)
  have hcw : (⟨#[37]⟩ : ByteArray) ++ bz (dgB 10 b) ++ ⟨#[100, 44, 37, 45]⟩ ++ bz (dgB 10 b) ++ ⟨#[100, 44, 37, 48]⟩ ++ bz (dgB 10 b) ++ ⟨#[100]⟩ = bz (fW b) := by
    rw [show (⟨#[37]⟩ : ByteArray) = bz [37] from rfl, show (⟨#[100, 44, 37, 45]⟩ : ByteArray) = bz [100, 44, 37, 45] from rfl, show (⟨#[100, 44, 37, 48]⟩ : ByteArray) = bz [100, 44, 37, 48] from rfl, show (⟨#[100]⟩ : ByteArray) = bz [100] from rfl, bz_app, bz_app, bz_app, bz_app, bz_app, bz_app]
    simp [fW]
  have hrW := run_lit HA.out.2 [nPrintf, bz (fW b), bz (dgB 10 a), bz (dgB 10 a), bz (dgB 10 a)] rW w7 _ 5 rfl H7.out.1 rfl (by decide) ⟨.inr (.inl ⟨a, ha, .inr (.inr (.inr (.inr ⟨b, hb1, hb2, rfl⟩)))⟩)⟩ (by rw [hW.out]; exact names_W ha hb1 hb2)
  go_upto_region 11 with (go_at_call 12; refine hrW.mono ?_; rintro e w8 ⟨oa8, oc8, ea8, ec8, n18, n28, n38, rfl, hb8, hB8, -⟩; have H8 := Lib.hid (And.intro (HA.out.2.keep _ _ H7.out.1 hB8) (And.intro (H7.out.2.1.below hB8) (And.intro (H7.out.2.2.1.below hB8) (And.intro (H7.out.2.2.2.1.below hB8) (And.intro hb8 (H7.out.2.2.2.2.trans (hB8.mono H7.out.2.2.2.2.size))))))); clear hb8 hB8 hrW H7)
  generalize w8.alloc _ = X8 at H8 ⊢
  generalize w8.heap.size = b8 at H8 ⊢
  clear hcw hzb hbl
  obtain ⟨D, hDD⟩ : ∃ D, Hid (D = dgB 10 a) := ⟨_, Lib.hid rfl⟩
  rw [← hDD.out] at hzd hdl ⊢
  go_wp2_with fail
  go_loopw [13, 14, 15] (fun wv lv zv wr => ∃ k : Nat, k ≤ b - D.length ∧ wv = .string (bz (many 32 k ++ D)) ∧ lv = .string (bz (D ++ many 32 k)) ∧ zv = .string (bz (many 48 k ++ D)) ∧ wr = X8) (fun wv _ _ _ => 1000 - strSzN wv)
  case atStart => exact ⟨0, by omega, rfl, by simp [many], rfl, rfl⟩
  case round =>
    obtain ⟨k, hk, rfl, rfl, rfl, rfl⟩ := hrel
    have l1 : (many 32 k ++ D).length = k + D.length := by simp [many]
    have l2 : (D ++ many 32 k).length = k + D.length := by simp [many]; omega
    have l3 : (many 48 k ++ D).length = k + D.length := by simp [many]
    have s1 := bz_size (many 32 k ++ D)
    have s2 := bz_size (D ++ many 32 k)
    have s3 := bz_size (many 48 k ++ D)
    rw [l1] at s1
    rw [l2] at s2
    rw [l3] at s3
    by_cases hlt : k + D.length < b
    · have hltI : ((k + D.length : Nat) : Int) < (b : Int) := by omega
      have a1 : (⟨#[32]⟩ : ByteArray) ++ bz (many 32 k ++ D) = bz (many 32 (k + 1) ++ D) := by
        rw [show (⟨#[32]⟩ : ByteArray) = bz [32] from rfl, bz_app]; simp [many, List.replicate_succ]
      have a2 : bz (D ++ many 32 k) ++ (⟨#[32]⟩ : ByteArray) = bz (D ++ many 32 (k + 1)) := by
        rw [show (⟨#[32]⟩ : ByteArray) = bz [32] from rfl, bz_app]; simp [many, List.replicate_succ']
      have a3 : (⟨#[48]⟩ : ByteArray) ++ bz (many 48 k ++ D) = bz (many 48 (k + 1) ++ D) := by
        rw [show (⟨#[48]⟩ : ByteArray) = bz [48] from rfl, bz_app]; simp [many, List.replicate_succ]
      have hms : 1000 - strSzN (.string (bz (many 32 (k + 1) ++ D))) < 1000 - strSzN (.string (bz (many 32 k ++ D))) := by
        simp only [strSzN, bz_size, many, List.length_append, List.length_replicate]; omega
      have hkl : k + D.length ≤ 1000 := by omega
      have HA1 := Lib.hid (And.intro a1 (And.intro a2 a3))
      clear a1 a2 a3 l1 l2 l3
      go_wp2
      refine ⟨⟨k + 1, by omega, ?_, ?_, ?_, trivial⟩, ?_⟩
      · rw [HA1.out.1]
      · rw [HA1.out.2.1]
      · rw [HA1.out.2.2]
      · rw [HA1.out.1]; exact hms
    · have hgeI : ¬ ((k + D.length : Nat) : Int) < (b : Int) := by omega
      obtain rfl : k = b - D.length := by omega
      have HWs : Hid (many 32 (b - D.length) ++ D = wantS 32 a b ∧ D ++ many 32 (b - D.length) = leftS a b ∧ many 48 (b - D.length) ++ D = wantS 48 a b) := by
        show _ ∧ _ ∧ _
        rw [hDD.out]; exact ⟨rfl, rfl, rfl⟩
      generalize many 32 (b - D.length) ++ D = E1 at *
      generalize D ++ many 32 (b - D.length) = E2 at *
      generalize many 48 (b - D.length) ++ D = E3 at *
      clear hk l1 l2 l3 hlt
      obtain ⟨pX, qX, kX, cX⟩ := H8.out.2.1.out
      obtain ⟨pA, qA, kA, cA⟩ := H8.out.2.2.1.out
      obtain ⟨pB, qB, kB, cB⟩ := H8.out.2.2.2.1.out
      obtain ⟨pC, qC, kC, cC⟩ := H8.out.2.2.2.2.1.out
      have lX := World.block_lt_of_cell? _ _ kX
      have lA := World.block_lt_of_cell? _ _ kA
      have lB := World.block_lt_of_cell? _ _ kB
      have lC := World.block_lt_of_cell? _ _ kC
      have HD16 : Hid (bz (dgB 16 a) = bz rX.out ∧ bz D = bz rD.out) := by
        show _ ∧ _
        rw [hX.out, hD.out, hDD.out]; exact ⟨rfl, rfl⟩
      have hcat : Hid (bz E1 ++ ⟨#[44]⟩ ++ bz E2 ++ ⟨#[44]⟩ ++ bz E3 = bz rW.out) := by
        show _ = _
        rw [show (⟨#[44]⟩ : ByteArray) = bz [44] from rfl, bz_app, bz_app, bz_app, bz_app, hW.out, HWs.out.1, HWs.out.2.1, HWs.out.2.2]
        simp
      have eX := beq_bz_yes (a := rX.out) rfl
      have eD := beq_bz_yes (a := rD.out) rfl
      have eW : ((bz rW.out).toList == (bz E1 ++ ⟨#[44]⟩ ++ bz E2 ++ ⟨#[44]⟩ ++ bz E3).toList) = true := by rw [hcat.out]; exact beq_bz_yes rfl
      rw [HD16.out.2] at hzd ⊢
      have HX := Lib.hid (And.intro cX (And.intro cA (And.intro cB cC)))
      clear cX cA cB cC
      have hl1 : b - D.length + D.length ≤ 1064 := by omega
      generalize b - D.length + D.length = z at s1 s2 s3 hgeI hl1
      have hdr := HDg.out a 16 wr.drew (HA.out.2.keep _ _ H8.out.1 (below_drew (Below.refl _ _))) ha (.inr rfl)
      rw [HD16.out.1] at hdr
      have HBl : Hid (Below w.heap.size w wr) := H8.out.2.2.2.2.2
      go_upto_region 18 with fail
      clear hdl hgeI HWs HD16 hcat HA HDg hX hO hD hW n1 n2 n3 ha hb1 hb2 H8
      refine wp_region_held_drew (S := fun u => Below wr.heap.size wr u) (by kernel_rfl) (below_drew (Below.refl _ _)) (fun hS0 => ?_)
      refine takeH (i := 0) (v := ?_) rfl (by decide +kernel) (fun _ _ _ h => h) (by rfl) (fun u hu => ?_) (by assumption) ?_
      rotate_left
      · go_simp; try rfl
      simp only [Act.put, List.setIfInBounds_toArray, List.set_cons_zero, List.set_cons_succ]
      refine takeH (i := 1) (v := ?_) rfl (by decide +kernel) (fun _ _ _ h => h) (by rfl) (fun u hu => ?_) (by assumption) ?_
      rotate_left
      · go_simp; try rfl
      simp only [Act.put, List.setIfInBounds_toArray, List.set_cons_zero, List.set_cons_succ]
      refine takeH (i := 2) (v := ?_) rfl (by decide +kernel) (fun _ _ _ h => h) (by rfl) (fun u hu => ?_) (by assumption) ?_
      rotate_left
      · go_simp; try rfl
      simp only [Act.put, List.setIfInBounds_toArray, List.set_cons_zero, List.set_cons_succ]
      refine takeH (i := 3) (v := ?_) rfl (by decide +kernel) (fun _ _ _ h => h) (by rfl) (fun u hu => ?_) (by assumption) ?_
      rotate_left
      · have kk := (hu.cell lX).trans kX; go_simp; try rfl
      simp only [Act.put, List.setIfInBounds_toArray, List.set_cons_zero, List.set_cons_succ]
      refine takeH (i := 4) (v := ?_) rfl (by decide +kernel) (fun _ _ _ h => h) (by rfl) (fun u hu => ?_) (by assumption) ?_
      rotate_left
      · have kk := HX.out.1 u hu; go_simp; try rfl
      simp only [Act.put, List.setIfInBounds_toArray, List.set_cons_zero, List.set_cons_succ]
      refine takeH (i := 5) (v := ?_) rfl (by decide +kernel) (fun _ _ _ h => h) (by rfl) (fun u hu => ?_) (by assumption) ?_
      rotate_left
      · go_simp; try rfl
      simp only [Act.put, List.setIfInBounds_toArray, List.set_cons_zero, List.set_cons_succ]
      refine oneH (i := 6) rfl (by kernel_rfl) (fun K hK => ?_)
      rw [if_pos (by rfl)]
      go_simp
      refine hdr.mono ?_
      rintro e w9 ⟨rfl, hB9⟩
      have hS9 : Below wr.heap.size wr w9 := hS0.trans hB9
      refine hK.out _ _ hS9 ?_
      clear hK K hdr hS0 hB9
      try simp only [Act.put, List.setIfInBounds_toArray, List.set_cons_zero, List.set_cons_succ]
      refine takeH (i := 7) (v := ?_) rfl (by decide +kernel) (fun _ _ _ h => h) (by rfl) (fun u hu => ?_) (by assumption) ?_
      rotate_left
      · go_simp; try rfl
      simp only [Act.put, List.setIfInBounds_toArray, List.set_cons_zero, List.set_cons_succ]
      refine takeH (i := 8) (v := ?_) rfl (by decide +kernel) (fun _ _ _ h => h) (by rfl) (fun u hu => ?_) (by assumption) ?_
      rotate_left
      · go_simp; try rfl
      simp only [Act.put, List.setIfInBounds_toArray, List.set_cons_zero, List.set_cons_succ]
      refine takeH (i := 9) (v := ?_) rfl (by decide +kernel) (fun _ _ _ h => h) (by rfl) (fun u hu => ?_) (by assumption) ?_
      rotate_left
      · go_simp; try rfl
      simp only [Act.put, List.setIfInBounds_toArray, List.set_cons_zero, List.set_cons_succ]
      refine takeH (i := 10) (v := ?_) rfl (by decide +kernel) (fun _ _ _ h => h) (by rfl) (fun u hu => ?_) (by assumption) ?_
      rotate_left
      · go_simp; try rfl
      simp only [Act.put, List.setIfInBounds_toArray, List.set_cons_zero, List.set_cons_succ]
      refine takeH (i := 11) (v := ?_) rfl (by decide +kernel) (fun _ _ _ h => h) (by rfl) (fun u hu => ?_) (by assumption) ?_
      rotate_left
      · have kk := (hu.cell lA).trans kA; go_simp; try rfl
      simp only [Act.put, List.setIfInBounds_toArray, List.set_cons_zero, List.set_cons_succ]
      refine takeH (i := 12) (v := ?_) rfl (by decide +kernel) (fun _ _ _ h => h) (by rfl) (fun u hu => ?_) (by assumption) ?_
      rotate_left
      · have kk := HX.out.2.1 u hu; go_simp; try rfl
      simp only [Act.put, List.setIfInBounds_toArray, List.set_cons_zero, List.set_cons_succ]
      refine takeH (i := 13) (v := ?_) rfl (by decide +kernel) (fun _ _ _ h => h) (by rfl) (fun u hu => ?_) (by assumption) ?_
      rotate_left
      · go_simp; try rfl
      simp only [Act.put, List.setIfInBounds_toArray, List.set_cons_zero, List.set_cons_succ]
      refine takeH (i := 14) (v := ?_) rfl (by decide +kernel) (fun _ _ _ h => h) (by rfl) (fun u hu => ?_) (by assumption) ?_
      rotate_left
      · go_simp; try rfl
      simp only [Act.put, List.setIfInBounds_toArray, List.set_cons_zero, List.set_cons_succ]
      refine takeH (i := 15) (v := ?_) rfl (by decide +kernel) (fun _ _ _ h => h) (by rfl) (fun u hu => ?_) (by assumption) ?_
      rotate_left
      · go_simp; try rfl
      simp only [Act.put, List.setIfInBounds_toArray, List.set_cons_zero, List.set_cons_succ]
      refine takeH (i := 16) (v := ?_) rfl (by decide +kernel) (fun _ _ _ h => h) (by rfl) (fun u hu => ?_) (by assumption) ?_
      rotate_left
      · go_simp; try rfl
      simp only [Act.put, List.setIfInBounds_toArray, List.set_cons_zero, List.set_cons_succ]
      refine takeH (i := 17) (v := ?_) rfl (by decide +kernel) (fun _ _ _ h => h) (by rfl) (fun u hu => ?_) (by assumption) ?_
      rotate_left
      · go_simp; try rfl
      simp only [Act.put, List.setIfInBounds_toArray, List.set_cons_zero, List.set_cons_succ]
      refine takeH (i := 18) (v := ?_) rfl (by decide +kernel) (fun _ _ _ h => h) (by rfl) (fun u hu => ?_) (by assumption) ?_
      rotate_left
      · have kk := (hu.cell lB).trans kB; go_simp; try rfl
      simp only [Act.put, List.setIfInBounds_toArray, List.set_cons_zero, List.set_cons_succ]
      refine takeH (i := 19) (v := ?_) rfl (by decide +kernel) (fun _ _ _ h => h) (by rfl) (fun u hu => ?_) (by assumption) ?_
      rotate_left
      · have kk := HX.out.2.2.1 u hu; go_simp; try rfl
      simp only [Act.put, List.setIfInBounds_toArray, List.set_cons_zero, List.set_cons_succ]
      refine takeH (i := 20) (v := ?_) rfl (by decide +kernel) (fun _ _ _ h => h) (by rfl) (fun u hu => ?_) (by assumption) ?_
      rotate_left
      · go_simp; try rfl
      simp only [Act.put, List.setIfInBounds_toArray, List.set_cons_zero, List.set_cons_succ]
      refine takeH (i := 21) (v := ?_) rfl (by decide +kernel) (fun _ _ _ h => h) (by rfl) (fun u hu => ?_) (by assumption) ?_
      rotate_left
      · go_simp; try rfl
      simp only [Act.put, List.setIfInBounds_toArray, List.set_cons_zero, List.set_cons_succ]
      refine takeH (i := 22) (v := ?_) rfl (by decide +kernel) (fun _ _ _ h => h) (by rfl) (fun u hu => ?_) (by assumption) ?_
      rotate_left
      · go_simp; try rfl
      simp only [Act.put, List.setIfInBounds_toArray, List.set_cons_zero, List.set_cons_succ]
      refine takeH (i := 23) (v := ?_) rfl (by decide +kernel) (fun _ _ _ h => h) (by rfl) (fun u hu => ?_) (by assumption) ?_
      rotate_left
      · go_simp; try rfl
      simp only [Act.put, List.setIfInBounds_toArray, List.set_cons_zero, List.set_cons_succ]
      refine takeH (i := 24) (v := ?_) rfl (by decide +kernel) (fun _ _ _ h => h) (by rfl) (fun u hu => ?_) (by assumption) ?_
      rotate_left
      · go_simp; try rfl
      simp only [Act.put, List.setIfInBounds_toArray, List.set_cons_zero, List.set_cons_succ]
      refine takeH (i := 25) (v := ?_) rfl (by decide +kernel) (fun _ _ _ h => h) (by rfl) (fun u hu => ?_) (by assumption) ?_
      rotate_left
      · have kk := (hu.cell lC).trans kC; go_simp; try rfl
      simp only [Act.put, List.setIfInBounds_toArray, List.set_cons_zero, List.set_cons_succ]
      refine takeH (i := 26) (v := ?_) rfl (by decide +kernel) (fun _ _ _ h => h) (by rfl) (fun u hu => ?_) (by assumption) ?_
      rotate_left
      · have kk := HX.out.2.2.2 u hu; go_simp; try rfl
      simp only [Act.put, List.setIfInBounds_toArray, List.set_cons_zero, List.set_cons_succ]
      have g1 : ¬ 9223372036854775807 < z + 1 := by omega
      have g2 : ¬ 9223372036854775807 < z + 1 + z := by omega
      have g3 : ¬ 9223372036854775807 < z + 1 + z + 1 := by omega
      have g4 : ¬ 9223372036854775807 < z + 1 + z + 1 + z := by omega
      refine takeH (i := 27) (v := ?_) rfl (by decide +kernel) (fun _ _ _ h => h) (by rfl) (fun u hu => ?_) (by assumption) ?_
      rotate_left
      · go_simp; try rfl
      simp only [Act.put, List.setIfInBounds_toArray, List.set_cons_zero, List.set_cons_succ]
      refine takeH (i := 28) (v := ?_) rfl (by decide +kernel) (fun _ _ _ h => h) (by rfl) (fun u hu => ?_) (by assumption) ?_
      rotate_left
      · go_simp; try rfl
      simp only [Act.put, List.setIfInBounds_toArray, List.set_cons_zero, List.set_cons_succ]
      refine takeH (i := 29) (v := ?_) rfl (by decide +kernel) (fun _ _ _ h => h) (by rfl) (fun u hu => ?_) (by assumption) ?_
      rotate_left
      · go_simp; try rfl
      simp only [Act.put, List.setIfInBounds_toArray, List.set_cons_zero, List.set_cons_succ]
      refine takeH (i := 30) (v := ?_) rfl (by decide +kernel) (fun _ _ _ h => h) (by rfl) (fun u hu => ?_) (by assumption) ?_
      rotate_left
      · go_simp; try rfl
      simp only [Act.put, List.setIfInBounds_toArray, List.set_cons_zero, List.set_cons_succ]
      refine takeH (i := 31) (v := ?_) rfl (by decide +kernel) (fun _ _ _ h => h) (by rfl) (fun u hu => ?_) (by assumption) ?_
      rotate_left
      · go_simp; try rfl
      simp only [Act.put, List.setIfInBounds_toArray, List.set_cons_zero, List.set_cons_succ]
      refine takeH (i := 32) (v := ?_) rfl (by decide +kernel) (fun _ _ _ h => h) (by rfl) (fun u hu => ?_) (by assumption) ?_
      rotate_left
      · go_simp; try rfl
      simp only [Act.put, List.setIfInBounds_toArray, List.set_cons_zero, List.set_cons_succ]
      refine takeH (i := 33) (v := ?_) rfl (by decide +kernel) (fun _ _ _ h => h) (by rfl) (fun u hu => ?_) (by assumption) ?_
      rotate_left
      · go_simp; try rfl
      simp only [Act.put, List.setIfInBounds_toArray, List.set_cons_zero, List.set_cons_succ]
      refine takeH (i := 34) (v := ?_) rfl (by decide +kernel) (fun _ _ _ h => h) (by rfl) (fun u hu => ?_) (by assumption) ?_
      rotate_left
      · go_simp; try rfl
      simp only [Act.put, List.setIfInBounds_toArray, List.set_cons_zero, List.set_cons_succ]
      refine takeH (i := 35) (v := ?_) rfl (by decide +kernel) (fun _ _ _ h => h) (by rfl) (fun u hu => ?_) (by assumption) ?_
      rotate_left
      · go_simp; try rfl
      simp only [Act.put, List.setIfInBounds_toArray, List.set_cons_zero, List.set_cons_succ]
      refine takeH (i := 36) (v := ?_) rfl (by decide +kernel) (fun _ _ _ h => h) (by rfl) (fun u hu => ?_) (by assumption) ?_
      rotate_left
      · go_simp; try rfl
      simp only [Act.put, List.setIfInBounds_toArray, List.set_cons_zero, List.set_cons_succ]
      refine wpAnyH_done (by kernel_rfl) ?_ _
      go_wp2_with fail
      go_ret
      exact ⟨rfl, HBl.out.trans (hS9.mono HBl.out.size)⟩
end Go.Proofs.YteimilnecahifaaGreatDoor.Nm
