/- What is asked of the program's names; the law's own run. -/
import Derived.Test.YteimilnecahifaaGreatDoorNJob
import Derived.Deep.Cut
import Derived.Lib.LastIndexByte
import Derived.Lib.Strings
import Derived.Test.YteimilnecahifaaGreatDoorNMath
namespace Go.Proofs.YteimilnecahifaaGreatDoor.Nm
open Go.Proofs.YteimilnecahifaaGreatDoor Go.Proofs.YteimilnecahifaaGreatDoor.Op
open Go.RowKit

def xF : List ByteArray := [nFalse]
def xT : List ByteArray := [nTrue, ⟨#[45, 120]⟩]
/-- The arguments that the laws hand over. -/
structure AskedN (sa : List ByteArray) : Prop where
  one : (sa = xA ∨ sa = xB ∨ sa = xC ∨ sa = xD ∨ sa = xF ∨ sa = xT) ∨
    (∃ n : Nat, n ≤ 9223372036854775807 ∧ (sa = [nPrintf, fX, bz (dgB 10 n)] ∨ sa = [nPrintf, fO, bz (dgB 10 n)] ∨ sa = [nPrintf, fD, bz (48 :: 120 :: dgB 16 n)] ∨ sa = [nPrintf, fI, bz (if n = 0 then [48] else 48 :: dgB 8 n)] ∨
      ∃ m : Nat, 1 ≤ m ∧ m ≤ 1000 ∧ sa = [nPrintf, bz (fW m), bz (dgB 10 n), bz (dgB 10 n), bz (dgB 10 n)])) ∨
    (∃ args : List ByteArray, args.length ≤ 100 ∧ tot args ≤ 1048576 ∧ (sa = nPrintf :: fE :: args ∨ sa = nEcho :: args))
/-- What is asked of the program. Amb: what is known of package variables. -/
structure SaysN (Amb : World → Prop) : Prop where
  keep : ∀ w w', Amb w → Below w.heap.size w w' → Amb w'
  base : ∀ (s t : ByteArray) (w : World), Amb w → s.size ≤ 2097152 → t.size ≤ 2097152 → Calls Tryz.prog 8 #[.string s, .string t] w fun e w' => e = .returned (.string (bz (baseS s.data.toList t.data.toList))) ∧ Below w.heap.size w w'
  dir : ∀ (s : ByteArray) (w : World), Amb w → s.size ≤ 2097152 → Calls Tryz.prog 7 #[.string s] w fun e w' => e = .returned (.string (bz (dirS s.data.toList))) ∧ Below w.heap.size w w'
  run : ∀ (av : Value) (sa : List ByteArray) (r : Res) (w : World), Amb w → StrsAt w av sa → AskedN sa → namesS sa = some r → Calls Tryz.prog 20 #[jobN av] w (RunN w r)
/-- What is asked of the teller of numbers. -/
def DigN (Amb : World → Prop) : Prop := ∀ (n b : Nat) (w : World), Amb w → n ≤ 9223372036854775807 → b = 10 ∨ b = 16 → Calls Tryz.prog 11 #[.int .i64 n, .int .i64 b] w fun e w' => e = .returned (.string (bz (dgB b n))) ∧ Below w.heap.size w w'

set_option maxHeartbeats 4000000 in
set_option maxRecDepth 100000 in
theorem run_c {Amb : World → Prop} (S : SaysN Amb) (av : Value) (sa : List ByteArray) (r : Res) (w : World) (hA : Amb w) (hS : StrsAt w av sa) (hk : AskedN sa) (hr : namesS sa = some r) : Calls Tryz.prog 12 #[av] w (LawN w r) := by
  have hav : ∃ a n c, av = .slice a n c := by
    rcases hS with ⟨rfl, _⟩ | ⟨b, off, cap, rfl, _⟩ <;> exact ⟨_, _, _, rfl⟩
  obtain ⟨xa, na, ca, rfl⟩ := hav
  have HK := Lib.hid (And.intro hA (And.intro hS (And.intro hk hr)))
  clear hA hS hk hr
  go_enter Tryz.func12, Tryz.ntmps12
  go_wp2_with fail
  have hBW : Below w.heap.size w (w.alloc (.cells res0 30)) := (Below.refl _ w).alloc (Nat.le_refl _) _
  have hRs : (w.alloc (.cells res0 30)).heap[w.heap.size]? = some (.cells res0 30) := al_new _ _
  have hz : (w.alloc (.cells res0 30)).heap.size = w.heap.size + 1 := by simp
  have e0 : (Obj.cells #[Value.slice none 0 0, Value.slice none 0 0, Value.int IntKind.i64 0, Value.slice none 0 0, Value.int IntKind.i64 0, Value.int IntKind.i64 0, Value.int IntKind.i64 0] 30) = .cells res0 30 := rfl
  rw [e0]
  clear e0
  generalize w.alloc (.cells res0 30) = W at hBW hRs hz ⊢
  refine (S.run _ sa r W (S.keep _ _ HK.out.1 hBW) (HK.out.2.1.below hBW) HK.out.2.2.1 HK.out.2.2.2).mono ?_
  rintro e w1 ⟨ov, ev, n1, n2, n3, rfl, hO, hE, hB⟩
  unfold resN
  obtain ⟨oa, oc, rfl⟩ := row_shape hO
  obtain ⟨ea, ec, rfl⟩ := row_shape hE
  have hR1 := (hB.block w.heap.size (by omega)).trans hRs
  have HH := Lib.hid (And.intro hO (And.intro hE (And.intro (hBW.trans (hB.mono hBW.size)) hR1)))
  have v0 := h_cell hR1 0 rfl; have v1 := h_cell hR1 1 rfl; have v2 := h_cell hR1 2 rfl; have v3 := h_cell hR1 3 rfl; have v4 := h_cell hR1 4 rfl; have v5 := h_cell hR1 5 rfl; have v6 := h_cell hR1 6 rfl
  have y0 := h_fz hR1 0; have y1 := h_fz hR1 1; have y2 := h_fz hR1 2; have y3 := h_fz hR1 3; have y4 := h_fz hR1 4; have y5 := h_fz hR1 5; have y6 := h_fz hR1 6
  have hlt := h_lt hR1
  clear hO hE hB hBW hRs hR1
  go_wp2_with fail
  have h1 : (((((((w1.setCell ⟨w.heap.size, 0, none⟩ (.slice oa r.out.length oc)).setCell ⟨w.heap.size, 1, none⟩ (.slice ea r.err.length ec)).setCell ⟨w.heap.size, 2, none⟩ (.int .i64 (r.st : Int))).setCell ⟨w.heap.size, 3, none⟩ (.slice none 0 0)).setCell ⟨w.heap.size, 4, none⟩ (.int .i64 n1)).setCell ⟨w.heap.size, 5, none⟩ (.int .i64 n2)).setCell ⟨w.heap.size, 6, none⟩ (.int .i64 n3)).heap[w.heap.size]? = some (.cells #[.slice oa r.out.length oc, .slice ea r.err.length ec, .int .i64 (r.st : Int), .slice none 0 0, .int .i64 n1, .int .i64 n2, .int .i64 n3] 30) := set7 HH.out.2.2.2 _ _ _ _ _ _ _
  have h2 : Below w.heap.size w (((((((w1.setCell ⟨w.heap.size, 0, none⟩ (.slice oa r.out.length oc)).setCell ⟨w.heap.size, 1, none⟩ (.slice ea r.err.length ec)).setCell ⟨w.heap.size, 2, none⟩ (.int .i64 (r.st : Int))).setCell ⟨w.heap.size, 3, none⟩ (.slice none 0 0)).setCell ⟨w.heap.size, 4, none⟩ (.int .i64 n1)).setCell ⟨w.heap.size, 5, none⟩ (.int .i64 n2)).setCell ⟨w.heap.size, 6, none⟩ (.int .i64 n3)) := below7 HH.out.2.2.1 (Nat.le_refl _) _ _ _ _ _ _ _
  have h3 : Row (((((((w1.setCell ⟨w.heap.size, 0, none⟩ (.slice oa r.out.length oc)).setCell ⟨w.heap.size, 1, none⟩ (.slice ea r.err.length ec)).setCell ⟨w.heap.size, 2, none⟩ (.int .i64 (r.st : Int))).setCell ⟨w.heap.size, 3, none⟩ (.slice none 0 0)).setCell ⟨w.heap.size, 4, none⟩ (.int .i64 n1)).setCell ⟨w.heap.size, 5, none⟩ (.int .i64 n2)).setCell ⟨w.heap.size, 6, none⟩ (.int .i64 n3)) (w.heap.size + 1) (.slice oa r.out.length oc) r.out := row7 (row_low HH.out.1 (by omega)) _ _ _ _ _ _ _
  have h4 : Row (((((((w1.setCell ⟨w.heap.size, 0, none⟩ (.slice oa r.out.length oc)).setCell ⟨w.heap.size, 1, none⟩ (.slice ea r.err.length ec)).setCell ⟨w.heap.size, 2, none⟩ (.int .i64 (r.st : Int))).setCell ⟨w.heap.size, 3, none⟩ (.slice none 0 0)).setCell ⟨w.heap.size, 4, none⟩ (.int .i64 n1)).setCell ⟨w.heap.size, 5, none⟩ (.int .i64 n2)).setCell ⟨w.heap.size, 6, none⟩ (.int .i64 n3)) (w.heap.size + 1) (.slice ea r.err.length ec) r.err := row7 (row_low HH.out.2.1 (by omega)) _ _ _ _ _ _ _
  generalize (((((((w1.setCell ⟨w.heap.size, 0, none⟩ (.slice oa r.out.length oc)).setCell ⟨w.heap.size, 1, none⟩ (.slice ea r.err.length ec)).setCell ⟨w.heap.size, 2, none⟩ (.int .i64 (r.st : Int))).setCell ⟨w.heap.size, 3, none⟩ (.slice none 0 0)).setCell ⟨w.heap.size, 4, none⟩ (.int .i64 n1)).setCell ⟨w.heap.size, 5, none⟩ (.int .i64 n2)).setCell ⟨w.heap.size, 6, none⟩ (.int .i64 n3)) = V at h1 h2 h3 h4 ⊢
  have hBV : Below V.heap.size V (V.alloc (.cells #[.slice oa r.out.length oc, .slice ea r.err.length ec, .int .i64 (r.st : Int), .slice none 0 0, .int .i64 n1, .int .i64 n2, .int .i64 n3] 30)) := (Below.refl _ V).alloc (Nat.le_refl _) _
  refine bodyPost_ret (results_rs rfl rfl ((hBV.block _ (h_lt h1)).trans h1)) rfl ?_
  exact ⟨_, _, n1, n2, n3, rfl, row_low (row_turn h3 hBV) (by omega), row_low (row_turn h4 hBV) (by omega), h2.trans (hBV.mono h2.size)⟩
end Go.Proofs.YteimilnecahifaaGreatDoor.Nm

namespace Go.Proofs.YteimilnecahifaaGreatDoor.Nm
open Go.Proofs.YteimilnecahifaaGreatDoor Go.Proofs.YteimilnecahifaaGreatDoor.Op
open Go.RowKit

def rA : Res := ⟨[45, 110, 32, 97, 10], [], 0⟩
def rB : Res := ⟨[98, 10], [], 0⟩
def rC : Res := ⟨[47, 97, 10], [], 0⟩
def rD : Res := ⟨[48, 48, 55, 44, 97, 98, 32, 44, 102, 102, 10, 48, 48, 48, 44, 32, 32, 32, 44, 48, 10], badLine ⟨#[120]⟩, 1⟩
def rF : Res := ⟨[], [], 1⟩
def rT : Res := ⟨[], [], 0⟩
theorem ex_F : namesS xF = some rF := res_of (by decide +kernel)
theorem ex_T : namesS xT = some rT := res_of (by decide +kernel)
/-- A call of arguments that were just written down. -/
theorem run_lit {Amb : World → Prop} (S : SaysN Amb) (ss : List ByteArray) (r : Res) (w : World) (b n : Nat) (hb : w.heap.size = b) (hA : Amb w) (hn : ss.length = n) (hl : n ≤ 1000) (ha : AskedN ss) (hr : namesS ss = some r) :
    Calls Tryz.prog 12 #[.slice (some ⟨b, 0, none⟩) n n] (w.alloc (.cells (ss.map Value.string).toArray 9)) (StepN w r) := by
  subst hn
  subst hb
  have hB0 : Below w.heap.size w (w.alloc (.cells (ss.map Value.string).toArray 9)) := (Below.refl _ w).alloc (Nat.le_refl _) _
  have hs : StrsAt (w.alloc (.cells (ss.map Value.string).toArray 9)) (.slice (some ⟨w.heap.size, 0, none⟩) ss.length ss.length) ss := strs_lit (Below.refl _ _) hl
  have hA0 := S.keep _ _ hA hB0
  generalize w.alloc (.cells (ss.map Value.string).toArray 9) = u at hB0 hs hA0 ⊢
  refine (run_c S _ ss r u hA0 hs ha hr).mono ?_
  intro e w' h
  exact step_of hB0 h
theorem names_printf1 {f : ByteArray} {args : List ByteArray} {o : Option Res} (h : f ≠ Op.dashes) (he : printfS f args = o) : namesS (nPrintf :: f :: args) = o := by
  rw [namesS, if_neg (by decide), if_neg (by decide), if_neg (by decide), if_neg (by decide), if_neg (by decide), if_pos rfl, printfA, behindD, if_neg (by simpa using h)]
  exact he
set_option maxHeartbeats 4000000 in
set_option maxRecDepth 100000 in
theorem awake_c {Amb : World → Prop} (S : SaysN Amb) (w : World) (hA : Amb w) : Calls Tryz.prog 6 #[] w fun e w' => e = .returned (.bool true) ∧ Below w.heap.size w w' := by
  have HA := Lib.hid hA
  clear hA
  go_enter Tryz.func6, Tryz.ntmps6
  go_wp2_with fail
  refine (run_lit S xA rA w _ 3 rfl HA.out rfl (by decide) ⟨.inl (.inl rfl)⟩ ex_A).mono ?_
  rintro e w1 ⟨oa, oc, ea, ec, n1, n2, n3, rfl, hb1, hB1, _⟩
  have H1 := Lib.hid (And.intro (S.keep _ _ HA.out hB1) (And.intro hb1 hB1))
  clear hb1 hB1
  go_wp2_with fail
  have z1 := heap_size_al w1 (.cells #[.slice oa rA.out.length oc, .slice ea rA.err.length ec, .int .i64 (rA.st : Int), .slice none 0 0, .int .i64 n1, .int .i64 n2, .int .i64 n3] 30)
  generalize w1.alloc _ = X1 at H1 z1 ⊢
  generalize w1.heap.size = b1 at H1 z1 ⊢
  refine (run_lit S xB rB X1 _ 3 z1 H1.out.1 rfl (by decide) ⟨.inl (.inr (.inl rfl))⟩ ex_B).mono ?_
  rintro e w2 ⟨oa2, oc2, ea2, ec2, n12, n22, n32, rfl, hb2, hB2, _⟩
  have H2 := Lib.hid (And.intro (S.keep _ _ H1.out.1 hB2) (And.intro (And.intro (H1.out.2.1.below hB2) hb2) (H1.out.2.2.trans (hB2.mono H1.out.2.2.size))))
  clear hb2 hB2
  go_wp2_with fail
  have z2 := heap_size_al w2 (.cells #[.slice oa2 rB.out.length oc2, .slice ea2 rB.err.length ec2, .int .i64 (rB.st : Int), .slice none 0 0, .int .i64 n12, .int .i64 n22, .int .i64 n32] 30)
  generalize w2.alloc _ = X2 at H2 z2 ⊢
  generalize w2.heap.size = b2 at H2 z2 ⊢
  refine (run_lit S xC rC X2 _ 2 z2 H2.out.1 rfl (by decide) ⟨.inl (.inr (.inr (.inl rfl)))⟩ ex_C).mono ?_
  rintro e w3 ⟨oa3, oc3, ea3, ec3, n13, n23, n33, rfl, hb3, hB3, _⟩
  have H3 := Lib.hid (And.intro (S.keep _ _ H2.out.1 hB3) (And.intro (And.intro (H2.out.2.1.1.below hB3) (And.intro (H2.out.2.1.2.below hB3) hb3)) (H2.out.2.2.trans (hB3.mono H2.out.2.2.size))))
  clear hb3 hB3
  go_wp2_with fail
  have z3 := heap_size_al w3 (.cells #[.slice oa3 rC.out.length oc3, .slice ea3 rC.err.length ec3, .int .i64 (rC.st : Int), .slice none 0 0, .int .i64 n13, .int .i64 n23, .int .i64 n33] 30)
  generalize w3.alloc _ = X3 at H3 z3 ⊢
  generalize w3.heap.size = b3 at H3 z3 ⊢
  refine (run_lit S xD rD X3 _ 6 z3 H3.out.1 rfl (by decide) ⟨.inl (.inr (.inr (.inr (.inl rfl))))⟩ ex_D).mono ?_
  rintro e w4 ⟨oa4, oc4, ea4, ec4, n14, n24, n34, rfl, hb4, hB4, _⟩
  have H4 := Lib.hid (And.intro (S.keep _ _ H3.out.1 hB4) (And.intro (And.intro (H3.out.2.1.1.below hB4) (And.intro (H3.out.2.1.2.1.below hB4) (And.intro (H3.out.2.1.2.2.below hB4) hb4))) (H3.out.2.2.trans (hB4.mono H3.out.2.2.size))))
  clear hb4 hB4
  go_upto_region 5 with fail
  have z4 := heap_size_al w4 (.cells #[.slice oa4 rD.out.length oc4, .slice ea4 rD.err.length ec4, .int .i64 (rD.st : Int), .slice none 0 0, .int .i64 n14, .int .i64 n24, .int .i64 n34] 30)
  generalize w4.alloc _ = X4 at H4 z4 ⊢
  generalize w4.heap.size = b4 at H4 z4 ⊢
  obtain ⟨p1, q1, k1, c1⟩ := H4.out.2.1.1.out
  obtain ⟨p2, q2, k2, c2⟩ := H4.out.2.1.2.1.out
  obtain ⟨p3, q3, k3, c3⟩ := H4.out.2.1.2.2.1.out
  obtain ⟨p4, q4, k4, c4⟩ := H4.out.2.1.2.2.2.out
  obtain ⟨p5, q5, k5, c5⟩ := H4.out.2.1.2.2.2.err
  have k6 := H4.out.2.1.2.2.2.st
  have d1 := c1 X4 (Below.refl _ _)
  have d2 := c2 X4 (Below.refl _ _)
  have d3 := c3 X4 (Below.refl _ _)
  have d4 := c4 X4 (Below.refl _ _)
  have d5 := c5 X4 (Below.refl _ _)
  rw [show (bz rA.out) = ⟨#[45, 110, 32, 97, 10]⟩ from rfl] at d1
  rw [show (bz rB.out) = ⟨#[98, 10]⟩ from rfl] at d2
  rw [show (bz rC.out) = ⟨#[47, 97, 10]⟩ from rfl] at d3
  rw [show (bz rD.out) = ⟨#[48, 48, 55, 44, 97, 98, 32, 44, 102, 102, 10, 48, 48, 48, 44, 32, 32, 32, 44, 48, 10]⟩ from rfl] at d4
  rw [show (bz rD.err) = ⟨#[112, 114, 105, 110, 116, 102, 58, 32, 120, 58, 32, 110, 111, 116, 32, 97, 32, 110, 117, 109, 98, 101, 114, 10]⟩ from rfl] at d5
  rw [show (rD.st : Int) = 1 from rfl] at k6
  clear c1 c2 c3 c4 c5
  have hfs := field_st
  have hf := run_lit S xF rF X4 _ 1 z4 H4.out.1 rfl (by decide) ⟨.inl (.inr (.inr (.inr (.inr (.inl rfl)))))⟩ ex_F
  go_wp2_with fail
  refine hf.mono ?_
  rintro e w5 ⟨oa5, oc5, ea5, ec5, n15, n25, n35, rfl, _, _, hB5⟩
  rw [show (rF.st : Int) = 1 from rfl]
  have ht := run_lit S xT rT w5 _ 2 rfl (S.keep _ _ H4.out.1 hB5) rfl (by decide) ⟨.inl (.inr (.inr (.inr (.inr (.inr rfl)))))⟩ ex_T
  have H5 := Lib.hid (H4.out.2.2.trans (hB5.mono H4.out.2.2.size))
  clear hB5 hf d1 d2 d3 d4 d5 k1 k2 k3 k4 k5 k6 H1 H2 H3 H4
  go_wp2_with fail
  refine ht.mono ?_
  rintro e w6 ⟨oa6, oc6, ea6, ec6, n16, n26, n36, rfl, _, _, hB6⟩
  rw [show (rT.st : Int) = 0 from rfl]
  have H6 := Lib.hid (H5.out.trans (hB6.mono H5.out.size))
  clear hB6 ht H5
  go_wp2_with fail
  go_ret
  exact ⟨rfl, H6.out⟩
end Go.Proofs.YteimilnecahifaaGreatDoor.Nm

namespace Go.Proofs.YteimilnecahifaaGreatDoor.Nm
open Go.Proofs.YteimilnecahifaaGreatDoor

theorem behindL_none (l : List UInt8) (h : ∀ c ∈ l, c ≠ 47) : behindL l = l := by
  unfold behindL
  rw [takeWhile_all (fun c hc => by simpa using h c (by simpa using hc)), List.reverse_reverse]
theorem aheadL_none (l : List UInt8) (h : ∀ c ∈ l, c ≠ 47) : aheadL l = none := by
  unfold aheadL
  rw [dropWhile_all (fun c hc => by simpa using h c (by simpa using hc))]
theorem aheadL_at (d b : List UInt8) (h : ∀ c ∈ b, c ≠ 47) : aheadL (d ++ 47 :: b) = some d := by
  unfold aheadL
  rw [List.reverse_append, List.reverse_cons, List.append_assoc, List.singleton_append, dropWhile_app (by decide) (fun c hc => by simpa using h c (by simpa using hc))]
  simp
theorem at_list (s : ByteArray) (j : Nat) (h : j < s.data.toList.length) : s.data[j]! = s.data.toList[j] := by
  rw [Array.getElem!_eq_getD, Array.getD_eq_getD_getElem?, Array.getElem?_toList.symm, List.getElem?_eq_getElem h]
  rfl
/-- Where the last stroke stands. -/
theorem last_stroke (s : ByteArray) : (Lib.lastIndexByte s 47 = -1 ∧ ∀ c ∈ s.data.toList, c ≠ 47) ∨ (∃ i : Nat, Lib.lastIndexByte s 47 = i ∧ i < s.data.toList.length ∧ s.data.toList = s.data.toList.take i ++ 47 :: s.data.toList.drop (i + 1) ∧ ∀ c ∈ s.data.toList.drop (i + 1), c ≠ 47) := by
  have hz : s.size = s.data.toList.length := rfl
  rcases Lib.lastIdx_spec s 47 s.size with ⟨h, h2⟩ | ⟨i, hi, h, h2, h3⟩
  · refine .inl ⟨h, fun c hc e => ?_⟩
    obtain ⟨j, hj, ej⟩ := List.getElem_of_mem hc
    have := h2 j (by omega)
    rw [at_list s j hj, ej, e] at this
    exact this rfl
  · refine .inr ⟨i, h, by omega, ?_, fun c hc e => ?_⟩
    · rw [at_list s i (by omega)] at h2
      have e47 : s.data.toList[i]'(by omega) = 47 := by
        apply UInt8.toNat_inj.1
        have : ((47 : UInt8).toNat : Int) = 47 := rfl
        omega
      have := List.take_append_drop i s.data.toList
      rw [List.drop_eq_getElem_cons (by omega), e47] at this
      exact this.symm
    · obtain ⟨j, hj, ej⟩ := List.getElem_of_mem hc
      rw [List.length_drop] at hj
      have := h3 (i + 1 + j) (by omega) (by omega)
      rw [at_list s _ (by omega)] at this
      rw [List.getElem_drop] at ej
      rw [ej, e] at this
      exact this rfl
theorem base_drop (s : ByteArray) : ∃ k : Nat, Lib.lastIndexByte s 47 + 1 = k ∧ k ≤ s.size ∧ s.data.toList.drop k = behindL s.data.toList := by
  have hz : s.size = s.data.toList.length := rfl
  rcases last_stroke s with ⟨h, h2⟩ | ⟨i, h, hi, e, h2⟩
  · exact ⟨0, by omega, by omega, by rw [behindL_none _ h2]; rfl⟩
  · refine ⟨i + 1, by omega, by omega, ?_⟩
    conv => rhs; rw [e]
    rw [behindL_app _ _ h2]
theorem less_suffix (t suf : List UInt8) (h : t ≠ suf) : Lib.trimSuffix t suf = lessS t suf := by
  unfold Lib.trimSuffix Lib.hasSuffix lessS
  by_cases hs : suf.isSuffixOf t = true
  · rw [if_pos hs]
    obtain ⟨p, hp⟩ := List.isSuffixOf_iff_suffix.1 hs
    subst hp
    have hp0 : p ≠ [] := by
      rintro rfl
      exact h rfl
    have hl : 0 < p.length := List.length_pos_iff.2 hp0
    rw [if_pos ⟨by simp; omega, by simp⟩]
  · rw [if_neg hs, if_neg]
    rintro ⟨h1, h2⟩
    refine hs (List.isSuffixOf_iff_suffix.2 ⟨t.take (t.length - suf.length), ?_⟩)
    have := List.take_append_drop (t.length - suf.length) t
    rw [h2] at this
    exact this
theorem less_same (t : List UInt8) : lessS t t = t := by
  rw [lessS, if_neg (by simp)]
end Go.Proofs.YteimilnecahifaaGreatDoor.Nm

namespace Go.Proofs.YteimilnecahifaaGreatDoor.Nm
open Go.Proofs.YteimilnecahifaaGreatDoor Go.Proofs.YteimilnecahifaaGreatDoor.Op
open Go.RowKit

theorem bz_take (l : List UInt8) (k : Nat) : (bz l).extract 0 k = bz (l.take k) := by
  apply ByteArray.ext
  apply Array.ext'
  rw [ByteArray.data_extract, Array.toList_extract]
  simp [bz]
theorem bz_drop (l : List UInt8) (k : Nat) : (bz l).extract k (bz l).size = bz (l.drop k) := by
  apply ByteArray.ext
  apply Array.ext'
  rw [ByteArray.data_extract, Array.toList_extract]
  show List.take ((bz l).size - k) (List.drop k l) = List.drop k l
  rw [bz_size, List.take_of_length_le (by simp)]
theorem ix_bz (l : List UInt8) (k : Nat) (c : UInt8) (h : l[k]? = some c) (w : World) : (Instr.index 9 (.string (bz l)) (.int .i64 (k : Int))).run Tryz.prog w = .ok (.int .u8 (c.toNat : Int)) w := by
  have hk : k < l.length := (List.getElem?_eq_some_iff.1 h).1
  have hs : k < (bz l).size := by rw [bz_size]; exact hk
  have he : (bz l)[k] = c := (List.getElem?_eq_some_iff.1 h).2
  rw [run_index_string w 9 (bz l) .i64 (k : Int) Tryz.underlying9, dif_pos ⟨by omega, by omega⟩]
  simp [he]
theorem u8_beq (a b : UInt8) : ((a.toNat : Int) == (b.toNat : Int)) = decide (a = b) := by
  rw [Bool.eq_iff_iff]; simp only [beq_iff_eq, decide_eq_true_eq, ← UInt8.toNat_inj]; omega
def strSz : Value → Nat
  | .string s => s.size
  | _ => 0
theorem snoc_of {l : List UInt8} (h : l ≠ []) : ∃ m c, l = m ++ [c] := ⟨l.dropLast, l.getLast h, (List.dropLast_concat_getLast h).symm⟩
theorem beq47 {c : UInt8} (h : c ≠ 47) : ((c.toNat : Int) == 47) = false := by
  have := u8_beq c 47
  rw [show ((47 : UInt8).toNat : Int) = 47 from rfl] at this
  rw [this]; simpa using h
end Go.Proofs.YteimilnecahifaaGreatDoor.Nm

namespace Go.Proofs.YteimilnecahifaaGreatDoor.Nm
open Go.Proofs.YteimilnecahifaaGreatDoor Go.Proofs.YteimilnecahifaaGreatDoor.Op
open Go.RowKit

set_option maxHeartbeats 1000000 in
theorem rcut_c (l : List UInt8) (w : World) (hl : l.length ≤ 2097152) : Calls Tryz.prog 17 #[.string (bz l)] w fun e w' => e = .returned (.string (bz (cutE l))) ∧ Below w.heap.size w w' := by
  go_enter Tryz.func17, Tryz.ntmps17
  go_wp2
  go_loopw [0] (fun v wr => ∃ r : List UInt8, v = .string (bz r) ∧ r.length ≤ 2097152 ∧ Hid (cutE r = cutE l) ∧ Below w.heap.size w wr) (fun v _ => strSz v)
  case atStart => exact ⟨l, rfl, hl, rfl, Below.refl _ _⟩
  case round =>
    obtain ⟨r, rfl, hr, HR, hb⟩ := hrel
    by_cases h0 : r = []
    · subst h0
      go_wp2
      go_ret
      exact ⟨by rw [← HR.out]; rfl, hb⟩
    · obtain ⟨m, c, rfl⟩ := snoc_of h0
      have hsz : (bz (m ++ [c])).size = m.length + 1 := by rw [bz_size]; simp
      have hm : m.length < 2097152 := by simp at hr; omega
      have hix := ix_bz (m ++ [c]) m.length c (by simp)
      clear hr h0
      by_cases hc : c = 47
      · subst hc
        have ht : (bz (m ++ [47])).extract 0 m.length = bz m := by rw [bz_take]; simp
        rw [cutE_snoc_stroke] at HR
        have hms : strSz (.string (bz m)) < strSz (.string (bz (m ++ [47]))) := by simp only [strSz, hsz, bz_size]; omega
        go_wp2
        exact ⟨⟨m, rfl, by omega, HR, hb⟩, hms⟩
      · have hq := beq47 hc
        rw [cutE_snoc_other _ _ hc] at HR
        go_wp2
        go_ret
        exact ⟨by rw [HR.out]; rfl, hb⟩
/-- Where the last stroke stands. -/
def lastI (l : List UInt8) : Int := match aheadL l with
  | none => -1
  | some a => (a.length : Int)
theorem lastI_at {l a b : List UInt8} (h : l = a ++ 47 :: b) (hb : ∀ c ∈ b, c ≠ 47) : lastI l = (a.length : Int) := by
  rw [lastI, h, aheadL_app _ _ hb]
theorem lastI_no {l : List UInt8} (h : ∀ c ∈ l, c ≠ 47) : lastI l = -1 := by
  rw [lastI]
  rcases parts_of l with ⟨e, _⟩ | ⟨a, _, e⟩
  · rw [e]
  · exact absurd rfl (h 47 (by rw [e]; simp))
theorem drop_cons {l : List UInt8} {k : Nat} {c : UInt8} (h : l[k]? = some c) : l.drop k = c :: l.drop (k + 1) := by
  have hk := (List.getElem?_eq_some_iff.1 h)
  rw [List.drop_eq_getElem_cons hk.1, hk.2]
set_option maxHeartbeats 1000000 in
theorem rlast_c (l : List UInt8) (w : World) (hl : l.length ≤ 2097152) : Calls Tryz.prog 18 #[.string (bz l)] w fun e w' => e = .returned (.int .i64 (lastI l)) ∧ Below w.heap.size w w' := by
  have hsz := bz_size l
  go_enter Tryz.func18, Tryz.ntmps18
  go_wp2
  go_loopw [3] (fun v wr => ∃ k : Nat, v = .int .i64 ((k : Int) - 1) ∧ k ≤ l.length ∧ Hid (∀ c ∈ l.drop k, c ≠ 47) ∧ Below w.heap.size w wr) (fun v _ => (intOf v + 1).toNat)
  case atStart => exact ⟨l.length, rfl, Nat.le_refl _, by rw [List.drop_length]; exact fun c hc => by simp at hc, Below.refl _ _⟩
  case round =>
    obtain ⟨k, rfl, hk, HK, hb⟩ := hrel
    cases k with
    | zero =>
      go_wp2
      go_ret
      refine ⟨?_, hb⟩
      have := lastI_no (l := l) (by simpa using HK.out)
      rw [this]; rfl
    | succ k =>
      have hlt : k < l.length := by omega
      obtain ⟨c, hc⟩ : ∃ c, l[k]? = some c := ⟨l[k], List.getElem?_eq_getElem hlt⟩
      have hix := ix_bz l k c hc
      have hd := drop_cons hc
      have e1 : ((k + 1 : Nat) : Int) - 1 = (k : Int) := by omega
      rw [e1]
      have HD := Lib.hid (And.intro hc hd)
      clear hc hd e1
      by_cases h47 : c = 47
      · subst h47
        go_wp2
        go_ret
        refine ⟨?_, hb⟩
        have := lastI_at (l := l) (a := l.take k) (b := l.drop (k + 1)) (by rw [← HD.out.2, List.take_append_drop]) HK.out
        rw [List.length_take, Nat.min_eq_left (by omega)] at this
        rw [this]; rfl
      · have hq := beq47 h47
        go_wp2
        refine ⟨⟨k, rfl, by omega, ?_, hb⟩, ?_⟩
        · show ∀ d ∈ l.drop k, d ≠ 47
          rw [HD.out.2]
          intro d hd
          rcases List.mem_cons.1 hd with rfl | hd
          · exact h47
          · exact HK.out d hd
        · simp [intOf]
theorem cutE_len (l : List UInt8) : (cutE l).length ≤ l.length := by
  unfold cutE
  simp only [List.length_reverse]
  exact Nat.le_trans (List.dropWhile_sublist _).length_le (by simp)
theorem empty_bz {l : List UInt8} (h : l ≠ []) : (bz l).toList.isEmpty = false := by
  rw [show (bz l).toList = l from by rw [ByteArray.toList_eq]; rfl]
  cases l with
  | nil => exact absurd rfl h
  | cons a b => rfl
theorem bz_nil : bz [] = ⟨#[]⟩ := rfl
set_option maxHeartbeats 1000000 in
theorem rdir_c (l : List UInt8) (w : World) (hl : l.length ≤ 2097152) : Calls Tryz.prog 9 #[.string (bz l)] w fun e w' => e = .returned (.string (bz (dirS l))) ∧ Below w.heap.size w w' := by
  by_cases h0 : l = []
  · subst h0
    rw [bz_nil]
    go_enter Tryz.func9, Tryz.ntmps9
    go_wp2
    go_ret
    exact ⟨rfl, Below.refl _ _⟩
  have q0 := empty_bz h0
  have hcut := rcut_c l w hl
  have hlen := cutE_len l
  by_cases h1 : cutE l = []
  · rw [h1, bz_nil] at hcut
    have HS : Hid (dirS l = [47]) := by show dirS l = [47]; rw [dirS, if_neg h0, if_pos h1]
    go_enter Tryz.func9, Tryz.ntmps9
    go_wp2_with (go_at_call 17; refine hcut.mono ?_; rintro e w1 ⟨rfl, hB⟩)
    go_ret
    exact ⟨by rw [HS.out]; rfl, hB⟩
  have q1 := empty_bz h1
  cases h2 : aheadL (cutE l) with
  | none =>
    have HS : Hid (dirS l = [46] ∧ lastI (cutE l) = -1) := by
      show dirS l = [46] ∧ lastI (cutE l) = -1
      rw [dirS, if_neg h0, if_neg h1, lastI, h2]; exact ⟨rfl, rfl⟩
    have hlast := fun u => rlast_c (cutE l) u (by omega)
    rw [HS.out.2] at hlast
    go_enter Tryz.func9, Tryz.ntmps9
    go_wp2_with (first
      | (go_at_call 17; refine hcut.mono ?_; rintro e w1 ⟨rfl, hB⟩; have hl1 := hlast w1; clear hlast)
      | (go_at_call 18; refine hl1.mono ?_; rintro e w2 ⟨rfl, hB2⟩))
    go_ret
    exact ⟨by rw [HS.out.1]; rfl, hB.trans (hB2.mono hB.size)⟩
  | some a =>
    have hal : a.length < (cutE l).length ∧ (cutE l).take a.length = a := by
      rcases parts_of (cutE l) with ⟨e, _⟩ | ⟨b, e, h3⟩
      · rw [e] at h2; cases h2
      · rw [e] at h2; cases h2
        rw [h3]; simp
    have HS : Hid (dirS l = (if cutE a = [] then [47] else cutE a) ∧ lastI (cutE l) = (a.length : Int)) := by
      show dirS l = (if cutE a = [] then [47] else cutE a) ∧ lastI (cutE l) = (a.length : Int)
      rw [dirS, if_neg h0, if_neg h1, lastI, h2]; exact ⟨rfl, rfl⟩
    have hlast := fun u => rlast_c (cutE l) u (by omega)
    have hsz := bz_size (cutE l)
    have ht : (bz (cutE l)).extract 0 a.length = bz a := by rw [bz_take, hal.2]
    have hal1 := hal.1
    rw [HS.out.2] at hlast
    have hcut2 := fun u => rcut_c a u (by omega)
    generalize cutE l = t at hcut hlast hsz ht hal1 q1 hlen
    clear hal h1 h2
    by_cases h3 : cutE a = []
    · rw [h3, if_pos rfl] at HS
      rw [h3, bz_nil] at hcut2
      go_enter Tryz.func9, Tryz.ntmps9
      go_wp2_with (first
        | (go_at_call 17; refine hcut.mono ?_; rintro e w1 ⟨rfl, hB⟩; have hl1 := hlast w1; clear hlast hcut)
        | (go_at_call 18; refine hl1.mono ?_; rintro e w2 ⟨rfl, hB2⟩; have hc2 := hcut2 w2; clear hl1 hcut2)
        | (go_at_call 17; refine hc2.mono ?_; rintro e w3 ⟨rfl, hB3⟩))
      go_ret
      exact ⟨by rw [HS.out.1]; rfl, (hB.trans (hB2.mono hB.size)).trans (hB3.mono (Nat.le_trans hB.size hB2.size))⟩
    · rw [if_neg h3] at HS
      have q3 := empty_bz h3
      generalize cutE a = c at HS hcut2 q3
      go_enter Tryz.func9, Tryz.ntmps9
      go_wp2_with (first
        | (go_at_call 17; refine hcut.mono ?_; rintro e w1 ⟨rfl, hB⟩; have hl1 := hlast w1; clear hlast hcut)
        | (go_at_call 18; refine hl1.mono ?_; rintro e w2 ⟨rfl, hB2⟩; have hc2 := hcut2 w2; clear hl1 hcut2)
        | (go_at_call 17; refine hc2.mono ?_; rintro e w3 ⟨rfl, hB3⟩))
      go_ret
      exact ⟨by rw [HS.out.1]; rfl, (hB.trans (hB2.mono hB.size)).trans (hB3.mono (Nat.le_trans hB.size hB2.size))⟩
end Go.Proofs.YteimilnecahifaaGreatDoor.Nm

namespace Go.Proofs.YteimilnecahifaaGreatDoor.Nm
open Go.Proofs.YteimilnecahifaaGreatDoor Go.Proofs.YteimilnecahifaaGreatDoor.Op
open Go.RowKit

theorem behind_at (t : List UInt8) : ∃ k : Nat, lastI t = (k : Int) - 1 ∧ k ≤ t.length ∧ t.drop k = behindL t := by
  rcases parts_of t with ⟨e, h⟩ | ⟨a, e, h⟩
  · exact ⟨0, by rw [lastI, e]; rfl, Nat.zero_le _, by rw [h]; rfl⟩
  · refine ⟨a.length + 1, by rw [lastI, e]; simp, ?_, ?_⟩
    · rw [h]; simp
    · conv => lhs; rw [h]
      rw [show a ++ 47 :: behindL t = (a ++ [47]) ++ behindL t from by simp, List.drop_left' (by simp)]
set_option maxHeartbeats 2000000 in
theorem rbase_c (l suf : List UInt8) (w : World) (hl : l.length ≤ 2097152) (hs : suf.length ≤ 2097152) : Calls Tryz.prog 10 #[.string (bz l), .string (bz suf)] w fun e w' => e = .returned (.string (bz (baseS l suf))) ∧ Below w.heap.size w w' := by
  by_cases h0 : l = []
  · subst h0
    rw [bz_nil]
    go_enter Tryz.func10, Tryz.ntmps10
    go_wp2
    go_ret
    exact ⟨rfl, Below.refl _ _⟩
  have q0 := empty_bz h0
  have hcut := rcut_c l w hl
  have hlen := cutE_len l
  by_cases h1 : cutE l = []
  · rw [h1, bz_nil] at hcut
    have HS : Hid (baseS l suf = [47]) := by show baseS l suf = [47]; rw [baseS, if_neg h0, if_pos h1]
    go_enter Tryz.func10, Tryz.ntmps10
    go_wp2_with (go_at_call 17; refine hcut.mono ?_; rintro e w1 ⟨rfl, hB⟩)
    go_ret
    exact ⟨by rw [HS.out]; rfl, hB⟩
  have q1 := empty_bz h1
  have HS : Hid (baseS l suf = lessS (behindL (cutE l)) suf) := by show baseS l suf = _; rw [baseS, if_neg h0, if_neg h1]
  obtain ⟨k, hk, hkl, hd⟩ := behind_at (cutE l)
  have hlast := fun u => rlast_c (cutE l) u (by omega)
  rw [hk] at hlast
  have hul : (behindL (cutE l)).length ≤ 2097152 := by rw [← hd, List.length_drop]; omega
  generalize behindL (cutE l) = u at HS hd hul
  have hx : (bz (cutE l)).extract k (cutE l).length = bz u := by
    have := bz_drop (cutE l) k
    rwa [bz_size, hd] at this
  generalize cutE l = t at hcut hlen q1 hkl hlast hx hd hk
  have hsz := bz_size t
  have hsu := bz_size u
  have hss := bz_size suf
  have hkm : k ≤ 2097152 := by omega
  have HD := Lib.hid (And.intro hd hk)
  clear hd hk h0 h1 hlen
  by_cases hlt : suf.length < u.length
  · obtain ⟨n, hn⟩ : ∃ n, u.length = suf.length + (n + 1) := ⟨u.length - suf.length - 1, by omega⟩
    have hx2 : (bz u).extract (n + 1) (suf.length + (n + 1)) = bz (u.drop (n + 1)) := by
      have := bz_drop u (n + 1)
      rwa [bz_size, hn] at this
    have hx3 := bz_take u (n + 1)
    rw [hn] at hsu hul
    by_cases he : u.drop (n + 1) = suf
    · have hq := beq_bz_yes he
      have HL : Hid (lessS u suf = u.take (n + 1)) := by
        show lessS u suf = _
        rw [lessS, show u.length - suf.length = n + 1 from by omega, if_pos ⟨hlt, he⟩]
      rw [he] at hx2
      have hx4 : Hid ((bz u).extract 0 (suf.length + (n + 1) - suf.length) = bz (u.take (n + 1))) := by show _ = _; rw [show suf.length + (n + 1) - suf.length = n + 1 from by omega]; exact hx3
      clear hlt hn he hq
      have hq : ((bz suf).toList == (bz suf).toList) = true := by simp
      go_enter Tryz.func10, Tryz.ntmps10
      go_wp2_with (first
        | (go_at_call 17; refine hcut.mono ?_; rintro e w1 ⟨rfl, hB⟩; have hl1 := hlast w1; clear hlast hcut)
        | (go_at_call 18; refine hl1.mono ?_; rintro e w2 ⟨rfl, hB2⟩))
      go_ret
      exact ⟨by rw [HS.out, HL.out, ← hx4.out]; rfl, hB.trans (hB2.mono hB.size)⟩
    · have hq := beq_bz_no he
      have HL : Hid (lessS u suf = u) := by
        show lessS u suf = _
        rw [lessS, show u.length - suf.length = n + 1 from by omega, if_neg (fun h => he h.2)]
      generalize u.drop (n + 1) = dd at hx2 hq
      clear hlt hn he
      go_enter Tryz.func10, Tryz.ntmps10
      go_wp2_with (first
        | (go_at_call 17; refine hcut.mono ?_; rintro e w1 ⟨rfl, hB⟩; have hl1 := hlast w1; clear hlast hcut)
        | (go_at_call 18; refine hl1.mono ?_; rintro e w2 ⟨rfl, hB2⟩))
      go_ret
      exact ⟨by rw [HS.out, HL.out]; rfl, hB.trans (hB2.mono hB.size)⟩
  · have HL : Hid (lessS u suf = u) := by
      show lessS u suf = _
      rw [lessS, if_neg (fun h => hlt h.1)]
    have hn : ¬ ((0 : Int) < (u.length : Int) - (suf.length : Int)) := by omega
    go_enter Tryz.func10, Tryz.ntmps10
    go_wp2_with (first
      | (go_at_call 17; refine hcut.mono ?_; rintro e w1 ⟨rfl, hB⟩; have hl1 := hlast w1; clear hlast hcut)
      | (go_at_call 18; refine hl1.mono ?_; rintro e w2 ⟨rfl, hB2⟩))
    go_ret
    exact ⟨by rw [HS.out, HL.out]; rfl, hB.trans (hB2.mono hB.size)⟩
end Go.Proofs.YteimilnecahifaaGreatDoor.Nm
