/- A map whose keys are strings, whatever its elements are. -/
import Derived.Maps.OwnSet
import Derived.Maps.Views
import Derived.WalkKit
import Derived.Lib.Hide
import Derived.Test.YtlekfdkahlobiaaGreatProg
import Derived.Test.YtlekfdkahlobiaaGreatHBuild
namespace Go.Proofs.YtlekfdkahlobiaaGreat.Mp
open Go.RowKit Go.Maps

/-- An element of a map is told as the value that it is. -/
def R (v : Value) : Option (DataW Value × List MemPlace) := some (.held v, [])
abbrev sk (s : ByteArray) : Lit := .string s.data.toList
theorem keyed9 : Keyed Tryz.prog 9 := string_keyed Tryz.underlying9
/-- A map of at most n entries, that holds for a string what f tells. -/
def MapS (w : World) (b n : Nat) (f : ByteArray → Option Value) : Prop :=
  ∃ D : DataW Value, w.ownsMap Tryz.prog 9 R b n D ∧ IsMap D ∧ ∀ s, Maps.has D (sk s) = (f s).isSome ∧ ∀ z, D.atKey (sk s) (.held z) = .held ((f s).getD z)
theorem skS_inj {a b : ByteArray} (h : sk a = sk b) : a = b := by
  have h1 : a.data.toList = b.data.toList := by simpa [sk] using h
  cases a; cases b
  congr
  exact Array.toList_inj.1 h1
theorem MapS.made (w : World) : MapS (w.alloc (.map #[] 0)) w.heap.size 0 (fun _ => none) :=
  ⟨_, World.ownsMap_made w Tryz.prog 9 R, isMap_empty, fun c => ⟨rfl, fun z => by simp [DataW.atKey]⟩⟩
theorem MapS.kept {w w' : World} {b n : Nat} {f : ByteArray → Option Value} {row : Option Nat} (h : MapS w b n f) (hg : w.grownBy w' row) (hne : some b ≠ row) : MapS w' b n f :=
  let ⟨D, h1, h2⟩ := h; ⟨D, h1.kept hg hne, h2⟩
theorem MapS.lt {w : World} {b n : Nat} {f : ByteArray → Option Value} (h : MapS w b n f) : b < w.heap.size := let ⟨_, h1, _⟩ := h; h1.lt
theorem MapS.below {w w' : World} {b n : Nat} {f : ByteArray → Option Value} (h : MapS w b n f) (hb : Below w.heap.size w w') : MapS w' b n f :=
  h.kept (row := none) ⟨hb.os, hb.tape, hb.output, hb.size, fun k hk _ => hb.block k hk⟩ (by simp)
theorem MapS.less {w : World} {b n n' : Nat} {f : ByteArray → Option Value} (h : MapS w b n f) (e : n = n') : MapS w b n' f := e ▸ h
/-- 'v, ok := m[s]'. -/
theorem MapS.look {w : World} {b n : Nat} {f : ByteArray → Option Value} (h : MapS w b n f) {t e : TypeId} (ht : Tryz.prog.underlying t = some (.map 9 e)) {z : Value} (hz : (zeroValue e).run Tryz.prog w = .ok z w) (s : ByteArray) (hs : s.size ≤ maxLen) :
    (Instr.lookup t (.map (some b)) (.string s) true).run Tryz.prog w = .ok (.tuple #[(f s).getD z, .bool (f s).isSome]) w := by
  obtain ⟨D, h1, _, h3⟩ := h
  obtain ⟨v, ps, hr, hv⟩ := h1.look_ok keyed9 ht hz (zd := .held z) (zp := []) rfl (WideMaps.keyOf_string_mk Tryz.underlying9 hs)
  rw [show (Lit.string s.data.toList) = sk s from rfl, (h3 s).2 z] at hv
  have e1 : v = (f s).getD z := by
    simp only [R, Option.some.injEq, Prod.mk.injEq, DataW.held.injEq] at hv; exact hv.1
  rw [hr, e1, show (Lit.string s.data.toList) = sk s from rfl, (h3 s).1]
/-- 'm[s] = v'. -/
theorem MapS.put {w : World} {b n : Nat} {f : ByteArray → Option Value} (h : MapS w b n f) {t e : TypeId} (ht : Tryz.prog.underlying t = some (.map 9 e)) (hn : n < maxLen) (s : ByteArray) (hs : s.size ≤ maxLen) (v : Value) :
    ∃ w', (Instr.mapUpdate t (.map (some b)) (.string s) v).run Tryz.prog w = .ok () w' ∧ MapS w' b (n + 1) (fun d => if d = s then some v else f d) ∧ w.grownBy w' (some b) := by
  obtain ⟨D, h1, h2, h3⟩ := h
  obtain ⟨w', hr, ho, hg⟩ := h1.update keyed9 ht hn (key := .string s) (val := v) (d := .held v) (ps := []) (WideMaps.keyOf_string_mk Tryz.underlying9 hs) rfl
  refine ⟨w', hr, ⟨_, ho, ho.isMap, fun d => ?_⟩, hg⟩
  have hk : ∀ d, WideAt.IsKeyLit (sk d) := fun d => by simp [WideAt.IsKeyLit]
  rw [show (Lit.string s.data.toList) = sk s from rfl]
  by_cases hd : d = s
  · subst hd
    rw [has_put_same h2 (hk d)]
    refine ⟨by simp, fun z => ?_⟩
    rw [atKey_put_same h2 (hk d)]; simp
  · have hne : sk d ≠ sk s := fun e => hd (skS_inj e)
    simp only [has_put_other hne, if_neg hd]
    exact ⟨(h3 d).1, fun z => by rw [atKey_put_other hne]; exact (h3 d).2 z⟩
end Go.Proofs.YtlekfdkahlobiaaGreat.Mp

namespace Go.Proofs.YtlekfdkahlobiaaGreat.Kd
open Go.Proofs.YtlekfdkahlobiaaGreat.Tr
open Go.RowKit

section
variable {c : Nat} {w : World}
/-- A call of a kind of bytes. -/
abbrev Kind (f : Nat) (caps : Array Value) (p : Nat → Bool) (w : World) : Prop := ∀ c : Nat, c < 256 → Calls Tryz.prog f (#[.int .u8 (c : Int)] ++ caps) w fun e w' => e = .returned (.bool (p c)) ∧ w' = w
theorem kind_of {f : Nat} {p : Nat → Bool} (h : ∀ c : Nat, c < 256 → ∀ P, Hid (P = p c) → Calls Tryz.prog f #[.int .u8 (c : Int)] w fun e w' => e = .returned (.bool P) ∧ w' = w) : Kind f #[] p w := by
  intro c hc
  have := h c hc (p c) rfl
  simpa using this
theorem kind_at {f : Nat} {p : Nat → Bool} (h : Kind f #[] p w) (c : Nat) (hc : c < 256) : Calls Tryz.prog f #[.int .u8 (c : Int)] w fun e w' => e = .returned (.bool (p c)) ∧ w' = w := by
  have := h c hc
  simpa using this
end
theorem ret_t {b : Bool} (h : b = true) : Ending.returned (.bool true) = .returned (.bool b) := by rw [h]
theorem ret_f {b : Bool} (h : ¬ b = true) : Ending.returned (.bool false) = .returned (.bool b) := by rw [Bool.not_eq_true] at h; rw [h]

theorem k_isUpper (c : Nat) : (upperB) c = true ↔ (65 ≤ c ∧ c ≤ 90) := by simp [upperB, within]
set_option maxRecDepth 100000 in
set_option maxHeartbeats 2000000 in
theorem isUpper_c (w : World) : Kind 86 #[] (upperB) w := by
  refine kind_of fun c hc P HP => ?_
  by_cases h0 : 65 ≤ c
  · have n0 : (65 : Int) ≤ (c : Int) := by omega
    by_cases h1 : c ≤ 90
    · have n1 : (c : Int) ≤ 90 := by omega
      go_enter Tryz.func86, Tryz.ntmps86
      go_wp2
      go_ret
      exact ⟨by first | exact ret_t (HP.out.trans ((k_isUpper c).2 (by omega))) | exact ret_f (fun h => by have := (k_isUpper c).1 (HP.out.symm.trans h); omega), rfl⟩
    · have n1 : ¬ (c : Int) ≤ 90 := by omega
      go_enter Tryz.func86, Tryz.ntmps86
      go_wp2
      go_ret
      exact ⟨by first | exact ret_t (HP.out.trans ((k_isUpper c).2 (by omega))) | exact ret_f (fun h => by have := (k_isUpper c).1 (HP.out.symm.trans h); omega), rfl⟩
  · have n0 : ¬ (65 : Int) ≤ (c : Int) := by omega
    by_cases h1 : c ≤ 90
    · have n1 : (c : Int) ≤ 90 := by omega
      go_enter Tryz.func86, Tryz.ntmps86
      go_wp2
      go_ret
      exact ⟨by first | exact ret_t (HP.out.trans ((k_isUpper c).2 (by omega))) | exact ret_f (fun h => by have := (k_isUpper c).1 (HP.out.symm.trans h); omega), rfl⟩
    · have n1 : ¬ (c : Int) ≤ 90 := by omega
      go_enter Tryz.func86, Tryz.ntmps86
      go_wp2
      go_ret
      exact ⟨by first | exact ret_t (HP.out.trans ((k_isUpper c).2 (by omega))) | exact ret_f (fun h => by have := (k_isUpper c).1 (HP.out.symm.trans h); omega), rfl⟩
theorem k_isLower (c : Nat) : (lowerB) c = true ↔ (97 ≤ c ∧ c ≤ 122) := by simp [lowerB, within]
set_option maxRecDepth 100000 in
set_option maxHeartbeats 2000000 in
theorem isLower_c (w : World) : Kind 87 #[] (lowerB) w := by
  refine kind_of fun c hc P HP => ?_
  by_cases h0 : 97 ≤ c
  · have n0 : (97 : Int) ≤ (c : Int) := by omega
    by_cases h1 : c ≤ 122
    · have n1 : (c : Int) ≤ 122 := by omega
      go_enter Tryz.func87, Tryz.ntmps87
      go_wp2
      go_ret
      exact ⟨by first | exact ret_t (HP.out.trans ((k_isLower c).2 (by omega))) | exact ret_f (fun h => by have := (k_isLower c).1 (HP.out.symm.trans h); omega), rfl⟩
    · have n1 : ¬ (c : Int) ≤ 122 := by omega
      go_enter Tryz.func87, Tryz.ntmps87
      go_wp2
      go_ret
      exact ⟨by first | exact ret_t (HP.out.trans ((k_isLower c).2 (by omega))) | exact ret_f (fun h => by have := (k_isLower c).1 (HP.out.symm.trans h); omega), rfl⟩
  · have n0 : ¬ (97 : Int) ≤ (c : Int) := by omega
    by_cases h1 : c ≤ 122
    · have n1 : (c : Int) ≤ 122 := by omega
      go_enter Tryz.func87, Tryz.ntmps87
      go_wp2
      go_ret
      exact ⟨by first | exact ret_t (HP.out.trans ((k_isLower c).2 (by omega))) | exact ret_f (fun h => by have := (k_isLower c).1 (HP.out.symm.trans h); omega), rfl⟩
    · have n1 : ¬ (c : Int) ≤ 122 := by omega
      go_enter Tryz.func87, Tryz.ntmps87
      go_wp2
      go_ret
      exact ⟨by first | exact ret_t (HP.out.trans ((k_isLower c).2 (by omega))) | exact ret_f (fun h => by have := (k_isLower c).1 (HP.out.symm.trans h); omega), rfl⟩
theorem k_isDigit (c : Nat) : (digitB) c = true ↔ (48 ≤ c ∧ c ≤ 57) := by simp [digitB, within]
set_option maxRecDepth 100000 in
set_option maxHeartbeats 2000000 in
theorem isDigit_c (w : World) : Kind 78 #[] (digitB) w := by
  refine kind_of fun c hc P HP => ?_
  by_cases h0 : 48 ≤ c
  · have n0 : (48 : Int) ≤ (c : Int) := by omega
    by_cases h1 : c ≤ 57
    · have n1 : (c : Int) ≤ 57 := by omega
      go_enter Tryz.func78, Tryz.ntmps78
      go_wp2
      go_ret
      exact ⟨by first | exact ret_t (HP.out.trans ((k_isDigit c).2 (by omega))) | exact ret_f (fun h => by have := (k_isDigit c).1 (HP.out.symm.trans h); omega), rfl⟩
    · have n1 : ¬ (c : Int) ≤ 57 := by omega
      go_enter Tryz.func78, Tryz.ntmps78
      go_wp2
      go_ret
      exact ⟨by first | exact ret_t (HP.out.trans ((k_isDigit c).2 (by omega))) | exact ret_f (fun h => by have := (k_isDigit c).1 (HP.out.symm.trans h); omega), rfl⟩
  · have n0 : ¬ (48 : Int) ≤ (c : Int) := by omega
    by_cases h1 : c ≤ 57
    · have n1 : (c : Int) ≤ 57 := by omega
      go_enter Tryz.func78, Tryz.ntmps78
      go_wp2
      go_ret
      exact ⟨by first | exact ret_t (HP.out.trans ((k_isDigit c).2 (by omega))) | exact ret_f (fun h => by have := (k_isDigit c).1 (HP.out.symm.trans h); omega), rfl⟩
    · have n1 : ¬ (c : Int) ≤ 57 := by omega
      go_enter Tryz.func78, Tryz.ntmps78
      go_wp2
      go_ret
      exact ⟨by first | exact ret_t (HP.out.trans ((k_isDigit c).2 (by omega))) | exact ret_f (fun h => by have := (k_isDigit c).1 (HP.out.symm.trans h); omega), rfl⟩
theorem k_isGraph (c : Nat) : (within 33 126) c = true ↔ (33 ≤ c ∧ c ≤ 126) := by simp [within]
set_option maxRecDepth 100000 in
set_option maxHeartbeats 2000000 in
theorem isGraph_c (w : World) : Kind 93 #[] (within 33 126) w := by
  refine kind_of fun c hc P HP => ?_
  by_cases h0 : 33 ≤ c
  · have n0 : (33 : Int) ≤ (c : Int) := by omega
    by_cases h1 : c ≤ 126
    · have n1 : (c : Int) ≤ 126 := by omega
      go_enter Tryz.func93, Tryz.ntmps93
      go_wp2
      go_ret
      exact ⟨by first | exact ret_t (HP.out.trans ((k_isGraph c).2 (by omega))) | exact ret_f (fun h => by have := (k_isGraph c).1 (HP.out.symm.trans h); omega), rfl⟩
    · have n1 : ¬ (c : Int) ≤ 126 := by omega
      go_enter Tryz.func93, Tryz.ntmps93
      go_wp2
      go_ret
      exact ⟨by first | exact ret_t (HP.out.trans ((k_isGraph c).2 (by omega))) | exact ret_f (fun h => by have := (k_isGraph c).1 (HP.out.symm.trans h); omega), rfl⟩
  · have n0 : ¬ (33 : Int) ≤ (c : Int) := by omega
    by_cases h1 : c ≤ 126
    · have n1 : (c : Int) ≤ 126 := by omega
      go_enter Tryz.func93, Tryz.ntmps93
      go_wp2
      go_ret
      exact ⟨by first | exact ret_t (HP.out.trans ((k_isGraph c).2 (by omega))) | exact ret_f (fun h => by have := (k_isGraph c).1 (HP.out.symm.trans h); omega), rfl⟩
    · have n1 : ¬ (c : Int) ≤ 126 := by omega
      go_enter Tryz.func93, Tryz.ntmps93
      go_wp2
      go_ret
      exact ⟨by first | exact ret_t (HP.out.trans ((k_isGraph c).2 (by omega))) | exact ret_f (fun h => by have := (k_isGraph c).1 (HP.out.symm.trans h); omega), rfl⟩
theorem k_isAlpha (c : Nat) : (upperB c || lowerB c) = true ↔ (65 ≤ c ∧ c ≤ 90) ∨ (97 ≤ c ∧ c ≤ 122) := by simp [upperB, lowerB, within]
set_option maxRecDepth 100000 in
set_option maxHeartbeats 2000000 in
theorem isAlpha_c (w : World) : Kind 79 #[] (fun c => upperB c || lowerB c) w := by
  refine kind_of fun c hc P HP => ?_
  have k0 := kind_at (isUpper_c w) c hc
  have HK0 : Hid (Calls Tryz.prog 86 #[.int .u8 (c : Int)] w fun e w' => e = .returned (.bool ((upperB) c)) ∧ w' = w) := k0
  clear k0
  have k1 := kind_at (isLower_c w) c hc
  have HK1 : Hid (Calls Tryz.prog 87 #[.int .u8 (c : Int)] w fun e w' => e = .returned (.bool ((lowerB) c)) ∧ w' = w) := k1
  clear k1
  cases q0 : (upperB) c with
  | true =>
    cases q1 : (lowerB) c with
    | true =>
      go_enter Tryz.func79, Tryz.ntmps79
      go_wp2_with (first | (go_at_call 86; refine HK0.out.mono ?_; rintro e w1 ⟨rfl, hw1⟩; rw [hw1, q0]; clear hw1) | (go_at_call 87; refine HK1.out.mono ?_; rintro e w1 ⟨rfl, hw1⟩; rw [hw1, q1]; clear hw1))
      go_ret
      have r0 := k_isUpper c
      rw [q0] at r0
      simp at r0
      have r1 := k_isLower c
      rw [q1] at r1
      simp at r1
      exact ⟨by first | exact ret_t (HP.out.trans ((k_isAlpha c).2 (by omega))) | exact ret_f (fun h => by have := (k_isAlpha c).1 (HP.out.symm.trans h); omega), rfl⟩
    | false =>
      go_enter Tryz.func79, Tryz.ntmps79
      go_wp2_with (first | (go_at_call 86; refine HK0.out.mono ?_; rintro e w1 ⟨rfl, hw1⟩; rw [hw1, q0]; clear hw1) | (go_at_call 87; refine HK1.out.mono ?_; rintro e w1 ⟨rfl, hw1⟩; rw [hw1, q1]; clear hw1))
      go_ret
      have r0 := k_isUpper c
      rw [q0] at r0
      simp at r0
      have r1 := k_isLower c
      rw [q1] at r1
      simp at r1
      exact ⟨by first | exact ret_t (HP.out.trans ((k_isAlpha c).2 (by omega))) | exact ret_f (fun h => by have := (k_isAlpha c).1 (HP.out.symm.trans h); omega), rfl⟩
  | false =>
    cases q1 : (lowerB) c with
    | true =>
      go_enter Tryz.func79, Tryz.ntmps79
      go_wp2_with (first | (go_at_call 86; refine HK0.out.mono ?_; rintro e w1 ⟨rfl, hw1⟩; rw [hw1, q0]; clear hw1) | (go_at_call 87; refine HK1.out.mono ?_; rintro e w1 ⟨rfl, hw1⟩; rw [hw1, q1]; clear hw1))
      go_ret
      have r0 := k_isUpper c
      rw [q0] at r0
      simp at r0
      have r1 := k_isLower c
      rw [q1] at r1
      simp at r1
      exact ⟨by first | exact ret_t (HP.out.trans ((k_isAlpha c).2 (by omega))) | exact ret_f (fun h => by have := (k_isAlpha c).1 (HP.out.symm.trans h); omega), rfl⟩
    | false =>
      go_enter Tryz.func79, Tryz.ntmps79
      go_wp2_with (first | (go_at_call 86; refine HK0.out.mono ?_; rintro e w1 ⟨rfl, hw1⟩; rw [hw1, q0]; clear hw1) | (go_at_call 87; refine HK1.out.mono ?_; rintro e w1 ⟨rfl, hw1⟩; rw [hw1, q1]; clear hw1))
      go_ret
      have r0 := k_isUpper c
      rw [q0] at r0
      simp at r0
      have r1 := k_isLower c
      rw [q1] at r1
      simp at r1
      exact ⟨by first | exact ret_t (HP.out.trans ((k_isAlpha c).2 (by omega))) | exact ret_f (fun h => by have := (k_isAlpha c).1 (HP.out.symm.trans h); omega), rfl⟩
theorem k_isAlnum (c : Nat) : (upperB c || lowerB c || digitB c) = true ↔ ((65 ≤ c ∧ c ≤ 90) ∨ (97 ≤ c ∧ c ≤ 122)) ∨ (48 ≤ c ∧ c ≤ 57) := by simp [upperB, lowerB, digitB, within]
set_option maxRecDepth 100000 in
set_option maxHeartbeats 2000000 in
theorem isAlnum_c (w : World) : Kind 73 #[] (fun c => upperB c || lowerB c || digitB c) w := by
  refine kind_of fun c hc P HP => ?_
  have k0 := kind_at (isAlpha_c w) c hc
  have HK0 : Hid (Calls Tryz.prog 79 #[.int .u8 (c : Int)] w fun e w' => e = .returned (.bool ((upperB c || lowerB c))) ∧ w' = w) := k0
  clear k0
  have k1 := kind_at (isDigit_c w) c hc
  have HK1 : Hid (Calls Tryz.prog 78 #[.int .u8 (c : Int)] w fun e w' => e = .returned (.bool ((digitB) c)) ∧ w' = w) := k1
  clear k1
  cases q0 : (upperB c || lowerB c) with
  | true =>
    cases q1 : (digitB) c with
    | true =>
      go_enter Tryz.func73, Tryz.ntmps73
      go_wp2_with (first | (go_at_call 79; refine HK0.out.mono ?_; rintro e w1 ⟨rfl, hw1⟩; rw [hw1, q0]; clear hw1) | (go_at_call 78; refine HK1.out.mono ?_; rintro e w1 ⟨rfl, hw1⟩; rw [hw1, q1]; clear hw1))
      go_ret
      have r0 := k_isAlpha c
      rw [q0] at r0
      simp at r0
      have r1 := k_isDigit c
      rw [q1] at r1
      simp at r1
      exact ⟨by first | exact ret_t (HP.out.trans ((k_isAlnum c).2 (by omega))) | exact ret_f (fun h => by have := (k_isAlnum c).1 (HP.out.symm.trans h); omega), rfl⟩
    | false =>
      go_enter Tryz.func73, Tryz.ntmps73
      go_wp2_with (first | (go_at_call 79; refine HK0.out.mono ?_; rintro e w1 ⟨rfl, hw1⟩; rw [hw1, q0]; clear hw1) | (go_at_call 78; refine HK1.out.mono ?_; rintro e w1 ⟨rfl, hw1⟩; rw [hw1, q1]; clear hw1))
      go_ret
      have r0 := k_isAlpha c
      rw [q0] at r0
      simp at r0
      have r1 := k_isDigit c
      rw [q1] at r1
      simp at r1
      exact ⟨by first | exact ret_t (HP.out.trans ((k_isAlnum c).2 (by omega))) | exact ret_f (fun h => by have := (k_isAlnum c).1 (HP.out.symm.trans h); omega), rfl⟩
  | false =>
    cases q1 : (digitB) c with
    | true =>
      go_enter Tryz.func73, Tryz.ntmps73
      go_wp2_with (first | (go_at_call 79; refine HK0.out.mono ?_; rintro e w1 ⟨rfl, hw1⟩; rw [hw1, q0]; clear hw1) | (go_at_call 78; refine HK1.out.mono ?_; rintro e w1 ⟨rfl, hw1⟩; rw [hw1, q1]; clear hw1))
      go_ret
      have r0 := k_isAlpha c
      rw [q0] at r0
      simp at r0
      have r1 := k_isDigit c
      rw [q1] at r1
      simp at r1
      exact ⟨by first | exact ret_t (HP.out.trans ((k_isAlnum c).2 (by omega))) | exact ret_f (fun h => by have := (k_isAlnum c).1 (HP.out.symm.trans h); omega), rfl⟩
    | false =>
      go_enter Tryz.func73, Tryz.ntmps73
      go_wp2_with (first | (go_at_call 79; refine HK0.out.mono ?_; rintro e w1 ⟨rfl, hw1⟩; rw [hw1, q0]; clear hw1) | (go_at_call 78; refine HK1.out.mono ?_; rintro e w1 ⟨rfl, hw1⟩; rw [hw1, q1]; clear hw1))
      go_ret
      have r0 := k_isAlpha c
      rw [q0] at r0
      simp at r0
      have r1 := k_isDigit c
      rw [q1] at r1
      simp at r1
      exact ⟨by first | exact ret_t (HP.out.trans ((k_isAlnum c).2 (by omega))) | exact ret_f (fun h => by have := (k_isAlnum c).1 (HP.out.symm.trans h); omega), rfl⟩
theorem k_blank (c : Nat) : (c == 9 || c == 32) = true ↔ c = 9 ∨ c = 32 := by simp
set_option maxRecDepth 100000 in
set_option maxHeartbeats 2000000 in
theorem blank_c (w : World) : Kind 91 #[] (fun c => c == 9 || c == 32) w := by
  refine kind_of fun c hc P HP => ?_
  by_cases h0 : c = 9
  · have n0 : (c : Int) = 9 := by omega
    have m0 : ((c : Int) == 9) = true := by rw [beq_iff_eq]; omega
    by_cases h1 : c = 32
    · have n1 : (c : Int) = 32 := by omega
      have m1 : ((c : Int) == 32) = true := by rw [beq_iff_eq]; omega
      go_enter Tryz.func91, Tryz.ntmps91
      go_wp2
      go_ret
      exact ⟨by first | exact ret_t (HP.out.trans ((k_blank c).2 (by omega))) | exact ret_f (fun h => by have := (k_blank c).1 (HP.out.symm.trans h); omega), rfl⟩
    · have n1 : ¬ (c : Int) = 32 := by omega
      have m1 : ((c : Int) == 32) = false := by rw [beq_eq_false_iff_ne]; omega
      go_enter Tryz.func91, Tryz.ntmps91
      go_wp2
      go_ret
      exact ⟨by first | exact ret_t (HP.out.trans ((k_blank c).2 (by omega))) | exact ret_f (fun h => by have := (k_blank c).1 (HP.out.symm.trans h); omega), rfl⟩
  · have n0 : ¬ (c : Int) = 9 := by omega
    have m0 : ((c : Int) == 9) = false := by rw [beq_eq_false_iff_ne]; omega
    by_cases h1 : c = 32
    · have n1 : (c : Int) = 32 := by omega
      have m1 : ((c : Int) == 32) = true := by rw [beq_iff_eq]; omega
      go_enter Tryz.func91, Tryz.ntmps91
      go_wp2
      go_ret
      exact ⟨by first | exact ret_t (HP.out.trans ((k_blank c).2 (by omega))) | exact ret_f (fun h => by have := (k_blank c).1 (HP.out.symm.trans h); omega), rfl⟩
    · have n1 : ¬ (c : Int) = 32 := by omega
      have m1 : ((c : Int) == 32) = false := by rw [beq_eq_false_iff_ne]; omega
      go_enter Tryz.func91, Tryz.ntmps91
      go_wp2
      go_ret
      exact ⟨by first | exact ret_t (HP.out.trans ((k_blank c).2 (by omega))) | exact ret_f (fun h => by have := (k_blank c).1 (HP.out.symm.trans h); omega), rfl⟩
theorem k_cntrl (c : Nat) : (decide (c < 32) || c == 127) = true ↔ c < 32 ∨ c = 127 := by simp
set_option maxRecDepth 100000 in
set_option maxHeartbeats 2000000 in
theorem cntrl_c (w : World) : Kind 92 #[] (fun c => decide (c < 32) || c == 127) w := by
  refine kind_of fun c hc P HP => ?_
  by_cases h0 : c < 32
  · have n0 : (c : Int) < 32 := by omega
    by_cases h1 : c = 127
    · have n1 : (c : Int) = 127 := by omega
      have m1 : ((c : Int) == 127) = true := by rw [beq_iff_eq]; omega
      go_enter Tryz.func92, Tryz.ntmps92
      go_wp2
      go_ret
      exact ⟨by first | exact ret_t (HP.out.trans ((k_cntrl c).2 (by omega))) | exact ret_f (fun h => by have := (k_cntrl c).1 (HP.out.symm.trans h); omega), rfl⟩
    · have n1 : ¬ (c : Int) = 127 := by omega
      have m1 : ((c : Int) == 127) = false := by rw [beq_eq_false_iff_ne]; omega
      go_enter Tryz.func92, Tryz.ntmps92
      go_wp2
      go_ret
      exact ⟨by first | exact ret_t (HP.out.trans ((k_cntrl c).2 (by omega))) | exact ret_f (fun h => by have := (k_cntrl c).1 (HP.out.symm.trans h); omega), rfl⟩
  · have n0 : ¬ (c : Int) < 32 := by omega
    by_cases h1 : c = 127
    · have n1 : (c : Int) = 127 := by omega
      have m1 : ((c : Int) == 127) = true := by rw [beq_iff_eq]; omega
      go_enter Tryz.func92, Tryz.ntmps92
      go_wp2
      go_ret
      exact ⟨by first | exact ret_t (HP.out.trans ((k_cntrl c).2 (by omega))) | exact ret_f (fun h => by have := (k_cntrl c).1 (HP.out.symm.trans h); omega), rfl⟩
    · have n1 : ¬ (c : Int) = 127 := by omega
      have m1 : ((c : Int) == 127) = false := by rw [beq_eq_false_iff_ne]; omega
      go_enter Tryz.func92, Tryz.ntmps92
      go_wp2
      go_ret
      exact ⟨by first | exact ret_t (HP.out.trans ((k_cntrl c).2 (by omega))) | exact ret_f (fun h => by have := (k_cntrl c).1 (HP.out.symm.trans h); omega), rfl⟩
theorem k_print (c : Nat) : (within 32 126) c = true ↔ (32 ≤ c ∧ c ≤ 126) := by simp [within]
set_option maxRecDepth 100000 in
set_option maxHeartbeats 2000000 in
theorem print_c (w : World) : Kind 94 #[] (within 32 126) w := by
  refine kind_of fun c hc P HP => ?_
  have k0 := kind_at (isGraph_c w) c hc
  have HK0 : Hid (Calls Tryz.prog 93 #[.int .u8 (c : Int)] w fun e w' => e = .returned (.bool ((within 33 126) c)) ∧ w' = w) := k0
  clear k0
  by_cases h0 : c = 32
  · have n0 : (c : Int) = 32 := by omega
    have m0 : ((c : Int) == 32) = true := by rw [beq_iff_eq]; omega
    cases q0 : (within 33 126) c with
    | true =>
      go_enter Tryz.func94, Tryz.ntmps94
      go_wp2_with (go_at_call 93; refine HK0.out.mono ?_; rintro e w1 ⟨rfl, hw1⟩; rw [hw1, q0]; clear hw1)
      go_ret
      have r0 := k_isGraph c
      rw [q0] at r0
      simp at r0
      exact ⟨by first | exact ret_t (HP.out.trans ((k_print c).2 (by omega))) | exact ret_f (fun h => by have := (k_print c).1 (HP.out.symm.trans h); omega), rfl⟩
    | false =>
      go_enter Tryz.func94, Tryz.ntmps94
      go_wp2_with (go_at_call 93; refine HK0.out.mono ?_; rintro e w1 ⟨rfl, hw1⟩; rw [hw1, q0]; clear hw1)
      go_ret
      have r0 := k_isGraph c
      rw [q0] at r0
      simp at r0
      exact ⟨by first | exact ret_t (HP.out.trans ((k_print c).2 (by omega))) | exact ret_f (fun h => by have := (k_print c).1 (HP.out.symm.trans h); omega), rfl⟩
  · have n0 : ¬ (c : Int) = 32 := by omega
    have m0 : ((c : Int) == 32) = false := by rw [beq_eq_false_iff_ne]; omega
    cases q0 : (within 33 126) c with
    | true =>
      go_enter Tryz.func94, Tryz.ntmps94
      go_wp2_with (go_at_call 93; refine HK0.out.mono ?_; rintro e w1 ⟨rfl, hw1⟩; rw [hw1, q0]; clear hw1)
      go_ret
      have r0 := k_isGraph c
      rw [q0] at r0
      simp at r0
      exact ⟨by first | exact ret_t (HP.out.trans ((k_print c).2 (by omega))) | exact ret_f (fun h => by have := (k_print c).1 (HP.out.symm.trans h); omega), rfl⟩
    | false =>
      go_enter Tryz.func94, Tryz.ntmps94
      go_wp2_with (go_at_call 93; refine HK0.out.mono ?_; rintro e w1 ⟨rfl, hw1⟩; rw [hw1, q0]; clear hw1)
      go_ret
      have r0 := k_isGraph c
      rw [q0] at r0
      simp at r0
      exact ⟨by first | exact ret_t (HP.out.trans ((k_print c).2 (by omega))) | exact ret_f (fun h => by have := (k_print c).1 (HP.out.symm.trans h); omega), rfl⟩
theorem k_punct (c : Nat) : (within 33 126 c && !upperB c && !lowerB c && !digitB c) = true ↔ ((33 ≤ c ∧ c ≤ 126) ∧ ¬ (65 ≤ c ∧ c ≤ 90)) ∧ ¬ (97 ≤ c ∧ c ≤ 122) ∧ ¬ (48 ≤ c ∧ c ≤ 57) := by simp [upperB, lowerB, digitB, within]; omega
set_option maxRecDepth 100000 in
set_option maxHeartbeats 2000000 in
theorem punct_c (w : World) : Kind 95 #[] (fun c => within 33 126 c && !upperB c && !lowerB c && !digitB c) w := by
  refine kind_of fun c hc P HP => ?_
  have k0 := kind_at (isGraph_c w) c hc
  have HK0 : Hid (Calls Tryz.prog 93 #[.int .u8 (c : Int)] w fun e w' => e = .returned (.bool ((within 33 126) c)) ∧ w' = w) := k0
  clear k0
  have k1 := kind_at (isAlnum_c w) c hc
  have HK1 : Hid (Calls Tryz.prog 73 #[.int .u8 (c : Int)] w fun e w' => e = .returned (.bool ((upperB c || lowerB c || digitB c))) ∧ w' = w) := k1
  clear k1
  cases q0 : (within 33 126) c with
  | true =>
    cases q1 : (upperB c || lowerB c || digitB c) with
    | true =>
      go_enter Tryz.func95, Tryz.ntmps95
      go_wp2_with (first | (go_at_call 93; refine HK0.out.mono ?_; rintro e w1 ⟨rfl, hw1⟩; rw [hw1, q0]; clear hw1) | (go_at_call 73; refine HK1.out.mono ?_; rintro e w1 ⟨rfl, hw1⟩; rw [hw1, q1]; clear hw1))
      go_ret
      have r0 := k_isGraph c
      rw [q0] at r0
      simp at r0
      have r1 := k_isAlnum c
      rw [q1] at r1
      simp at r1
      exact ⟨by first | exact ret_t (HP.out.trans ((k_punct c).2 (by omega))) | exact ret_f (fun h => by have := (k_punct c).1 (HP.out.symm.trans h); omega), rfl⟩
    | false =>
      go_enter Tryz.func95, Tryz.ntmps95
      go_wp2_with (first | (go_at_call 93; refine HK0.out.mono ?_; rintro e w1 ⟨rfl, hw1⟩; rw [hw1, q0]; clear hw1) | (go_at_call 73; refine HK1.out.mono ?_; rintro e w1 ⟨rfl, hw1⟩; rw [hw1, q1]; clear hw1))
      go_ret
      have r0 := k_isGraph c
      rw [q0] at r0
      simp at r0
      have r1 := k_isAlnum c
      rw [q1] at r1
      simp at r1
      exact ⟨by first | exact ret_t (HP.out.trans ((k_punct c).2 (by omega))) | exact ret_f (fun h => by have := (k_punct c).1 (HP.out.symm.trans h); omega), rfl⟩
  | false =>
    cases q1 : (upperB c || lowerB c || digitB c) with
    | true =>
      go_enter Tryz.func95, Tryz.ntmps95
      go_wp2_with (first | (go_at_call 93; refine HK0.out.mono ?_; rintro e w1 ⟨rfl, hw1⟩; rw [hw1, q0]; clear hw1) | (go_at_call 73; refine HK1.out.mono ?_; rintro e w1 ⟨rfl, hw1⟩; rw [hw1, q1]; clear hw1))
      go_ret
      have r0 := k_isGraph c
      rw [q0] at r0
      simp at r0
      have r1 := k_isAlnum c
      rw [q1] at r1
      simp at r1
      exact ⟨by first | exact ret_t (HP.out.trans ((k_punct c).2 (by omega))) | exact ret_f (fun h => by have := (k_punct c).1 (HP.out.symm.trans h); omega), rfl⟩
    | false =>
      go_enter Tryz.func95, Tryz.ntmps95
      go_wp2_with (first | (go_at_call 93; refine HK0.out.mono ?_; rintro e w1 ⟨rfl, hw1⟩; rw [hw1, q0]; clear hw1) | (go_at_call 73; refine HK1.out.mono ?_; rintro e w1 ⟨rfl, hw1⟩; rw [hw1, q1]; clear hw1))
      go_ret
      have r0 := k_isGraph c
      rw [q0] at r0
      simp at r0
      have r1 := k_isAlnum c
      rw [q1] at r1
      simp at r1
      exact ⟨by first | exact ret_t (HP.out.trans ((k_punct c).2 (by omega))) | exact ret_f (fun h => by have := (k_punct c).1 (HP.out.symm.trans h); omega), rfl⟩
theorem k_space (c : Nat) : (within 9 13 c || c == 32) = true ↔ (9 ≤ c ∧ c ≤ 13) ∨ c = 32 := by simp [within]
set_option maxRecDepth 100000 in
set_option maxHeartbeats 2000000 in
theorem space_c (w : World) : Kind 96 #[] (fun c => within 9 13 c || c == 32) w := by
  refine kind_of fun c hc P HP => ?_
  by_cases h0 : 9 ≤ c
  · have n0 : (9 : Int) ≤ (c : Int) := by omega
    by_cases h1 : c ≤ 13
    · have n1 : (c : Int) ≤ 13 := by omega
      by_cases h2 : c = 32
      · have n2 : (c : Int) = 32 := by omega
        have m2 : ((c : Int) == 32) = true := by rw [beq_iff_eq]; omega
        go_enter Tryz.func96, Tryz.ntmps96
        go_wp2
        go_ret
        exact ⟨by first | exact ret_t (HP.out.trans ((k_space c).2 (by omega))) | exact ret_f (fun h => by have := (k_space c).1 (HP.out.symm.trans h); omega), rfl⟩
      · have n2 : ¬ (c : Int) = 32 := by omega
        have m2 : ((c : Int) == 32) = false := by rw [beq_eq_false_iff_ne]; omega
        go_enter Tryz.func96, Tryz.ntmps96
        go_wp2
        go_ret
        exact ⟨by first | exact ret_t (HP.out.trans ((k_space c).2 (by omega))) | exact ret_f (fun h => by have := (k_space c).1 (HP.out.symm.trans h); omega), rfl⟩
    · have n1 : ¬ (c : Int) ≤ 13 := by omega
      by_cases h2 : c = 32
      · have n2 : (c : Int) = 32 := by omega
        have m2 : ((c : Int) == 32) = true := by rw [beq_iff_eq]; omega
        go_enter Tryz.func96, Tryz.ntmps96
        go_wp2
        go_ret
        exact ⟨by first | exact ret_t (HP.out.trans ((k_space c).2 (by omega))) | exact ret_f (fun h => by have := (k_space c).1 (HP.out.symm.trans h); omega), rfl⟩
      · have n2 : ¬ (c : Int) = 32 := by omega
        have m2 : ((c : Int) == 32) = false := by rw [beq_eq_false_iff_ne]; omega
        go_enter Tryz.func96, Tryz.ntmps96
        go_wp2
        go_ret
        exact ⟨by first | exact ret_t (HP.out.trans ((k_space c).2 (by omega))) | exact ret_f (fun h => by have := (k_space c).1 (HP.out.symm.trans h); omega), rfl⟩
  · have n0 : ¬ (9 : Int) ≤ (c : Int) := by omega
    by_cases h1 : c ≤ 13
    · have n1 : (c : Int) ≤ 13 := by omega
      by_cases h2 : c = 32
      · have n2 : (c : Int) = 32 := by omega
        have m2 : ((c : Int) == 32) = true := by rw [beq_iff_eq]; omega
        go_enter Tryz.func96, Tryz.ntmps96
        go_wp2
        go_ret
        exact ⟨by first | exact ret_t (HP.out.trans ((k_space c).2 (by omega))) | exact ret_f (fun h => by have := (k_space c).1 (HP.out.symm.trans h); omega), rfl⟩
      · have n2 : ¬ (c : Int) = 32 := by omega
        have m2 : ((c : Int) == 32) = false := by rw [beq_eq_false_iff_ne]; omega
        go_enter Tryz.func96, Tryz.ntmps96
        go_wp2
        go_ret
        exact ⟨by first | exact ret_t (HP.out.trans ((k_space c).2 (by omega))) | exact ret_f (fun h => by have := (k_space c).1 (HP.out.symm.trans h); omega), rfl⟩
    · have n1 : ¬ (c : Int) ≤ 13 := by omega
      by_cases h2 : c = 32
      · have n2 : (c : Int) = 32 := by omega
        have m2 : ((c : Int) == 32) = true := by rw [beq_iff_eq]; omega
        go_enter Tryz.func96, Tryz.ntmps96
        go_wp2
        go_ret
        exact ⟨by first | exact ret_t (HP.out.trans ((k_space c).2 (by omega))) | exact ret_f (fun h => by have := (k_space c).1 (HP.out.symm.trans h); omega), rfl⟩
      · have n2 : ¬ (c : Int) = 32 := by omega
        have m2 : ((c : Int) == 32) = false := by rw [beq_eq_false_iff_ne]; omega
        go_enter Tryz.func96, Tryz.ntmps96
        go_wp2
        go_ret
        exact ⟨by first | exact ret_t (HP.out.trans ((k_space c).2 (by omega))) | exact ret_f (fun h => by have := (k_space c).1 (HP.out.symm.trans h); omega), rfl⟩
end Go.Proofs.YtlekfdkahlobiaaGreat.Kd

namespace Go.Proofs.YtlekfdkahlobiaaGreat.Kd
open Go.Proofs.YtlekfdkahlobiaaGreat.Tr
open Go.RowKit

theorem k_xdigit (c : Nat) : (digitB c || within 65 70 c || within 97 102 c) = true ↔ ((48 ≤ c ∧ c ≤ 57) ∨ (65 ≤ c ∧ c ≤ 70)) ∨ (97 ≤ c ∧ c ≤ 102) := by simp [digitB, within]
set_option maxRecDepth 100000 in
set_option maxHeartbeats 4000000 in
theorem xdigit_c (w : World) : Kind 97 #[] (fun c => digitB c || within 65 70 c || within 97 102 c) w := by
  refine kind_of fun c hc P HP => ?_
  have k0 := kind_at (isDigit_c w) c hc
  have HK0 : Hid (Calls Tryz.prog 78 #[.int .u8 (c : Int)] w fun e w' => e = .returned (.bool (digitB c)) ∧ w' = w) := k0
  clear k0
  cases q0 : digitB c with
  | true =>
    go_enter Tryz.func97, Tryz.ntmps97
    go_wp2_with (go_at_call 78; refine HK0.out.mono ?_; rintro e w1 ⟨rfl, hw1⟩; rw [hw1, q0]; clear hw1)
    go_ret
    have r0 := k_isDigit c
    rw [q0] at r0
    simp at r0
    exact ⟨by first | exact ret_t (HP.out.trans ((k_xdigit c).2 (by omega))) | exact ret_f (fun h => by have := (k_xdigit c).1 (HP.out.symm.trans h); omega), rfl⟩
  | false =>
    by_cases h1 : 65 ≤ c
    · have n1 : (65 : Int) ≤ (c : Int) := by omega
      by_cases h2 : c ≤ 70
      · have n2 : (c : Int) ≤ 70 := by omega
        go_enter Tryz.func97, Tryz.ntmps97
        go_wp2_with (go_at_call 78; refine HK0.out.mono ?_; rintro e w1 ⟨rfl, hw1⟩; rw [hw1, q0]; clear hw1)
        go_ret
        have r0 := k_isDigit c
        rw [q0] at r0
        simp at r0
        exact ⟨by first | exact ret_t (HP.out.trans ((k_xdigit c).2 (by omega))) | exact ret_f (fun h => by have := (k_xdigit c).1 (HP.out.symm.trans h); omega), rfl⟩
      · have n2 : ¬ (c : Int) ≤ 70 := by omega
        have d2 : decide ((c : Int) ≤ 70) = false := decide_eq_false n2
        by_cases h3 : 97 ≤ c
        · have n3 : (97 : Int) ≤ (c : Int) := by omega
          by_cases h4 : c ≤ 102
          · have n4 : (c : Int) ≤ 102 := by omega
            go_enter Tryz.func97, Tryz.ntmps97
            go_wp2_with (go_at_call 78; refine HK0.out.mono ?_; rintro e w1 ⟨rfl, hw1⟩; rw [hw1, q0]; clear hw1)
            go_ret
            have r0 := k_isDigit c
            rw [q0] at r0
            simp at r0
            exact ⟨by first | exact ret_t (HP.out.trans ((k_xdigit c).2 (by omega))) | exact ret_f (fun h => by have := (k_xdigit c).1 (HP.out.symm.trans h); omega), rfl⟩
          · have n4 : ¬ (c : Int) ≤ 102 := by omega
            have d4 : decide ((c : Int) ≤ 102) = false := decide_eq_false n4
            go_enter Tryz.func97, Tryz.ntmps97
            go_wp2_with (go_at_call 78; refine HK0.out.mono ?_; rintro e w1 ⟨rfl, hw1⟩; rw [hw1, q0]; clear hw1)
            go_ret
            have r0 := k_isDigit c
            rw [q0] at r0
            simp at r0
            exact ⟨by first | exact ret_t (HP.out.trans ((k_xdigit c).2 (by omega))) | exact ret_f (fun h => by have := (k_xdigit c).1 (HP.out.symm.trans h); omega), rfl⟩
        · have n3 : ¬ (97 : Int) ≤ (c : Int) := by omega
          go_enter Tryz.func97, Tryz.ntmps97
          go_wp2_with (go_at_call 78; refine HK0.out.mono ?_; rintro e w1 ⟨rfl, hw1⟩; rw [hw1, q0]; clear hw1)
          go_ret
          have r0 := k_isDigit c
          rw [q0] at r0
          simp at r0
          exact ⟨by first | exact ret_t (HP.out.trans ((k_xdigit c).2 (by omega))) | exact ret_f (fun h => by have := (k_xdigit c).1 (HP.out.symm.trans h); omega), rfl⟩
    · have n1 : ¬ (65 : Int) ≤ (c : Int) := by omega
      have n3 : ¬ (97 : Int) ≤ (c : Int) := by omega
      go_enter Tryz.func97, Tryz.ntmps97
      go_wp2_with (go_at_call 78; refine HK0.out.mono ?_; rintro e w1 ⟨rfl, hw1⟩; rw [hw1, q0]; clear hw1)
      go_ret
      have r0 := k_isDigit c
      rw [q0] at r0
      simp at r0
      exact ⟨by first | exact ret_t (HP.out.trans ((k_xdigit c).2 (by omega))) | exact ret_f (fun h => by have := (k_xdigit c).1 (HP.out.symm.trans h); omega), rfl⟩
end Go.Proofs.YtlekfdkahlobiaaGreat.Kd
