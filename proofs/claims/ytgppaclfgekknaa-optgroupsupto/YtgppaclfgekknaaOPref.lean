/- The program's own small functions of options: a prefix of one byte, whether an argument is an operand; Last and Has. -/
import Derived.Test.YtgppaclfgekknaaOMap
namespace Go.Proofs.Ytgppaclfgekknaa
open Go.RowKit Go.Maps

theorem head_false {s : ByteArray} {c : UInt8} (h : s.size = 0) : s.data.toList.head? ≠ some c := by
  have : s.data.toList = [] := List.eq_nil_of_length_eq_zero h
  rw [this]; simp
theorem head_at {s : ByteArray} (h : 0 < s.size) : s.data.toList.head? = some s[0] := by
  have := by_drop s 0 h
  rw [List.drop_zero] at this
  rw [this]; rfl
theorem one_toList (s : ByteArray) (h : 0 < s.size) : (s.extract 0 1).toList = [s[0]] := by
  have e : s.extract 0 1 = ⟨#[s[0]]⟩ := by
    apply ByteArray.ext
    rw [ByteArray.data_extract]
    have h1 : (s.data.extract 0 1).size = 1 := by simp; omega
    apply Array.ext (by rw [h1]; rfl)
    intro i hi hi2
    have : i = 0 := by simp at hi2; omega
    subst this
    simp; rfl
  rw [e, ByteArray.toList_eq]

set_option maxHeartbeats 1000000 in
theorem pref_c (s : ByteArray) (c : UInt8) (w : World) (hs : s.size ≤ 4194304) :
    Calls Try.prog 17 #[.string s, .string ⟨#[c]⟩] w fun e w' => e = .returned (.bool (decide (s.data.toList.head? = some c))) ∧ w' = w := by
  have h1 : (⟨#[c]⟩ : ByteArray).size = 1 := rfl
  by_cases h0 : 0 < s.size
  · have e1 := one_toList s h0
    have e2 := head_at h0
    have e3 : (⟨#[c]⟩ : ByteArray).toList = [c] := by rw [ByteArray.toList_eq]
    go_enter Try.func17, Try.ntmps17
    go_wp2
    go_ret
    rw [e2]
    exact ⟨by show Ending.returned (.bool (s[0] == c)) = _; by_cases h : s[0] = c <;> simp [h], rfl⟩
  · have e2 := head_false (c := c) (show s.size = 0 by omega)
    go_enter Try.func17, Try.ntmps17
    go_wp2
    go_ret
    exact ⟨rfl, rfl⟩
theorem pref2_c (s : ByteArray) (c : UInt8) (w : World) (hs : s.size ≤ 4194304) :
    Calls Try.prog 16 #[.string s, .string ⟨#[c]⟩] w fun e w' => e = .returned (.bool (decide (s.data.toList.head? = some c))) ∧ w' = w := by
  go_enter Try.func16, Try.ntmps16
  go_wp2_with (go_at_call 17; refine (pref_c s c w hs).mono ?_; rintro e w1 ⟨rfl, rfl⟩)
  go_ret
  exact ⟨rfl, rfl⟩

/-- An argument that is an operand. -/
def IsOp (a : ByteArray) : Prop := a.size < 2 ∨ a.data.toList.head? ≠ some 45
instance (a : ByteArray) : Decidable (IsOp a) := by unfold IsOp; infer_instance
theorem isOp_dash {a : ByteArray} (h : (a.toList == [45]) = true) : IsOp a := by
  have : a.toList = [45] := by simpa using h
  rw [ByteArray.toList_eq] at this
  refine .inl ?_
  have e : a.size = a.data.toList.length := rfl
  rw [e, this]; decide
theorem isOp_head {a : ByteArray} (h : (a.toList == [45]) = false) (h2 : a.data.toList.head? = some 45) : ¬ IsOp a := by
  have h1 : a.data.toList ≠ [45] := by
    rw [beq_eq_false_iff_ne, ByteArray.toList_eq] at h; exact h
  intro ho
  rcases ho with ho | ho
  · have e : a.size = a.data.toList.length := rfl
    rw [e] at ho
    generalize a.data.toList = l at *
    match l, h1, h2, ho with
    | [x], h1, h2, _ => simp at h2; subst h2; exact h1 rfl
    | _ :: _ :: _, _, _, ho => simp at ho; omega
  · exact ho h2

set_option maxHeartbeats 1000000 in
theorem isOp_c (a : ByteArray) (w : World) (hs : a.size ≤ 4194304) :
    Calls Try.prog 14 #[.string a] w fun e w' => e = .returned (.bool (decide (IsOp a))) ∧ w' = w := by
  cases h1 : (a.toList == [45]) with
  | true =>
    have ho := isOp_dash h1
    go_enter Try.func14, Try.ntmps14
    go_wp2
    go_ret
    exact ⟨by simp [ho], rfl⟩
  | false =>
    by_cases h2 : a.data.toList.head? = some 45
    · have ho := isOp_head h1 h2
      go_enter Try.func14, Try.ntmps14
      go_wp2_with (go_at_call 16; refine (pref2_c a 45 w hs).mono ?_; rintro e w1 ⟨rfl, rfl⟩)
      go_ret
      exact ⟨by simp [ho], rfl⟩
    · have ho : IsOp a := .inr h2
      go_enter Try.func14, Try.ntmps14
      go_wp2_with (go_at_call 16; refine (pref2_c a 45 w hs).mono ?_; rintro e w1 ⟨rfl, rfl⟩)
      go_ret
      exact ⟨by simp [ho], rfl⟩

set_option maxHeartbeats 1000000 in
set_option maxRecDepth 100000 in
theorem last_c (base : Nat) (v : Value) (l : Opts) (c : UInt8) (w : World) (hl : l.length ≤ 2097152) (hO : OptsAt w base v l) :
    Calls Try.prog 11 #[v, .int .u8 (c.toNat : Int)] w fun e w' => e = .returned (lastV (lastS l c)) ∧ w' = w := by
  obtain ⟨xa, cap, rfl⟩ := own_slice2 hO
  unfold OptsAt at hO
  have HR := Lib.hid (show lastS l c = lastS (l.take l.length) c from by rw [List.take_length])
  generalize lastS l c = R at HR ⊢
  generalize hn : l.length = n at hl hO HR ⊢
  have HO := Lib.hid hO
  have HN := Lib.hid hn
  clear hO hn
  go_enter Try.func11, Try.ntmps11
  go_wp2
  go_loop [6] (fun i => ∃ k : Nat, k ≤ n ∧ i = .int .i64 ((k : Int) - 1) ∧ Hid (R = lastS (l.take k) c)) (fun i => (intOf i + 1).toNat)
  case atStart => exact ⟨n, by omega, by go_num, HR⟩
  case round =>
    obtain ⟨k, hk, rfl, HI⟩ := hrel
    clear HR
    by_cases hlt : 0 < k
    · obtain ⟨k, rfl⟩ : ∃ j, k = j + 1 := ⟨k - 1, by omega⟩
      obtain ⟨g, rfl⟩ := own_some2 HO.out (by omega)
      obtain ⟨c0, c1⟩ := opt_cells HO.out HN.out.symm k (by omega)
      have HJ := HI.out
      rw [lastS_step l c k (by rw [HN.out]; omega)] at HJ
      clear HI
      generalize nthO l k = p at c0 c1 HJ
      obtain ⟨x, y⟩ := p
      have hkk : ((k + 1 : Nat) : Int) - 1 = (k : Int) := by omega
      rw [hkk]
      clear hkk
      by_cases hx : x = c
      · subst hx
        have hb : ((x.toNat : Int) == (x.toNat : Int)) = true := by simp
        have HJ' : Hid (R = some y) := by show R = _; rw [HJ]; simp
        clear HJ
        go_wp2
        go_ret2
        exact ⟨by have e := HJ'.out; subst e; rfl, rfl⟩
      · have hb : ((x.toNat : Int) == (c.toNat : Int)) = false := by rw [u8_beq]; simpa using hx
        have HJ' : Hid (R = lastS (l.take k) c) := by show R = _; rw [HJ]; simp [hx]
        clear HJ hx
        go_wp2
        exact ⟨⟨k, by omega, by go_num, HJ'⟩, by simp [intOf] <;> omega⟩
    · obtain rfl : k = 0 := by omega
      have HJ : Hid (R = none) := by
        have := HI.out
        exact this
      go_wp2
      go_ret2
      exact ⟨by have e := HJ.out; subst e; rfl, rfl⟩
theorem hasS_last (l : Opts) (c : UInt8) : hasS l c = (lastS l c).isSome := by
  unfold hasS lastS
  rw [Option.isSome_map]
  rw [← List.any_reverse (l := l)]
  exact (List.isSome_find? ..).symm
theorem has_c (base : Nat) (v : Value) (l : Opts) (c : UInt8) (w : World) (hl : l.length ≤ 2097152) (hO : OptsAt w base v l) :
    Calls Try.prog 9 #[v, .int .u8 (c.toNat : Int)] w fun e w' => e = .returned (.bool (hasS l c)) ∧ Below w.heap.size w w' := by
  have hlast : ∀ u : World, u = w → Calls Try.prog 11 #[v, .int .u8 (c.toNat : Int)] u fun e w' => e = .returned (lastV (lastS l c)) ∧ w' = u := fun u hu => by subst hu; exact last_c base v l c u hl hO
  have hh : lastV (lastS l c) = .tuple #[.string ((lastS l c).getD ⟨#[]⟩), .bool (hasS l c)] := by
    rw [hasS_last]
    cases lastS l c with
    | none => rfl
    | some s => rfl
  rw [hh] at hlast
  generalize hasS l c = R at hlast ⊢
  generalize (lastS l c).getD ⟨#[]⟩ = S at hlast
  clear hh
  obtain ⟨xa, cap, n, rfl⟩ : ∃ xa cap n, v = .slice xa n cap := let ⟨a, b, h⟩ := own_slice2 hO; ⟨a, b, _, h⟩
  go_enter Try.func9, Try.ntmps9
  go_wp2_with (go_at_call 11; refine (hlast _ rfl).mono ?_; rintro e w1 ⟨rfl, rfl⟩)
  go_ret
  exact ⟨rfl, Below.refl _ _⟩
end Go.Proofs.Ytgppaclfgekknaa
