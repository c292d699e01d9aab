/- The reference of orders: letters, digits, texts. -/
import Derived.Test.YtdgnbcbcfgfkmaaDoorOBase
import Derived.Test.YtdgnbcbcfgfkmaaDoorQNumb
namespace Go.Proofs.YtdgnbcbcfgfkmaaDoor
open Go.RowKit

theorem u8_beq (a b : UInt8) : ((a.toNat : Int) == (b.toNat : Int)) = decide (a = b) := by
  rw [Bool.eq_iff_iff]; simp only [beq_iff_eq, decide_eq_true_eq, ← UInt8.toNat_inj]; omega
theorem u8_lit (a : UInt8) (n : Nat) (h : n < 256) : ((a.toNat : Int) == (n : Int)) = decide (a = UInt8.ofNat n) := by
  have := u8_beq a (UInt8.ofNat n)
  rw [show (UInt8.ofNat n).toNat = n from by simp; omega] at this
  exact this
theorem u8_no {a : UInt8} (n : Nat) (h : n < 256) (hne : a ≠ UInt8.ofNat n) : ((a.toNat : Int) == (n : Int)) = false := by rw [u8_lit a n h]; simpa using hne
theorem u8_yes {a : UInt8} (n : Nat) (h : n < 256) (he : a = UInt8.ofNat n) : ((a.toNat : Int) == (n : Int)) = true := by rw [u8_lit a n h]; simpa using he
theorem by_drop (s : ByteArray) (k : Nat) (h : k < s.size) : s.data.toList.drop k = s[k] :: s.data.toList.drop (k + 1) := by
  rw [List.drop_eq_getElem_cons (by exact h)]; rfl
theorem by_drop_end (s : ByteArray) (k : Nat) (h : s.size ≤ k) : s.data.toList.drop k = [] := List.drop_eq_nil_of_le h
theorem by_at (s : ByteArray) (k : Nat) (h : k < s.size) : s.data.toList[k]? = some s[k] := by
  rw [Array.getElem?_toList]; exact Array.getElem?_eq_getElem h

/-- Which field a letter is. -/
def fgIdx (c : UInt8) (second : Bool) : Option Nat :=
  if c = 98 then some (if second then 1 else 0) else if c = 100 then some 2 else if c = 102 then some 3 else if c = 105 then some 4 else if c = 110 then some 5 else if c = 114 then some 6 else none
def Fg.cells (g : Fg) : List Value := [.bool g.b, .bool g.e, .bool g.d, .bool g.f, .bool g.i, .bool g.n, .bool g.r]
def FgAt (w : World) (b off : Nat) (g : Fg) : Prop := ∀ i, i < 7 → w.cell? ⟨b, off + i, none⟩ = g.cells[i]? ∧ w.frozen? ⟨b, off + i, none⟩ = false
theorem flagS_idx (g : Fg) (c : UInt8) (second : Bool) : (flagS g c second = none ∧ fgIdx c second = none) ∨ ∃ h i, flagS g c second = some h ∧ fgIdx c second = some i ∧ i < 7 ∧ h.cells = g.cells.set i (.bool true) := by
  unfold flagS fgIdx
  by_cases h1 : c = 98
  · rw [if_pos h1, if_pos h1]; right; cases second <;> exact ⟨_, _, rfl, rfl, by decide, rfl⟩
  by_cases h2 : c = 100
  · rw [if_neg h1, if_neg h1, if_pos h2, if_pos h2]; right; exact ⟨_, _, rfl, rfl, by decide, rfl⟩
  by_cases h3 : c = 102
  · rw [if_neg h1, if_neg h1, if_neg h2, if_neg h2, if_pos h3, if_pos h3]; right; exact ⟨_, _, rfl, rfl, by decide, rfl⟩
  by_cases h4 : c = 105
  · rw [if_neg h1, if_neg h1, if_neg h2, if_neg h2, if_neg h3, if_neg h3, if_pos h4, if_pos h4]; right; exact ⟨_, _, rfl, rfl, by decide, rfl⟩
  by_cases h5 : c = 110
  · rw [if_neg h1, if_neg h1, if_neg h2, if_neg h2, if_neg h3, if_neg h3, if_neg h4, if_neg h4, if_pos h5, if_pos h5]; right; exact ⟨_, _, rfl, rfl, by decide, rfl⟩
  by_cases h6 : c = 114
  · rw [if_neg h1, if_neg h1, if_neg h2, if_neg h2, if_neg h3, if_neg h3, if_neg h4, if_neg h4, if_neg h5, if_neg h5, if_pos h6, if_pos h6]; right; exact ⟨_, _, rfl, rfl, by decide, rfl⟩
  · rw [if_neg h1, if_neg h1, if_neg h2, if_neg h2, if_neg h3, if_neg h3, if_neg h4, if_neg h4, if_neg h5, if_neg h5, if_neg h6, if_neg h6]; left; exact ⟨rfl, rfl⟩

set_option maxHeartbeats 1000000 in
set_option maxRecDepth 100000 in
theorem flag_i (b off : Nat) (g : Fg) (c : UInt8) (second : Bool) (w : World) (h : FgAt w b off g) :
    Calls Tryd.prog 23 #[.pointer (some ⟨b, off, none⟩), .int .u8 (c.toNat : Int), .bool second] w fun e w' => match fgIdx c second with
      | none => e = .returned (.bool false) ∧ w' = w
      | some i => e = .returned (.bool true) ∧ w' = w.setCell ⟨b, off + i, none⟩ (.bool true) := by
  have c0 : w.cell? ⟨b, off, none⟩ = some (.bool g.b) := (h 0 (by decide)).1
  have c1 : w.cell? ⟨b, off + 1, none⟩ = some (.bool g.e) := (h 1 (by decide)).1
  have c2 : w.cell? ⟨b, off + 2, none⟩ = some (.bool g.d) := (h 2 (by decide)).1
  have c3 : w.cell? ⟨b, off + 3, none⟩ = some (.bool g.f) := (h 3 (by decide)).1
  have c4 : w.cell? ⟨b, off + 4, none⟩ = some (.bool g.i) := (h 4 (by decide)).1
  have c5 : w.cell? ⟨b, off + 5, none⟩ = some (.bool g.n) := (h 5 (by decide)).1
  have c6 : w.cell? ⟨b, off + 6, none⟩ = some (.bool g.r) := (h 6 (by decide)).1
  have z0 : w.frozen? ⟨b, off, none⟩ = false := (h 0 (by decide)).2
  have z1 : w.frozen? ⟨b, off + 1, none⟩ = false := (h 1 (by decide)).2
  have z2 : w.frozen? ⟨b, off + 2, none⟩ = false := (h 2 (by decide)).2
  have z3 : w.frozen? ⟨b, off + 3, none⟩ = false := (h 3 (by decide)).2
  have z4 : w.frozen? ⟨b, off + 4, none⟩ = false := (h 4 (by decide)).2
  have z5 : w.frozen? ⟨b, off + 5, none⟩ = false := (h 5 (by decide)).2
  have z6 : w.frozen? ⟨b, off + 6, none⟩ = false := (h 6 (by decide)).2
  clear h
  by_cases h1 : c = 98
  · subst h1
    cases second
    · rw [show fgIdx 98 false = some 0 from rfl]
      go_enter Tryd.func23, Tryd.ntmps23
      go_wp2
      go_ret
      exact ⟨rfl, rfl⟩
    · rw [show fgIdx 98 true = some 1 from rfl]
      go_enter Tryd.func23, Tryd.ntmps23
      go_wp2
      go_ret
      exact ⟨rfl, rfl⟩
  have b1 : ((c.toNat : Int) == 98) = false := u8_no 98 (by omega) h1
  by_cases h2 : c = 100
  · subst h2
    rw [show fgIdx 100 second = some 2 from rfl]
    go_enter Tryd.func23, Tryd.ntmps23
    go_wp2
    go_ret
    exact ⟨rfl, rfl⟩
  have b2 : ((c.toNat : Int) == 100) = false := u8_no 100 (by omega) h2
  by_cases h3 : c = 102
  · subst h3
    rw [show fgIdx 102 second = some 3 from rfl]
    go_enter Tryd.func23, Tryd.ntmps23
    go_wp2
    go_ret
    exact ⟨rfl, rfl⟩
  have b3 : ((c.toNat : Int) == 102) = false := u8_no 102 (by omega) h3
  by_cases h4 : c = 105
  · subst h4
    rw [show fgIdx 105 second = some 4 from rfl]
    go_enter Tryd.func23, Tryd.ntmps23
    go_wp2
    go_ret
    exact ⟨rfl, rfl⟩
  have b4 : ((c.toNat : Int) == 105) = false := u8_no 105 (by omega) h4
  by_cases h5 : c = 110
  · subst h5
    rw [show fgIdx 110 second = some 5 from rfl]
    go_enter Tryd.func23, Tryd.ntmps23
    go_wp2
    go_ret
    exact ⟨rfl, rfl⟩
  have b5 : ((c.toNat : Int) == 110) = false := u8_no 110 (by omega) h5
  by_cases h6 : c = 114
  · subst h6
    rw [show fgIdx 114 second = some 6 from rfl]
    go_enter Tryd.func23, Tryd.ntmps23
    go_wp2
    go_ret
    exact ⟨rfl, rfl⟩
  have b6 : ((c.toNat : Int) == 114) = false := u8_no 114 (by omega) h6
  have hi : fgIdx c second = none := by unfold fgIdx; rw [if_neg h1, if_neg h2, if_neg h3, if_neg h4, if_neg h5, if_neg h6]
  rw [hi]
  clear h1 h2 h3 h4 h5 h6 hi
  go_enter Tryd.func23, Tryd.ntmps23
  go_wp2
  go_ret
  exact ⟨rfl, rfl⟩

set_option maxHeartbeats 1000000 in
set_option maxRecDepth 100000 in
theorem digits_c (s : ByteArray) (w : World) (hs : s.size ≤ 4194304) :
    Calls Tryd.prog 56 #[.string s] w fun e w' => e = .returned (.int .i64 (dgs s.data.toList : Int)) ∧ w' = w := by
  have HR := Lib.hid (show dgs s.data.toList = 0 + dgs (s.data.toList.drop 0) from by rw [List.drop_zero, Nat.zero_add])
  generalize dgs s.data.toList = R at HR ⊢
  go_enter Tryd.func56, Tryd.ntmps56
  go_wp2
  go_loop [3] (fun i => ∃ k : Nat, k ≤ s.size ∧ i = .int .i64 k ∧ Hid (R = k + dgs (s.data.toList.drop k))) (fun i => s.size - (intOf i).toNat)
  case atStart => exact ⟨0, by omega, rfl, HR⟩
  case round =>
    obtain ⟨k, hk, rfl, HI⟩ := hrel
    clear HR
    by_cases hlt : k < s.size
    · have HJ := HI.out
      rw [by_drop s k hlt, dgs, List.takeWhile_cons] at HJ
      clear HI
      by_cases h1 : 48 ≤ (s[k]).toNat
      · by_cases h2 : (s[k]).toNat ≤ 57
        · rw [if_pos (by unfold isDg; simp; omega), List.length_cons] at HJ
          have HJ' : Hid (R = (k + 1) + dgs (s.data.toList.drop (k + 1))) := by show R = _; rw [HJ]; unfold dgs; omega
          clear HJ
          go_wp2
          exact ⟨⟨k + 1, by omega, by go_num, HJ'⟩, by simp [intOf]; omega⟩
        · rw [if_neg (by unfold isDg; simp; omega)] at HJ
          have HJ' : Hid (R = k) := by show R = k; simpa using HJ
          clear HJ
          go_wp2
          go_ret
          exact ⟨by have e := HJ'.out; subst e; rfl, rfl⟩
      · rw [if_neg (by unfold isDg; simp; omega)] at HJ
        have HJ' : Hid (R = k) := by show R = k; simpa using HJ
        clear HJ
        go_wp2
        go_ret
        exact ⟨by have e := HJ'.out; subst e; rfl, rfl⟩
    · have HJ := HI.out
      rw [by_drop_end s k (by omega)] at HJ
      have HJ' : Hid (R = k) := by show R = k; simpa [dgs] using HJ
      clear HJ HI
      go_wp2
      go_ret
      exact ⟨by have e := HJ'.out; subst e; rfl, rfl⟩
end Go.Proofs.YtdgnbcbcfgfkmaaDoor
