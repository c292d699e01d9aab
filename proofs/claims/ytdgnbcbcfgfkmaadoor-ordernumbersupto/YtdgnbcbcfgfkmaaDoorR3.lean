/- The landed code's small functions: what a byte is, flags, comparisons of numbers. -/
import Derived.Laws.Bits64b
import Derived.Test.YtdgnbcbcfgfkmaaDoorQInner
import Derived.Shelf.Abstract
import Derived.Lib.BytesEntry
import Derived.Lib.IndexLaws
import Derived.Test.YtdgnbcbcfgfkmaaDoorQNum2
namespace Go.Proofs.YtdgnbcbcfgfkmaaDoor
open Go.RowKit

theorem isDg_nat (c : UInt8) : isDg c = decide (48 ≤ c.toNat ∧ c.toNat ≤ 57) := rfl
theorem is0_nat (c : UInt8) : is0 c = decide (c.toNat = 48) := by
  unfold is0; rw [Bool.eq_iff_iff]; simp only [decide_eq_true_eq]; exact u8_nat c 48 (by omega)
theorem isBl_nat (c : UInt8) : isBl c = decide (c.toNat = 32 ∨ c.toNat = 9) := by
  unfold isBl; rw [Bool.eq_iff_iff]; simp only [decide_eq_true_eq]; exact or_congr (u8_nat c 32 (by omega)) (u8_nat c 9 (by omega))
theorem ret_bool {a b : Bool} (h : a = b) : Ending.returned (.bool a) = .returned (.bool b) := by rw [h]
theorem ret_i64 {a b : Int} (h : a = b) : Ending.returned (.int .i64 a) = .returned (.int .i64 b) := by rw [h]
def isLt (c : UInt8) : Bool := decide ((65 ≤ c.toNat ∧ c.toNat ≤ 90) ∨ (97 ≤ c.toNat ∧ c.toNat ≤ 122))

theorem isBlank_c (c : UInt8) (w : World) : Calls Tryd.prog 46 #[.int .u8 (c.toNat : Int)] w fun e w' => e = .returned (.bool (isBl c)) ∧ w' = w := by
  rw [isBl_nat]
  by_cases h1 : c.toNat = 32
  · have e1 : ((c.toNat : Int) == 32) = true := by simp; omega
    go_enter Tryd.func46, Tryd.ntmps46
    go_wp2
    go_ret
    exact ⟨ret_bool (by first | (simp; done) | (simp; omega)), rfl⟩
  · have e1 : ((c.toNat : Int) == 32) = false := by simp; omega
    go_enter Tryd.func46, Tryd.ntmps46
    go_wp2
    go_ret
    refine ⟨ret_bool ?_, rfl⟩
    first | (rw [Bool.eq_iff_iff]; simp <;> omega) | (simp <;> omega)
theorem isDigit_c (c : UInt8) (w : World) : Calls Tryd.prog 67 #[.int .u8 (c.toNat : Int)] w fun e w' => e = .returned (.bool (isDg c)) ∧ w' = w := by
  rw [isDg_nat]
  by_cases h1 : 48 ≤ c.toNat
  · go_enter Tryd.func67, Tryd.ntmps67
    go_wp2
    go_ret
    refine ⟨ret_bool ?_, rfl⟩
    first | (rw [Bool.eq_iff_iff]; simp <;> omega) | (simp <;> omega)
  · go_enter Tryd.func67, Tryd.ntmps67
    go_wp2
    go_ret
    exact ⟨ret_bool (by first | (simp; done) | (simp; omega)), rfl⟩
theorem isNought_c (c : UInt8) (w : World) : Calls Tryd.prog 66 #[.int .u8 (c.toNat : Int)] w fun e w' => e = .returned (.bool (is0 c)) ∧ w' = w := by
  rw [is0_nat]
  go_enter Tryd.func66, Tryd.ntmps66
  go_wp2
  go_ret
  refine ⟨ret_bool ?_, rfl⟩
  first | (rw [Bool.eq_iff_iff]; simp <;> omega) | (simp <;> omega)
theorem notBlank_c (c : UInt8) (w : World) : Calls Tryd.prog 47 #[.int .u8 (c.toNat : Int)] w fun e w' => e = .returned (.bool (notBl c)) ∧ w' = w := by
  have h := isBlank_c c w
  unfold notBl
  go_enter Tryd.func47, Tryd.ntmps47
  go_wp2_with (go_at_call 46; refine h.mono ?_; rintro e w' ⟨rfl, hw'⟩; rw [hw']; clear hw')
  go_ret
  exact ⟨rfl, rfl⟩
theorem isLetter_c (c : UInt8) (w : World) : Calls Tryd.prog 79 #[.int .u8 (c.toNat : Int)] w fun e w' => e = .returned (.bool (isLt c)) ∧ w' = w := by
  unfold isLt
  have hc : (65 ≤ c.toNat ∧ c.toNat ≤ 90) ∨ (65 ≤ c.toNat ∧ ¬ c.toNat ≤ 90 ∧ ¬ 97 ≤ c.toNat) ∨ (65 ≤ c.toNat ∧ ¬ c.toNat ≤ 90 ∧ 97 ≤ c.toNat) ∨ (¬ 65 ≤ c.toNat ∧ ¬ 97 ≤ c.toNat) := by omega
  rcases hc with ⟨h1, h2⟩ | ⟨h1, h2, h3⟩ | ⟨h1, h2, h3⟩ | ⟨h1, h3⟩
  all_goals
    go_enter Tryd.func79, Tryd.ntmps79
    go_wp2
    go_ret
    refine ⟨ret_bool ?_, rfl⟩
    first | (rw [Bool.eq_iff_iff]; simp <;> omega) | (simp <;> omega)
def cmpI (x y : Int) : Int := if x < y then -1 else if y < x then 1 else 0
theorem isNaN_c (x : Int) (w : World) : Calls Tryd.prog 68 #[.int .i64 x] w fun e w' => e = .returned (.bool false) ∧ w' = w := by
  go_enter Tryd.func68, Tryd.ntmps68
  go_wp2
  go_ret
  exact ⟨by simp, rfl⟩
theorem cmpI_c (x y : Int) (w : World) : Calls Tryd.prog 54 #[.int .i64 x, .int .i64 y] w fun e w' => e = .returned (.int .i64 (cmpI x y)) ∧ w' = w := by
  have h1 := isNaN_c x w
  have h2 := isNaN_c y w
  unfold cmpI
  have hc : x < y ∨ (¬ x < y ∧ y < x) ∨ (¬ x < y ∧ ¬ y < x) := by omega
  rcases hc with a1 | ⟨a1, a2⟩ | ⟨a1, a2⟩
  · rw [if_pos a1]
    go_enter Tryd.func54, Tryd.ntmps54
    go_wp2_with (first | (go_at_call 68; refine h1.mono ?_; rintro e w' ⟨rfl, hw'⟩; rw [hw']; clear hw' h1) | (go_at_call 68; refine h2.mono ?_; rintro e w' ⟨rfl, hw'⟩; rw [hw']; clear hw' h2))
    go_ret
    exact ⟨rfl, rfl⟩
  · rw [if_neg a1, if_pos a2]
    go_enter Tryd.func54, Tryd.ntmps54
    go_wp2_with (first | (go_at_call 68; refine h1.mono ?_; rintro e w' ⟨rfl, hw'⟩; rw [hw']; clear hw' h1) | (go_at_call 68; refine h2.mono ?_; rintro e w' ⟨rfl, hw'⟩; rw [hw']; clear hw' h2))
    go_ret
    exact ⟨rfl, rfl⟩
  · rw [if_neg a1, if_neg a2]
    go_enter Tryd.func54, Tryd.ntmps54
    go_wp2_with (first | (go_at_call 68; refine h1.mono ?_; rintro e w' ⟨rfl, hw'⟩; rw [hw']; clear hw' h1) | (go_at_call 68; refine h2.mono ?_; rintro e w' ⟨rfl, hw'⟩; rw [hw']; clear hw' h2))
    go_ret
    exact ⟨rfl, rfl⟩

/-- One of the flags is there. -/
theorem has_c (x y : Nat) (w : World) (hx : x < 64) (hy : y < 64) : Calls Tryd.prog 35 #[.int .u64 (x : Int), .int .u64 (y : Int)] w fun e w' => e = .returned (.bool (decide (x &&& y ≠ 0))) ∧ w' = w := by
  go_enter Tryd.func35, Tryd.ntmps35
  go_wp2
  go_ret
  refine ⟨ret_bool ?_, rfl⟩
  rw [bits_and_u64_nat x y (by omega) (by omega), Bool.eq_iff_iff]
  simp
theorem bit_0 : ∀ x, x < 64 → decide (x &&& 1 ≠ 0) = x.testBit 0 := by decide +kernel
theorem bit_1 : ∀ x, x < 64 → decide (x &&& 2 ≠ 0) = x.testBit 1 := by decide +kernel
theorem bit_2 : ∀ x, x < 64 → decide (x &&& 4 ≠ 0) = x.testBit 2 := by decide +kernel
theorem bit_3 : ∀ x, x < 64 → decide (x &&& 8 ≠ 0) = x.testBit 3 := by decide +kernel
theorem bit_4 : ∀ x, x < 64 → decide (x &&& 16 ≠ 0) = x.testBit 4 := by decide +kernel
theorem bit_5 : ∀ x, x < 64 → decide (x &&& 32 ≠ 0) = x.testBit 5 := by decide +kernel
theorem bit_123 : ∀ x, x < 64 → decide (x &&& 14 ≠ 0) = (x.testBit 1 || x.testBit 2 || x.testBit 3) := by decide +kernel
end Go.Proofs.YtdgnbcbcfgfkmaaDoor
/- Bytes that are cut, dropped and compared, by the landed code. -/
namespace Go.Proofs.YtdgnbcbcfgfkmaaDoor
open Go.RowKit Go.Shelf

/-- Bytes cut out of bytes. -/
theorem by_sl {w : World} {x : Option Addr} {n cp i j : Nat} {d : List UInt8} (h : ByAt w (.slice x n cp) d) (hij : i ≤ j) (hj : j ≤ d.length) : ByAt w (.slice (if cp = i then x else Option.map (fun a => a.add i) x) (j - i) (cp - i)) ((d.take j).drop i) := by
  have hl : ((d.take j).drop i).length = j - i := by rw [List.length_drop, List.length_take]; omega
  rcases h with ⟨h1, h2⟩ | ⟨b, off, cap, h1, h2, h3, h4⟩
  · cases h1
    subst h2
    have hj0 : j = 0 := by simpa using hj
    subst hj0
    have hi0 : i = 0 := by omega
    subst hi0
    exact .inl ⟨rfl, rfl⟩
  · cases h1
    by_cases hc : cp = i
    · subst hc
      rw [if_pos rfl]
      have e : j - cp = 0 := by omega
      rw [e, Nat.sub_self]
      have e2 : (d.take j).drop cp = [] := List.eq_nil_of_length_eq_zero (by rw [hl, e])
      rw [e2]
      exact .inr ⟨b, off, 0, rfl, by simp, h3, fun j hj => by simp at hj⟩
    · rw [if_neg hc]
      refine .inr ⟨b, off + i, cp - i, ?_, ⟨by rw [hl]; omega, by omega⟩, h3, fun k hk => ?_⟩
      · rw [hl, Option.map_some, Addr.add_lit]
      · rw [hl] at hk
        rw [Nat.add_assoc, h4 (i + k) (by omega), List.getElem?_drop, List.getElem?_take, if_pos (by omega)]
theorem by_from {w : World} {x : Option Addr} {n cp i : Nat} {d : List UInt8} (h : ByAt w (.slice x n cp) d) (hi : i ≤ d.length) (hn : n = d.length) : ByAt w (.slice (if cp = i then x else Option.map (fun a => a.add i) x) (n - i) (cp - i)) (d.drop i) := by
  have := by_sl h hi (Nat.le_refl _)
  rw [List.take_length] at this
  rw [hn]; exact this
theorem by_upto {w : World} {x : Option Addr} {n cp j : Nat} {d : List UInt8} (h : ByAt w (.slice x n cp) d) (hj : j ≤ d.length) : ByAt w (.slice x j cp) (d.take j) := by
  have hl : (d.take j).length = j := by rw [List.length_take]; omega
  rcases h with ⟨h1, h2⟩ | ⟨b, off, cap, h1, h2, h3, h4⟩
  · cases h1
    subst h2
    have hj0 : j = 0 := by simpa using hj
    subst hj0
    exact .inl ⟨rfl, rfl⟩
  · cases h1
    refine .inr ⟨b, off, cp, by rw [hl], ⟨by rw [hl]; omega, h2.2⟩, h3, fun k hk => ?_⟩
    rw [hl] at hk
    rw [h4 k (by omega), List.getElem?_take, if_pos hk]
theorem by_slC {w : World} {b off n cp i j : Nat} {d : List UInt8} (h : ByAt w (.slice (some ⟨b, off, none⟩) n cp) d) (hij : i ≤ j) (hj : j ≤ d.length) : ByAt w (.slice (some ⟨b, off + i, none⟩) (j - i) (cp - i)) ((d.take j).drop i) := by
  rcases h with ⟨h1, _⟩ | ⟨b, off, cap, h1, h2, h3, h4⟩
  · cases h1
  · cases h1
    exact by_cut hij hj h2.1 h2.2 h3 (fun j hj => by rw [h4 j hj]; simp [hj])
theorem by_fromC {w : World} {b off n cp i : Nat} {d : List UInt8} (h : ByAt w (.slice (some ⟨b, off, none⟩) n cp) d) (hi : i ≤ d.length) (hn : n = d.length) : ByAt w (.slice (some ⟨b, off + i, none⟩) (n - i) (cp - i)) (d.drop i) := by
  have := by_slC h hi (Nat.le_refl _)
  rw [List.take_length] at this
  rw [hn]; exact this
theorem ByAt.len {w : World} {x : Option Addr} {n cp : Nat} {d : List UInt8} (h : ByAt w (.slice x n cp) d) : n = d.length ∧ n ≤ cp ∧ cp ≤ 9223372036854775807 := by
  rcases h with ⟨h1, rfl⟩ | ⟨b, off, cap, h1, h2, _⟩
  · cases h1; simp
  · cases h1; exact ⟨rfl, h2.1, h2.2⟩
theorem ByAt.get {w : World} {x : Option Addr} {n cp : Nat} {d : List UInt8} (h : ByAt w (.slice x n cp) d) (k : Nat) (hk : k < d.length) : ∃ b off, x = Option.some ⟨b, off, none⟩ ∧ w.cell? ⟨b, off + k, none⟩ = Option.some (.int .u8 ((d[k]).toNat : Int)) := by
  obtain ⟨b, off, hx, _, _, _, hc⟩ := h.some (by omega)
  exact ⟨b, off, hx, hc k hk⟩

/-- A function value that tells of each byte whether it is such. -/
structure FnP (f : FuncId) (p : UInt8 → Bool) : Prop where
  cf : ∀ (z : Array Value) (u : World), (callFunc f z).run Tryd.prog u = .ok (.enter f z) u
  call : ∀ (c : UInt8) (w : World), Calls Tryd.prog f #[.int .u8 (c.toNat : Int)] w fun e w' => e = .returned (.bool (p c)) ∧ w' = w
theorem fnP_blank : FnP 46 isBl := ⟨enters_of Tryd.func46 (by kernel_rfl) rfl, isBlank_c⟩
theorem fnP_notBlank : FnP 47 notBl := ⟨enters_of Tryd.func47 (by kernel_rfl) rfl, notBlank_c⟩
theorem fnP_nought : FnP 66 is0 := ⟨enters_of Tryd.func66 (by kernel_rfl) rfl, isNought_c⟩
theorem fnP_digit : FnP 67 isDg := ⟨enters_of Tryd.func67 (by kernel_rfl) rfl, isDigit_c⟩

set_option maxHeartbeats 1000000 in
set_option maxRecDepth 100000 in
theorem dropWhile_c {f : FuncId} {p : UInt8 → Bool} (hf : FnP f p) (v : Value) (d : List UInt8) (w : World) (hB : ByAt w v d) :
    Calls Tryd.prog 45 #[v, .func (.func f) #[] #[]] w fun e w' => (∃ v', e = .returned v' ∧ ∀ u, ByAt u v d → ByAt u v' (d.dropWhile p)) ∧ w' = w := by
  obtain ⟨x, cp, rfl⟩ := hB.shape
  have hl := hB.len
  have HB := Lib.hid hB
  have hcf := hf.cf
  have HF := Lib.hid hf.call
  have HR := Lib.hid (show d.dropWhile p = (d.drop 0).dropWhile p from rfl)
  clear hB hf
  generalize hn : d.length = n at hl ⊢
  have HN := Lib.hid hn
  clear hn
  go_enter Tryd.func45, Tryd.ntmps45
  go_wp2_with fail
  go_loop [9] (fun i => ∃ k : Nat, k ≤ n ∧ i = .int .i64 k ∧ Hid (d.dropWhile p = (d.drop k).dropWhile p)) (fun i => n - (intOf i).toNat)
  case atStart => exact ⟨0, by omega, rfl, HR⟩
  case round =>
    obtain ⟨k, hk, rfl, HI⟩ := hrel
    clear HR
    by_cases hlt : k < n
    · have hkd : k < d.length := by rw [HN.out]; exact hlt
      obtain ⟨b, off, rfl, hc⟩ := HB.out.get k hkd
      have HJ := HI.out
      rw [List.drop_eq_getElem_cons hkd, List.dropWhile_cons] at HJ
      clear HI
      have hcall := HF.out (d[k]) w
      cases hp : p d[k] with
      | true =>
        rw [if_pos hp] at HJ
        have HJ' := Lib.hid HJ
        rw [hp] at hcall
        clear HJ hp
        generalize d[k] = c at hc hcall
        go_wp2_with (refine hcall.mono ?_; rintro e w' ⟨rfl, hw'⟩; rw [hw']; clear hw')
        exact ⟨⟨k + 1, by omega, by go_num, HJ'⟩, by simp [intOf]; omega⟩
      | false =>
        rw [if_neg (by rw [hp]; simp), ← List.drop_eq_getElem_cons hkd] at HJ
        have HJ' := Lib.hid HJ
        rw [hp] at hcall
        clear HJ hp
        generalize d[k] = c at hc hcall
        go_wp2_with (refine hcall.mono ?_; rintro e w' ⟨rfl, hw'⟩; rw [hw']; clear hw')
        go_ret
        refine ⟨⟨_, rfl, fun u hu => ?_⟩, rfl⟩
        rw [HJ'.out]
        exact by_fromC (i := k) hu (by rw [HN.out]; omega) HN.out.symm
    · have HJ' : Hid (d.dropWhile p = []) := by
        show _ = _
        rw [HI.out, List.drop_eq_nil_of_le (by rw [HN.out]; omega)]; rfl
      clear HI
      go_wp2_with fail
      go_ret
      exact ⟨⟨_, rfl, fun _ _ => .inl ⟨rfl, HJ'.out⟩⟩, rfl⟩

theorem dropWhile_len {α : Type} (p : α → Bool) (l : List α) : (l.dropWhile p).length = l.length - (l.takeWhile p).length := by
  have := congrArg List.length (List.takeWhile_append_dropWhile (p := p) (l := l))
  rw [List.length_append] at this
  omega
theorem drop_takeWhile {α : Type} (p : α → Bool) (l : List α) : l.drop (l.takeWhile p).length = l.dropWhile p := by
  conv => lhs; rw [← List.takeWhile_append_dropWhile (p := p) (l := l)]
  rw [List.drop_append, List.drop_eq_nil_of_le (by simp), List.nil_append]
  simp
theorem fldLen_drop (d : List UInt8) : d.length - ((d.dropWhile isBl).dropWhile notBl).length = fldLen d := by
  have h1 := dropWhile_len isBl d
  have h2 := dropWhile_len notBl (d.dropWhile isBl)
  have h3 : (d.takeWhile isBl).length ≤ d.length := takeWhile_le _ _
  have h4 : ((d.dropWhile isBl).takeWhile notBl).length ≤ (d.dropWhile isBl).length := takeWhile_le _ _
  unfold fldLen skipB skipN
  rw [drop_takeWhile]
  omega
set_option maxHeartbeats 1000000 in
theorem lengthByBlanks_c (v : Value) (d : List UInt8) (w : World) (hB : ByAt w v d) :
    Calls Tryd.prog 30 #[v] w fun e w' => e = .returned (.int .i64 (fldLen d : Int)) ∧ w' = w := by
  obtain ⟨x, cp, rfl⟩ := hB.shape
  have hl := hB.len
  have h1 := dropWhile_c fnP_blank _ d w hB
  have HF := Lib.hid (fldLen_drop d)
  have HL := Lib.hid (Nat.le_trans (by rw [dropWhile_len]; exact Nat.sub_le _ _) (by rw [dropWhile_len]; exact Nat.sub_le _ _) : ((d.dropWhile isBl).dropWhile notBl).length ≤ d.length)
  have HB := Lib.hid hB
  clear hB
  go_enter Tryd.func30, Tryd.ntmps30
  go_wp2_with fail
  refine h1.mono ?_
  rintro e w' ⟨⟨v1, rfl, hb1⟩, hw'⟩
  rw [hw']
  have hb1 := hb1 w HB.out
  have h2 := dropWhile_c fnP_notBlank _ _ w hb1
  have HB1 := Lib.hid hb1
  clear hw' h1 hb1
  go_wp2_with fail
  refine h2.mono ?_
  rintro e w' ⟨⟨v2, rfl, hb2⟩, hw'⟩
  rw [hw']
  have hb2 := hb2 w HB1.out
  obtain ⟨x2, c2, rfl⟩ := hb2.shape
  clear hw' h2 hb2
  have hle := HL.out
  have hfe := HF.out
  generalize ((d.dropWhile isBl).dropWhile notBl).length = m at *
  go_wp2_with fail
  go_ret
  exact ⟨ret_i64 (by first | omega | (go_num; omega)), rfl⟩
end Go.Proofs.YtdgnbcbcfgfkmaaDoor
/- bytes.Compare and bytes.IndexByte, as the landed code calls them. -/
namespace Go.Proofs.YtdgnbcbcfgfkmaaDoor
open Go.RowKit Go.Shelf

theorem bytesOf_u8 (d : List UInt8) : Lib.bytesOf (d.map fun c => (c.toNat : Int)) = d := by
  unfold Lib.bytesOf
  rw [List.map_map]
  conv => rhs; rw [← List.map_id d]
  refine List.map_congr_left (fun c _ => ?_)
  simp
theorem run_by {P : Program} {w : World} {v : Value} {d : List UInt8} (h : ByAt w v d) : (Extern.Bytes.bytesOf v).run P w = .ok ⟨d.toArray⟩ w := by
  rcases h with ⟨rfl, rfl⟩ | ⟨b, off, cap, rfl, _, _, hc⟩
  · rfl
  · have hl := Lib.run_loadBytesX (P := P) w (d.map fun c => (c.toNat : Int)) ⟨b, off, none⟩ .empty (fun j x hj => by
      have hjl : j < d.length := by have := (List.getElem?_eq_some_iff.1 hj).1; simpa using this
      rw [Addr.add_lit, hc j hjl]
      rw [List.getElem?_map] at hj
      simp only [hjl, List.getElem?_eq_getElem, Option.map_some, Option.some.injEq, Option.getD_some] at hj ⊢
      rw [hj])
    rw [List.length_map, bytesOf_u8] at hl
    have he : (⟨ByteArray.empty.data ++ d.toArray⟩ : ByteArray) = ⟨d.toArray⟩ := by
      apply ByteArray.ext
      show (#[] : Array UInt8) ++ d.toArray = d.toArray
      simp
    rw [he] at hl
    exact hl
theorem cmpL_lib : ∀ a b : List UInt8, Lib.compareBytes a b = cmpL a b
  | [], [] => rfl
  | [], _ :: _ => rfl
  | _ :: _, [] => rfl
  | a :: s, b :: t => by
    rw [Lib.compareBytes, cmpL, cmpL_lib s t]
    simp only [UInt8.lt_iff_toNat_lt]
theorem run_cmp_by {P : Program} {w : World} {va vb : Value} {a b : List UInt8} (ha : ByAt w va a) (hb : ByAt w vb b) : (Extern.BytealgCompare.compare #[va, vb]).run P w = .ok (.int .i64 (cmpL a b)) w := by
  change Sem.run P (do pure (goInt (Extern.BytealgCompare.cmp (← Extern.Bytes.bytesOf va) (← Extern.Bytes.bytesOf vb)))) w = _
  simp only [Sem.run_bind, Sem.run_pure, run_by ha, run_by hb, Result.andThen]
  rw [Lib.cmp_eq, cmpL_lib]
  rfl
theorem bytesCompare_c (va vb : Value) (a b : List UInt8) (w : World) (ha : ByAt w va a) (hb : ByAt w vb b) :
    Calls Tryd.prog 34 #[va, vb] w fun e w' => e = .returned (.int .i64 (cmpL a b)) ∧ w' = w := by
  have hr := fun P => run_cmp_by (P := P) ha hb
  obtain ⟨x, cp, rfl⟩ := ha.shape
  obtain ⟨y, cq, rfl⟩ := hb.shape
  clear ha hb
  go_enter Tryd.func34, Tryd.ntmps34
  go_wp2
  rw [run_callFunc_extern Tryd.func52 (by kernel_rfl) (by kernel_rfl) (by kernel_rfl) (e := Extern.BytealgCompare.compare) (by kernel_rfl), hr]
  simp only [Result.andThen]
  rw [Oper.upon_value]
  go_wp2
  go_ret
  exact ⟨rfl, rfl⟩
theorem run_idx_by {P : Program} {w : World} {v : Value} {d : List UInt8} (h : ByAt w v d) (c : UInt8) : (Extern.BytealgIndexByte.indexByte #[v, .int .u8 (c.toNat : Int)]).run P w = .ok (.int .i64 (Lib.indexByte d c)) w := by
  rcases h with ⟨rfl, rfl⟩ | ⟨b, off, cap, rfl, _, _, hc⟩
  · exact Lib.run_indexByteNil w 0 0 _
  · have := Lib.run_indexByteSlice (P := P) w b off d.length cap (d.map fun c => (c.toNat : Int)) (by simp) (fun i hi => by rw [hc i hi]; simp [hi]) (c.toNat : Int)
    rw [bytesOf_u8] at this
    rw [this]
    simp
theorem indexByte_tw (d : List UInt8) (c : UInt8) : (Lib.indexByte d c = -1 ∧ (d.takeWhile (fun x => decide (x ≠ c))).length = d.length) ∨ (Lib.indexByte d c = ((d.takeWhile (fun x => decide (x ≠ c))).length : Nat) ∧ (d.takeWhile (fun x => decide (x ≠ c))).length < d.length) := by
  have h := Lib.indexByte_ge d c
  have aux : ∀ (d : List UInt8), (∀ k : Nat, d[k]? ≠ some c) → (d.takeWhile (fun x => decide (x ≠ c))).length = d.length := by
    intro d
    induction d with
    | nil => intro _; rfl
    | cons x r ih =>
      intro hn
      have hx : x ≠ c := fun e => hn 0 (by simp [e])
      rw [List.takeWhile_cons, if_pos (by simpa using hx), List.length_cons, ih (fun k hk => hn (k + 1) (by simpa using hk)), List.length_cons]
  have aux2 : ∀ (k : Nat) (d : List UInt8), d[k]? = some c → (∀ j : Nat, j < k → d[j]? ≠ some c) → (d.takeWhile (fun x => decide (x ≠ c))).length = k ∧ k < d.length := by
    intro k
    induction k with
    | zero =>
      intro d h0 _
      cases d with
      | nil => simp at h0
      | cons x r => simp at h0; subst h0; simp
    | succ k ih =>
      intro d h0 hn
      cases d with
      | nil => simp at h0
      | cons x r =>
        have hx : x ≠ c := fun e => hn 0 (by omega) (by simp [e])
        have := ih r (by simpa using h0) (fun j hj hk => hn (j + 1) (by omega) (by simpa using hk))
        rw [List.takeWhile_cons, if_pos (by simpa using hx), List.length_cons, List.length_cons]
        omega
  by_cases e : Lib.indexByte d c = -1
  · exact .inl ⟨e, aux d (Lib.indexByte_none e)⟩
  · obtain ⟨k, hk⟩ : ∃ k : Nat, Lib.indexByte d c = k := ⟨(Lib.indexByte d c).toNat, by omega⟩
    obtain ⟨h1, h2⟩ := Lib.indexByte_some hk
    obtain ⟨h3, h4⟩ := aux2 k d h1 h2
    exact .inr ⟨by rw [h3, hk], by omega⟩
theorem indexByte_c (v : Value) (d : List UInt8) (c : UInt8) (w : World) (h : ByAt w v d) :
    Calls Tryd.prog 48 #[v, .int .u8 (c.toNat : Int)] w fun e w' => e = .returned (.int .i64 (Lib.indexByte d c)) ∧ w' = w := by
  have hr := fun P => run_idx_by (P := P) h c
  obtain ⟨x, cp, rfl⟩ := h.shape
  clear h
  go_enter Tryd.func48, Tryd.ntmps48
  go_wp2
  rw [run_callFunc_extern Tryd.func61 (by kernel_rfl) (by kernel_rfl) (by kernel_rfl) (e := Extern.BytealgIndexByte.indexByte) (by kernel_rfl), hr]
  simp only [Result.andThen]
  rw [Oper.upon_value]
  go_wp2
  go_ret
  exact ⟨rfl, rfl⟩
def fldLenC (c : UInt8) (d : List UInt8) : Nat := (d.takeWhile (fun x => decide (x ≠ c))).length
theorem lengthAhead_c (c : UInt8) (v : Value) (d : List UInt8) (w : World) (h : ByAt w v d) :
    Calls Tryd.prog 31 #[.int .u8 (c.toNat : Int), v] w fun e w' => e = .returned (.int .i64 (fldLenC c d : Int)) ∧ w' = w := by
  have h1 := indexByte_c v d c w h
  have h2 := indexByte_tw d c
  obtain ⟨x, cp, rfl⟩ := h.shape
  have hl := h.len
  clear h
  unfold fldLenC
  generalize (d.takeWhile (fun x => decide (x ≠ c))).length = m at h2 ⊢
  generalize d.length = n at *
  rcases h2 with ⟨e1, rfl⟩ | ⟨e1, e2⟩
  · rw [e1] at h1
    go_enter Tryd.func31, Tryd.ntmps31
    go_wp2_with (go_at_call 48; refine h1.mono ?_; rintro e w' ⟨rfl, hw'⟩; rw [hw']; clear hw')
    go_ret
    exact ⟨rfl, rfl⟩
  · rw [e1] at h1
    go_enter Tryd.func31, Tryd.ntmps31
    go_wp2_with (go_at_call 48; refine h1.mono ?_; rintro e w' ⟨rfl, hw'⟩; rw [hw']; clear hw')
    go_ret
    exact ⟨rfl, rfl⟩
end Go.Proofs.YtdgnbcbcfgfkmaaDoor
