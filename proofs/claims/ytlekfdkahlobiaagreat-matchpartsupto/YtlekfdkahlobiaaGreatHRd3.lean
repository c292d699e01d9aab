/- The reader's bytes: what is next, and is taken. -/
import Derived.Test.YtlekfdkahlobiaaGreatHBuild
namespace Go.Proofs.YtlekfdkahlobiaaGreat.Re
open Go.Proofs.YtlekfdkahlobiaaGreat.Tr
open Go.RowKit

theorem isDigit_c (c : UInt8) (w : World) : Calls Tryz.prog 78 #[.int .u8 (c.toNat : Int)] w fun e w' => e = .returned (.bool (isDec c)) ∧ w' = w := by
  have HE : Hid (isDec c = (decide ((48 : Int) ≤ (c.toNat : Int)) && decide ((c.toNat : Int) ≤ 57))) := by
    show _ = _
    unfold isDec
    rw [Bool.eq_iff_iff]
    simp only [decide_eq_true_eq, Bool.and_eq_true]
    omega
  by_cases h1 : 48 ≤ c.toNat
  · have g1 : (48 : Int) ≤ (c.toNat : Int) := by omega
    go_enter Tryz.func78, Tryz.ntmps78
    go_wp2_with fail
    go_ret
    exact ⟨by rw [HE.out]; simp [g1], rfl⟩
  · have g1 : decide ((48 : Int) ≤ (c.toNat : Int)) = false := decide_eq_false (by omega)
    go_enter Tryz.func78, Tryz.ntmps78
    go_wp2_with fail
    go_ret
    exact ⟨by rw [HE.out, g1]; rfl, rfl⟩
theorem emp_no (c : UInt8) (r : List UInt8) : (bs (c :: r)).toList.isEmpty = false := by rw [ByteArray.toList_eq]; rfl
theorem emp_yes : (bs []).toList.isEmpty = true := by rw [ByteArray.toList_eq]; rfl
theorem bs_pos (c : UInt8) (r : List UInt8) : 0 < (bs (c :: r)).size := by rw [bs_cons]; omega
theorem bs_tail (c : UInt8) (r : List UInt8) : (bs (c :: r)).extract 1 (bs (c :: r)).size = bs r := bs_drop (c :: r) 1
section
variable {w : World} {rb : Nat} {l : List UInt8} {ext fold cl : Bool} {last depth made : Int} {pv ov : Value}
set_option maxHeartbeats 1000000 in
theorem take_no (h : Rd w rb [] ext fold last depth cl pv ov made) : Calls Tryz.prog 48 #[ptr rb] w fun e w' => e = .panicked gaveUp ∧ w' = w := by
  have c0 := h_cell h 0 rfl
  have hg := giveUp_c w
  have e0 := emp_yes
  clear h
  go_enter Tryz.func48, Tryz.ntmps48
  go_wp2_with (go_at_call 38; refine hg.mono ?_; rintro e w1 ⟨rfl, rfl⟩)
  exact ⟨rfl, rfl, rfl⟩
set_option maxHeartbeats 1000000 in
theorem take_c {c : UInt8} {r : List UInt8} (h : Rd w rb (c :: r) ext fold last depth cl pv ov made) : Calls Tryz.prog 48 #[ptr rb] w fun e w' => e = .returned (.int .u8 (c.toNat : Int)) ∧ w' = w.setCell ⟨rb, 0, none⟩ (.string (bs r)) := by
  have c0 := h_cell h 0 rfl
  have z0 := h_fz h 0
  have e0 := emp_no c r
  have e1 := bs_pos c r
  have e2 : (1 : Int) ≤ ((bs (c :: r)).size : Int) := by omega
  have HT := Lib.hid (bs_tail c r)
  clear h
  go_enter Tryz.func48, Tryz.ntmps48
  go_wp2_with fail
  go_ret
  exact ⟨rfl, by rw [HT.out]⟩
end
end Go.Proofs.YtlekfdkahlobiaaGreat.Re

namespace Go.Proofs.YtlekfdkahlobiaaGreat.Re
open Go.Proofs.YtlekfdkahlobiaaGreat.Tr
open Go.RowKit

theorem bs_take (l : List UInt8) (k : Nat) : (bs l).extract 0 k = bs (l.take k) := by
  apply ByteArray.ext
  apply Array.ext'
  rw [ByteArray.data_extract, Array.toList_extract]
  rfl
theorem beg_take {t r : List UInt8} : begins t r = (r.take t.length == t) := by
  rw [Bool.eq_iff_iff, beq_iff_eq]
  unfold begins
  rw [List.isPrefixOf_iff_prefix, List.prefix_iff_eq_take]
  exact eq_comm
theorem beg_len {t r : List UInt8} (h : begins t r = true) : t.length ≤ r.length := (List.isPrefixOf_iff_prefix.1 h).length_le
set_option maxHeartbeats 1000000 in
theorem hasPref_c (s t : List UInt8) (w : World) : Calls Tryz.prog 63 #[.string (bs s), .string (bs t)] w fun e w' => e = .returned (.bool (begins t s)) ∧ w' = w := by
  have hs := bs_size s
  have ht := bs_size t
  by_cases h : t.length ≤ s.length
  · have g1 : ((bs s).size : Int) ≥ ((bs t).size : Int) := by omega
    have g2 : (0 : Int) ≤ ((bs t).size : Int) := by omega
    have g3 : ((bs t).size : Int) ≤ ((bs s).size : Int) := by omega
    have HE : Hid (begins t s = (((bs s).extract 0 (bs t).size).toList == (bs t).toList)) := by
      show _ = _
      rw [beg_take, bs_take, ByteArray.toList_eq, ByteArray.toList_eq, ht]
      rfl
    clear hs ht h
    go_enter Tryz.func63, Tryz.ntmps63
    go_wp2_with fail
    go_ret
    exact ⟨by rw [HE.out]; rfl, rfl⟩
  · have g1 : ¬ (bs t).size ≤ (bs s).size := by omega
    have HE : Hid (begins t s = false) := by
      show _ = _
      rw [Bool.eq_false_iff]
      intro hb
      exact h (beg_len hb)
    clear hs ht h
    go_enter Tryz.func63, Tryz.ntmps63
    go_wp2_with fail
    go_ret
    exact ⟨by rw [HE.out]; rfl, rfl⟩
theorem hasP_c (s t : List UInt8) (w : World) : Calls Tryz.prog 51 #[.string (bs s), .string (bs t)] w fun e w' => e = .returned (.bool (begins t s)) ∧ w' = w := by
  have hp := hasPref_c s t w
  go_enter Tryz.func51, Tryz.ntmps51
  go_wp2_with (go_at_call 63; refine hp.mono ?_; rintro e w1 ⟨rfl, rfl⟩)
  go_ret
  exact ⟨rfl, rfl⟩
/-- What is behind a prefix, or the text itself. -/
def cutL (t s : List UInt8) : List UInt8 := if begins t s = true then s.drop t.length else s
theorem cutP_c (s t : List UInt8) (w : World) : Calls Tryz.prog 85 #[.string (bs s), .string (bs t)] w fun e w' => e = .returned (.tuple #[.string (bs (cutL t s)), .bool (begins t s)]) ∧ w' = w := by
  have hp := hasPref_c s t w
  cases hb : begins t s with
  | true =>
    rw [hb] at hp
    have hl := beg_len hb
    have g1 : (0 : Int) ≤ ((bs t).size : Int) := by omega
    have g2 : ((bs t).size : Int) ≤ ((bs s).size : Int) := by rw [bs_size, bs_size]; omega
    have HE : Hid ((bs s).extract (bs t).size (bs s).size = bs (cutL t s)) := by
      show _ = _
      rw [bs_drop]; unfold cutL; rw [if_pos hb]; rfl
    clear hl hb
    go_enter Tryz.func85, Tryz.ntmps85
    go_wp2_with (go_at_call 63; refine hp.mono ?_; rintro e w1 ⟨rfl, rfl⟩)
    go_ret2
    exact ⟨by rw [HE.out]; rfl, rfl⟩
  | false =>
    rw [hb] at hp
    have HE : Hid (cutL t s = s) := by
      show _ = _
      unfold cutL; rw [hb]; rfl
    clear hb
    go_enter Tryz.func85, Tryz.ntmps85
    go_wp2_with (go_at_call 63; refine hp.mono ?_; rintro e w1 ⟨rfl, rfl⟩)
    go_ret2
    exact ⟨by rw [HE.out]; rfl, rfl⟩
theorem cut_c (s t : List UInt8) (w : World) : Calls Tryz.prog 77 #[.string (bs s), .string (bs t)] w fun e w' => e = .returned (.tuple #[.string (bs (cutL t s)), .bool (begins t s)]) ∧ w' = w := by
  have hp := cutP_c s t w
  go_enter Tryz.func77, Tryz.ntmps77
  go_wp2_with (go_at_call 85; refine hp.mono ?_; rintro e w1 ⟨rfl, rfl⟩)
  go_ret2
  exact ⟨rfl, rfl⟩
section
variable {w : World} {rb : Nat} {l : List UInt8} {ext fold cl : Bool} {last depth made : Int} {pv ov : Value}
set_option maxHeartbeats 1000000 in
theorem skip_c (t : List UInt8) (h : Rd w rb l ext fold last depth cl pv ov made) : Calls Tryz.prog 71 #[ptr rb, .string (bs t)] w fun e w' => e = .returned (.bool (begins t l)) ∧ w' = w.setCell ⟨rb, 0, none⟩ (.string (bs (cutL t l))) := by
  have c0 := h_cell h 0 rfl
  have z0 := h_fz h 0
  have hp := cut_c l t w
  clear h
  go_enter Tryz.func71, Tryz.ntmps71
  go_wp2_with (go_at_call 77; refine hp.mono ?_; rintro e w1 ⟨rfl, rfl⟩)
  go_ret
  exact ⟨rfl, rfl⟩
def atDig (l : List UInt8) : Bool := match l with | [] => false | c :: _ => isDec c
set_option maxHeartbeats 1000000 in
theorem isAtDigit_c (h : Rd w rb l ext fold last depth cl pv ov made) : Calls Tryz.prog 72 #[ptr rb] w fun e w' => e = .returned (.bool (atDig l)) ∧ w' = w := by
  have c0 := h_cell h 0 rfl
  clear h
  cases l with
  | nil =>
    have e0 := emp_yes
    go_enter Tryz.func72, Tryz.ntmps72
    go_wp2_with fail
    go_ret
    exact ⟨rfl, rfl⟩
  | cons c r =>
    have e0 := emp_no c r
    have e1 := bs_pos c r
    have hd : Calls Tryz.prog 78 #[.int .u8 ((bs (c :: r))[0].toNat : Int)] w fun e w' => e = .returned (.bool (isDec c)) ∧ w' = w := isDigit_c c w
    go_enter Tryz.func72, Tryz.ntmps72
    go_wp2_with (go_at_call 78; refine hd.mono ?_; rintro e w1 ⟨rfl, rfl⟩)
    go_ret
    exact ⟨rfl, rfl⟩
end
end Go.Proofs.YtlekfdkahlobiaaGreat.Re

namespace Go.Proofs.YtlekfdkahlobiaaGreat.Re
open Go.Proofs.YtlekfdkahlobiaaGreat.Tr
open Go.RowKit

/-- A number's digits, one by one. -/
def numG : List UInt8 → Int → Option (Int × List UInt8)
  | [], n => some (n, [])
  | c :: r, n => if isDec c = true then (if 255 < 10 * n + ((c.toNat : Int) - 48) then none else numG r (10 * n + ((c.toNat : Int) - 48))) else some (n, c :: r)
def numS (l : List UInt8) : Option (Int × List UInt8) := if atDig l = true then numG l 0 else none
theorem dec_in {c : UInt8} (h : isDec c = true) : 48 ≤ (c.toNat : Int) ∧ (c.toNat : Int) ≤ 57 := by
  unfold isDec at h
  rw [decide_eq_true_eq] at h
  omega
theorem numG_rd : ∀ (l : List UInt8) (n : Int), 0 ≤ n → n ≤ 255 → numG l n = if (rd 10 255 (l.takeWhile isDec) n).2 = true then some ((rd 10 255 (l.takeWhile isDec) n).1, l.drop (l.takeWhile isDec).length) else none
  | [], n, _, _ => by rw [numG]; rfl
  | c :: r, n, h0, h1 => by
    rw [numG, List.takeWhile_cons]
    by_cases hd : isDec c = true
    · have hb := dec_in hd
      rw [if_pos hd, if_pos hd, rd]
      by_cases hx : 255 < 10 * n + ((c.toNat : Int) - 48)
      · have hy : (c.toNat : Int) < 48 ∨ 10 + 48 ≤ (c.toNat : Int) ∨ 255 < (c.toNat : Int) - 48 ∨ (255 - ((c.toNat : Int) - 48)) / 10 < n := by omega
        rw [if_pos hx, if_pos hy]; rfl
      · have hy : ¬ ((c.toNat : Int) < 48 ∨ 10 + 48 ≤ (c.toNat : Int) ∨ 255 < (c.toNat : Int) - 48 ∨ (255 - ((c.toNat : Int) - 48)) / 10 < n) := by omega
        rw [if_neg hx, if_neg hy, numG_rd r _ (by omega) (by omega), show n * 10 + ((c.toNat : Int) - 48) = 10 * n + ((c.toNat : Int) - 48) by omega]
        rfl
    · rw [if_neg hd, if_neg hd]; rfl
theorem numS_rd (l : List UInt8) : numS l = if (rdAll 10 255 (l.takeWhile isDec)).2 = true then some ((rdAll 10 255 (l.takeWhile isDec)).1, l.drop (l.takeWhile isDec).length) else none := by
  unfold numS rdAll
  cases l with
  | nil => rfl
  | cons c r =>
    by_cases hd : isDec c = true
    · rw [if_pos (show atDig (c :: r) = true from hd), numG_rd _ _ (by omega) (by omega)]
      have : ¬ ((c :: r).takeWhile isDec).length = 0 := by rw [List.takeWhile_cons, if_pos hd]; simp
      rw [if_neg this]
    · rw [if_neg (show ¬ atDig (c :: r) = true from hd)]
      have : ((c :: r).takeWhile isDec).length = 0 := by rw [List.takeWhile_cons, if_neg hd]; rfl
      rw [if_pos this]; rfl
theorem numG_in : ∀ (l : List UInt8) (n : Int) (q : Int × List UInt8), 0 ≤ n → n ≤ 255 → numG l n = some q → 0 ≤ q.1 ∧ q.1 ≤ 255
  | [], n, q, h0, h1, h => by rw [numG] at h; cases h; exact ⟨h0, h1⟩
  | c :: r, n, q, h0, h1, h => by
    rw [numG] at h
    split at h
    · rename_i hd
      have hb := dec_in hd
      split at h
      · cases h
      · exact numG_in r _ q (by omega) (by omega) h
    · cases h; exact ⟨h0, h1⟩
/-- What is left of the text, as it stands in memory. -/
def leftW (w : World) (rb : Nat) : Nat := match w.cell? ⟨rb, 0, none⟩ with | some (.string s) => s.size | _ => 0
section
variable {w : World} {rb : Nat} {l : List UInt8} {ext fold cl : Bool} {last depth made : Int} {pv ov : Value}
theorem Rd.leftW (h : Rd w rb l ext fold last depth cl pv ov made) : leftW w rb = l.length := by
  have c0 := h_cell h 0 (v := .string (bs l)) rfl
  unfold Re.leftW
  rw [c0]
  rfl
/-- What a reading of the text leaves: it gives up, or goes on behind what was read. -/
def LO {α : Type} (rb : Nat) (ext fold : Bool) (last depth : Int) (cl : Bool) (pv ov : Value) (made : Int) (w : World) (V : α → Value) (o : Option (α × List UInt8)) (e : Ending) (w' : World) : Prop :=
  Bar rb w w' ∧ match o with
    | none => e = .panicked gaveUp
    | some q => e = .returned (V q.1) ∧ Rd w' rb q.2 ext fold last depth cl pv ov made
set_option maxHeartbeats 2000000 in
set_option maxRecDepth 100000 in
theorem number_c (h : Rd w rb l ext fold last depth cl pv ov made) : Calls Tryz.prog 70 #[ptr rb] w (LO rb ext fold last depth cl pv ov made w (.int .i64) (numS l)) := by
  have hd0 := isAtDigit_c h
  have hg := giveUp_c w
  by_cases hd : atDig l = true
  · rw [hd] at hd0
    have HE : Hid (numS l = numG l 0) := if_pos hd
    have HR := Lib.hid h
    clear h hg hd
    go_enter Tryz.func70, Tryz.ntmps70
    go_wp2_with (go_at_call 72; refine hd0.mono ?_; rintro e w1 ⟨rfl, hw⟩; rw [hw]; clear hw w1)
    clear hd0
    go_loopw [3] (fun vn wr => ∃ (n : Int) (l' : List UInt8), vn = .int .i64 n ∧ (0 ≤ n ∧ n ≤ 255) ∧ Hid (numS l = numG l' n ∧ Rd wr rb l' ext fold last depth cl pv ov made ∧ Bar rb w wr)) (fun _ wr => leftW wr rb)
    case atStart => exact ⟨0, l, rfl, ⟨by omega, by omega⟩, (show _ ∧ _ ∧ _ from ⟨HE.out, HR.out, Bar.refl _ _⟩)⟩
    case round =>
      obtain ⟨n, l', rfl, ⟨hn0, hn1⟩, HI⟩ := hrel
      clear HE HR
      have hdi := isAtDigit_c HI.out.2.1
      by_cases hd : atDig l' = true
      · rw [hd] at hdi
        cases l' with
        | nil => cases hd
        | cons c r =>
          have hb := dec_in hd
          have ht := take_c HI.out.2.1
          have hgu := giveUp_c (wr.setCell ⟨rb, 0, none⟩ (.string (bs r)))
          have w1 : IntKind.i64.wrap (10 * n) = 10 * n := IntWalk.i64_in _ (by omega)
          have w2 : IntKind.u8.wrap ((c.toNat : Int) - 48) = (c.toNat : Int) - 48 := IntWalk.u8_in _ (by omega)
          have w3 : IntKind.i64.wrap ((c.toNat : Int) - 48) = (c.toNat : Int) - 48 := IntWalk.i64_in _ (by omega)
          have w4 : IntKind.i64.wrap (10 * n + ((c.toNat : Int) - 48)) = 10 * n + ((c.toNat : Int) - 48) := IntWalk.i64_in _ (by omega)
          have HB : Hid (Bar rb w (wr.setCell ⟨rb, 0, none⟩ (.string (bs r)))) := HI.out.2.2.trans (Bar.set _ _ _ _)
          have HRn : Hid (Rd (wr.setCell ⟨rb, 0, none⟩ (.string (bs r))) rb r ext fold last depth cl pv ov made) := HI.out.2.1.left r
          have HL : Hid (leftW wr rb = r.length + 1) := HI.out.2.1.leftW
          have HN : Hid (numS l = if 255 < 10 * n + ((c.toNat : Int) - 48) then none else numG r (10 * n + ((c.toNat : Int) - 48))) := by
            show _ = _
            rw [HI.out.1, numG, if_pos (show isDec c = true from hd)]
          clear hd HI
          by_cases hx : 255 < 10 * n + ((c.toNat : Int) - 48)
          · have HX : Hid (numS l = none) := by show _ = _; rw [HN.out, if_pos hx]
            clear HN
            go_wp2_with (first
              | (go_at_call 72; refine hdi.mono ?_; rintro e w1 ⟨rfl, hw⟩; rw [hw]; clear hw w1)
              | (go_at_call 48; refine ht.mono ?_; rintro e w1 ⟨rfl, hw⟩; rw [hw]; clear hw w1)
              | (go_at_call 38; refine hgu.mono ?_; rintro e w1 ⟨rfl, hw⟩; rw [hw]; clear hw w1))
            exact ⟨rfl, HB.out, by rw [HX.out]⟩
          · have HX : Hid (numS l = numG r (10 * n + ((c.toNat : Int) - 48))) := by show _ = _; rw [HN.out, if_neg hx]
            clear HN
            go_wp2_with (first
              | (go_at_call 72; refine hdi.mono ?_; rintro e w1 ⟨rfl, hw⟩; rw [hw]; clear hw w1)
              | (go_at_call 48; refine ht.mono ?_; rintro e w1 ⟨rfl, hw⟩; rw [hw]; clear hw w1)
              | (go_at_call 38; refine hgu.mono ?_; rintro e w1 ⟨rfl, hw⟩; rw [hw]; clear hw w1))
            refine ⟨⟨10 * n + ((c.toNat : Int) - 48), r, rfl, ⟨by omega, by omega⟩, (show _ ∧ _ ∧ _ from ⟨HX.out, HRn.out, HB.out⟩)⟩, ?_⟩
            rw [HRn.out.leftW, HL.out]
            omega
      · have hd' : atDig l' = false := by simpa using hd
        rw [hd'] at hdi
        have HX : Hid (numS l = some (n, l')) := by
          show _ = _
          rw [HI.out.1]
          cases l' with
          | nil => rfl
          | cons c r => rw [numG, if_neg (show ¬ isDec c = true from hd)]
        have HY : Hid (Rd wr rb l' ext fold last depth cl pv ov made ∧ Bar rb w wr) := HI.out.2
        clear HI hd hd'
        go_wp2_with (go_at_call 72; refine hdi.mono ?_; rintro e w1 ⟨rfl, hw⟩; rw [hw]; clear hw w1)
        go_ret
        exact ⟨HY.out.2, by rw [HX.out]; exact ⟨rfl, HY.out.1⟩⟩
  · have hd' : atDig l = false := by simpa using hd
    rw [hd'] at hd0
    have HE : Hid (numS l = none) := if_neg hd
    clear h hd hd'
    go_enter Tryz.func70, Tryz.ntmps70
    go_wp2_with (first
      | (go_at_call 72; refine hd0.mono ?_; rintro e w1 ⟨rfl, hw⟩; rw [hw]; clear hw w1)
      | (go_at_call 38; refine hg.mono ?_; rintro e w1 ⟨rfl, hw⟩; rw [hw]; clear hw w1))
    exact ⟨rfl, Bar.refl _ _, by rw [HE.out]⟩
end
end Go.Proofs.YtlekfdkahlobiaaGreat.Re
