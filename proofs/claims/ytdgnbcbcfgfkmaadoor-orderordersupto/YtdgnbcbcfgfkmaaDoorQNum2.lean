/- A number's sign and digits, by the reference. -/
import Derived.Test.YtdgnbcbcfgfkmaaDoorQInner
namespace Go.Proofs.YtdgnbcbcfgfkmaaDoor
open Go.RowKit

def skip0 (s : List UInt8) : Nat := (s.takeWhile is0).length
theorem dropWhile_drop {α : Type} (p : α → Bool) : ∀ l : List α, l.dropWhile p = l.drop (l.takeWhile p).length
  | [] => rfl
  | a :: l => by
    rw [List.dropWhile_cons, List.takeWhile_cons]
    split
    · rw [List.length_cons, List.drop_succ_cons]; exact dropWhile_drop p l
    · rfl
theorem takeWhile_take {α : Type} (p : α → Bool) : ∀ l : List α, l.takeWhile p = l.take (l.takeWhile p).length
  | [] => rfl
  | a :: l => by
    rw [List.takeWhile_cons]
    split
    · rw [List.length_cons, List.take_succ_cons, ← takeWhile_take p l]
    · rfl
/-- Where a number's digits begin. -/
def numI2 (d : List UInt8) : Nat := skipB d + (if (d.drop (skipB d)).head? = some 45 then 1 else 0)
def numI3 (d : List UInt8) : Nat := numI2 d + skip0 (d.drop (numI2 d))
theorem numD_at (d : List UInt8) : numD d = (d.drop (numI3 d)).take (dgs (d.drop (numI3 d))) := by
  unfold numD
  rw [dropWhile_drop isBl, show unminus (d.drop (d.takeWhile isBl).length) = d.drop (numI2 d) from ?_, dropWhile_drop is0, List.drop_drop, takeWhile_take isDg]
  · rfl
  · unfold unminus numI2
    show (if (d.drop (skipB d)).head? = some 45 then (d.drop (skipB d)).drop 1 else d.drop (skipB d)) = _
    split
    · rw [List.drop_drop]
    · rfl
theorem skip0_step (d : List UInt8) (k : Nat) (h : k < d.length) (hb : d[k] = 48) : k + skip0 (d.drop k) = (k + 1) + skip0 (d.drop (k + 1)) := by
  rw [List.drop_eq_getElem_cons h]
  unfold skip0
  rw [List.takeWhile_cons, if_pos (by rw [hb]; rfl), List.length_cons]; omega
theorem skip0_stop (d : List UInt8) (k : Nat) (h : k < d.length) (hb : d[k] ≠ 48) : k + skip0 (d.drop k) = k := by
  rw [List.drop_eq_getElem_cons h]
  unfold skip0
  rw [List.takeWhile_cons, if_neg (by simp [is0, hb])]; simp
theorem takeWhile_le {α : Type} (p : α → Bool) : ∀ l : List α, (l.takeWhile p).length ≤ l.length
  | [] => Nat.le_refl _
  | a :: l => by rw [List.takeWhile_cons]; split; (· simp; exact takeWhile_le p l); simp
theorem skipB_le (d : List UInt8) : skipB d ≤ d.length := takeWhile_le _ _
theorem dgs_le (d : List UInt8) : dgs d ≤ d.length := takeWhile_le _ _
theorem numI3_le (d : List UInt8) : numI3 d ≤ d.length := by
  have h1 := skipB_le d
  have h2 : numI2 d ≤ d.length := by
    unfold numI2
    by_cases h : (d.drop (skipB d)).head? = some 45
    · rw [if_pos h]
      by_cases hl : skipB d < d.length
      · omega
      · rw [List.drop_eq_nil_of_le (by omega)] at h; simp at h
    · rw [if_neg h]; omega
  have h3 : skip0 (d.drop (numI2 d)) ≤ (d.drop (numI2 d)).length := takeWhile_le _ _
  unfold numI3
  rw [List.length_drop] at h3
  omega
theorem by_cut {w : World} {b off cap i j : Nat} {d : List UInt8} (hij : i ≤ j) (hj : j ≤ d.length) (hlc : d.length ≤ cap) (hcap : cap ≤ 9223372036854775807) (hb : b < w.heap.size) (hc : ∀ j (hj : j < d.length), w.cell? ⟨b, off + j, none⟩ = some (.int .u8 ((d[j]).toNat : Int))) : ByAt w (.slice (some ⟨b, off + i, none⟩) (j - i) (cap - i)) ((d.take j).drop i) := by
  have hl : ((d.take j).drop i).length = j - i := by rw [List.length_drop, List.length_take]; omega
  refine .inr ⟨b, off + i, cap - i, by rw [hl], ⟨by rw [hl]; omega, by omega⟩, hb, fun k hk => ?_⟩
  rw [hl] at hk
  rw [Nat.add_assoc, hc (i + k) (by omega)]
  have : ((d.take j).drop i)[k]? = some d[i + k] := by
    rw [List.getElem?_drop, List.getElem?_take, if_pos (by omega), List.getElem?_eq_getElem (by omega)]
  rw [this]; rfl
theorem by_cut0 {w : World} {b off : Nat} (hb : b < w.heap.size) : ByAt w (.slice (some ⟨b, off, none⟩) 0 0) [] := .inr ⟨b, off, 0, rfl, by simp, hb, fun j hj => by simp at hj⟩

theorem num_fin (d : List UInt8) (k m : Nat) (ls : Bool) (hl : decide ((d.dropWhile isBl).head? = some 45) = ls) (h3 : numI3 d = k) (hm : dgs (d.drop k) = m) : Ending.returned (.tuple #[.bool (ls && decide (0 < m)), .string ⟨((d.drop k).take m).toArray⟩]) = .returned (.tuple #[.bool (numN d), .string ⟨(numD d).toArray⟩]) := by
  have e : numD d = (d.drop k).take m := by rw [numD_at, h3, hm]
  have hle : m ≤ (d.drop k).length := by rw [← hm]; exact dgs_le _
  have e2 : numN d = (ls && decide (0 < m)) := by
    unfold numN
    rw [hl, e]
    congr 1
    rw [Bool.eq_iff_iff]
    simp
    constructor
    · intro h; omega
    · intro h; rw [List.length_drop] at hle; omega
  rw [e, e2]
set_option maxHeartbeats 4000000 in
set_option maxRecDepth 100000 in
theorem number_s (b off cap : Nat) (d : List UInt8) (w : World) (hd : d.length ≤ 2097152) (hlc : d.length ≤ cap) (hcap : cap ≤ 9223372036854775807) (hb : b < w.heap.size) (hc : ∀ j (hj : j < d.length), w.cell? ⟨b, off + j, none⟩ = some (.int .u8 ((d[j]).toNat : Int))) :
    Calls Tryd.prog 44 #[.slice (some ⟨b, off, none⟩) d.length cap] w fun e w' => e = .returned (.tuple #[.bool (numN d), .string ⟨(numD d).toArray⟩]) ∧ Below w.heap.size w w' := by
  have HC := Lib.hid hc
  clear hc
  generalize hn : d.length = n at hd hlc ⊢
  have HN := Lib.hid hn
  clear hn
  go_enter Tryd.func44, Tryd.ntmps44
  go_wp2_with fail
  go_loop [4] (fun i => ∃ k : Nat, k ≤ n ∧ i = .int .i64 k ∧ Hid (skipB d = k + skipB (d.drop k))) (fun i => n - (intOf i).toNat)
  case atStart => exact ⟨0, by omega, rfl, (show skipB d = 0 + skipB (d.drop 0) by rw [List.drop_zero, Nat.zero_add])⟩
  case round =>
    obtain ⟨k, hk, rfl, HI⟩ := hrel
    have hgo : (k < n ∧ ∃ h : k < d.length, isBl d[k] = true) ∨ (Hid (skipB d = k) ∧ (k < n → ∃ h : k < d.length, isBl d[k] = false)) := by
      by_cases hlt : k < n
      · have hkd : k < d.length := by rw [HN.out]; exact hlt
        cases hbl : isBl d[k] with
        | true => exact .inl ⟨hlt, hkd, hbl⟩
        | false => exact .inr ⟨HI.out.trans (skipB_stop d k hkd hbl), fun _ => ⟨hkd, hbl⟩⟩
      · exact .inr ⟨by show _ = _; rw [HI.out, List.drop_eq_nil_of_le (by rw [HN.out]; omega)]; rfl, fun h => absurd h hlt⟩
    rcases hgo with ⟨hlt, hkd, hbl⟩ | ⟨HS, hst⟩
    · have hcx := HC.out k hkd
      have HJ : Hid (skipB d = (k + 1) + skipB (d.drop (k + 1))) := by show _ = _; rw [HI.out]; exact skipB_step d k hkd hbl
      have hy := blN_yes hbl
      clear HI hbl
      generalize d[k] = c at *
      rcases hy with n1 | ⟨n1, n2⟩
      · have e1 : ((c.toNat : Int) == 32) = true := by rw [n1]; rfl
        go_wp2_with fail
        exact ⟨⟨k + 1, by omega, by go_num, HJ⟩, by simp [intOf]; omega⟩
      · have e1 : ((c.toNat : Int) == 32) = false := by rw [n2]; rfl
        have e2 : ((c.toNat : Int) == 9) = true := by rw [n2]; rfl
        go_wp2_with fail
        exact ⟨⟨k + 1, by omega, by go_num, HJ⟩, by simp [intOf]; omega⟩
    · clear HI
      by_cases hlt : k < n
      · obtain ⟨hkd, hbl⟩ := hst hlt
        have hcx := HC.out k hkd
        obtain ⟨e1, e2⟩ := isBl_no hbl
        obtain ⟨n1, n2⟩ := blN_no hbl
        have hh : (d.drop (skipB d)).head? = some d[k] := by rw [HS.out, List.drop_eq_getElem_cons hkd]; rfl
        clear hst hbl
        by_cases hm : d[k] = 45
        · have HI2 : Hid (numI2 d = k + 1) := by show _ = _; unfold numI2; rw [hh, HS.out, if_pos (by rw [hm])]
          have n3 : (d[k]).toNat = 45 := by rw [hm]; rfl
          have HLs : Hid (decide ((d.dropWhile isBl).head? = some 45) = true) := by show _ = _; rw [dropWhile_drop]; exact decide_eq_true (by rw [show (d.takeWhile isBl).length = skipB d from rfl, hh, hm])
          clear hh hm
          generalize d[k] = c at *
          go_wp2_with fail
          go_loop [4] (fun i => ∃ k : Nat, k ≤ n ∧ i = .int .i64 k ∧ Hid (numI3 d = k + skip0 (d.drop k))) (fun i => n - (intOf i).toNat)
          case atStart => exact ⟨k + 1, by omega, by go_num, (show numI3 d = _ by unfold numI3; rw [HI2.out])⟩
          case round =>
            obtain ⟨k2, hk2, rfl, HI3⟩ := hrel
            have hgo2 : (k2 < n ∧ ∃ h : k2 < d.length, d[k2] = 48) ∨ (Hid (numI3 d = k2) ∧ (k2 < n → ∃ h : k2 < d.length, d[k2] ≠ 48)) := by
              by_cases hlt : k2 < n
              · have hkd : k2 < d.length := by rw [HN.out]; exact hlt
                by_cases hbl : d[k2] = 48
                · exact .inl ⟨hlt, hkd, hbl⟩
                · exact .inr ⟨HI3.out.trans (skip0_stop d k2 hkd hbl), fun _ => ⟨hkd, hbl⟩⟩
              · exact .inr ⟨by show _ = _; rw [HI3.out, List.drop_eq_nil_of_le (by rw [HN.out]; omega)]; rfl, fun h => absurd h hlt⟩
            rcases hgo2 with ⟨hlt2, hkd2, hbl2⟩ | ⟨HS3, hst2⟩
            · have hcx2 := HC.out k2 hkd2
              have HJ : Hid (numI3 d = (k2 + 1) + skip0 (d.drop (k2 + 1))) := by show _ = _; rw [HI3.out]; exact skip0_step d k2 hkd2 hbl2
              have m1 : (d[k2]).toNat = 48 := by rw [hbl2]; rfl
              clear HI3 hbl2
              generalize d[k2] = c2 at *
              go_wp2_with fail
              exact ⟨⟨k2 + 1, by omega, by go_num, HJ⟩, by simp [intOf]; omega⟩
            · clear HI3
              have hw : (k2 < n ∧ ∃ c : UInt8, ¬ c.toNat = 48 ∧ w.cell? ⟨b, off + k2, none⟩ = some (.int .u8 (c.toNat : Int))) ∨ ¬ k2 < n := by
                by_cases hlt : k2 < n
                · obtain ⟨hkd, h48⟩ := hst2 hlt
                  exact .inl ⟨hlt, d[k2], fun e => h48 (UInt8.toNat_inj.1 (by rw [e]; rfl)), HC.out k2 hkd⟩
                · exact .inr hlt
              clear hst2
              have hdn : d.take n = d := List.take_of_length_le (by rw [HN.out]; exact Nat.le_refl _)
              have hdg := digits_c ⟨(d.drop k2).toArray⟩ w (by rw [arr_size, List.length_drop, HN.out]; omega)
              have hml : dgs (d.drop k2) ≤ n - k2 := by have := dgs_le (d.drop k2); rw [List.length_drop, HN.out] at this; exact this
              obtain ⟨m, hm⟩ : ∃ m, dgs (d.drop k2) = m := ⟨_, rfl⟩
              have hdg' : Calls Tryd.prog 56 #[.string ⟨(d.drop k2).toArray⟩] w fun e w' => e = .returned (.int .i64 (m : Int)) ∧ w' = w := by rw [← hm]; exact hdg
              rw [hm] at hml
              have HE := Lib.hid (num_fin d k2 m true HLs.out HS3.out hm)
              have hdt : (d.take (k2 + m)).drop k2 = (d.drop k2).take m := by rw [List.drop_take]; congr 1; omega
              clear hdg hm
              by_cases hck : cap = k2
              · obtain rfl : k2 = n := by omega
                have hck2 := hck.symm
                clear hck
                subst hck2
                have hde : d.drop k2 = [] := List.drop_eq_nil_of_le (by rw [HN.out]; exact Nat.le_refl _)
                obtain rfl : m = 0 := by omega
                rw [hde] at hdg' HE
                have hcv := str_of (by_cut0 (off := off) hb)
                have hcv2 : (convert 23 9 (.slice (some ⟨b, off, none⟩) 0 0)).run Tryd.prog w.drew = .ok (.string ⟨#[]⟩) w.drew := str_of (by_cut0 (w := w.drew) (off := off) hb)
                rcases hw with ⟨hlt2, _⟩ | hlt2
                · omega
                go_wp2_with (go_at_call 56; refine hdg'.mono ?_; rintro e w' ⟨rfl, hw'⟩; rw [hw']; clear hw')
                go_region
                go_wp2_with fail
                go_ret2
                exact ⟨HE.out, (Below.refl w.heap.size w).drew⟩
              · have hcv := str_of (by_cut (w := w) (i := k2) (j := n) (by omega) (by rw [HN.out]; exact Nat.le_refl _) (by rw [HN.out]; exact hlc) hcap hb HC.out)
                rw [hdn] at hcv
                have hcv2 : (convert 23 9 (.slice (some ⟨b, off + k2, none⟩) m (cap - k2))).run Tryd.prog w.drew = .ok (.string ⟨((d.drop k2).take m).toArray⟩) w.drew := by
                  have := str_of (by_cut (w := w.drew) (i := k2) (j := k2 + m) (by omega) (by rw [HN.out]; omega) (by rw [HN.out]; exact hlc) hcap hb HC.out)
                  rw [hdt, Nat.add_sub_cancel_left] at this
                  exact this
                rcases hw with ⟨hlt2, c2, m1, hcx2⟩ | hlt2
                all_goals
                  go_wp2_with (go_at_call 56; refine hdg'.mono ?_; rintro e w' ⟨rfl, hw'⟩; rw [hw']; clear hw')
                  go_region
                  go_wp2_with fail
                  go_ret2
                  exact ⟨HE.out, (Below.refl w.heap.size w).drew⟩
        · have HI2 : Hid (numI2 d = k) := by show _ = _; unfold numI2; rw [hh, HS.out, if_neg (fun e => hm (Option.some.inj e))]; rfl
          have n3 : ¬ (d[k]).toNat = 45 := fun e => hm (UInt8.toNat_inj.1 (by rw [e]; rfl))
          have HLs : Hid (decide ((d.dropWhile isBl).head? = some 45) = false) := by show _ = _; rw [dropWhile_drop]; exact decide_eq_false (by rw [show (d.takeWhile isBl).length = skipB d from rfl, hh]; exact fun e => hm (Option.some.inj e))
          clear hh hm
          generalize d[k] = c at *
          go_wp2_with fail
          go_loop [4] (fun i => ∃ k : Nat, k ≤ n ∧ i = .int .i64 k ∧ Hid (numI3 d = k + skip0 (d.drop k))) (fun i => n - (intOf i).toNat)
          case atStart => exact ⟨k, by omega, by go_num, (show numI3 d = _ by unfold numI3; rw [HI2.out])⟩
          case round =>
            obtain ⟨k2, hk2, rfl, HI3⟩ := hrel
            have hgo2 : (k2 < n ∧ ∃ h : k2 < d.length, d[k2] = 48) ∨ (Hid (numI3 d = k2) ∧ (k2 < n → ∃ h : k2 < d.length, d[k2] ≠ 48)) := by
              by_cases hlt : k2 < n
              · have hkd : k2 < d.length := by rw [HN.out]; exact hlt
                by_cases hbl : d[k2] = 48
                · exact .inl ⟨hlt, hkd, hbl⟩
                · exact .inr ⟨HI3.out.trans (skip0_stop d k2 hkd hbl), fun _ => ⟨hkd, hbl⟩⟩
              · exact .inr ⟨by show _ = _; rw [HI3.out, List.drop_eq_nil_of_le (by rw [HN.out]; omega)]; rfl, fun h => absurd h hlt⟩
            rcases hgo2 with ⟨hlt2, hkd2, hbl2⟩ | ⟨HS3, hst2⟩
            · have hcx2 := HC.out k2 hkd2
              have HJ : Hid (numI3 d = (k2 + 1) + skip0 (d.drop (k2 + 1))) := by show _ = _; rw [HI3.out]; exact skip0_step d k2 hkd2 hbl2
              have m1 : (d[k2]).toNat = 48 := by rw [hbl2]; rfl
              clear HI3 hbl2
              generalize d[k2] = c2 at *
              go_wp2_with fail
              exact ⟨⟨k2 + 1, by omega, by go_num, HJ⟩, by simp [intOf]; omega⟩
            · clear HI3
              have hw : (k2 < n ∧ ∃ c : UInt8, ¬ c.toNat = 48 ∧ w.cell? ⟨b, off + k2, none⟩ = some (.int .u8 (c.toNat : Int))) ∨ ¬ k2 < n := by
                by_cases hlt : k2 < n
                · obtain ⟨hkd, h48⟩ := hst2 hlt
                  exact .inl ⟨hlt, d[k2], fun e => h48 (UInt8.toNat_inj.1 (by rw [e]; rfl)), HC.out k2 hkd⟩
                · exact .inr hlt
              clear hst2
              have hdn : d.take n = d := List.take_of_length_le (by rw [HN.out]; exact Nat.le_refl _)
              have hdg := digits_c ⟨(d.drop k2).toArray⟩ w (by rw [arr_size, List.length_drop, HN.out]; omega)
              have hml : dgs (d.drop k2) ≤ n - k2 := by have := dgs_le (d.drop k2); rw [List.length_drop, HN.out] at this; exact this
              obtain ⟨m, hm⟩ : ∃ m, dgs (d.drop k2) = m := ⟨_, rfl⟩
              have hdg' : Calls Tryd.prog 56 #[.string ⟨(d.drop k2).toArray⟩] w fun e w' => e = .returned (.int .i64 (m : Int)) ∧ w' = w := by rw [← hm]; exact hdg
              rw [hm] at hml
              have HE := Lib.hid (num_fin d k2 m false HLs.out HS3.out hm)
              have hdt : (d.take (k2 + m)).drop k2 = (d.drop k2).take m := by rw [List.drop_take]; congr 1; omega
              clear hdg hm
              by_cases hck : cap = k2
              · obtain rfl : k2 = n := by omega
                have hck2 := hck.symm
                clear hck
                subst hck2
                have hde : d.drop k2 = [] := List.drop_eq_nil_of_le (by rw [HN.out]; exact Nat.le_refl _)
                obtain rfl : m = 0 := by omega
                rw [hde] at hdg' HE
                have hcv := str_of (by_cut0 (off := off) hb)
                have hcv2 : (convert 23 9 (.slice (some ⟨b, off, none⟩) 0 0)).run Tryd.prog w.drew = .ok (.string ⟨#[]⟩) w.drew := str_of (by_cut0 (w := w.drew) (off := off) hb)
                rcases hw with ⟨hlt2, _⟩ | hlt2
                · omega
                go_wp2_with (go_at_call 56; refine hdg'.mono ?_; rintro e w' ⟨rfl, hw'⟩; rw [hw']; clear hw')
                go_region
                go_wp2_with fail
                go_ret2
                exact ⟨HE.out, (Below.refl w.heap.size w).drew⟩
              · have hcv := str_of (by_cut (w := w) (i := k2) (j := n) (by omega) (by rw [HN.out]; exact Nat.le_refl _) (by rw [HN.out]; exact hlc) hcap hb HC.out)
                rw [hdn] at hcv
                have hcv2 : (convert 23 9 (.slice (some ⟨b, off + k2, none⟩) m (cap - k2))).run Tryd.prog w.drew = .ok (.string ⟨((d.drop k2).take m).toArray⟩) w.drew := by
                  have := str_of (by_cut (w := w.drew) (i := k2) (j := k2 + m) (by omega) (by rw [HN.out]; omega) (by rw [HN.out]; exact hlc) hcap hb HC.out)
                  rw [hdt, Nat.add_sub_cancel_left] at this
                  exact this
                rcases hw with ⟨hlt2, c2, m1, hcx2⟩ | hlt2
                all_goals
                  go_wp2_with (go_at_call 56; refine hdg'.mono ?_; rintro e w' ⟨rfl, hw'⟩; rw [hw']; clear hw')
                  go_region
                  go_wp2_with fail
                  go_ret2
                  exact ⟨HE.out, (Below.refl w.heap.size w).drew⟩
      · have hh : (d.drop (skipB d)).head? = none := by rw [HS.out, List.drop_eq_nil_of_le (by rw [HN.out]; omega)]; rfl
        have HI2 : Hid (numI2 d = k) := by show _ = _; unfold numI2; rw [hh, HS.out, if_neg (by simp)]; rfl
        have HLs : Hid (decide ((d.dropWhile isBl).head? = some 45) = false) := by show _ = _; rw [dropWhile_drop]; exact decide_eq_false (by rw [show (d.takeWhile isBl).length = skipB d from rfl, hh]; simp)
        clear hh hst
        go_wp2_with fail
        go_loop [4] (fun i => ∃ k : Nat, k ≤ n ∧ i = .int .i64 k ∧ Hid (numI3 d = k + skip0 (d.drop k))) (fun i => n - (intOf i).toNat)
        case atStart => exact ⟨k, by omega, by go_num, (show numI3 d = _ by unfold numI3; rw [HI2.out])⟩
        case round =>
          obtain ⟨k2, hk2, rfl, HI3⟩ := hrel
          have hgo2 : (k2 < n ∧ ∃ h : k2 < d.length, d[k2] = 48) ∨ (Hid (numI3 d = k2) ∧ (k2 < n → ∃ h : k2 < d.length, d[k2] ≠ 48)) := by
            by_cases hlt : k2 < n
            · have hkd : k2 < d.length := by rw [HN.out]; exact hlt
              by_cases hbl : d[k2] = 48
              · exact .inl ⟨hlt, hkd, hbl⟩
              · exact .inr ⟨HI3.out.trans (skip0_stop d k2 hkd hbl), fun _ => ⟨hkd, hbl⟩⟩
            · exact .inr ⟨by show _ = _; rw [HI3.out, List.drop_eq_nil_of_le (by rw [HN.out]; omega)]; rfl, fun h => absurd h hlt⟩
          rcases hgo2 with ⟨hlt2, hkd2, hbl2⟩ | ⟨HS3, hst2⟩
          · have hcx2 := HC.out k2 hkd2
            have HJ : Hid (numI3 d = (k2 + 1) + skip0 (d.drop (k2 + 1))) := by show _ = _; rw [HI3.out]; exact skip0_step d k2 hkd2 hbl2
            have m1 : (d[k2]).toNat = 48 := by rw [hbl2]; rfl
            clear HI3 hbl2
            generalize d[k2] = c2 at *
            go_wp2_with fail
            exact ⟨⟨k2 + 1, by omega, by go_num, HJ⟩, by simp [intOf]; omega⟩
          · clear HI3
            have hw : (k2 < n ∧ ∃ c : UInt8, ¬ c.toNat = 48 ∧ w.cell? ⟨b, off + k2, none⟩ = some (.int .u8 (c.toNat : Int))) ∨ ¬ k2 < n := by
              by_cases hlt : k2 < n
              · obtain ⟨hkd, h48⟩ := hst2 hlt
                exact .inl ⟨hlt, d[k2], fun e => h48 (UInt8.toNat_inj.1 (by rw [e]; rfl)), HC.out k2 hkd⟩
              · exact .inr hlt
            clear hst2
            have hdn : d.take n = d := List.take_of_length_le (by rw [HN.out]; exact Nat.le_refl _)
            have hdg := digits_c ⟨(d.drop k2).toArray⟩ w (by rw [arr_size, List.length_drop, HN.out]; omega)
            have hml : dgs (d.drop k2) ≤ n - k2 := by have := dgs_le (d.drop k2); rw [List.length_drop, HN.out] at this; exact this
            obtain ⟨m, hm⟩ : ∃ m, dgs (d.drop k2) = m := ⟨_, rfl⟩
            have hdg' : Calls Tryd.prog 56 #[.string ⟨(d.drop k2).toArray⟩] w fun e w' => e = .returned (.int .i64 (m : Int)) ∧ w' = w := by rw [← hm]; exact hdg
            rw [hm] at hml
            have HE := Lib.hid (num_fin d k2 m false HLs.out HS3.out hm)
            have hdt : (d.take (k2 + m)).drop k2 = (d.drop k2).take m := by rw [List.drop_take]; congr 1; omega
            clear hdg hm
            by_cases hck : cap = k2
            · obtain rfl : k2 = n := by omega
              have hck2 := hck.symm
              clear hck
              subst hck2
              have hde : d.drop k2 = [] := List.drop_eq_nil_of_le (by rw [HN.out]; exact Nat.le_refl _)
              obtain rfl : m = 0 := by omega
              rw [hde] at hdg' HE
              have hcv := str_of (by_cut0 (off := off) hb)
              have hcv2 : (convert 23 9 (.slice (some ⟨b, off, none⟩) 0 0)).run Tryd.prog w.drew = .ok (.string ⟨#[]⟩) w.drew := str_of (by_cut0 (w := w.drew) (off := off) hb)
              rcases hw with ⟨hlt2, _⟩ | hlt2
              · omega
              go_wp2_with (go_at_call 56; refine hdg'.mono ?_; rintro e w' ⟨rfl, hw'⟩; rw [hw']; clear hw')
              go_region
              go_wp2_with fail
              go_ret2
              exact ⟨HE.out, (Below.refl w.heap.size w).drew⟩
            · have hcv := str_of (by_cut (w := w) (i := k2) (j := n) (by omega) (by rw [HN.out]; exact Nat.le_refl _) (by rw [HN.out]; exact hlc) hcap hb HC.out)
              rw [hdn] at hcv
              have hcv2 : (convert 23 9 (.slice (some ⟨b, off + k2, none⟩) m (cap - k2))).run Tryd.prog w.drew = .ok (.string ⟨((d.drop k2).take m).toArray⟩) w.drew := by
                have := str_of (by_cut (w := w.drew) (i := k2) (j := k2 + m) (by omega) (by rw [HN.out]; omega) (by rw [HN.out]; exact hlc) hcap hb HC.out)
                rw [hdt, Nat.add_sub_cancel_left] at this
                exact this
              rcases hw with ⟨hlt2, c2, m1, hcx2⟩ | hlt2
              all_goals
                go_wp2_with (go_at_call 56; refine hdg'.mono ?_; rintro e w' ⟨rfl, hw'⟩; rw [hw']; clear hw')
                go_region
                go_wp2_with fail
                go_ret2
                exact ⟨HE.out, (Below.refl w.heap.size w).drew⟩
end Go.Proofs.YtdgnbcbcfgfkmaaDoor
