/- The bounds of a repetition. -/
import Derived.Test.YtlekfdkahlobiaaGreatHRd3
import Derived.Test.YtlekfdkahlobiaaGreatHSt1
import Derived.Test.YtlekfdkahlobiaaGreatHSet3
namespace Go.Proofs.YtlekfdkahlobiaaGreat.Re
open Go.Proofs.YtlekfdkahlobiaaGreat.Tr
open Go.RowKit

theorem beg1_is {c : UInt8} {s : List UInt8} (h : begins [c] s = true) : ∃ t, s = c :: t := by
  rw [begins_one] at h
  cases s with
  | nil => cases h
  | cons d t => cases h; exact ⟨t, rfl⟩
/-- The bounds as they are read: a number, perhaps a comma, perhaps another number, the end. -/
theorem brace_num {d : UInt8} {sh l : List UInt8} (hd : isDec d = false) : braceS (d :: sh) l = (numS l).bind fun q =>
    if begins [44] q.2 = true then
      (if atDig (q.2.drop 1) = true then (numS (q.2.drop 1)).bind fun p => if begins (d :: sh) p.2 = true ∧ q.1 ≤ p.1 then some (q.1, p.1, p.2.drop (d :: sh).length) else none
      else if begins (d :: sh) (q.2.drop 1) = true then some (q.1, -1, (q.2.drop 1).drop (d :: sh).length) else none)
    else if begins (d :: sh) q.2 = true then some (q.1, q.1, q.2.drop (d :: sh).length) else none := by
  unfold braceS
  rw [numS_rd]
  simp only
  cases hm : (rdAll 10 255 (l.takeWhile isDec)).2 with
  | false => rfl
  | true =>
    rw [if_neg (by simp), if_pos rfl, Option.bind_some]
    generalize (rdAll 10 255 (l.takeWhile isDec)).1 = m
    generalize l.drop (l.takeWhile isDec).length = r
    simp only [begins_one]
    by_cases hc : r[0]? = some 44
    · rw [if_pos hc, if_pos hc]
      generalize r.drop 1 = t
      unfold brace2
      rw [numS_rd]
      simp only
      by_cases ha : atDig t = true
      · have hb : ¬ begins (d :: sh) t = true := by
          cases t with
          | nil => cases ha
          | cons c u =>
            intro h
            have e : d = c := by
              simp only [begins, List.isPrefixOf_cons_cons, Bool.and_eq_true, beq_iff_eq] at h
              exact h.1
            rw [← e] at ha
            rw [show isDec d = true from ha] at hd
            cases hd
        rw [if_neg hb, if_pos ha]
        cases hn : (rdAll 10 255 (t.takeWhile isDec)).2 with
        | false => rfl
        | true =>
          rw [if_pos rfl, Option.bind_some]
          simp only [true_and]
          by_cases h1 : begins (d :: sh) (t.drop (t.takeWhile isDec).length) = true
          · by_cases h2 : m ≤ (rdAll 10 255 (t.takeWhile isDec)).1
            · rw [if_pos ⟨h2, h1⟩, if_pos ⟨h1, h2⟩]
            · rw [if_neg (fun e => h2 e.1), if_neg (fun e => h2 e.2)]
          · rw [if_neg (fun e => h1 e.2), if_neg (fun e => h1 e.1)]
      · rw [if_neg ha]
        by_cases hb : begins (d :: sh) t = true
        · rw [if_pos hb, if_pos hb]
        · rw [if_neg hb, if_neg hb]
          have e : t.takeWhile isDec = [] := by
            cases t with
            | nil => rfl
            | cons c u => rw [List.takeWhile_cons, if_neg (show ¬ isDec c = true from ha)]
          rw [e]
          rfl
    · rw [if_neg hc, if_neg hc]
section
variable {w : World} {rb : Nat} {l : List UInt8} {ext fold cl : Bool} {last depth made : Int} {pv ov : Value}
theorem skip_l (t : List UInt8) (h : Rd w rb l ext fold last depth cl pv ov made) : Calls Tryz.prog 71 #[ptr rb, .string (bs t)] w fun e w' => e = .returned (.bool (begins t l)) ∧ Bar rb w w' ∧ Rd w' rb (cutL t l) ext fold last depth cl pv ov made :=
  (skip_c t h).mono fun _ _ ⟨h1, h2⟩ => ⟨h1, h2 ▸ Bar.set _ _ _ _, h2 ▸ h.left _⟩
theorem skip_yes {t : List UInt8} (hb : begins t l = true) (h : Rd w rb l ext fold last depth cl pv ov made) : Calls Tryz.prog 71 #[ptr rb, .string (bs t)] w fun e w' => e = .returned (.bool true) ∧ Bar rb w w' ∧ Rd w' rb (l.drop t.length) ext fold last depth cl pv ov made :=
  (skip_l t h).mono fun _ _ ⟨h1, h2, h3⟩ => ⟨by rw [h1, hb], h2, by unfold cutL at h3; rw [if_pos hb] at h3; exact h3⟩
theorem skip_no {t : List UInt8} (hb : begins t l = false) (h : Rd w rb l ext fold last depth cl pv ov made) : Calls Tryz.prog 71 #[ptr rb, .string (bs t)] w fun e w' => e = .returned (.bool false) ∧ Bar rb w w' ∧ Rd w' rb l ext fold last depth cl pv ov made :=
  (skip_l t h).mono fun _ _ ⟨h1, h2, h3⟩ => ⟨by rw [h1, hb], h2, by unfold cutL at h3; rw [if_neg (by rw [hb]; simp)] at h3; exact h3⟩
abbrev BO (rb : Nat) (ext fold : Bool) (last depth : Int) (cl : Bool) (pv ov : Value) (made : Int) (w : World) (o : Tm) : Ending → World → Prop :=
  LO rb ext fold last depth cl pv ov made w (fun q : Int × Int => .tuple #[.int .i64 q.1, .int .i64 q.2]) (o.map fun q => ((q.1, q.2.1), q.2.2))
theorem LO_none {rb : Nat} {ext fold : Bool} {last depth : Int} {cl : Bool} {pv ov : Value} {made : Int} {w w' : World} {o : Tm} (ho : o = none) (hB : Bar rb w w') : BO rb ext fold last depth cl pv ov made w o (.panicked gaveUp) w' := by
  rw [ho]; exact ⟨hB, rfl⟩
set_option maxHeartbeats 1000000 in
set_option maxRecDepth 100000 in
theorem bounds_0 {d : UInt8} {sh : List UInt8} (hd : isDec d = false) (hq : numS l = none) (h : Rd w rb l ext fold last depth cl pv ov made) : Calls Tryz.prog 56 #[ptr rb, .string (bs (d :: sh))] w (BO rb ext fold last depth cl pv ov made w (braceS (d :: sh) l)) := by
  have hn := number_c h
  have HZ : Hid (braceS (d :: sh) l = none) := by show _ = _; rw [brace_num hd, hq]; rfl
  rw [hq] at hn
  clear h hq
  go_enter Tryz.func56, Tryz.ntmps56
  go_wp2_with fail
  refine hn.mono ?_
  rintro e w1 ⟨hB1, rfl⟩
  exact ⟨rfl, LO_none HZ.out hB1⟩
set_option maxHeartbeats 1000000 in
set_option maxRecDepth 100000 in
theorem bounds_1 {d : UInt8} {sh : List UInt8} (hd : isDec d = false) {m : Int} {r1 : List UInt8} (hq : numS l = some (m, r1)) (hm : 0 ≤ m) (hc : begins [44] r1 = false) (he : begins (d :: sh) r1 = true) (h : Rd w rb l ext fold last depth cl pv ov made) : Calls Tryz.prog 56 #[ptr rb, .string (bs (d :: sh))] w (BO rb ext fold last depth cl pv ov made w (braceS (d :: sh) l)) := by
  have hn := number_c h
  have HZ : Hid (braceS (d :: sh) l = some (m, m, r1.drop (d :: sh).length)) := by
    show _ = _
    rw [brace_num hd, hq, Option.bind_some]
    simp only
    rw [if_neg (by rw [hc]; simp), if_pos he]
  rw [hq] at hn
  have g1 : decide (m = -1) = false := decide_eq_false (by omega)
  have g2 : ¬ m < m := by omega
  clear h hq
  go_enter Tryz.func56, Tryz.ntmps56
  go_wp2_with fail
  refine hn.mono ?_
  rintro e w1 ⟨hB1, rfl, hR1⟩; have HB1 := Lib.hid hB1; have HR1 := Lib.hid hR1; clear hB1 hR1
  go_wp2_with fail
  refine (skip_no hc HR1.out).mono ?_
  rintro e w2 ⟨rfl, hB2, hR2⟩; have HB2 := Lib.hid hB2; have HR2 := Lib.hid hR2; clear hB2 hR2
  go_wp2_with fail
  refine (skip_yes he HR2.out).mono ?_
  rintro e w3 ⟨rfl, hB3, hR3⟩; have HB3 := Lib.hid hB3; have HR3 := Lib.hid hR3; clear hB3 hR3
  go_wp2_with fail
  go_ret2
  refine ⟨((HB1.out.trans HB2.out).trans HB3.out), ?_⟩
  rw [HZ.out]
  exact ⟨rfl, HR3.out⟩
set_option maxHeartbeats 1000000 in
set_option maxRecDepth 100000 in
theorem bounds_2 {d : UInt8} {sh : List UInt8} (hd : isDec d = false) {m : Int} {r1 : List UInt8} (hq : numS l = some (m, r1)) (_hm : 0 ≤ m) (hc : begins [44] r1 = false) (he : begins (d :: sh) r1 = false) (h : Rd w rb l ext fold last depth cl pv ov made) : Calls Tryz.prog 56 #[ptr rb, .string (bs (d :: sh))] w (BO rb ext fold last depth cl pv ov made w (braceS (d :: sh) l)) := by
  have hn := number_c h
  have HZ : Hid (braceS (d :: sh) l = none) := by
    show _ = _
    rw [brace_num hd, hq, Option.bind_some]
    simp only
    rw [if_neg (by rw [hc]; simp), if_neg (by rw [he]; simp)]
  rw [hq] at hn
  clear h hq
  go_enter Tryz.func56, Tryz.ntmps56
  go_wp2_with fail
  refine hn.mono ?_
  rintro e w1 ⟨hB1, rfl, hR1⟩; have HB1 := Lib.hid hB1; have HR1 := Lib.hid hR1; clear hB1 hR1
  go_wp2_with fail
  refine (skip_no hc HR1.out).mono ?_
  rintro e w2 ⟨rfl, hB2, hR2⟩; have HB2 := Lib.hid hB2; have HR2 := Lib.hid hR2; clear hB2 hR2
  go_wp2_with fail
  refine (skip_no he HR2.out).mono ?_
  rintro e w3 ⟨rfl, hB3, hR3⟩; have HB3 := Lib.hid hB3; have HR3 := Lib.hid hR3; clear hB3 hR3
  go_wp2_with fail
  refine (giveUp_c _).mono ?_
  rintro e w0 ⟨rfl, hw⟩; rw [hw]; clear hw w0
  exact ⟨rfl, LO_none HZ.out ((HB1.out.trans HB2.out).trans HB3.out)⟩
set_option maxHeartbeats 1000000 in
set_option maxRecDepth 100000 in
theorem bounds_3 {d : UInt8} {sh : List UInt8} (hd : isDec d = false) {m : Int} {r1 : List UInt8} (hq : numS l = some (m, r1)) (_hm : 0 ≤ m) (hc : begins [44] r1 = true) (ha : atDig (r1.drop 1) = false) (he : begins (d :: sh) (r1.drop 1) = true) (h : Rd w rb l ext fold last depth cl pv ov made) : Calls Tryz.prog 56 #[ptr rb, .string (bs (d :: sh))] w (BO rb ext fold last depth cl pv ov made w (braceS (d :: sh) l)) := by
  have hn := number_c h
  have HZ : Hid (braceS (d :: sh) l = some (m, -1, (r1.drop 1).drop (d :: sh).length)) := by
    show _ = _
    rw [brace_num hd, hq, Option.bind_some]
    simp only
    rw [if_pos hc, if_neg (by rw [ha]; simp), if_pos he]
  rw [hq] at hn
  have hdg : ∀ u, Rd u rb (r1.drop 1) ext fold last depth cl pv ov made → Calls Tryz.prog 72 #[ptr rb] u fun e w' => e = .returned (.bool false) ∧ w' = u := fun u hu => ha ▸ isAtDigit_c hu
  clear h hq
  go_enter Tryz.func56, Tryz.ntmps56
  go_wp2_with fail
  refine hn.mono ?_
  rintro e w1 ⟨hB1, rfl, hR1⟩; have HB1 := Lib.hid hB1; have HR1 := Lib.hid hR1; clear hB1 hR1
  go_wp2_with fail
  refine (skip_yes hc HR1.out).mono ?_
  rintro e w2 ⟨rfl, hB2, hR2⟩; have HB2 := Lib.hid hB2; have HR2 := Lib.hid hR2; clear hB2 hR2
  go_wp2_with fail
  refine (hdg _ HR2.out).mono ?_
  rintro e w0 ⟨rfl, hw⟩; rw [hw]; clear hw w0
  go_wp2_with fail
  refine (skip_yes he HR2.out).mono ?_
  rintro e w3 ⟨rfl, hB3, hR3⟩; have HB3 := Lib.hid hB3; have HR3 := Lib.hid hR3; clear hB3 hR3
  go_wp2_with fail
  go_ret2
  refine ⟨((HB1.out.trans HB2.out).trans HB3.out), ?_⟩
  rw [HZ.out]
  exact ⟨rfl, HR3.out⟩
set_option maxHeartbeats 1000000 in
set_option maxRecDepth 100000 in
theorem bounds_4 {d : UInt8} {sh : List UInt8} (hd : isDec d = false) {m : Int} {r1 : List UInt8} (hq : numS l = some (m, r1)) (_hm : 0 ≤ m) (hc : begins [44] r1 = true) (ha : atDig (r1.drop 1) = false) (he : begins (d :: sh) (r1.drop 1) = false) (h : Rd w rb l ext fold last depth cl pv ov made) : Calls Tryz.prog 56 #[ptr rb, .string (bs (d :: sh))] w (BO rb ext fold last depth cl pv ov made w (braceS (d :: sh) l)) := by
  have hn := number_c h
  have HZ : Hid (braceS (d :: sh) l = none) := by
    show _ = _
    rw [brace_num hd, hq, Option.bind_some]
    simp only
    rw [if_pos hc, if_neg (by rw [ha]; simp), if_neg (by rw [he]; simp)]
  rw [hq] at hn
  have hdg : ∀ u, Rd u rb (r1.drop 1) ext fold last depth cl pv ov made → Calls Tryz.prog 72 #[ptr rb] u fun e w' => e = .returned (.bool false) ∧ w' = u := fun u hu => ha ▸ isAtDigit_c hu
  clear h hq
  go_enter Tryz.func56, Tryz.ntmps56
  go_wp2_with fail
  refine hn.mono ?_
  rintro e w1 ⟨hB1, rfl, hR1⟩; have HB1 := Lib.hid hB1; have HR1 := Lib.hid hR1; clear hB1 hR1
  go_wp2_with fail
  refine (skip_yes hc HR1.out).mono ?_
  rintro e w2 ⟨rfl, hB2, hR2⟩; have HB2 := Lib.hid hB2; have HR2 := Lib.hid hR2; clear hB2 hR2
  go_wp2_with fail
  refine (hdg _ HR2.out).mono ?_
  rintro e w0 ⟨rfl, hw⟩; rw [hw]; clear hw w0
  go_wp2_with fail
  refine (skip_no he HR2.out).mono ?_
  rintro e w3 ⟨rfl, hB3, hR3⟩; have HB3 := Lib.hid hB3; have HR3 := Lib.hid hR3; clear hB3 hR3
  go_wp2_with fail
  refine (giveUp_c _).mono ?_
  rintro e w0 ⟨rfl, hw⟩; rw [hw]; clear hw w0
  exact ⟨rfl, LO_none HZ.out ((HB1.out.trans HB2.out).trans HB3.out)⟩
set_option maxHeartbeats 1000000 in
set_option maxRecDepth 100000 in
theorem bounds_5 {d : UInt8} {sh : List UInt8} (hd : isDec d = false) {m : Int} {r1 : List UInt8} (hq : numS l = some (m, r1)) (_hm : 0 ≤ m) (hc : begins [44] r1 = true) (ha : atDig (r1.drop 1) = true) (hp : numS (r1.drop 1) = none) (h : Rd w rb l ext fold last depth cl pv ov made) : Calls Tryz.prog 56 #[ptr rb, .string (bs (d :: sh))] w (BO rb ext fold last depth cl pv ov made w (braceS (d :: sh) l)) := by
  have hn := number_c h
  have HZ : Hid (braceS (d :: sh) l = none) := by
    show _ = _
    rw [brace_num hd, hq, Option.bind_some]
    simp only
    rw [if_pos hc, if_pos ha, hp]; rfl
  rw [hq] at hn
  have hdg : ∀ u, Rd u rb (r1.drop 1) ext fold last depth cl pv ov made → Calls Tryz.prog 72 #[ptr rb] u fun e w' => e = .returned (.bool true) ∧ w' = u := fun u hu => ha ▸ isAtDigit_c hu
  have hn2 : ∀ u, Rd u rb (r1.drop 1) ext fold last depth cl pv ov made → Calls Tryz.prog 70 #[ptr rb] u (LO rb ext fold last depth cl pv ov made u (.int .i64) none) := fun u hu => hp ▸ number_c hu
  clear h hq
  go_enter Tryz.func56, Tryz.ntmps56
  go_wp2_with fail
  refine hn.mono ?_
  rintro e w1 ⟨hB1, rfl, hR1⟩; have HB1 := Lib.hid hB1; have HR1 := Lib.hid hR1; clear hB1 hR1
  go_wp2_with fail
  refine (skip_yes hc HR1.out).mono ?_
  rintro e w2 ⟨rfl, hB2, hR2⟩; have HB2 := Lib.hid hB2; have HR2 := Lib.hid hR2; clear hB2 hR2
  go_wp2_with fail
  refine (hdg _ HR2.out).mono ?_
  rintro e w0 ⟨rfl, hw⟩; rw [hw]; clear hw w0
  go_wp2_with fail
  refine (hn2 _ HR2.out).mono ?_
  rintro e w3 ⟨hB3, rfl⟩
  exact ⟨rfl, LO_none HZ.out ((HB1.out.trans HB2.out).trans hB3)⟩
set_option maxHeartbeats 1000000 in
set_option maxRecDepth 100000 in
theorem bounds_6 {d : UInt8} {sh : List UInt8} (hd : isDec d = false) {m : Int} {r1 : List UInt8} (hq : numS l = some (m, r1)) (_hm : 0 ≤ m) {n : Int} {r2 : List UInt8} (hc : begins [44] r1 = true) (ha : atDig (r1.drop 1) = true) (hp : numS (r1.drop 1) = some (n, r2)) (_hn0 : 0 ≤ n) (he : begins (d :: sh) r2 = false) (h : Rd w rb l ext fold last depth cl pv ov made) : Calls Tryz.prog 56 #[ptr rb, .string (bs (d :: sh))] w (BO rb ext fold last depth cl pv ov made w (braceS (d :: sh) l)) := by
  have hn := number_c h
  have HZ : Hid (braceS (d :: sh) l = none) := by
    show _ = _
    rw [brace_num hd, hq, Option.bind_some]
    simp only
    rw [if_pos hc, if_pos ha, hp, Option.bind_some, if_neg (by rw [he]; simp)]
  rw [hq] at hn
  have hdg : ∀ u, Rd u rb (r1.drop 1) ext fold last depth cl pv ov made → Calls Tryz.prog 72 #[ptr rb] u fun e w' => e = .returned (.bool true) ∧ w' = u := fun u hu => ha ▸ isAtDigit_c hu
  have hn2 : ∀ u, Rd u rb (r1.drop 1) ext fold last depth cl pv ov made → Calls Tryz.prog 70 #[ptr rb] u (LO rb ext fold last depth cl pv ov made u (.int .i64) (some (n, r2))) := fun u hu => hp ▸ number_c hu
  clear h hq
  go_enter Tryz.func56, Tryz.ntmps56
  go_wp2_with fail
  refine hn.mono ?_
  rintro e w1 ⟨hB1, rfl, hR1⟩; have HB1 := Lib.hid hB1; have HR1 := Lib.hid hR1; clear hB1 hR1
  go_wp2_with fail
  refine (skip_yes hc HR1.out).mono ?_
  rintro e w2 ⟨rfl, hB2, hR2⟩; have HB2 := Lib.hid hB2; have HR2 := Lib.hid hR2; clear hB2 hR2
  go_wp2_with fail
  refine (hdg _ HR2.out).mono ?_
  rintro e w0 ⟨rfl, hw⟩; rw [hw]; clear hw w0
  go_wp2_with fail
  refine (hn2 _ HR2.out).mono ?_
  rintro e w3 ⟨hB3, rfl, hR3⟩; have HB3 := Lib.hid hB3; have HR3 := Lib.hid hR3; clear hB3 hR3
  go_wp2_with fail
  refine (skip_no he HR3.out).mono ?_
  rintro e w4 ⟨rfl, hB4, hR4⟩; have HB4 := Lib.hid hB4; have HR4 := Lib.hid hR4; clear hB4 hR4
  go_wp2_with fail
  refine (giveUp_c _).mono ?_
  rintro e w0 ⟨rfl, hw⟩; rw [hw]; clear hw w0
  exact ⟨rfl, LO_none HZ.out (((HB1.out.trans HB2.out).trans HB3.out).trans HB4.out)⟩
set_option maxHeartbeats 1000000 in
set_option maxRecDepth 100000 in
theorem bounds_7 {d : UInt8} {sh : List UInt8} (hd : isDec d = false) {m : Int} {r1 : List UInt8} (hq : numS l = some (m, r1)) (_hm : 0 ≤ m) {n : Int} {r2 : List UInt8} (hc : begins [44] r1 = true) (ha : atDig (r1.drop 1) = true) (hp : numS (r1.drop 1) = some (n, r2)) (hn0 : 0 ≤ n) (he : begins (d :: sh) r2 = true) (hx : n < m) (h : Rd w rb l ext fold last depth cl pv ov made) : Calls Tryz.prog 56 #[ptr rb, .string (bs (d :: sh))] w (BO rb ext fold last depth cl pv ov made w (braceS (d :: sh) l)) := by
  have hn := number_c h
  have HZ : Hid (braceS (d :: sh) l = none) := by
    show _ = _
    rw [brace_num hd, hq, Option.bind_some]
    simp only
    rw [if_pos hc, if_pos ha, hp, Option.bind_some, if_neg (by rintro ⟨_, e⟩; simp only at e; omega)]
  rw [hq] at hn
  have hdg : ∀ u, Rd u rb (r1.drop 1) ext fold last depth cl pv ov made → Calls Tryz.prog 72 #[ptr rb] u fun e w' => e = .returned (.bool true) ∧ w' = u := fun u hu => ha ▸ isAtDigit_c hu
  have hn2 : ∀ u, Rd u rb (r1.drop 1) ext fold last depth cl pv ov made → Calls Tryz.prog 70 #[ptr rb] u (LO rb ext fold last depth cl pv ov made u (.int .i64) (some (n, r2))) := fun u hu => hp ▸ number_c hu
  have g1 : decide (n = -1) = false := decide_eq_false (by omega)
  clear h hq
  go_enter Tryz.func56, Tryz.ntmps56
  go_wp2_with fail
  refine hn.mono ?_
  rintro e w1 ⟨hB1, rfl, hR1⟩; have HB1 := Lib.hid hB1; have HR1 := Lib.hid hR1; clear hB1 hR1
  go_wp2_with fail
  refine (skip_yes hc HR1.out).mono ?_
  rintro e w2 ⟨rfl, hB2, hR2⟩; have HB2 := Lib.hid hB2; have HR2 := Lib.hid hR2; clear hB2 hR2
  go_wp2_with fail
  refine (hdg _ HR2.out).mono ?_
  rintro e w0 ⟨rfl, hw⟩; rw [hw]; clear hw w0
  go_wp2_with fail
  refine (hn2 _ HR2.out).mono ?_
  rintro e w3 ⟨hB3, rfl, hR3⟩; have HB3 := Lib.hid hB3; have HR3 := Lib.hid hR3; clear hB3 hR3
  go_wp2_with fail
  refine (skip_yes he HR3.out).mono ?_
  rintro e w4 ⟨rfl, hB4, hR4⟩; have HB4 := Lib.hid hB4; have HR4 := Lib.hid hR4; clear hB4 hR4
  go_wp2_with fail
  refine (giveUp_c _).mono ?_
  rintro e w0 ⟨rfl, hw⟩; rw [hw]; clear hw w0
  exact ⟨rfl, LO_none HZ.out (((HB1.out.trans HB2.out).trans HB3.out).trans HB4.out)⟩
set_option maxHeartbeats 1000000 in
set_option maxRecDepth 100000 in
theorem bounds_8 {d : UInt8} {sh : List UInt8} (hd : isDec d = false) {m : Int} {r1 : List UInt8} (hq : numS l = some (m, r1)) (_hm : 0 ≤ m) {n : Int} {r2 : List UInt8} (hc : begins [44] r1 = true) (ha : atDig (r1.drop 1) = true) (hp : numS (r1.drop 1) = some (n, r2)) (hn0 : 0 ≤ n) (he : begins (d :: sh) r2 = true) (hx : ¬ n < m) (h : Rd w rb l ext fold last depth cl pv ov made) : Calls Tryz.prog 56 #[ptr rb, .string (bs (d :: sh))] w (BO rb ext fold last depth cl pv ov made w (braceS (d :: sh) l)) := by
  have hn := number_c h
  have HZ : Hid (braceS (d :: sh) l = some (m, n, r2.drop (d :: sh).length)) := by
    show _ = _
    rw [brace_num hd, hq, Option.bind_some]
    simp only
    rw [if_pos hc, if_pos ha, hp, Option.bind_some, if_pos ⟨he, by simp only; omega⟩]
  rw [hq] at hn
  have hdg : ∀ u, Rd u rb (r1.drop 1) ext fold last depth cl pv ov made → Calls Tryz.prog 72 #[ptr rb] u fun e w' => e = .returned (.bool true) ∧ w' = u := fun u hu => ha ▸ isAtDigit_c hu
  have hn2 : ∀ u, Rd u rb (r1.drop 1) ext fold last depth cl pv ov made → Calls Tryz.prog 70 #[ptr rb] u (LO rb ext fold last depth cl pv ov made u (.int .i64) (some (n, r2))) := fun u hu => hp ▸ number_c hu
  have g1 : decide (n = -1) = false := decide_eq_false (by omega)
  clear h hq
  go_enter Tryz.func56, Tryz.ntmps56
  go_wp2_with fail
  refine hn.mono ?_
  rintro e w1 ⟨hB1, rfl, hR1⟩; have HB1 := Lib.hid hB1; have HR1 := Lib.hid hR1; clear hB1 hR1
  go_wp2_with fail
  refine (skip_yes hc HR1.out).mono ?_
  rintro e w2 ⟨rfl, hB2, hR2⟩; have HB2 := Lib.hid hB2; have HR2 := Lib.hid hR2; clear hB2 hR2
  go_wp2_with fail
  refine (hdg _ HR2.out).mono ?_
  rintro e w0 ⟨rfl, hw⟩; rw [hw]; clear hw w0
  go_wp2_with fail
  refine (hn2 _ HR2.out).mono ?_
  rintro e w3 ⟨hB3, rfl, hR3⟩; have HB3 := Lib.hid hB3; have HR3 := Lib.hid hR3; clear hB3 hR3
  go_wp2_with fail
  refine (skip_yes he HR3.out).mono ?_
  rintro e w4 ⟨rfl, hB4, hR4⟩; have HB4 := Lib.hid hB4; have HR4 := Lib.hid hR4; clear hB4 hR4
  go_wp2_with fail
  go_ret2
  refine ⟨(((HB1.out.trans HB2.out).trans HB3.out).trans HB4.out), ?_⟩
  rw [HZ.out]
  exact ⟨rfl, HR4.out⟩
theorem bounds_c {d : UInt8} {sh : List UInt8} (hd : isDec d = false) (h : Rd w rb l ext fold last depth cl pv ov made) : Calls Tryz.prog 56 #[ptr rb, .string (bs (d :: sh))] w (BO rb ext fold last depth cl pv ov made w (braceS (d :: sh) l)) := by
  have inn : ∀ {l : List UInt8} {q : Int × List UInt8}, numS l = some q → 0 ≤ q.1 := by
    intro l q h
    unfold numS at h
    split at h
    · exact (numG_in _ _ _ (by omega) (by omega) h).1
    · cases h
  cases hq : numS l with
  | none => exact bounds_0 hd hq h
  | some q =>
    obtain ⟨m, r1⟩ := q
    have hm := inn hq
    cases hc : begins [44] r1 with
    | false =>
      cases he : begins (d :: sh) r1 with
      | true => exact bounds_1 hd hq hm hc he h
      | false => exact bounds_2 hd hq hm hc he h
    | true =>
      cases ha : atDig (r1.drop 1) with
      | false =>
        cases he : begins (d :: sh) (r1.drop 1) with
        | true => exact bounds_3 hd hq hm hc ha he h
        | false => exact bounds_4 hd hq hm hc ha he h
      | true =>
        cases hp : numS (r1.drop 1) with
        | none => exact bounds_5 hd hq hm hc ha hp h
        | some p =>
          obtain ⟨n, r2⟩ := p
          have hn0 := inn hp
          cases he : begins (d :: sh) r2 with
          | false => exact bounds_6 hd hq hm hc ha hp hn0 he h
          | true =>
            by_cases hx : n < m
            · exact bounds_7 hd hq hm hc ha hp hn0 he hx h
            · exact bounds_8 hd hq hm hc ha hp hn0 he hx h
end
end Go.Proofs.YtlekfdkahlobiaaGreat.Re

namespace Go.Proofs.YtlekfdkahlobiaaGreat.Re
open Go.Proofs.YtlekfdkahlobiaaGreat.Tr
open Go.RowKit

/-- No class ends in what is left. -/
def ClsN (l : List UInt8) : Prop := ∀ k, clsS (l.drop k) = none
theorem ClsN.drop {l : List UInt8} (h : ClsN l) (k : Nat) : ClsN (l.drop k) := fun j => by rw [List.drop_drop]; exact h (k + j)
/-- A byte within signs, by prefixes. -/
theorem endS_of {k c : UInt8} {t : List UInt8} : endS k (91 :: k :: c :: k :: 93 :: t) = some (c, t) := by
  unfold endS
  rw [if_pos (by simp)]
  rfl
theorem endS_no1 {k : UInt8} {l : List UInt8} (h : begins [91, k] l = false) : endS k l = none := by
  unfold endS
  rw [if_neg]
  rintro ⟨h0, h1, _⟩
  have := begins_two.2 ⟨h0, h1⟩
  rw [h] at this
  cases this
theorem endS_no2 {k c : UInt8} {r : List UInt8} (h : begins [k, 93] r = false) : endS k (91 :: k :: c :: r) = none := by
  unfold endS
  rw [if_neg]
  rintro ⟨_, _, h3, h4⟩
  have := begins_two.2 ⟨h3, h4⟩
  rw [h] at this
  cases this
theorem endS_short {k : UInt8} : endS k [91, k] = none := by
  unfold endS
  rw [if_neg]
  rintro ⟨_, _, h3, _⟩
  cases h3
section
variable {w : World} {rb : Nat} {l : List UInt8} {ext fold cl : Bool} {last depth made : Int} {pv ov : Value}
/-- What is between answers. -/
def BtO (rb : Nat) (w : World) (o : Option (UInt8 × List UInt8)) (e : Ending) (w' : World) : Prop :=
  match o with
  | some q => e = .returned (.tuple #[.int .u8 (q.1.toNat : Int), .bool true]) ∧ w' = w.setCell ⟨rb, 0, none⟩ (.string (bs q.2))
  | none => e = .returned (.tuple #[.int .u8 0, .bool false]) ∧ w' = w
set_option maxHeartbeats 1000000 in
set_option maxRecDepth 100000 in
theorem between_c (k : UInt8) (h : Rd w rb l ext fold last depth cl pv ov made) : Calls Tryz.prog 82 #[ptr rb, .string (bs [91, k]), .string (bs [k, 93])] w (BtO rb w (endS k l)) := by
  have c0 := h_cell h 0 rfl
  have z0 := h_fz h 0
  clear h
  cases hb : begins [91, k] l with
  | false =>
    have hp := cut_c l [91, k] w
    rw [hb] at hp
    have HE := Lib.hid (endS_no1 hb)
    clear hb
    unfold BtO
    rw [HE.out]
    go_enter Tryz.func82, Tryz.ntmps82
    go_wp2_with (go_at_call 77; refine hp.mono ?_; rintro e w1 ⟨rfl, hw⟩; rw [hw]; clear hw w1)
    go_ret2
    exact ⟨rfl, rfl⟩
  | true =>
    obtain ⟨t, rfl⟩ := two_is hb
    have hp : Calls Tryz.prog 77 #[.string (bs (91 :: k :: t)), .string (bs [91, k])] w fun e w' => e = .returned (.tuple #[.string (bs t), .bool true]) ∧ w' = w := by
      have := cut_c (91 :: k :: t) [91, k] w
      unfold cutL at this
      rw [if_pos hb, hb] at this
      exact this
    clear hb
    cases t with
    | nil =>
      have HE := Lib.hid (endS_short (k := k))
      have e0 := emp_yes
      unfold BtO
      rw [HE.out]
      go_enter Tryz.func82, Tryz.ntmps82
      go_wp2_with (go_at_call 77; refine hp.mono ?_; rintro e w1 ⟨rfl, hw⟩; rw [hw]; clear hw w1)
      go_ret2
      exact ⟨rfl, rfl⟩
    | cons c r =>
      have e0 := emp_no c r
      have e1 := bs_pos c r
      have e2 : (1 : Int) ≤ ((bs (c :: r)).size : Int) := by omega
      have e3 := bs_tail c r
      cases hb : begins [k, 93] r with
      | false =>
        have hp2 := cut_c r [k, 93] w
        rw [hb] at hp2
        have HE := Lib.hid (endS_no2 (k := k) (c := c) hb)
        clear hb
        unfold BtO
        rw [HE.out]
        go_enter Tryz.func82, Tryz.ntmps82
        go_wp2_with (first
          | (go_at_call 77; refine hp.mono ?_; rintro e w1 ⟨rfl, hw⟩; rw [hw]; clear hw w1 hp)
          | (go_at_call 77; refine hp2.mono ?_; rintro e w1 ⟨rfl, hw⟩; rw [hw]; clear hw w1))
        go_ret2
        exact ⟨rfl, rfl⟩
      | true =>
        obtain ⟨t, rfl⟩ := two_is hb
        have hp2 : Calls Tryz.prog 77 #[.string (bs (k :: 93 :: t)), .string (bs [k, 93])] w fun e w' => e = .returned (.tuple #[.string (bs t), .bool true]) ∧ w' = w := by
          have := cut_c (k :: 93 :: t) [k, 93] w
          unfold cutL at this
          rw [if_pos hb, hb] at this
          exact this
        have HE := Lib.hid (endS_of (k := k) (c := c) (t := t))
        clear hb
        unfold BtO
        rw [HE.out]
        go_enter Tryz.func82, Tryz.ntmps82
        go_wp2_with (first
          | (go_at_call 77; refine hp.mono ?_; rintro e w1 ⟨rfl, hw⟩; rw [hw]; clear hw w1 hp)
          | (go_at_call 77; refine hp2.mono ?_; rintro e w1 ⟨rfl, hw⟩; rw [hw]; clear hw w1))
        go_ret2
        exact ⟨rfl, rfl⟩
/-- An end of a range. -/
def endG (l : List UInt8) : Option (UInt8 × List UInt8) := if l = [] then none else some (fromS l)
set_option maxHeartbeats 1000000 in
theorem rangeEnd_c (h : Rd w rb l ext fold last depth cl pv ov made) : Calls Tryz.prog 83 #[ptr rb] w (LO rb ext fold last depth cl pv ov made w (fun c : UInt8 => .int .u8 (c.toNat : Int)) (endG l)) := by
  have hb := between_c 46 h
  cases he : endS 46 l with
  | some q =>
    have HE : Hid (endG l = some q) := by
      show _ = _
      unfold endG fromS
      rw [he, if_neg (by intro e; rw [e] at he; cases he)]
      rfl
    rw [he] at hb
    have HR := Lib.hid (h.left q.2)
    clear h he
    rw [HE.out]
    go_enter Tryz.func83, Tryz.ntmps83
    go_wp2_with (go_at_call 82; refine hb.mono ?_; rintro e w1 ⟨rfl, hw⟩; rw [hw]; clear hw w1)
    go_ret
    exact ⟨Bar.set _ _ _ _, rfl, HR.out⟩
  | none =>
    rw [he] at hb
    cases l with
    | nil =>
      have ht := take_no h
      have HE : Hid (endG [] = none) := if_pos rfl
      clear h he
      rw [HE.out]
      go_enter Tryz.func83, Tryz.ntmps83
      go_wp2_with (first
        | (go_at_call 82; refine hb.mono ?_; rintro e w1 ⟨rfl, hw⟩; rw [hw]; clear hw w1)
        | (go_at_call 48; refine ht.mono ?_; rintro e w1 ⟨rfl, hw⟩; rw [hw]; clear hw w1))
      exact ⟨rfl, Bar.refl _ _, rfl⟩
    | cons c r =>
      have ht := take_c h
      have HE : Hid (endG (c :: r) = some (c, r)) := by
        show _ = _
        unfold endG fromS
        rw [he, if_neg (by simp)]
        rfl
      have HR := Lib.hid (h.left r)
      clear h he
      rw [HE.out]
      go_enter Tryz.func83, Tryz.ntmps83
      go_wp2_with (first
        | (go_at_call 82; refine hb.mono ?_; rintro e w1 ⟨rfl, hw⟩; rw [hw]; clear hw w1)
        | (go_at_call 48; refine ht.mono ?_; rintro e w1 ⟨rfl, hw⟩; rw [hw]; clear hw w1))
      go_ret
      exact ⟨Bar.set _ _ _ _, rfl, HR.out⟩
set_option maxHeartbeats 1000000 in
theorem isAtRange_c (h : Rd w rb l ext fold last depth cl pv ov made) : Calls Tryz.prog 84 #[ptr rb] w fun e w' => e = .returned (.bool (begins [45] l && !begins [45, 93] l)) ∧ w' = w := by
  have c0 := h_cell h 0 rfl
  have h1 := hasP_c l [45] w
  have h2 := hasP_c l [45, 93] w
  clear h
  cases hb : begins [45] l with
  | false =>
    rw [hb] at h1
    go_enter Tryz.func84, Tryz.ntmps84
    go_wp2_with (go_at_call 51; refine h1.mono ?_; rintro e w1 ⟨rfl, hw⟩; rw [hw]; clear hw w1)
    go_ret
    exact ⟨rfl, rfl⟩
  | true =>
    rw [hb] at h1
    go_enter Tryz.func84, Tryz.ntmps84
    go_wp2_with (first
      | (go_at_call 51; refine h1.mono ?_; rintro e w1 ⟨rfl, hw⟩; rw [hw]; clear hw w1 h1)
      | (go_at_call 51; refine h2.mono ?_; rintro e w1 ⟨rfl, hw⟩; rw [hw]; clear hw w1))
    go_ret
    exact ⟨rfl, rfl⟩
end
end Go.Proofs.YtlekfdkahlobiaaGreat.Re

namespace Go.Proofs.YtlekfdkahlobiaaGreat.Re
open Go.Proofs.YtlekfdkahlobiaaGreat.Tr
open Go.RowKit

/-- The last branch has a piece. -/
def Top : List Fr → Prop
  | [] => False
  | f :: _ => ∃ pc x, f.2 = pc ++ [x]
theorem top_piece (x : Nd) (f : Fr) (fs : List Fr) : Top (pieceF x (f :: fs)) := ⟨f.2, x, rfl⟩
/-- The reader's whole state. -/
def RS (rb : Nat) (ext fold : Bool) (w : World) (l : List UInt8) (last : Nat) (fs : List Fr) : Prop :=
  ∃ cl pv ov made, Rd w rb l ext fold (last : Int) (fs.length : Int) cl pv ov made ∧ Bd w rb pv ov made fs ∧ (cl = true → ClsN l) ∧ fs.length + l.length ≤ 2097152 ∧ (last = 4 → Top fs)
/-- What a step of the reader leaves. -/
def RO (rb : Nat) (ext fold : Bool) (w : World) (o : Ms) (e : Ending) (w' : World) : Prop :=
  Below rb w w' ∧ match o with
    | none => e = .panicked gaveUp
    | some q => e = .returned (.tuple #[]) ∧ RS rb ext fold w' q.1 q.2.1 q.2.2
section
variable {w : World} {rb : Nat} {l : List UInt8} {ext fold cl : Bool} {last depth made : Int} {pv ov : Value}
theorem Rd.setLast (h : Rd w rb l ext fold last depth cl pv ov made) (m : Int) : Rd (w.setCell ⟨rb, 3, none⟩ (.int .i64 m)) rb l ext fold m depth cl pv ov made := by simpa using h_set h 3 (.int .i64 m)
theorem Rd.setDepth (h : Rd w rb l ext fold last depth cl pv ov made) (m : Int) : Rd (w.setCell ⟨rb, 4, none⟩ (.int .i64 m)) rb l ext fold last m cl pv ov made := by simpa using h_set h 4 (.int .i64 m)
theorem pieceF_len (x : Nd) (fs : List Fr) : (pieceF x fs).length = fs.length := by cases fs <;> rfl
theorem repF_len (m n : Int) (fs : List Fr) : (repF m n fs).length = fs.length := by cases fs <;> rfl
theorem branchF_len (fs : List Fr) : (branchF fs).length = fs.length := by cases fs <;> rfl
set_option maxHeartbeats 1000000 in
set_option maxRecDepth 100000 in
/-- An anchor. -/
theorem anchor_c {f : Fr} {fs : List Fr} (k : Nat) (hk : k < 6) (b : Nat) (last : Nat) (h : RS rb ext fold w l last (f :: fs)) : Calls Tryz.prog 50 #[ptr rb, .int .i64 (k : Int), .int .i64 (b : Int)] w (RO rb ext fold w (some (l, b, pieceF (ndK k []) (f :: fs)))) := by
  obtain ⟨cl, pv, ov, made, hR, hB, hcl, hlen, _⟩ := h
  have hrb := h_lt hR
  have HL : Hid (∀ u, Calls Tryz.prog 22 #[.int .i64 (k : Int)] u (MkO (ndK k []) u)) := fun u => leaf_c k hk u
  have HP : Hid (∀ u v, Below w.heap.size w u → NodeP u v (ndK k []) → Calls Tryz.prog 62 #[bldP rb, reV v (ndK k [])] u (BlB rb l ext fold (last : Int) ((f :: fs).length : Int) cl u (pieceF (ndK k []) (f :: fs)))) := fun u v hb hx => piece_a hx (hR.keep hb) (hB.keep (AKeep.of hb))
  have HF : Hid (∀ u pv' ov' md', Below rb w u → Rd u rb l ext fold (last : Int) ((f :: fs).length : Int) cl pv' ov' md' → Bd u rb pv' ov' md' (pieceF (ndK k []) (f :: fs)) → RO rb ext fold w (some (l, b, pieceF (ndK k []) (f :: fs))) (.returned (.tuple #[])) (u.setCell ⟨rb, 3, none⟩ (.int .i64 (b : Int)))) := fun u pv' ov' md' hb h1 h2 => ⟨hb.setCell (p := ⟨rb, 3, none⟩) (Nat.le_refl _) _, rfl, cl, pv', ov', md', by rw [pieceF_len]; exact h1.setLast b, h2.keep (AKeep.bar (Bar.set _ _ _ _) h1), hcl, by rw [pieceF_len]; exact hlen, fun _ => top_piece _ _ _⟩
  clear hR hB hcl hlen
  go_enter Tryz.func50, Tryz.ntmps50
  go_upto_region 0 with fail
  go_region_with (first
    | (go_at_call 22; refine (HL.out _).mono ?_; rintro e wl ⟨vl, rfl, hnl, hBl⟩; have hB3 := ((Below.refl w.heap.size w).drew).trans hBl; have hpc := HP.out wl vl hB3 hnl)
    | (go_at_call 62; refine hpc.mono ?_; rintro e wp ⟨rfl, pvp, ovp, mdp, hRp, hbp, hNp, hBp⟩; have k3 := h_cell hRp 3 rfl; have z3 := h_fz hRp 3; have HZ := Lib.hid (HF.out wp pvp ovp mdp ((hB3.mono (Nat.le_of_lt hrb)).trans hBp) hRp hbp); clear hRp hbp hNp hBp hB3 hpc hnl hBl))
  all_goals
    go_wp2_with fail
    go_end0
    exact HZ.out
end
end Go.Proofs.YtlekfdkahlobiaaGreat.Re
