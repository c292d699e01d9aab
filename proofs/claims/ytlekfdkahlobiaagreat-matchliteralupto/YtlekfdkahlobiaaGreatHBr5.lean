/- Brackets: a part that is a byte, or a range. -/
import Derived.Test.YtlekfdkahlobiaaGreatHBr4
namespace Go.Proofs.YtlekfdkahlobiaaGreat.Re
open Go.Proofs.YtlekfdkahlobiaaGreat.Tr
open Go.RowKit

theorem set_or (p : UInt8 → Bool) (c : UInt8) : hsetP p c.toNat true = orP p (fun d => d == c) := by
  funext d
  unfold hsetP orP
  by_cases h : d.toNat = c.toNat
  · rw [if_pos h, UInt8.toNat_inj.1 h]; simp
  · rw [if_neg h]
    have : (d == c) = false := by rw [beq_eq_false_iff_ne]; exact fun e => h (by rw [e])
    show _ = (p d || (d == c))
    rw [this, Bool.or_false]
/-- A range that is put in byte by byte. -/
def rngU (p : UInt8 → Bool) (a k : Nat) : UInt8 → Bool := fun d => p d || decide (a ≤ d.toNat ∧ d.toNat < k)
theorem rngU_0 (p : UInt8 → Bool) (a : Nat) : rngU p a a = p := by
  funext d
  unfold rngU
  rw [decide_eq_false (by omega), Bool.or_false]
theorem rngU_next {p : UInt8 → Bool} {a k : Nat} (h : a ≤ k) : hsetP (rngU p a k) k true = rngU p a (k + 1) := by
  funext d
  unfold hsetP rngU
  by_cases e : d.toNat = k
  · rw [if_pos e, decide_eq_true (by omega), Bool.or_true]
  · rw [if_neg e]
    congr 1
    rw [decide_eq_decide]
    omega
theorem rngU_end (p : UInt8 → Bool) (a b : UInt8) : rngU p a.toNat (b.toNat + 1) = orP p (fun d => decide (a ≤ d ∧ d ≤ b)) := by
  funext d
  unfold rngU orP
  congr 1
  rw [decide_eq_decide, UInt8.le_iff_toNat_le, UInt8.le_iff_toNat_le]
  omega
theorem rng_one (p : UInt8 → Bool) (a : UInt8) : orP p (fun d => decide (a ≤ d ∧ d ≤ a)) = orP p (fun d => d == a) := by
  funext d
  unfold orP
  congr 1
  rw [Bool.eq_iff_iff, decide_eq_true_eq, beq_iff_eq, UInt8.le_iff_toNat_le, UInt8.le_iff_toNat_le, ← UInt8.toNat_inj]
  omega
theorem endG_suf {l : List UInt8} {q : UInt8 × List UInt8} (hE : endG l = some q) : ∃ k, q.2 = l.drop k := by
  unfold endG at hE
  split at hE
  · cases hE
  · rw [← Option.some.inj hE]
    unfold fromS
    cases h46 : endS 46 l with
    | none => exact ⟨1, rfl⟩
    | some q => exact ⟨5, by show q.2 = _; rw [(endS_is h46).2]⟩
section
variable {w : World} {rb hb : Nat} {l : List UInt8} {p : UInt8 → Bool} {ext fold cl : Bool} {last depth made : Int} {pv ov : Value}
set_option maxHeartbeats 1000000 in
set_option maxRecDepth 100000 in
theorem part_eqs {m : Int} {q : UInt8 × List UInt8} (hq0 : clsS l = none) (hq : endS 61 l = some q) (h : Rd w rb l ext fold last depth cl pv ov made) (hcl : cl = true → ClsN l) (hm : w.cell? ⟨0, 0, none⟩ = some (.int .i64 m)) (hl : l.length ≤ 2097152) (hp : BlP w hb p) :
    Calls Tryz.prog 76 #[ptr rb, ptr hb] w (PtO rb hb p ext fold last depth pv ov made w (partG l)) := by
  have hc := class_c h hcl hm hl
  have HG : Hid (partG l = some ((fun d => d == q.1), q.2)) := by
    show _ = _
    unfold partG
    rw [hq0, hq]
  unfold ClO at hc
  rw [hq0] at hc
  rw [HG.out]
  have hsuf : q.2 = l.drop 5 := by rw [(endS_is hq).2]
  have HBt : Hid (∀ u cl1, Rd u rb l ext fold last depth cl1 pv ov made → Calls Tryz.prog 82 #[ptr rb, .string (bs [91, 61]), .string (bs [61, 93])] u fun e w' => e = .returned (.tuple #[.int .u8 (q.1.toNat : Int), .bool true]) ∧ w' = u.setCell ⟨rb, 0, none⟩ (.string (bs q.2))) := fun u cl1 hu => by
    have := between_c 61 hu
    rw [hq] at this
    exact this
  have qn := fnil_neq
  have hq8 := q.1.toNat_lt
  have hqi : (q.1.toNat : Int) < 256 := by omega
  have hqT : ((q.1.toNat : Int)).toNat = q.1.toNat := by omega
  have HF : Hid (∀ u cl1, Bar rb w u → Rd u rb l ext fold last depth cl1 pv ov made → (cl1 = true → ClsN l) → (u.setCell ⟨rb, 0, none⟩ (.string (bs q.2))).cell? ⟨hb, q.1.toNat, none⟩ = some (.bool (p (UInt8.ofNat q.1.toNat))) ∧ (u.setCell ⟨rb, 0, none⟩ (.string (bs q.2))).frozen? ⟨hb, q.1.toNat, none⟩ = false ∧ PtO rb hb p ext fold last depth pv ov made w (some ((fun d => d == q.1), q.2)) (.returned (.tuple #[])) ((u.setCell ⟨rb, 0, none⟩ (.string (bs q.2))).setCell ⟨hb, q.1.toNat, none⟩ (.bool true))) := fun u cl1 hB hR hcl1 => by
    have hR2 := hR.left q.2
    have hp1 := bl_bar (bl_bar hp h hB) hR (Bar.set rb 0 u (.string (bs q.2)))
    refine ⟨h_cell hp1 _ (bl_at _ _ hq8), h_fz hp1 _, (hB.two.trans (Bar.set _ _ _ _).two).trans (Bar2.set _ _ _), rfl, ?_, cl1, rd_set hR2 hp1 _ _, fun e => by rw [hsuf]; exact (hcl1 e).drop 5⟩
    have := bl_set hp1 q.1.toNat true
    rw [set_or] at this
    exact this
  clear h hcl hq0 hq hp hsuf
  obtain ⟨c, t⟩ := q
  go_enter Tryz.func76, Tryz.ntmps76
  go_wp2_with (first
    | (go_at_call 81; refine hc.mono ?_; rintro e w1 ⟨hB1, rfl, cl1, hR1, hcl1⟩; have hbt := HBt.out w1 cl1 hR1; obtain ⟨k0, kz, kf⟩ := HF.out w1 cl1 hB1 hR1 hcl1; have HZ := Lib.hid kf; clear kf hB1 hR1 hcl1)
    | (go_at_call 82; refine hbt.mono ?_; rintro e w2 ⟨rfl, hw⟩; rw [hw]; clear hw w2))
  refine bodyPost_ret (results_none rfl _ _ _) rfl ?_
  exact HZ.out
/-- The bytes of a range are put in: what is left of part. -/
structure RgI (rb hb : Nat) (p : UInt8 → Bool) (a k : Nat) (t : List UInt8) (ext fold : Bool) (last depth : Int) (cl : Bool) (pv ov : Value) (made : Int) (w wr : World) : Prop where
  blk : BlP wr hb (rngU p a k)
  bar : Bar2 rb hb w wr
  rd : Rd wr rb t ext fold last depth cl pv ov made
set_option maxHeartbeats 2000000 in
set_option maxRecDepth 100000 in
theorem part_rng {m : Int} (hq0 : clsS l = none) (hq : endS 61 l = none) (h : Rd w rb l ext fold last depth cl pv ov made) (hcl : cl = true → ClsN l) (hm : w.cell? ⟨0, 0, none⟩ = some (.int .i64 m)) (hl : l.length ≤ 2097152) (hp : BlP w hb p) :
    Calls Tryz.prog 76 #[ptr rb, ptr hb] w (PtO rb hb p ext fold last depth pv ov made w (partG l)) := by
  have hc := class_c h hcl hm hl
  have HG : Hid (partG l = (endG l).bind fun q => spanG q.1 q.2) := by
    show _ = _
    unfold partG
    rw [hq0, hq]
  unfold ClO at hc
  rw [hq0] at hc
  rw [HG.out]
  have HBt : Hid (∀ u cl1, Rd u rb l ext fold last depth cl1 pv ov made → Calls Tryz.prog 82 #[ptr rb, .string (bs [91, 61]), .string (bs [61, 93])] u fun e w' => e = .returned (.tuple #[.int .u8 0, .bool false]) ∧ w' = u) := fun u cl1 hu => by
    have := between_c 61 hu
    rw [hq] at this
    exact this
  have HEn : Hid (∀ u cl1, Rd u rb l ext fold last depth cl1 pv ov made → Calls Tryz.prog 83 #[ptr rb] u (LO rb ext fold last depth cl1 pv ov made u (fun c : UInt8 => .int .u8 (c.toNat : Int)) (endG l))) := fun u cl1 hu => rangeEnd_c hu
  have qn := fnil_neq
  cases hE : endG l with
  | none =>
    rw [hE] at HEn
    clear h hcl hq0 hq
    go_enter Tryz.func76, Tryz.ntmps76
    go_wp2_with (first
      | (go_at_call 81; refine hc.mono ?_; rintro e w1 ⟨hB1, rfl, cl1, hR1, hcl1⟩; have hbt := HBt.out w1 cl1 hR1; have hen := HEn.out w1 cl1 hR1; clear hR1 hcl1)
      | (go_at_call 82; refine hbt.mono ?_; rintro e w2 ⟨rfl, hw⟩; rw [hw]; clear hw w2)
      | (go_at_call 83; refine hen.mono ?_; rintro e w3 ⟨hB3, rfl⟩))
    exact ⟨rfl, (hB1.trans hB3).two, rfl⟩
  | some q =>
    rw [hE] at HEn
    obtain ⟨a, r⟩ := q
    obtain ⟨k1, hk1⟩ := endG_suf hE
    have HK1 : Hid (r = l.drop k1) := hk1
    clear hk1
    have ha8 := a.toNat_lt
    have HH := Lib.hid (And.intro h hp)
    have HAt : Hid (∀ u cl1, Rd u rb r ext fold last depth cl1 pv ov made → Calls Tryz.prog 84 #[ptr rb] u fun e w' => e = .returned (.bool (begins [45] r && !begins [45, 93] r)) ∧ w' = u) := fun u cl1 hu => isAtRange_c hu
    clear h hcl hq0 hq hp hE
    rw [Option.bind_some]
    cases hx : (begins [45] r && !begins [45, 93] r) with
    | false =>
      rw [hx] at HAt
      have HS : Hid (spanG a r = some ((fun d => d == a), r)) := by
        show _ = _
        unfold spanG
        rw [hx, if_neg (by simp)]
      clear hx
      have g1 : ¬ (a.toNat : Int) < (a.toNat : Int) := by omega
      go_enter Tryz.func76, Tryz.ntmps76
      go_wp2_with (first
        | (go_at_call 81; refine hc.mono ?_; rintro e w1 ⟨hB1, rfl, cl1, hR1, hcl1⟩; have hbt := HBt.out w1 cl1 hR1; have hen := HEn.out w1 cl1 hR1; have HC1 := Lib.hid (And.intro hB1 hcl1); clear hB1 hR1 hcl1)
        | (go_at_call 82; refine hbt.mono ?_; rintro e w2 ⟨rfl, hw⟩; rw [hw]; clear hw w2)
        | (go_at_call 83; refine hen.mono ?_; rintro e w3 ⟨hB3, rfl, hR3⟩; have hat := HAt.out w3 cl1 hR3; have HB3 := Lib.hid (And.intro hB3 hR3); clear hB3 hR3)
        | (go_at_call 84; refine hat.mono ?_; rintro e w4 ⟨rfl, hw⟩; rw [hw]; clear hw w4))
      have hBB := HC1.out.1.trans HB3.out.1
      have HI0 : Hid (RgI rb hb p a.toNat a.toNat r ext fold last depth cl1 pv ov made w w3) := ⟨by rw [rngU_0]; exact bl_bar HH.out.2 HH.out.1 hBB, hBB.two, HB3.out.2⟩
      have HFin : Hid (∀ u, RgI rb hb p a.toNat (a.toNat + 1) r ext fold last depth cl1 pv ov made w u → PtO rb hb p ext fold last depth pv ov made w (spanG a r) (.returned (.tuple #[])) u) := fun u hu => by
        refine ⟨hu.bar, ?_⟩
        rw [HS.out]
        refine ⟨rfl, ?_, cl1, hu.rd, fun e => by rw [HK1.out]; exact (HC1.out.2 e).drop k1⟩
        have := hu.blk
        rw [rngU_end, rng_one] at this
        exact this
      clear hBB HB3 hbt hen hat hc
      go_loopw [10] (fun v10 wr => ∃ k : Nat, a.toNat ≤ k ∧ k ≤ a.toNat + 1 ∧ v10 = .int .i64 (k : Int) ∧ Hid (RgI rb hb p a.toNat k r ext fold last depth cl1 pv ov made w wr)) (fun v10 _ => a.toNat + 1 - (intOf v10).toNat)
      case atStart => exact ⟨a.toNat, Nat.le_refl _, by omega, rfl, HI0⟩
      case round =>
        obtain ⟨k, hk1, hk2, rfl, HI⟩ := hrel
        clear HI0
        by_cases hlt : k ≤ a.toNat
        · have n1 : (k : Int) ≤ (a.toNat : Int) := by omega
          have c0 := h_cell HI.out.blk k (bl_at _ k (by omega))
          have z0 := h_fz HI.out.blk k
          have n2 : (k : Int) < 256 := by omega
          have HN : Hid (RgI rb hb p a.toNat (k + 1) r ext fold last depth cl1 pv ov made w (wr.setCell ⟨hb, k, none⟩ (.bool true))) := by
            refine ⟨?_, HI.out.bar.trans (Bar2.set _ _ _), rd_set HI.out.rd HI.out.blk _ _⟩
            have := bl_set HI.out.blk k true
            rw [rngU_next hk1] at this
            exact this
          clear HI
          go_wp2_with fail
          exact ⟨⟨k + 1, by omega, by omega, by go_num, HN⟩, by simp [intOf]; omega⟩
        · obtain rfl : k = a.toNat + 1 := by omega
          have n1 : ¬ (((a.toNat + 1 : Nat) : Int) ≤ (a.toNat : Int)) := by omega
          go_wp2_with fail
          go_end0
          exact HFin.out wr HI.out
    | true =>
      rw [hx] at HAt
      have hxx := hx
      rw [Bool.and_eq_true] at hxx
      obtain ⟨r2, rfl⟩ := beg1_is hxx.1
      have HTk : Hid (∀ u cl1, Rd u rb (45 :: r2) ext fold last depth cl1 pv ov made → Calls Tryz.prog 48 #[ptr rb] u fun e w' => e = .returned (.int .u8 45) ∧ Bar rb u w' ∧ Rd w' rb r2 ext fold last depth cl1 pv ov made) := fun u cl1 hu => (take_c hu).mono fun e w' hq => ⟨hq.1, by rw [hq.2]; exact Bar.set _ _ _ _, by rw [hq.2]; exact hu.left r2⟩
      have HEn2 : Hid (∀ u cl1, Rd u rb r2 ext fold last depth cl1 pv ov made → Calls Tryz.prog 83 #[ptr rb] u (LO rb ext fold last depth cl1 pv ov made u (fun c : UInt8 => .int .u8 (c.toNat : Int)) (endG r2))) := fun u cl1 hu => rangeEnd_c hu
      have HS : Hid (spanG a (45 :: r2) = (endG r2).bind fun q => if q.1 < a then none else some ((fun d => decide (a ≤ d ∧ d ≤ q.1)), q.2)) := by
        show _ = _
        unfold spanG
        rw [hx, if_pos rfl]
        rfl
      clear hx hxx
      cases hE2 : endG r2 with
      | none =>
        rw [hE2] at HEn2 HS
        clear hE2
        go_enter Tryz.func76, Tryz.ntmps76
        go_wp2_with (first
          | (go_at_call 81; refine hc.mono ?_; rintro e w1 ⟨hB1, rfl, cl1, hR1, hcl1⟩; have hbt := HBt.out w1 cl1 hR1; have hen := HEn.out w1 cl1 hR1; have HC1 := Lib.hid (And.intro hB1 hcl1); clear hB1 hR1 hcl1)
          | (go_at_call 82; refine hbt.mono ?_; rintro e w2 ⟨rfl, hw⟩; rw [hw]; clear hw w2)
          | (go_at_call 83; refine hen.mono ?_; rintro e w3 ⟨hB3, rfl, hR3⟩; have hat := HAt.out w3 cl1 hR3; have htk := HTk.out w3 cl1 hR3; clear hR3 hen)
          | (go_at_call 84; refine hat.mono ?_; rintro e w4 ⟨rfl, hw⟩; rw [hw]; clear hw w4)
          | (go_at_call 48; refine htk.mono ?_; rintro e w5 ⟨rfl, hB5, hR5⟩; have hen2 := HEn2.out w5 cl1 hR5; clear hR5)
          | (go_at_call 83; refine hen2.mono ?_; rintro e w6 ⟨hB6, rfl⟩))
        exact ⟨rfl, (((HC1.out.1.trans hB3).trans hB5).trans hB6).two, by rw [HS.out]; rfl⟩
      | some q2 =>
        obtain ⟨b, t⟩ := q2
        obtain ⟨k2, hk2⟩ := endG_suf hE2
        have HK2 : Hid (t = r2.drop k2) := hk2
        clear hk2
        rw [hE2] at HEn2 HS
        have hb8 := b.toNat_lt
        have hg := fun u => giveUp_c u
        clear hE2
        by_cases hlt0 : b < a
        · have g1 : (b.toNat : Int) < (a.toNat : Int) := by rw [UInt8.lt_iff_toNat_lt] at hlt0; omega
          have HS2 : Hid (spanG a (45 :: r2) = none) := by show _ = _; rw [HS.out, Option.bind_some, if_pos hlt0]
          go_enter Tryz.func76, Tryz.ntmps76
          go_wp2_with (first
            | (go_at_call 81; refine hc.mono ?_; rintro e w1 ⟨hB1, rfl, cl1, hR1, hcl1⟩; have hbt := HBt.out w1 cl1 hR1; have hen := HEn.out w1 cl1 hR1; have HC1 := Lib.hid (And.intro hB1 hcl1); clear hB1 hR1 hcl1)
            | (go_at_call 82; refine hbt.mono ?_; rintro e w2 ⟨rfl, hw⟩; rw [hw]; clear hw w2)
            | (go_at_call 83; refine hen.mono ?_; rintro e w3 ⟨hB3, rfl, hR3⟩; have hat := HAt.out w3 cl1 hR3; have htk := HTk.out w3 cl1 hR3; clear hR3 hen)
            | (go_at_call 84; refine hat.mono ?_; rintro e w4 ⟨rfl, hw⟩; rw [hw]; clear hw w4)
            | (go_at_call 48; refine htk.mono ?_; rintro e w5 ⟨rfl, hB5, hR5⟩; have hen2 := HEn2.out w5 cl1 hR5; clear hR5)
            | (go_at_call 83; refine hen2.mono ?_; rintro e w6 ⟨hB6, rfl, hR6⟩)
            | (go_at_call 38; refine (hg _).mono ?_; rintro e w7 ⟨rfl, hw⟩; rw [hw]; clear hw w7))
          exact ⟨rfl, (((HC1.out.1.trans hB3).trans hB5).trans hB6).two, by rw [HS2.out]⟩
        · have g1 : ¬ (b.toNat : Int) < (a.toNat : Int) := by rw [UInt8.lt_iff_toNat_lt] at hlt0; omega
          have gab : a.toNat ≤ b.toNat := by omega
          have HS2 : Hid (spanG a (45 :: r2) = some ((fun d => decide (a ≤ d ∧ d ≤ b)), t)) := by show _ = _; rw [HS.out, Option.bind_some, if_neg hlt0]
          go_enter Tryz.func76, Tryz.ntmps76
          go_wp2_with (first
            | (go_at_call 81; refine hc.mono ?_; rintro e w1 ⟨hB1, rfl, cl1, hR1, hcl1⟩; have hbt := HBt.out w1 cl1 hR1; have hen := HEn.out w1 cl1 hR1; have HC1 := Lib.hid (And.intro hB1 hcl1); clear hB1 hR1 hcl1)
            | (go_at_call 82; refine hbt.mono ?_; rintro e w2 ⟨rfl, hw⟩; rw [hw]; clear hw w2)
            | (go_at_call 83; refine hen.mono ?_; rintro e w3 ⟨hB3, rfl, hR3⟩; have hat := HAt.out w3 cl1 hR3; have htk := HTk.out w3 cl1 hR3; have HB3 := Lib.hid hB3; clear hB3 hR3 hen)
            | (go_at_call 84; refine hat.mono ?_; rintro e w4 ⟨rfl, hw⟩; rw [hw]; clear hw w4)
            | (go_at_call 48; refine htk.mono ?_; rintro e w5 ⟨rfl, hB5, hR5⟩; have hen2 := HEn2.out w5 cl1 hR5; have HB5 := Lib.hid hB5; clear hB5 hR5)
            | (go_at_call 83; refine hen2.mono ?_; rintro e w6 ⟨hB6, rfl, hR6⟩; have HB6 := Lib.hid (And.intro hB6 hR6); clear hB6 hR6))
          have hBB := ((HC1.out.1.trans HB3.out).trans HB5.out).trans HB6.out.1
          have HI0 : Hid (RgI rb hb p a.toNat a.toNat t ext fold last depth cl1 pv ov made w w6) := ⟨by rw [rngU_0]; exact bl_bar HH.out.2 HH.out.1 hBB, hBB.two, HB6.out.2⟩
          have HFin : Hid (∀ u, RgI rb hb p a.toNat (b.toNat + 1) t ext fold last depth cl1 pv ov made w u → PtO rb hb p ext fold last depth pv ov made w (spanG a (45 :: r2)) (.returned (.tuple #[])) u) := fun u hu => by
            refine ⟨hu.bar, ?_⟩
            rw [HS2.out]
            refine ⟨rfl, ?_, cl1, hu.rd, fun e => ?_⟩
            · have := hu.blk
              rw [rngU_end] at this
              exact this
            · have h2 := (HC1.out.2 e).drop k1
              rw [← HK1.out] at h2
              have h3 := (h2.drop 1).drop k2
              rw [List.drop_succ_cons, List.drop_zero, ← HK2.out] at h3
              exact h3
          clear hBB HB3 HB5 HB6 hbt hat htk hen2 hc
          go_loopw [10] (fun v10 wr => ∃ k : Nat, a.toNat ≤ k ∧ k ≤ b.toNat + 1 ∧ v10 = .int .i64 (k : Int) ∧ Hid (RgI rb hb p a.toNat k t ext fold last depth cl1 pv ov made w wr)) (fun v10 _ => b.toNat + 1 - (intOf v10).toNat)
          case atStart => exact ⟨a.toNat, Nat.le_refl _, by omega, rfl, HI0⟩
          case round =>
            obtain ⟨k, hk1, hk2, rfl, HI⟩ := hrel
            clear HI0
            by_cases hlt : k ≤ b.toNat
            · have n1 : (k : Int) ≤ (b.toNat : Int) := by omega
              have c0 := h_cell HI.out.blk k (bl_at _ k (by omega))
              have z0 := h_fz HI.out.blk k
              have n2 : (k : Int) < 256 := by omega
              have HN : Hid (RgI rb hb p a.toNat (k + 1) t ext fold last depth cl1 pv ov made w (wr.setCell ⟨hb, k, none⟩ (.bool true))) := by
                refine ⟨?_, HI.out.bar.trans (Bar2.set _ _ _), rd_set HI.out.rd HI.out.blk _ _⟩
                have := bl_set HI.out.blk k true
                rw [rngU_next hk1] at this
                exact this
              clear HI
              go_wp2_with fail
              exact ⟨⟨k + 1, by omega, by omega, by go_num, HN⟩, by simp [intOf]; omega⟩
            · obtain rfl : k = b.toNat + 1 := by omega
              have n1 : ¬ (((b.toNat + 1 : Nat) : Int) ≤ (b.toNat : Int)) := by omega
              go_wp2_with fail
              go_end0
              exact HFin.out wr HI.out
theorem part_c {m : Int} (h : Rd w rb l ext fold last depth cl pv ov made) (hcl : cl = true → ClsN l) (hm : w.cell? ⟨0, 0, none⟩ = some (.int .i64 m)) (hl : l.length ≤ 2097152) (hp : BlP w hb p) :
    Calls Tryz.prog 76 #[ptr rb, ptr hb] w (PtO rb hb p ext fold last depth pv ov made w (partG l)) := by
  cases h1 : clsS l with
  | some q => exact part_cls h1 h hcl hm hl hp
  | none =>
    cases h2 : endS 61 l with
    | some q => exact part_eqs h1 h2 h hcl hm hl hp
    | none => exact part_rng h1 h2 h hcl hm hl hp
end
end Go.Proofs.YtlekfdkahlobiaaGreat.Re
