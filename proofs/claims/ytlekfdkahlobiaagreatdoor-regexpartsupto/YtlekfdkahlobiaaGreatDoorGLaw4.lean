/- The law RegexParts, gone through. -/
import Derived.Test.YtlekfdkahlobiaaGreatDoorGLaw3
namespace Go.Proofs.YtlekfdkahlobiaaGreatDoor.Re
open Go.Proofs.YtlekfdkahlobiaaGreatDoor.Tr
open Go.RowKit

section
variable {Amb : World → Prop} {ReAt : World → Value → Nd → Prop}
/-- What is known along the way. -/
structure Way (Amb : World → Prop) (w w' : World) : Prop where
  amb : Amb w'
  below : Below w.heap.size w w'
theorem Way.next (S : Says Amb ReAt) {w w1 w2 : World} (h : Way Amb w w1) (hb : Below w1.heap.size w1 w2) : Way Amb w w2 := ⟨S.keep _ _ h.amb hb, h.below.trans (hb.mono h.below.size)⟩
theorem row_two {w : World} {a b : Value} {x y : Nd} {T : Nat} (ha : isPtr (w.alloc (.cells #[a, b] T)) a ∧ ReAt (w.alloc (.cells #[a, b] T)) a x) (hb : isPtr (w.alloc (.cells #[a, b] T)) b ∧ ReAt (w.alloc (.cells #[a, b] T)) b y) : RowR ReAt (w.alloc (.cells #[a, b] T)) (.slice (some ⟨w.heap.size, 0, none⟩) 2 2) [(a, x), (b, y)] := by
  refine .inr ⟨w.heap.size, 0, 2, rfl, ⟨Nat.le_refl _, by decide⟩, h_lt (al_new w _), fun j p h => ?_⟩
  rcases j with _ | _ | j
  · cases h; exact ⟨h_cell (al_new w _) 0 rfl, ha⟩
  · cases h; exact ⟨h_cell (al_new w _) 1 rfl, hb⟩
  · simp at h
/-- Two expressions in memory. -/
structure Two (ReAt : World → Value → Nd → Prop) (w : World) (a : Value) (x : Nd) (b : Value) (y : Nd) : Prop where
  fst : isPtr w a ∧ ReAt w a x
  snd : isPtr w b ∧ ReAt w b y
theorem Two.next (S : Says Amb ReAt) {w w' : World} {a b : Value} {x y : Nd} (h : Two ReAt w a x b y) (hB : Below w.heap.size w w') : Two ReAt w' a x b y := ⟨⟨h.fst.1.below hB, S.keepR _ _ _ _ h.fst.2 hB⟩, ⟨h.snd.1.below hB, S.keepR _ _ _ _ h.snd.2 hB⟩⟩
set_option maxHeartbeats 8000000 in
set_option maxRecDepth 100000 in
theorem parts_law (S : Says Amb ReAt) (hD : DigC Amb) (hZ : SizeC Amb ReAt) (hY : AnyC Amb ReAt) (hW : WholeC Amb ReAt) (p q : ByteArray) (m n : Int) (fold : Bool) (w : World) (hA : Amb w) (hs : p.size ≤ 1048576) (ht : q.size ≤ 1048576) :
    Calls Tryz.prog 5 #[.string p, .string q, .int .i64 m, .int .i64 n, .bool fold] w fun e w' => e = .returned (.bool true) ∧ Below w.heap.size w w' := by
  have haw := awake_c S w hA
  have HS := Lib.hid S
  have HC := Lib.hid (And.intro hD (And.intro hZ (And.intro hY hW)))
  clear S hD hZ hY hW
  go_enter Tryz.func5, Tryz.ntmps5
  go_wp2_with fail
  refine haw.mono ?_
  rintro e w1 ⟨rfl, hB1⟩
  have HW1 : Hid (Way Amb w w1) := ⟨HS.out.keep _ _ hA hB1, hB1⟩
  clear haw hB1 hA
  go_wp2_with fail
  refine (classes_c p w1 hs).mono ?_
  rintro e w1 ⟨c1, rfl, hc1, rfl⟩
  cases c1 with
  | true =>
    go_wp2_with fail
    go_ret
    exact ⟨rfl, HW1.out.below⟩
  | false =>
    have Hp : Hid (noCls p.data.toList) := hc1 rfl
    clear hc1
    go_wp2_with fail
    refine (classes_c q w1 ht).mono ?_
    rintro e w1 ⟨c2, rfl, hc2, rfl⟩
    cases c2 with
    | true =>
      go_wp2_with fail
      go_ret
      exact ⟨rfl, HW1.out.below⟩
    | false =>
      have Hq : Hid (noCls q.data.toList) := hc2 rfl
      clear hc2
      by_cases hl : 1000 < p.size + q.size
      · have hl2 : 1000 < (p.size : Int) + (q.size : Int) := by omega
        go_wp2_with fail
        go_ret
        exact ⟨rfl, HW1.out.below⟩
      have hl2 : ¬ 1000 < (p.size : Int) + (q.size : Int) := by omega
      have t1 := told_c HS.out p true fold w1 HW1.out.amb hs
      obtain ⟨x1, b1, hv1, hk1⟩ := toldV_shape (parseS true fold p.data.toList)
      rw [hv1] at t1
      go_wp2_with fail
      refine t1.mono ?_
      rintro e w2 ⟨rfl, hB2⟩
      have HW2 : Hid (Way Amb w w2) := HW1.out.next HS.out hB2
      clear t1 hB2 HW1
      have t2 := told_c HS.out q true fold w2 HW2.out.amb ht
      obtain ⟨x2, b2, hv2, hk2⟩ := toldV_shape (parseS true fold q.data.toList)
      rw [hv2] at t2
      go_wp2_with fail
      refine t2.mono ?_
      rintro e w3 ⟨rfl, hB3⟩
      have HW3 : Hid (Way Amb w w3) := HW2.out.next HS.out hB3
      clear t2 hB3 HW2
      cases hR1 : parseS true fold p.data.toList with
      | error n1 =>
        rw [hR1] at hv1
        cases hv1
        go_wp2_with fail
        go_ret
        exact ⟨rfl, HW3.out.below⟩
      | ok x =>
      obtain ⟨rfl, rfl⟩ := hk1 x hR1
      cases hR2 : parseS true fold q.data.toList with
      | error n2 =>
        rw [hR2] at hv2
        cases hv2
        go_wp2_with fail
        go_ret
        exact ⟨rfl, HW3.out.below⟩
      | ok y =>
      obtain ⟨rfl, rfl⟩ := hk2 y hR2
      clear hv1 hk1 hv2 hk2
      by_cases h0 : m < 0
      · go_wp2_with fail
        go_ret
        exact ⟨rfl, HW3.out.below⟩
      by_cases h1 : n < m
      · go_wp2_with fail
        go_ret
        exact ⟨rfl, HW3.out.below⟩
      by_cases h2 : 255 < n
      · go_wp2_with fail
        go_ret
        exact ⟨rfl, HW3.out.below⟩
      obtain ⟨M, rfl⟩ : ∃ M : Nat, m = (M : Int) := ⟨m.toNat, by omega⟩
      obtain ⟨N, rfl⟩ : ∃ N : Nat, n = (N : Int) := ⟨n.toNat, by omega⟩
      have hMN : M ≤ N := by omega
      have hN : N ≤ 255 := by omega
      have h0' : ¬ (M : Int) < 0 := h0
      have hwx := parse_wf hR1
      have hwy := parse_wf hR2
      have HX : Hid ((x.wf = true ∧ x.size ≤ 10000) ∧ (y.wf = true ∧ y.size ≤ 10000)) := ⟨⟨hwx.1, hwx.2.1⟩, ⟨hwy.1, hwy.2.1⟩⟩
      have sx := bs_le HX.out.1
      have sy := bs_le HX.out.2
      have hc0 := told_c HS.out (strC p q) true fold w3 HW3.out.amb (by rw [strC_size]; omega)
      obtain ⟨tc, bc, hvc, hkc⟩ := toldV_shape (parseS true fold (strC p q).data.toList)
      have Hc : Hid (x.size + y.size < 9999 → tc = ⟨#[40]⟩ ++ bs x.text ++ bs y.text ++ ⟨#[41]⟩ ∧ bc = true) := fun hz => by
        have := hkc (ndK 4 [x, y]) (by rw [strC_list]; exact cat_told Hp.out Hq.out hR1 hR2 hz)
        rw [tcat_eq] at this
        exact this
      rw [hvc] at hc0
      clear hvc hkc
      go_wp2_with fail
      refine hc0.mono ?_
      rintro e w4 ⟨rfl, hB4⟩
      have HW4 : Hid (Way Amb w w4) := HW3.out.next HS.out hB4
      clear hc0 hB4 HW3
      have hd0 := told_c HS.out (strA p q) true fold w4 HW4.out.amb (by rw [strA_size]; omega)
      obtain ⟨td, bd, hvd, hkd⟩ := toldV_shape (parseS true fold (strA p q).data.toList)
      have Hd : Hid (x.size + y.size < 9999 → td = ⟨#[40]⟩ ++ bs x.text ++ ⟨#[124]⟩ ++ bs y.text ++ ⟨#[41]⟩ ∧ bd = true) := fun hz => by
        have := hkd (ndK 5 [x, y]) (by rw [strA_list]; exact alt_told Hp.out Hq.out hR1 hR2 hz)
        rw [talt_eq] at this
        exact this
      rw [hvd] at hd0
      clear hvd hkd
      go_wp2_with fail
      refine hd0.mono ?_
      rintro e w5 ⟨rfl, hB5⟩
      have HW5 : Hid (Way Amb w w5) := HW4.out.next HS.out hB5
      clear hd0 hB5 HW4
      have lM : (bs (dgB 10 M)).size ≤ 3 := dig_len M (by omega)
      have lN : (bs (dgB 10 N)).size ≤ 3 := dig_len N (by omega)
      have d1 := HC.out.1 M w5 HW5.out.amb (by omega)
      go_wp2_with fail
      refine d1.mono ?_
      rintro e w6 ⟨rfl, hB6⟩
      have HW6 : Hid (Way Amb w w6) := HW5.out.next HS.out hB6
      clear d1 hB6 HW5
      have d2 := HC.out.1 N w6 HW6.out.amb (by omega)
      go_wp2_with fail
      refine d2.mono ?_
      rintro e w7 ⟨rfl, hB7⟩
      have HW7 : Hid (Way Amb w w7) := HW6.out.next HS.out hB7
      clear d2 hB7 HW6
      have he0 := told_c HS.out (strR p (bs (dgB 10 M)) (bs (dgB 10 N))) true fold w7 HW7.out.amb (by rw [strR_size]; rw [bs_size] at lM lN; omega)
      obtain ⟨te, be, hve, hke⟩ := toldV_shape (parseS true fold (strR p (bs (dgB 10 M)) (bs (dgB 10 N))).data.toList)
      have He : Hid (x.size * (N + 1) < 9999 → te = bs x.text ++ ⟨#[123]⟩ ++ bs (dgB 10 M) ++ ⟨#[44]⟩ ++ bs (dgB 10 N) ++ ⟨#[125]⟩ ∧ be = true) := fun hz => by
        have := hke (repN (M : Int) (N : Int) x) (by rw [strR_list]; exact rep_told Hp.out hR1 hMN hN hz)
        rw [trep_eq] at this
        exact this
      rw [hve] at he0
      clear hve hke
      go_wp2_with fail
      refine he0.mono ?_
      rintro e w8 ⟨rfl, hB8⟩
      have HW8 : Hid (Way Amb w w8) := HW7.out.next HS.out hB8
      clear he0 hB8 HW7
      have hp1 := HS.out.parse p true fold w8 HW8.out.amb hs
      rw [hR1] at hp1
      go_wp2_with fail
      refine hp1.mono ?_
      rintro e w9 ⟨⟨r, rfl, hi9, hr9⟩, hB9⟩
      have HW9 : Hid (Way Amb w w9) := HW8.out.next HS.out hB9
      have HR9 : Hid (isPtr w9 r ∧ ReAt w9 r x) := ⟨hi9, hr9⟩
      obtain ⟨rb, rfl, _⟩ := hi9
      clear hp1 hB9 HW8 hr9
      have hp2 := HS.out.parse q true fold w9 HW9.out.amb ht
      rw [hR2] at hp2
      go_wp2_with fail
      refine hp2.mono ?_
      rintro e w10 ⟨⟨r2, rfl, hi10, hr10⟩, hB10⟩
      have HW10 : Hid (Way Amb w w10) := HW9.out.next HS.out hB10
      have HR10 : Hid ((isPtr w10 (ptr rb) ∧ ReAt w10 (ptr rb) x) ∧ isPtr w10 r2 ∧ ReAt w10 r2 y) := ⟨⟨HR9.out.1.below hB10, HS.out.keepR _ _ _ _ HR9.out.2 hB10⟩, hi10, hr10⟩
      obtain ⟨rc, rfl, _⟩ := hi10
      clear hp2 hB10 HW9 hr10 HR9 hR1 hR2 Hp Hq
      have z1 := HC.out.2.1 (ptr rb) x w10 HW10.out.amb HR10.out.1.1 HR10.out.1.2 HX.out.1.1 HX.out.1.2
      have lx : (x.size : Int) ≤ 10000 := by have := HX.out.1.2; omega
      have ly : (y.size : Int) ≤ 10000 := by have := HX.out.2.2; omega
      go_wp2_with fail
      refine z1.mono ?_
      rintro e w11 ⟨rfl, hB11⟩
      have HW11 : Hid (Way Amb w w11) := HW10.out.next HS.out hB11
      have HR11 : Hid ((isPtr w11 (ptr rb) ∧ ReAt w11 (ptr rb) x) ∧ isPtr w11 (ptr rc) ∧ ReAt w11 (ptr rc) y) := ⟨⟨HR10.out.1.1.below hB11, HS.out.keepR _ _ _ _ HR10.out.1.2 hB11⟩, HR10.out.2.1.below hB11, HS.out.keepR _ _ _ _ HR10.out.2.2 hB11⟩
      clear z1 hB11 HW10 HR10
      have z2 := HC.out.2.1 (ptr rc) y w11 HW11.out.amb HR11.out.2.1 HR11.out.2.2 HX.out.2.1 HX.out.2.2
      go_wp2_with fail
      refine z2.mono ?_
      rintro e w12 ⟨rfl, hB12⟩
      have HW12 : Hid (Way Amb w w12) := HW11.out.next HS.out hB12
      have HR12 : Hid ((isPtr w12 (ptr rb) ∧ ReAt w12 (ptr rb) x) ∧ isPtr w12 (ptr rc) ∧ ReAt w12 (ptr rc) y) := ⟨⟨HR11.out.1.1.below hB12, HS.out.keepR _ _ _ _ HR11.out.1.2 hB12⟩, HR11.out.2.1.below hB12, HS.out.keepR _ _ _ _ HR11.out.2.2 hB12⟩
      clear z2 hB12 HW11 HR11
      have z3 := HC.out.2.1 (ptr rb) x w12 HW12.out.amb HR12.out.1.1 HR12.out.1.2 HX.out.1.1 HX.out.1.2
      refine Or.elim (Decidable.em (x.size + y.size < 9999)) (fun hz => ?_) (fun hz => ?_)
      case' refine_1 =>
        have hz2 : (x.size : Int) + (y.size : Int) < 9999 := by omega
        obtain ⟨rfl, rfl⟩ := Hc.out hz
        obtain ⟨rfl, rfl⟩ := Hd.out hz
        clear Hc Hd
        go_wp2_with fail
      case' refine_2 =>
        have hz2 : ¬ (x.size : Int) + (y.size : Int) < 9999 := by omega
        clear Hc Hd
        go_wp2_with fail
      all_goals
        clear hz hz2
        refine z3.mono ?_
        rintro e w13 ⟨rfl, hB13⟩
        have HW13 : Hid (Way Amb w w13) := HW12.out.next HS.out hB13
        have HR13 : Hid (Two ReAt w13 (ptr rb) x (ptr rc) y) := ⟨⟨HR12.out.1.1.below hB13, HS.out.keepR _ _ _ _ HR12.out.1.2 hB13⟩, HR12.out.2.1.below hB13, HS.out.keepR _ _ _ _ HR12.out.2.2 hB13⟩
        clear z3 hB13 HW12 HR12
        have mu : IntKind.i64.wrap ((x.size : Int) * ((N : Int) + 1)) = ((x.size * (N + 1) : Nat) : Int) := by
          rw [IntWalk.i64_in _ (by have : x.size * (N + 1) ≤ 10000 * 256 := Nat.mul_le_mul (by omega) (by omega); have e : (x.size : Int) * ((N : Int) + 1) = ((x.size * (N + 1) : Nat) : Int) := by simp
                                   rw [e]; omega)]
          simp
        refine Or.elim (Decidable.em (x.size * (N + 1) < 9999)) (fun hz => ?_) (fun hz => ?_)
        case' refine_1 =>
          have hz2 : (x.size : Int) * ((N : Int) + 1) < 9999 := by
            have e : (x.size : Int) * ((N : Int) + 1) = ((x.size * (N + 1) : Nat) : Int) := by simp
            rw [e]; omega
          obtain ⟨rfl, rfl⟩ := He.out hz
          clear He
          have d3 := HC.out.1 M w13 HW13.out.amb (by omega)
          go_wp2_with fail
          refine d3.mono ?_
          rintro e w14 ⟨rfl, hB14⟩
          have HW14 : Hid (Way Amb w w14) := HW13.out.next HS.out hB14
          have HR14 : Hid (Two ReAt w14 (ptr rb) x (ptr rc) y) := HR13.out.next HS.out hB14
          clear d3 hB14 HW13 HR13
          have d4 := HC.out.1 N w14 HW14.out.amb (by omega)
          go_wp2_with fail
          refine d4.mono ?_
          rintro e w13 ⟨rfl, hB13⟩
          have HW13 : Hid (Way Amb w w13) := HW14.out.next HS.out hB13
          have HR13 : Hid (Two ReAt w13 (ptr rb) x (ptr rc) y) := HR14.out.next HS.out hB13
          clear d4 hB13 HW14 HR14
          go_wp2_with fail
        case' refine_2 =>
          have hz2 : ¬ (x.size : Int) * ((N : Int) + 1) < 9999 := by
            have e : (x.size : Int) * ((N : Int) + 1) = ((x.size * (N + 1) : Nat) : Int) := by simp
            rw [e]; omega
          clear He
          go_wp2_with fail
        all_goals
          clear hz hz2 mu
          have hBa := (Below.refl w13.heap.size w13).alloc (Nat.le_refl _) (.cells #[ptr rb, ptr rc] 23)
          have HW16 := Lib.hid (HW13.out.next HS.out hBa)
          have HR16 := Lib.hid (HR13.out.next HS.out hBa)
          have y1 := HC.out.2.2.1 _ [(ptr rb, x), (ptr rc, y)] _ HW16.out.amb (row_two HR16.out.fst HR16.out.snd) (by simp) (fun p hp => by simp at hp; rcases hp with rfl | rfl; exact HX.out.1; exact HX.out.2)
          clear hBa HW13 HR13
          refine y1.mono ?_
          rintro e w17 ⟨v17, rfl, hi17, hr17, hB17⟩
          have HW17 : Hid (Way Amb w w17) := HW16.out.next HS.out hB17
          have HR17 : Hid (Two ReAt w17 (ptr rb) x v17 (ndK 5 [x, y])) := ⟨(HR16.out.next HS.out hB17).fst, hi17, hr17⟩
          obtain ⟨b17, rfl, _⟩ := hi17
          clear y1 hB17 HW16 HR16 hr17
          have y2 := HC.out.2.2.2 (ptr rb) x w17 HW17.out.amb HR17.out.fst.1 HR17.out.fst.2 ⟨HX.out.1.1, by have := HX.out.1.2; omega⟩
          go_wp2_with fail
          refine y2.mono ?_
          rintro e w18 ⟨v18, rfl, hi18, hr18, hB18⟩
          have HW18 : Hid (Way Amb w w18) := HW17.out.next HS.out hB18
          have HR18 : Hid (Two ReAt w18 v18 (wholeS x) (ptr b17) (ndK 5 [x, y])) := ⟨⟨hi18, hr18⟩, (HR17.out.next HS.out hB18).snd⟩
          obtain ⟨b18, rfl, _⟩ := hi18
          clear y2 hB18 HW17 HR17 hr18
          have y3 := HC.out.2.2.1 (.slice none 0 0) [] w18 HW18.out.amb (.inl ⟨rfl, rfl⟩) (by simp) (fun p hp => by cases hp)
          go_wp2_with fail
          refine y3.mono ?_
          rintro e w19 ⟨v19, rfl, hi19, hr19, hB19⟩
          have HW19 : Hid (Way Amb w w19) := HW18.out.next HS.out hB19
          have HR19 : Hid (Two ReAt w19 (ptr b18) (wholeS x) (ptr b17) (ndK 5 [x, y]) ∧ isPtr w19 v19 ∧ ReAt w19 v19 (anyS [])) := ⟨HR18.out.next HS.out hB19, hi19, hr19⟩
          obtain ⟨b19, rfl, _⟩ := hi19
          clear y3 hB19 HW18 HR18 hr19
          have s1 := HS.out.text (ptr b17) _ w19 HW19.out.amb HR19.out.1.snd.1 HR19.out.1.snd.2 (ok_alt HX.out.1 HX.out.2)
          rw [talt_eq] at s1
          go_wp2_with fail
          refine s1.mono ?_
          rintro e w20 ⟨rfl, hB20⟩
          have HW20 : Hid (Way Amb w w20) := HW19.out.next HS.out hB20
          have HR20 : Hid (Two ReAt w20 (ptr b18) (wholeS x) (ptr b19) (anyS [])) := ⟨(HR19.out.1.next HS.out hB20).fst, HR19.out.2.1.below hB20, HS.out.keepR _ _ _ _ HR19.out.2.2 hB20⟩
          clear s1 hB20 HW19 HR19
          have s2 := HS.out.text (ptr b18) _ w20 HW20.out.amb HR20.out.fst.1 HR20.out.fst.2 (ok_whole HX.out.1)
          rw [twhole_eq] at s2
          go_wp2_with fail
          refine s2.mono ?_
          rintro e w21 ⟨rfl, hB21⟩
          have HW21 : Hid (Way Amb w w21) := HW20.out.next HS.out hB21
          have HR21 : Hid (isPtr w21 (ptr b19) ∧ ReAt w21 (ptr b19) (anyS [])) := (HR20.out.next HS.out hB21).snd
          clear s2 hB21 HW20 HR20
          have s3 := HS.out.text (ptr b19) _ w21 HW21.out.amb HR21.out.1 HR21.out.2 ⟨by rfl, by decide⟩
          rw [tnone_eq] at s3
          go_wp2_with fail
          refine s3.mono ?_
          rintro e w22 ⟨rfl, hB22⟩
          have HW22 : Hid (Way Amb w w22) := HW21.out.next HS.out hB22
          clear s3 hB22 HW21 HR21
          go_wp2_with fail
          go_ret
          exact ⟨rfl, HW22.out.below⟩
end
end Go.Proofs.YtlekfdkahlobiaaGreatDoor.Re
