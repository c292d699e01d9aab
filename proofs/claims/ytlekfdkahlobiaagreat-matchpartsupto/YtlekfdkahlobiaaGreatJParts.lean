/- The law MatchParts. -/
import Derived.Test.YtlekfdkahlobiaaGreatJSize
import Derived.Test.YtlekfdkahlobiaaGreatHBuild
namespace Go.Proofs.YtlekfdkahlobiaaGreat.Re
open Go.Proofs.YtlekfdkahlobiaaGreat.Tr
open Go.RowKit

section
variable {Amb : World → Prop} {ReAt PgAt : World → Value → Nd → Prop}
theorem PgOut.any {r : Except Nat Nd} {w w' : World} {e : Ending} (h : PgOut PgAt r w e w') : ∃ p, e = .returned p ∧ Below w.heap.size w w' ∧ (∀ x, r = .ok x → isPtr w' p ∧ PgAt w' p x) ∧ (∀ n, r = .error n → p = .pointer none) := by
  obtain ⟨h1, h2⟩ := h
  cases r with
  | ok x =>
    obtain ⟨p, rfl, h3, h4⟩ := h1
    exact ⟨p, rfl, h2, fun y hy => by cases hy; exact ⟨h3, h4⟩, fun n hn => by cases hn⟩
  | error n => exact ⟨_, h1, h2, (fun y hy => by cases hy), fun n hn => rfl⟩
theorem alt_parse {p q : List UInt8} {x y : Nd} {fold : Bool} (hp : noCls p) (hq : noCls q) (h : parseS true fold p = .ok x) (h2 : parseS true fold q = .ok y) : parseS true fold (40 :: (p ++ 41 :: 124 :: 40 :: (q ++ [41]))) = if 10000 < 1 + (x.size + y.size) then .error 12 else .ok (ndK 5 [x, y]) := by
  have hr := read_alt hp hq (parse_wf h).2.2 (parse_wf h2).2.2
  unfold parseS
  rw [hr]
  simp only
  rw [size_two (by decide)]
theorem alt_small {p q : List UInt8} {x y : Nd} {fold : Bool} (h : parseS true fold p = .ok x) (h2 : parseS true fold q = .ok y) (hz : 10000 < 1 + (x.size + y.size)) : 8 < p.length + q.length := by
  obtain ⟨a1, a2⟩ := read_sz (parse_wf h).2.2
  obtain ⟨b1, b2⟩ := read_sz (parse_wf h2).2.2
  rcases Nat.lt_or_ge 8 (p.length + q.length) with h3 | h3
  · exact h3
  · have e1 : 4 ^ (p.length - 1) ≤ 4 ^ 6 := Nat.pow_le_pow_right (by omega) (by omega)
    have e2 : 4 ^ (q.length - 1) ≤ 4 ^ 6 := Nat.pow_le_pow_right (by omega) (by omega)
    have e3 : (4 : Nat) ^ 6 = 4096 := by decide
    omega
set_option maxHeartbeats 4000000 in
set_option maxRecDepth 100000 in
theorem mparts_law (S : SaysM Amb ReAt PgAt) (p q : ByteArray) (fold : Bool) (v : Value) (b : List UInt8) (w : World) (hA : Amb w) (hpq : p.size + q.size ≤ 1048576) (hbl : b.length ≤ 1048576) (hb : ByAt w v b) :
    Calls Tryz.prog 4 #[.string p, .string q, .bool fold, v] w fun e w' => e = .returned (.bool true) ∧ Below w.heap.size w w' := by
  have haw := awakeM_c S w hA
  have HS := Lib.hid S
  obtain ⟨va, vc, rfl⟩ := hb.shape
  have HB := Lib.hid hb
  clear S hb
  go_enter Tryz.func4, Tryz.ntmps4
  go_wp2_with fail
  refine haw.mono ?_
  rintro e w1 ⟨rfl, hB1⟩
  have c1 := classes_c p w1 (by omega)
  clear haw
  go_wp2_with fail
  refine c1.mono ?_
  rintro e w1' ⟨b1, rfl, hn1, hw1⟩
  subst hw1
  have c2 := classes_c q w1' (by omega)
  clear c1
  go_wp2_with fail
  refine c2.mono ?_
  rintro e w1 ⟨b2, rfl, hn2, hw2⟩
  subst hw2
  clear c2
  cases b1 with
  | true =>
    have H1 := Lib.hid hB1
    clear hB1 hn1 hn2
    go_wp2_with fail
    go_ret
    exact ⟨rfl, H1.out⟩
  | false =>
  cases b2 with
  | true =>
    have H1 := Lib.hid hB1
    clear hB1 hn1 hn2
    go_wp2_with fail
    go_ret
    exact ⟨rfl, H1.out⟩
  | false =>
  have HN := Lib.hid (And.intro (hn1 rfl) (hn2 rfl))
  have hA1 := HS.out.keep _ _ hA hB1
  have p1 := prog_c HS.out p true fold w1 hA1 (by omega)
  have H1 := Lib.hid hB1
  clear hn1 hn2 hB1
  go_wp2_with fail
  refine p1.mono ?_
  intro e w2 h2
  obtain ⟨px, rfl, hB2, hx1, hx2⟩ := h2.any
  have H2 : Hid (Below w.heap.size w w2) := H1.out.trans (hB2.mono H1.out.size)
  have hA2 := HS.out.keep _ _ hA1 hB2
  have p2 := prog_c HS.out q true fold w2 hA2 (by omega)
  have HX := Lib.hid (And.intro hx1 hx2)
  clear p1 h2 hB2 H1 hA1 hx1 hx2
  go_wp2_with fail
  refine p2.mono ?_
  intro e w3 h3
  obtain ⟨py, rfl, hB3, hy1, hy2⟩ := h3.any
  have H3 : Hid (Below w.heap.size w w3 ∧ Below w2.heap.size w2 w3) := ⟨H2.out.trans (hB3.mono H2.out.size), hB3⟩
  have hA3 := HS.out.keep _ _ hA2 hB3
  have p3 := prog_c HS.out (strJ p q) true fold w3 hA3 (by rw [strJ_size]; omega)
  have HY := Lib.hid (And.intro hy1 hy2)
  clear p2 h3 hB3 H2 hA2 hy1 hy2
  go_wp2_with fail
  refine p3.mono ?_
  intro e w4 h4
  obtain ⟨pz, rfl, hB4, hz1, hz2⟩ := h4.any
  have H4 : Hid (Below w.heap.size w w4 ∧ Below w3.heap.size w3 w4) := ⟨H3.out.1.trans (hB4.mono H3.out.1.size), hB4⟩
  have HZ := Lib.hid (And.intro hz1 hz2)
  have HA4 := Lib.hid (HS.out.keep _ _ hA3 hB4)
  clear p3 h4 hB4 hA3 hz1 hz2
  cases hP : parseS true fold p.data.toList with
  | error n =>
    have e := HX.out.2 n hP
    subst e
    clear HX HY HZ hP
    go_wp2_with fail
    go_ret
    exact ⟨rfl, H4.out.1⟩
  | ok x =>
  obtain ⟨ix, gx⟩ := HX.out.1 x hP
  obtain ⟨xb, rfl, hxl⟩ := ix
  cases hQ : parseS true fold q.data.toList with
  | error n =>
    have e := HY.out.2 n hQ
    subst e
    clear HX HY HZ hP hQ gx
    go_wp2_with fail
    go_ret
    exact ⟨rfl, H4.out.1⟩
  | ok y =>
  obtain ⟨iy, gy⟩ := HY.out.1 y hQ
  obtain ⟨yb, rfl, hyl⟩ := iy
  by_cases hb3 : 300 < b.length
  · have g3 : (300 : Int) < (b.length : Int) := by omega
    clear HX HY HZ hP hQ gx gy
    go_wp2_with fail
    go_ret
    exact ⟨rfl, H4.out.1⟩
  have g3 : ¬ (300 : Int) < (b.length : Int) := by omega
  have hJ := alt_parse HN.out.1 HN.out.2 hP hQ
  rw [← strJ_list] at hJ
  by_cases hbig : 10000 < 1 + (x.size + y.size)
  · rw [if_pos hbig] at hJ
    have e := HZ.out.2 12 hJ
    subst e
    have h8 := alt_small hP hQ hbig
    rw [← baj_size, ← baj_size] at h8
    have g8 : (8 : Int) < (p.size : Int) + (q.size : Int) := by omega
    clear HX HY HZ hP hQ gx gy hJ
    go_wp2_with fail
    go_ret
    exact ⟨rfl, H4.out.1⟩
  rw [if_neg hbig] at hJ
  obtain ⟨iz, gz⟩ := HZ.out.1 _ hJ
  obtain ⟨zb, rfl, hzl⟩ := iz
  obtain ⟨wx, sx, _⟩ := parse_wf hP
  obtain ⟨wy, sy, _⟩ := parse_wf hQ
  obtain ⟨wz, sz, _⟩ := parse_wf hJ
  have h24 : Below w2.heap.size w2 w4 := H3.out.2.trans (H4.out.2.mono H3.out.2.size)
  have hm : IntKind.i64.min ≤ 0 ∧ (0 : Int) ≤ IntKind.i64.max := by decide
  have HG : Hid (∀ u, Below w4.heap.size w4 u → Calls Tryz.prog 8 #[ptr xb, .slice va b.length vc, .int .i64 0] u (FdOut x b 0 u) ∧ Calls Tryz.prog 8 #[ptr yb, .slice va b.length vc, .int .i64 0] u (FdOut y b 0 u) ∧ Calls Tryz.prog 8 #[ptr zb, .slice va b.length vc, .int .i64 0] u (FdOut (ndK 5 [x, y]) b 0 u)) := fun u hu => by
    have hAu := HS.out.keep _ _ HA4.out hu
    have hBu := (HB.out.below H4.out.1).below hu
    have i2 : isPtr w2 (ptr xb) := ⟨xb, rfl, hxl⟩
    have i3 : isPtr w3 (ptr yb) := ⟨yb, rfl, hyl⟩
    have i4 : isPtr w4 (ptr zb) := ⟨zb, rfl, hzl⟩
    exact ⟨HS.out.find _ _ _ _ _ _ hAu ((i2.below h24).below hu) (HS.out.keepP _ _ _ _ (HS.out.keepP _ _ _ _ gx h24) hu) wx sx hBu hbl hm,
      HS.out.find _ _ _ _ _ _ hAu ((i3.below H4.out.2).below hu) (HS.out.keepP _ _ _ _ (HS.out.keepP _ _ _ _ gy H4.out.2) hu) wy sy hBu hbl hm,
      HS.out.find _ _ _ _ _ _ hAu (i4.below hu) (HS.out.keepP _ _ _ _ gz hu) wz sz hBu hbl hm⟩
  clear HX HY HZ hP hQ gx gy gz hJ hbig wx wy wz sx sy sz h24 hm hxl hyl hzl HS HB HA4 HN H3
  have H4b := Lib.hid H4.out.1
  clear H4
  go_wp2_with fail
  refine (HG.out _ (Below.refl _ _)).1.mono ?_
  rintro e w5 ⟨a, c, is, rfl, F1, hB5⟩
  have H5 := Lib.hid hB5
  clear hB5
  go_wp2_with fail
  refine (HG.out _ H5.out).2.1.mono ?_
  rintro e w6 ⟨d, e, was, rfl, F2, hB6⟩
  have H6 : Hid (Below w4.heap.size w4 w6) := H5.out.trans (hB6.mono H5.out.size)
  clear hB6 H5
  go_wp2_with fail
  refine (HG.out _ H6.out).2.2.mono ?_
  rintro e' w7 ⟨f, g, or, rfl, F3, hB7⟩
  have H7 : Hid (Below w.heap.size w w7) := H4b.out.trans ((H6.out.trans (hB7.mono H6.out.size)).mono H4b.out.size)
  obtain ⟨rfl, k1, k2, k3, k4⟩ := find_alt F1 F2 F3
  clear hB7 H6 HG H4b F1 F2 F3
  cases is with
  | true =>
    cases was with
    | true =>
      by_cases had : a = d
      · subst had
        obtain ⟨rfl, hcase⟩ := k1 rfl rfl rfl
        clear k1 k2 k3 k4
        rcases hcase with ⟨rfl, hle⟩ | ⟨rfl, hle⟩
        · go_wp2_with fail
          go_ret
          exact ⟨by simp, H7.out⟩
        · by_cases hce : c = g
          · subst hce
            go_wp2_with fail
            go_ret
            exact ⟨by simp, H7.out⟩
          · have hn : ¬ g = c := fun e => hce e.symm
            have hnb : (g == c) = false := by rw [beq_eq_false_iff_ne]; exact hn
            go_wp2_with fail
            go_ret
            exact ⟨by simp, H7.out⟩
      · have hadb : (a == d) = false := by rw [beq_eq_false_iff_ne]; exact had
        by_cases hlt : a < d
        · obtain ⟨rfl, rfl⟩ := k2 rfl (.inr hlt)
          clear k1 k2 k3 k4
          go_wp2_with fail
          go_ret
          exact ⟨by simp, H7.out⟩
        · obtain ⟨rfl, rfl⟩ := k3 rfl (.inr (by omega))
          clear k1 k2 k3 k4
          go_wp2_with fail
          go_ret
          exact ⟨by simp, H7.out⟩
    | false =>
      obtain ⟨rfl, rfl⟩ := k2 rfl (.inl rfl)
      clear k1 k2 k3 k4
      go_wp2_with fail
      go_ret
      exact ⟨by simp, H7.out⟩
  | false =>
    cases was with
    | true =>
      obtain ⟨rfl, rfl⟩ := k3 rfl (.inl rfl)
      clear k1 k2 k3 k4
      go_wp2_with fail
      go_ret
      exact ⟨by simp, H7.out⟩
    | false =>
      obtain ⟨rfl, rfl⟩ := k4 rfl rfl
      clear k1 k2 k3 k4
      go_wp2_with fail
      go_ret
      exact ⟨by simp, H7.out⟩
end
end Go.Proofs.YtlekfdkahlobiaaGreat.Re
