/- Numbers at the beginning of bytes, and how they are compared, by the landed code. -/
import Derived.Test.YtdgnbcbcfgfkmaaDoorR3
namespace Go.Proofs.YtdgnbcbcfgfkmaaDoor
open Go.RowKit Go.Shelf

/-- A number's sign. -/
def sgnS (d : List UInt8) : Int := if numD d = [] then 0 else if (d.dropWhile isBl).head? = some 45 then -1 else 1
theorem take_tw (p : UInt8 → Bool) (l : List UInt8) : l.take (l.length - (l.dropWhile p).length) = l.takeWhile p := by
  have h1 := dropWhile_len p l
  have h2 : (l.takeWhile p).length ≤ l.length := takeWhile_le _ _
  rw [show l.length - (l.dropWhile p).length = (l.takeWhile p).length by omega]
  conv => lhs; rw [← List.takeWhile_append_dropWhile (p := p) (l := l)]
  rw [List.take_append, List.take_of_length_le (by simp)]
  simp
theorem results_c1 {fn : Func} {p : Tmp} {ty : TypeId} (h : fn.results = #[.cell p ty]) (tmps : Array Value) (P : Program) (w : World) :
    (results fn tmps).run P w = ((asAddr (tmps.getD p undef)).run P w).andThen fun a w1 => (loadVar ty a).run P w1 := by
  unfold results
  rw [h]
  simp [Result.andThen]
theorem info_num : (Tryd.prog.info? 103).map (·.size) = some 2 := by kernel_rfl
theorem results_num {fn : Func} {p : Tmp} (h : fn.results = #[.cell p 103]) {tmps : Array Value} {w : World} {b : Nat} {x0 x1 : Value} (hp : tmps.getD p undef = .pointer (some ⟨b, 0, none⟩)) (hg : w.heap[b]? = some (.cells #[x0, x1] 103)) :
    (results fn tmps).run Tryd.prog w = .ok (.agg #[x0, x1]) w := by
  rw [results_c1 h, hp]
  simp [asAddr, Result.andThen, run_loadVar_row w b 103 103 #[x0, x1] (0, 0) _ hg Tryd.underlying103 rfl info_num]
theorem ret_num {s t : Int} {v : Value} (h : s = t) : Ending.returned (.agg #[.int .i64 s, v]) = .returned (.agg #[.int .i64 t, v]) := by rw [h]
set_option maxHeartbeats 2000000 in
set_option maxRecDepth 100000 in
theorem numberOf_c (v : Value) (d : List UInt8) (w : World) (hB : ByAt w v d) :
    Calls Tryd.prog 53 #[v] w fun e w' => (∃ v', e = .returned (.agg #[.int .i64 (sgnS d), v']) ∧ ByAt w' v' (numD d)) ∧ Below w.heap.size w w' := by
  have hbA : Below w.heap.size w (w.alloc (.cells #[.int .i64 0, .slice none 0 0] 103)) := (Below.refl w.heap.size w).alloc (Nat.le_refl _) _
  have h1 := dropWhile_c fnP_blank v d _ (hB.below hbA)
  have HB0 := Lib.hid hB
  obtain ⟨x, cp, rfl⟩ := hB.shape
  have HS : Hid (∀ D1 D3, D1 = d.dropWhile isBl → D3 = (unminus D1).dropWhile is0 → numD d = D3.takeWhile isDg ∧ sgnS d = if D3.takeWhile isDg = [] then 0 else if D1.head? = some 45 then -1 else 1) := by
    show ∀ D1 D3, _
    rintro D1 D3 rfl rfl
    exact ⟨rfl, rfl⟩
  clear hB hbA
  go_enter Tryd.func53, Tryd.ntmps53
  go_wp2_with fail
  refine h1.mono ?_
  rintro e w1 ⟨⟨v1, rfl, hb1⟩, hw1⟩
  rw [hw1]
  have HS1 := Lib.hid (fun D3 => HS.out _ D3 rfl)
  have hb1 := hb1 w HB0.out
  clear h1 hw1 HS
  obtain ⟨D1, hD1⟩ : ∃ D, d.dropWhile isBl = D := ⟨_, rfl⟩
  rw [hD1] at hb1 HS1
  clear hD1
  obtain ⟨x1, c1, rfl⟩ := hb1.shape
  have hl1 := hb1.len
  have HB1 := Lib.hid hb1
  clear hb1
  obtain ⟨W, hW⟩ : ∃ W, w.alloc (.cells #[.int .i64 0, .slice none 0 0] 103) = W := ⟨_, rfl⟩
  obtain ⟨K, hK⟩ : ∃ K, w.heap.size = K := ⟨_, rfl⟩
  have HW : Hid (W.heap[K]? = some (.cells #[.int .i64 0, .slice none 0 0] 103) ∧ Below w.heap.size w W) := by
    rw [← hW, ← hK]
    exact ⟨by show (w.heap.push _)[w.heap.size]? = _; simp, (Below.refl w.heap.size w).alloc (Nat.le_refl _) _⟩
  have HK : Hid (K = w.heap.size) := hK.symm
  rw [hW, hK]
  clear hW hK
  obtain ⟨SG, hSG⟩ : ∃ s : Int, (if D1.head? = some 45 then -1 else 1) = s := ⟨_, rfl⟩
  have HSG := Lib.hid hSG
  clear hSG
  go_upto_region 3 with fail
  go_cut [15] (fun v wx => v = .bool (decide (D1.head? = some 45)) ∧ wx = W)
  case first =>
    cases hD : D1 with
    | nil =>
      subst hD
      go_wp2_with fail
      go_meet
      case rel => exact ⟨rfl, rfl⟩
    | cons y r =>
      subst hD
      obtain ⟨b, off, rfl, hc⟩ := (HB1.out.below HW.out.2).get 0 (by simp)
      simp only [List.getElem_cons_zero, Nat.add_zero] at hc
      have hb45 : ((y.toNat : Int) == 45) = decide (y = 45) := u8_lit y 45 (by omega)
      go_wp2_with fail
      go_meet
      case rel => exact ⟨congrArg Value.bool (by first | (rw [hb45]; simp) | simp [← UInt8.toNat_inj]), rfl⟩
  case rest =>
    obtain ⟨rfl, rfl⟩ := hcut
    go_upto_if 15 with fail
    go_cut [0, 3] (fun v s wx => s = .int .i64 SG ∧ Hid (ByAt w v (unminus D1)) ∧ wx = wc)
    case first =>
      by_cases hh : D1.head? = some 45
      · have hd : decide (D1.head? = some 45) = true := decide_eq_true hh
        have hln : 1 ≤ D1.length := by cases D1 with | nil => simp at hh | cons y r => simp
        have hdr : Hid (ByAt w (.slice (if c1 = 1 then x1 else Option.map (fun a => a.add 1) x1) (D1.length - 1) (c1 - 1)) (unminus D1)) := by
          have := by_from (i := 1) HB1.out hln rfl
          rw [unminus, if_pos hh]
          exact this
        obtain ⟨_, hl2, hl3⟩ := hl1
        by_cases hc1 : c1 = 1
        · subst hc1
          rw [if_pos rfl, show D1.length - 1 = 0 by omega] at hdr
          go_wp2_with fail
          go_meet
          case rel => exact ⟨by rw [← HSG.out, if_pos hh], hdr, rfl⟩
        · rw [if_neg hc1] at hdr
          go_wp2_with fail
          go_meet
          case rel => exact ⟨by rw [← HSG.out, if_pos hh], hdr, rfl⟩
      · have hd : decide (D1.head? = some 45) = false := decide_eq_false hh
        have hun : Hid (ByAt w (.slice x1 D1.length c1) (unminus D1)) := by
          show ByAt _ _ _
          rw [unminus, if_neg hh]; exact HB1.out
        go_wp2_with fail
        go_meet
        case rel => exact ⟨by rw [← HSG.out, if_neg hh], hun, rfl⟩
    case rest =>
      obtain ⟨rfl, HB2, rfl⟩ := hcut
      clear HB1
      obtain ⟨x2, c2, rfl⟩ := HB2.out.shape
      have h2 := dropWhile_c fnP_nought _ _ wc (HB2.out.below HW.out.2)
      have HS2 := Lib.hid (HS1.out _ rfl)
      clear HS1
      obtain ⟨D3, hD3⟩ : ∃ D, (unminus D1).dropWhile is0 = D := ⟨_, rfl⟩
      rw [hD3] at h2 HS2
      clear hD3
      go_wp2_with fail
      refine h2.mono ?_
      rintro e w1 ⟨⟨v3, rfl, hb3⟩, hw1⟩
      rw [hw1]
      have hb3 := hb3 w HB2.out
      clear hw1 h2 HB2
      have h3 := dropWhile_c fnP_digit _ _ wc (hb3.below HW.out.2)
      obtain ⟨x3, c3, rfl⟩ := hb3.shape
      have hl3 := hb3.len
      have HB3 := Lib.hid hb3
      clear hb3
      go_wp2_with fail
      refine h3.mono ?_
      rintro e w1 ⟨⟨v4, rfl, hb4⟩, hw1⟩
      rw [hw1]
      have hb4 := hb4 w HB3.out
      obtain ⟨x4, c4, rfl⟩ := hb4.shape
      clear hw1 h3 hb4
      have hlt : (D3.dropWhile isDg).length ≤ D3.length := by rw [dropWhile_len]; exact Nat.sub_le _ _
      have HB5 := Lib.hid (by_upto (j := D3.length - (D3.dropWhile isDg).length) HB3.out (by omega))
      have htw := take_tw isDg D3
      rw [htw] at HB5
      have hlw : (D3.takeWhile isDg).length = D3.length - (D3.dropWhile isDg).length := by rw [← htw, List.length_take]; omega
      generalize (D3.dropWhile isDg).length = m at *
      clear htw
      obtain ⟨_, hl4, hl5⟩ := hl3
      have hz : (D3.takeWhile isDg).length = 0 ↔ D3.takeWhile isDg = [] := List.length_eq_zero_iff
      have hsg : (if D3.length - m = 0 then (0 : Int) else SG) = sgnS d := by
        rw [HS2.out.2, ← hlw, HSG.out]
        by_cases h0 : D3.takeWhile isDg = []
        · rw [if_pos h0, if_pos (hz.2 h0)]
        · rw [if_neg h0, if_neg (fun e => h0 (hz.1 e))]
      rw [← HS2.out.1] at HB5
      clear hz HS2 hlw HSG HB3
      have hb0 : wc.cell? ⟨K, 0, none⟩ = some (.int .i64 0) := by simp [World.cell?, HW.out.1]
      have hb1 : wc.cell? ⟨K, 1, none⟩ = some (.slice none 0 0) := by simp [World.cell?, HW.out.1]
      have hf0 : wc.frozen? ⟨K, 0, none⟩ = false := by simp [World.frozen?, HW.out.1]
      have hf1 : wc.frozen? ⟨K, 1, none⟩ = false := by simp [World.frozen?, HW.out.1]
      have HE : Hid (∀ (s : Int) (V : Value), s = sgnS d → ByAt w V (numD d) → ((wc.setCell ⟨K, 0, none⟩ (.int .i64 s)).setCell ⟨K, 1, none⟩ V).heap[K]? = some (.cells #[.int .i64 s, V] 103) ∧ (∃ v', Ending.returned (.agg #[.int .i64 s, V]) = .returned (.agg #[.int .i64 (sgnS d), v']) ∧ ByAt ((wc.setCell ⟨K, 0, none⟩ (.int .i64 s)).setCell ⟨K, 1, none⟩ V) v' (numD d)) ∧ Below w.heap.size w ((wc.setCell ⟨K, 0, none⟩ (.int .i64 s)).setCell ⟨K, 1, none⟩ V)) := by
        show ∀ s V, _
        intro s V hs hV
        have hKs : K = w.heap.size := HK.out
        have hB : Below w.heap.size w ((wc.setCell ⟨K, 0, none⟩ (.int .i64 s)).setCell ⟨K, 1, none⟩ V) := ?_
        refine ⟨?_, ⟨V, by rw [hs], hV.below hB⟩, hB⟩
        · simp [World.setCell, Array.getElem?_modify, HW.out.1]
        · refine ⟨HW.out.2.os, HW.out.2.tape, HW.out.2.output, ?_, fun k hk => ?_⟩
          · have := HW.out.2.size; simpa [World.setCell] using this
          · rw [Below.heap_setCell _ _ _ _ (show k ≠ K by omega), Below.heap_setCell _ _ _ _ (show k ≠ K by omega)]; exact HW.out.2.block k hk
      clear HW HK
      by_cases hm : D3.length - m = 0
      · rw [if_pos hm] at hsg
        rw [hm] at HB5
        have h3 := HE.out 0 _ hsg HB5.out
        have H3 := Lib.hid h3
        clear h3 hsg HE
        go_wp2_with fail
        refine bodyPost_ret (results_num rfl rfl H3.out.1) rfl ?_
        exact H3.out.2
      · rw [if_neg hm] at hsg
        have h3 := HE.out SG _ hsg HB5.out
        have H3 := Lib.hid h3
        clear h3 hsg HE
        go_wp2_with fail
        refine bodyPost_ret (results_num rfl rfl H3.out.1) rfl ?_
        exact H3.out.2
end Go.Proofs.YtdgnbcbcfgfkmaaDoor
/- Numbers compared, by the landed code. -/
namespace Go.Proofs.YtdgnbcbcfgfkmaaDoor
open Go.RowKit Go.Shelf

theorem cmpD_anti (c d : List UInt8) : cmpD d c = -cmpD c d := by
  unfold cmpD
  by_cases h1 : c.length < d.length
  · rw [if_neg (by omega), if_pos h1, if_pos h1]; rfl
  · by_cases h2 : d.length < c.length
    · rw [if_pos h2, if_neg h1, if_pos h2]
    · rw [if_neg h2, if_neg h1, if_neg h1, if_neg h2]; exact cmpL_anti d c
theorem cmpD_nil (d : List UInt8) (h : d ≠ []) : cmpD [] d = -1 ∧ cmpD d [] = 1 := by
  have : 0 < d.length := List.length_pos_iff.2 h
  constructor
  · unfold cmpD; rw [if_pos (by simpa using this)]
  · unfold cmpD; rw [if_neg (by simp), if_pos (by simpa using this)]
theorem sgn_neg (d : List UInt8) : (sgnS d = -1 ∧ numN d = true ∧ numD d ≠ []) ∨ (sgnS d = 0 ∧ numN d = false ∧ numD d = []) ∨ (sgnS d = 1 ∧ numN d = false ∧ numD d ≠ []) := by
  unfold sgnS numN
  by_cases h0 : numD d = []
  · rw [if_pos h0]; exact .inr (.inl ⟨rfl, by rw [h0]; simp, h0⟩)
  · rw [if_neg h0]
    have he : (numD d).isEmpty = false := by simpa using h0
    by_cases h1 : (d.dropWhile isBl).head? = some 45
    · rw [if_pos h1]; exact .inl ⟨rfl, by rw [he]; simp [h1], h0⟩
    · rw [if_neg h1]; exact .inr (.inr ⟨rfl, by simp [h1], h0⟩)
theorem nums_case (a b : List UInt8) : (sgnS a ≠ sgnS b ∧ numsS a b = cmpI (sgnS a) (sgnS b)) ∨ (sgnS a = sgnS b ∧ sgnS a < 0 ∧ numsS a b = cmpD (numD b) (numD a)) ∨ (sgnS a = sgnS b ∧ ¬ sgnS a < 0 ∧ numsS a b = cmpD (numD a) (numD b)) := by
  have ha := sgn_neg a
  have hb := sgn_neg b
  unfold numsS
  rcases ha with ⟨e1, n1, d1⟩ | ⟨e1, n1, d1⟩ | ⟨e1, n1, d1⟩ <;> rcases hb with ⟨e2, n2, d2⟩ | ⟨e2, n2, d2⟩ | ⟨e2, n2, d2⟩ <;> rw [e1, e2, n1, n2]
  · exact .inr (.inl ⟨rfl, by decide, by simp [cmpD_anti (numD a) (numD b)]⟩)
  · exact .inl ⟨by decide, by simp [cmpI]⟩
  · exact .inl ⟨by decide, by simp [cmpI]⟩
  · exact .inl ⟨by decide, by simp [cmpI]⟩
  · exact .inr (.inr ⟨rfl, by decide, by simp⟩)
  · exact .inl ⟨by decide, by rw [d1]; simp [cmpI, (cmpD_nil _ d2).1]⟩
  · exact .inl ⟨by decide, by simp [cmpI]⟩
  · exact .inl ⟨by decide, by rw [d2]; simp [cmpI, (cmpD_nil _ d1).2]⟩
  · exact .inr (.inr ⟨rfl, by decide, by simp⟩)
theorem cmpD_case (c d : List UInt8) : (¬ c.length = d.length ∧ cmpD c d = cmpI (c.length : Int) (d.length : Int)) ∨ (c.length = d.length ∧ cmpD c d = cmpL c d) := by
  unfold cmpD cmpI
  by_cases h1 : c.length < d.length
  · exact .inl ⟨by omega, by rw [if_pos h1, if_pos (by omega)]⟩
  · by_cases h2 : d.length < c.length
    · exact .inl ⟨by omega, by rw [if_neg h1, if_pos h2, if_neg (by omega), if_pos (by omega)]⟩
    · exact .inr ⟨by omega, by rw [if_neg h1, if_neg h2]⟩
set_option maxHeartbeats 2000000 in
set_option maxRecDepth 100000 in
theorem compareNumbers_c (va vb : Value) (a b : List UInt8) (w : World) (ha : ByAt w va a) (hb : ByAt w vb b) :
    Calls Tryd.prog 36 #[va, vb] w fun e w' => e = .returned (.int .i64 (numsS a b)) ∧ Below w.heap.size w w' := by
  have h1 := numberOf_c va a w ha
  obtain ⟨xa, ca, rfl⟩ := ha.shape
  obtain ⟨xb, cb, rfl⟩ := hb.shape
  have HB := Lib.hid hb
  have hcs := nums_case a b
  obtain ⟨R, hRR⟩ : ∃ R, numsS a b = R := ⟨_, rfl⟩
  rw [hRR] at hcs ⊢
  clear ha hb hRR
  go_enter Tryd.func36, Tryd.ntmps36
  go_wp2_with fail
  refine h1.mono ?_
  rintro e w1 ⟨⟨v1, rfl, hv1⟩, hb1⟩
  have h2 := numberOf_c _ b w1 (HB.out.below hb1)
  have HV1 := Lib.hid hv1
  have HB1 := Lib.hid hb1
  clear h1 hv1 hb1 HB
  go_wp2_with fail
  refine h2.mono ?_
  rintro e w2 ⟨⟨v2, rfl, hv2⟩, hb2⟩
  have hw1 := HV1.out.below hb2
  obtain ⟨x1, c1, rfl⟩ := hw1.shape
  obtain ⟨x2, c2, rfl⟩ := hv2.shape
  have HB2 : Hid (Below w.heap.size w w2) := HB1.out.trans (hb2.mono HB1.out.size)
  have HV := Lib.hid (And.intro hw1 hv2)
  clear h2 hv2 hb2 HV1 HB1 hw1
  generalize sgnS a = SA at *
  generalize sgnS b = SB at *
  generalize numD a = DA at *
  generalize numD b = DB at *
  have hl1 := HV.out.1.len
  have hl2 := HV.out.2.len
  have hc := fun u => cmpI_c SA SB u
  have hcl := fun u => cmpI_c (DA.length : Int) (DB.length : Int) u
  have hcl2 := fun u => cmpI_c (DB.length : Int) (DA.length : Int) u
  rcases hcs with ⟨hs, hR⟩ | ⟨rfl, hs, hR⟩ | ⟨rfl, hs, hR⟩
  · have hne : (SA != SB) = true := by simpa using hs
    rw [← hR] at hc
    clear hcl hcl2 hR
    go_wp2_with (go_at_call 54; refine (hc _).mono ?_; rintro e w' ⟨rfl, hw'⟩; rw [hw']; clear hw')
    go_ret
    exact ⟨rfl, (HB2.out.alloc HB2.out.size _).alloc (by have := HB2.out.size; simp; omega) _⟩
  · have hcd := cmpD_case DB DA
    rcases hcd with ⟨hl, hd⟩ | ⟨hl, hd⟩
    · have hne : ((DB.length : Int) != (DA.length : Int)) = true := by simp; omega
      rw [← hd, ← hR] at hcl2
      clear hc hcl hd hR
      go_wp2_with (go_at_call 54; refine (hcl2 _).mono ?_; rintro e w' ⟨rfl, hw'⟩; rw [hw']; clear hw')
      go_ret
      exact ⟨rfl, (HB2.out.alloc HB2.out.size _).alloc (by have := HB2.out.size; simp; omega) _⟩
    · have hne : ((DB.length : Int) != (DA.length : Int)) = false := by simp; omega
      rw [hd] at hR
      have HR := Lib.hid hR
      clear hc hcl hcl2 hd hR hl
      go_wp2_with fail
      refine (bytesCompare_c _ _ DB DA _ (HV.out.2.below (((Below.refl w2.heap.size w2).alloc (Nat.le_refl _) _).alloc (by simp) _)) (HV.out.1.below (((Below.refl w2.heap.size w2).alloc (Nat.le_refl _) _).alloc (by simp) _))).mono ?_
      rintro e w' ⟨rfl, hw'⟩
      rw [hw']
      clear hw'
      go_wp2_with fail
      go_ret
      exact ⟨by rw [HR.out]; rfl, (HB2.out.alloc HB2.out.size _).alloc (by have := HB2.out.size; simp; omega) _⟩
  · have hcd := cmpD_case DA DB
    rcases hcd with ⟨hl, hd⟩ | ⟨hl, hd⟩
    · have hne : ((DA.length : Int) != (DB.length : Int)) = true := by simp; omega
      rw [← hd, ← hR] at hcl
      clear hc hcl2 hd hR
      go_wp2_with (go_at_call 54; refine (hcl _).mono ?_; rintro e w' ⟨rfl, hw'⟩; rw [hw']; clear hw')
      go_ret
      exact ⟨rfl, (HB2.out.alloc HB2.out.size _).alloc (by have := HB2.out.size; simp; omega) _⟩
    · have hne : ((DA.length : Int) != (DB.length : Int)) = false := by simp; omega
      rw [hd] at hR
      have HR := Lib.hid hR
      clear hc hcl hcl2 hd hR hl
      go_wp2_with fail
      refine (bytesCompare_c _ _ DA DB _ (HV.out.1.below (((Below.refl w2.heap.size w2).alloc (Nat.le_refl _) _).alloc (by simp) _)) (HV.out.2.below (((Below.refl w2.heap.size w2).alloc (Nat.le_refl _) _).alloc (by simp) _))).mono ?_
      rintro e w' ⟨rfl, hw'⟩
      rw [hw']
      clear hw'
      go_wp2_with fail
      go_ret
      exact ⟨by rw [HR.out]; rfl, (HB2.out.alloc HB2.out.size _).alloc (by have := HB2.out.size; simp; omega) _⟩
end Go.Proofs.YtdgnbcbcfgfkmaaDoor
