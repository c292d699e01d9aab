/- The bytes that count, one by one, by the landed code. -/
import Derived.Test.YtdgnbcbcfgfkmaaDoorR3
import Derived.Deep.RegionWith
namespace Go.Proofs.YtdgnbcbcfgfkmaaDoor
open Go.RowKit Go.Shelf

/-- The flags of two places, by the numbers that the program keeps. -/
def fgOf (x y : Nat) : Fg := ⟨x.testBit 0, y.testBit 0, (x ||| y).testBit 1, (x ||| y).testBit 2, (x ||| y).testBit 3, (x ||| y).testBit 4, (x ||| y).testBit 5⟩
theorem fgOf_d (x : Nat) : (fgOf x x).d = x.testBit 1 := by simp [fgOf]
theorem fgOf_f (x : Nat) : (fgOf x x).f = x.testBit 2 := by simp [fgOf]
theorem fgOf_i (x : Nat) : (fgOf x x).i = x.testBit 3 := by simp [fgOf]
theorem isWd_lt (c : UInt8) : isWd c = (isBl c || isLt c || isDg c) := by
  rw [isWd_nat, isBl_nat, isDg_nat]
  unfold isLt
  rw [Bool.eq_iff_iff]
  simp only [Bool.or_eq_true, decide_eq_true_eq]
  omega
set_option maxHeartbeats 2000000 in
theorem counts_c (x : Nat) (c : UInt8) (w : World) (hx : x < 64) :
    Calls Tryd.prog 69 #[.int .u64 (x : Int), .int .u8 (c.toNat : Int)] w fun e w' => e = .returned (.bool (counts1 (fgOf x x) c)) ∧ w' = w := by
  have h1 := has_c x 2 w hx (by omega)
  have h2 := has_c x 8 w hx (by omega)
  rw [bit_1 x hx] at h1
  rw [bit_3 x hx] at h2
  have hb := isBlank_c c w
  have hl := isLetter_c c w
  have hd := isDigit_c c w
  have HR := Lib.hid (show counts1 (fgOf x x) c = !(x.testBit 1 && !(isBl c || isLt c || isDg c) || x.testBit 3 && decide (c.toNat < 32 ∨ 126 < c.toNat)) from by unfold counts1; rw [fgOf_d, fgOf_i, isWd_lt])
  generalize counts1 (fgOf x x) c = R at HR ⊢
  generalize x.testBit 1 = B1 at *
  generalize x.testBit 3 = B3 at *
  generalize isBl c = BL at *
  generalize isLt c = LT at *
  generalize isDg c = DG at *
  have hc : (¬ 32 ≤ c.toNat) ∨ (32 ≤ c.toNat ∧ ¬ c.toNat ≤ 126) ∨ (32 ≤ c.toNat ∧ c.toNat ≤ 126) := by omega
  cases B1 <;> cases BL <;> cases LT <;> cases DG <;> cases B3 <;> rcases hc with a1 | ⟨a1, a2⟩ | ⟨a1, a2⟩
  all_goals
    go_enter Tryd.func69, Tryd.ntmps69
    go_wp2_with (first
      | (go_at_call 35; refine h1.mono ?_; rintro e w' ⟨rfl, hw'⟩; rw [hw']; clear hw' h1)
      | (go_at_call 35; refine h2.mono ?_; rintro e w' ⟨rfl, hw'⟩; rw [hw']; clear hw' h2)
      | (go_at_call 46; refine hb.mono ?_; rintro e w' ⟨rfl, hw'⟩; rw [hw']; clear hw')
      | (go_at_call 79; refine hl.mono ?_; rintro e w' ⟨rfl, hw'⟩; rw [hw']; clear hw')
      | (go_at_call 67; refine hd.mono ?_; rintro e w' ⟨rfl, hw'⟩; rw [hw']; clear hw'))
    go_ret
    exact ⟨ret_bool (by rw [HR.out]; first | rfl | (simp; done) | (rw [Bool.eq_iff_iff]; simp <;> omega)), rfl⟩
set_option maxHeartbeats 2000000 in
theorem valueOf_c (x : Nat) (c : UInt8) (w : World) (hx : x < 64) :
    Calls Tryd.prog 70 #[.int .u64 (x : Int), .int .u8 (c.toNat : Int)] w fun e w' => e = .returned (.int .i64 ((upS (fgOf x x) c).toNat : Int)) ∧ w' = w := by
  have h1 := has_c x 4 w hx (by omega)
  rw [bit_2 x hx] at h1
  have HR := Lib.hid (show upS (fgOf x x) c = if x.testBit 2 && isSm c then c - 32 else c from by unfold upS; rw [fgOf_f])
  have hu := fun h => up_nat c h
  have hsn := isSm_nat c
  generalize upS (fgOf x x) c = R at HR ⊢
  generalize x.testBit 2 = B1 at *
  have hlt := c.toNat_lt
  cases B1 with
  | false =>
    go_enter Tryd.func70, Tryd.ntmps70
    go_wp2_with (go_at_call 35; refine h1.mono ?_; rintro e w' ⟨rfl, hw'⟩; rw [hw']; clear hw' h1)
    go_ret
    exact ⟨ret_i64 (by rw [HR.out]; simp), rfl⟩
  | true =>
    have hc : (¬ 97 ≤ c.toNat) ∨ (97 ≤ c.toNat ∧ ¬ c.toNat ≤ 122) ∨ (97 ≤ c.toNat ∧ c.toNat ≤ 122) := by omega
    rcases hc with a1 | ⟨a1, a2⟩ | ⟨a1, a2⟩
    · have hs : isSm c = false := by rw [hsn]; simp; omega
      rw [hs] at HR
      clear hu hsn hs
      go_enter Tryd.func70, Tryd.ntmps70
      go_wp2_with (go_at_call 35; refine h1.mono ?_; rintro e w' ⟨rfl, hw'⟩; rw [hw']; clear hw' h1)
      go_ret
      exact ⟨ret_i64 (by rw [HR.out]; simp), rfl⟩
    · have hs : isSm c = false := by rw [hsn]; simp; omega
      rw [hs] at HR
      clear hu hsn hs
      go_enter Tryd.func70, Tryd.ntmps70
      go_wp2_with (go_at_call 35; refine h1.mono ?_; rintro e w' ⟨rfl, hw'⟩; rw [hw']; clear hw' h1)
      go_ret
      exact ⟨ret_i64 (by rw [HR.out]; simp), rfl⟩
    · have hs : isSm c = true := by rw [hsn]; simp; omega
      have hu2 := Lib.hid (hu hs)
      rw [hs] at HR
      clear hu hsn hs
      go_enter Tryd.func70, Tryd.ntmps70
      go_wp2_with (go_at_call 35; refine h1.mono ?_; rintro e w' ⟨rfl, hw'⟩; rw [hw']; clear hw' h1)
      go_ret
      exact ⟨ret_i64 (by rw [HR.out]; simp only [Bool.and_self, if_true]; rw [hu2.out]), rfl⟩

end Go.Proofs.YtdgnbcbcfgfkmaaDoor
/- The next byte that counts, and bytes compared by those that count, by the landed code. -/
namespace Go.Proofs.YtdgnbcbcfgfkmaaDoor
open Go.RowKit Go.Shelf

/-- The next byte that counts, and what stands behind it. -/
def nextB (g : Fg) : List UInt8 → Option (UInt8 × List UInt8)
  | [] => none
  | c :: r => if counts1 g c then some (upS g c, r) else nextB g r
theorem keptS_next (g : Fg) : ∀ d, keptS g d = match nextB g d with | none => [] | some q => q.1 :: keptS g q.2
  | [] => rfl
  | c :: r => by
    rw [nextB]
    cases h : counts1 g c with
    | true => simp [keptS, h]
    | false =>
      have := keptS_next g r
      simp only [keptS, List.filter_cons, h] at this ⊢
      exact this
theorem nextB_len (g : Fg) : ∀ d q, nextB g d = some q → q.2.length < d.length
  | [], q, h => by simp [nextB] at h
  | c :: r, q, h => by
    rw [nextB] at h
    split at h
    · simp only [Option.some.injEq] at h; subst h; simp
    · have := nextB_len g r q h; simp; omega
def nxI : Option (UInt8 × List UInt8) → Int | none => -1 | some q => (q.1.toNat : Int)
def nxR : Option (UInt8 × List UInt8) → List UInt8 | none => [] | some q => q.2
theorem nx_case (g : Fg) (a b : List UInt8) (R : Int) (h : cmpL (keptS g a) (keptS g b) = R) : (nxI (nextB g a) = -1 ∧ nxI (nextB g b) = -1 ∧ R = 0) ∨ (nxI (nextB g a) = nxI (nextB g b) ∧ nxI (nextB g a) ≠ -1 ∧ cmpL (keptS g (nxR (nextB g a))) (keptS g (nxR (nextB g b))) = R ∧ (nxR (nextB g a)).length < a.length) ∨ (nxI (nextB g a) ≠ nxI (nextB g b) ∧ cmpI (nxI (nextB g a)) (nxI (nextB g b)) = R) := by
  have e1 := keptS_next g a
  have e2 := keptS_next g b
  have hl := nextB_len g a
  rw [e1, e2] at h
  cases hna : nextB g a with
  | none =>
    rw [hna] at h
    cases hnb : nextB g b with
    | none => rw [hnb] at h; exact .inl ⟨rfl, rfl, h.symm⟩
    | some q =>
      rw [hnb] at h
      refine .inr (.inr ⟨by show (-1 : Int) ≠ (q.1.toNat : Int); omega, ?_⟩)
      rw [← h]; show cmpI (-1) (q.1.toNat : Int) = -1
      unfold cmpI; rw [if_pos (by omega)]
  | some p =>
    rw [hna] at h
    cases hnb : nextB g b with
    | none =>
      rw [hnb] at h
      refine .inr (.inr ⟨by show (p.1.toNat : Int) ≠ -1; omega, ?_⟩)
      rw [← h]; show cmpI (p.1.toNat : Int) (-1) = 1
      unfold cmpI; rw [if_neg (by omega), if_pos (by omega)]
    | some q =>
      rw [hnb] at h
      simp only [cmpL] at h
      by_cases hpq : p.1.toNat = q.1.toNat
      · rw [if_neg (by omega), if_neg (by omega)] at h
        exact .inr (.inl ⟨by show (p.1.toNat : Int) = q.1.toNat; omega, by show (p.1.toNat : Int) ≠ -1; omega, h, hl p hna⟩)
      · refine .inr (.inr ⟨by show (p.1.toNat : Int) ≠ q.1.toNat; omega, ?_⟩)
        show cmpI (p.1.toNat : Int) (q.1.toNat : Int) = R
        unfold cmpI
        by_cases hlt : p.1.toNat < q.1.toNat
        · rw [if_pos hlt] at h; rw [if_pos (by omega), h]
        · rw [if_neg hlt, if_pos (by omega)] at h; rw [if_neg (by omega), if_pos (by omega), h]
set_option maxHeartbeats 2000000 in
set_option maxRecDepth 100000 in
theorem next_c (x : Nat) (hx : x < 64) (v : Value) (d : List UInt8) (w : World) (hB : ByAt w v d) :
    Calls Tryd.prog 55 #[.int .u64 (x : Int), v] w fun e w' => (∃ v', e = .returned (.tuple #[.int .i64 (nxI (nextB (fgOf x x) d)), v']) ∧ ByAt w' v' (nxR (nextB (fgOf x x) d))) ∧ Below w.heap.size w w' := by
  obtain ⟨xa, cp, rfl⟩ := hB.shape
  have hl := hB.len
  have HB := Lib.hid hB
  have HC := Lib.hid (fun c u => counts_c x c u hx)
  have HV := Lib.hid (fun c u => valueOf_c x c u hx)
  have HR := Lib.hid (show nextB (fgOf x x) d = nextB (fgOf x x) (d.drop 0) from rfl)
  clear hB hx
  generalize fgOf x x = g at *
  generalize hnx : nextB g d = NX at *
  clear hnx
  generalize hn : d.length = n at hl ⊢
  have HN := Lib.hid hn
  clear hn
  go_enter Tryd.func55, Tryd.ntmps55
  go_wp2_with fail
  go_loop [10] (fun i => ∃ k : Nat, k ≤ n ∧ i = .int .i64 k ∧ Hid (NX = nextB g (d.drop k))) (fun i => n - (intOf i).toNat)
  case atStart => exact ⟨0, by omega, rfl, HR⟩
  case round =>
    obtain ⟨k, hk, rfl, HI⟩ := hrel
    clear HR
    by_cases hlt : k < n
    · have hkd : k < d.length := by rw [HN.out]; exact hlt
      obtain ⟨b, off, rfl, hc⟩ := HB.out.get k hkd
      have HJ := HI.out
      rw [List.drop_eq_getElem_cons hkd, nextB] at HJ
      clear HI
      have hcc := HC.out (d[k]) w
      have hvv := HV.out (d[k]) w.drew
      cases hp : counts1 g d[k] with
      | false =>
        rw [if_neg (by rw [hp]; simp)] at HJ
        have HJ' := Lib.hid HJ
        rw [hp] at hcc
        clear HJ hp hvv
        generalize d[k] = c at hc hcc
        go_wp2_with (go_at_call 69; refine hcc.mono ?_; rintro e w' ⟨rfl, hw'⟩; rw [hw']; clear hw')
        exact ⟨⟨k + 1, by omega, by go_num, HJ'⟩, by simp [intOf]; omega⟩
      | true =>
        rw [if_pos hp] at HJ
        rw [hp] at hcc
        clear hp
        generalize d[k] = c at hc hcc hvv HJ
        subst HJ
        have hw1 : IntKind.i64.wrap ((k : Int) + 1) = (k : Int) + 1 := IntWalk.i64_in _ (by omega)
        have hs0 : (0 : Int) ≤ (k : Int) + 1 := by omega
        have hs1 : (k : Int) + 1 ≤ (n : Int) := by omega
        obtain ⟨_, hl1, hl2⟩ := hl
        by_cases hcp : cp = k + 1
        · subst hcp
          have HY : Hid (ByAt w (.slice (some ⟨b, off, none⟩) 0 0) (d.drop (k + 1))) := by
            have hb := HB.out.some (by rw [HN.out]; omega)
            obtain ⟨b2, off2, e, _, _, hbl, _⟩ := hb
            cases e
            show ByAt _ _ _
            rw [List.drop_eq_nil_of_le (by rw [HN.out]; omega)]
            exact by_cut0 hbl
          go_wp2_with (go_at_call 69; refine hcc.mono ?_; rintro e w' ⟨rfl, hw'⟩; rw [hw']; clear hw')
          go_region_with (go_at_call 70; refine hvv.mono ?_; rintro e w' ⟨rfl, hw'⟩; rw [hw']; clear hw')
          all_goals
            go_wp2_with fail
            go_ret2
            exact ⟨⟨_, rfl, HY.out⟩, (Below.refl _ w).drew⟩
        · have hB2 := HB.out
          rw [HN.out] at hB2
          have HY := Lib.hid (by_fromC (i := k + 1) hB2 (by rw [HN.out]; omega) HN.out.symm)
          clear hB2
          go_wp2_with (go_at_call 69; refine hcc.mono ?_; rintro e w' ⟨rfl, hw'⟩; rw [hw']; clear hw')
          go_region_with (go_at_call 70; refine hvv.mono ?_; rintro e w' ⟨rfl, hw'⟩; rw [hw']; clear hw')
          all_goals
            go_wp2_with fail
            go_ret2
            exact ⟨⟨_, rfl, HY.out⟩, (Below.refl _ w).drew⟩
    · have HJ' : NX = none := by
        rw [HI.out, List.drop_eq_nil_of_le (by rw [HN.out]; omega)]; rfl
      clear HI
      subst HJ'
      go_wp2_with fail
      go_ret2
      exact ⟨⟨_, rfl, .inl ⟨rfl, rfl⟩⟩, Below.refl _ _⟩

def lenV : Value → Nat | .slice _ n _ => n | _ => 0
set_option maxHeartbeats 2000000 in
set_option maxRecDepth 100000 in
theorem compareBytes_c (x : Nat) (hx : x < 64) (va vb : Value) (a b : List UInt8) (w : World) (ha : ByAt w va a) (hb : ByAt w vb b) :
    Calls Tryd.prog 37 #[.int .u64 (x : Int), va, vb] w fun e w' => e = .returned (.int .i64 (cmpL (keptS (fgOf x x) a) (keptS (fgOf x x) b))) ∧ Below w.heap.size w w' := by
  have HX := Lib.hid (fun v d u h => next_c x hx v d u h)
  have HA := Lib.hid ha
  have HB := Lib.hid hb
  clear ha hb hx
  generalize fgOf x x = g at *
  obtain ⟨R, hR⟩ : ∃ R, cmpL (keptS g a) (keptS g b) = R := ⟨_, rfl⟩
  rw [hR]
  have HR := Lib.hid hR
  clear hR
  go_enter Tryd.func37, Tryd.ntmps37
  go_wp2_with fail
  go_loopw [1, 2] (fun v1 v2 wr => ∃ a' b', Hid (ByAt wr v1 a') ∧ Hid (ByAt wr v2 b') ∧ Hid (cmpL (keptS g a') (keptS g b') = R) ∧ Below w.heap.size w wr) (fun v1 _ _ => lenV v1)
  case atStart => exact ⟨a, b, HA, HB, HR, Below.refl _ _⟩
  case round =>
    obtain ⟨a', b', HA', HB', HR', hbl⟩ := hrel
    clear HA HB HR
    obtain ⟨xa, ca, rfl⟩ := HA'.out.shape
    obtain ⟨xb, cb, rfl⟩ := HB'.out.shape
    have h1 := HX.out _ a' wr HA'.out
    have hnc := nx_case g a' b' R HR'.out
    have HY := HX
    generalize nxI (nextB g a') = I1 at h1 hnc
    generalize nxR (nextB g a') = A1 at h1 hnc
    go_wp2_with fail
    refine h1.mono ?_
    rintro e w1 ⟨⟨va1, rfl, hv1⟩, hb1⟩
    have h2 := HX.out _ b' w1 (HB'.out.below hb1)
    have HV1 := Lib.hid hv1
    have HBL1 := Lib.hid (hbl.trans (hb1.mono hbl.size))
    generalize nxI (nextB g b') = I2 at h2 hnc
    generalize nxR (nextB g b') = B1 at h2 hnc
    have HNC := Lib.hid hnc
    clear h1 hv1 hb1 hbl hnc HR'
    go_wp2_with fail
    refine h2.mono ?_
    rintro e w2 ⟨⟨vb2, rfl, hv2⟩, hb2⟩
    have HV2 := Lib.hid hv2
    have HV3 := Lib.hid (HV1.out.below hb2)
    have HBL2 := Lib.hid (HBL1.out.trans (hb2.mono HBL1.out.size))
    have hnc := HNC.out
    clear h2 hv2 hb2 HBL1 HV1 HNC HX HY
    rcases hnc with ⟨rfl, rfl, hR0⟩ | ⟨rfl, h1, h2, h3⟩ | ⟨h1, h2⟩
    · have hc := cmpI_c (-1) (-1) w2
      go_wp2_with (go_at_call 54; refine hc.mono ?_; rintro e w' ⟨rfl, hw'⟩; rw [hw']; clear hw')
      go_ret
      exact ⟨by rw [hR0]; rfl, HBL2.out⟩
    · have HR2 := Lib.hid h2
      have hne2 : (I1 == (-1 : Int)) = false := by simpa using h1
      have hlv : lenV va1 = A1.length := by obtain ⟨x1, c1, e⟩ := HV3.out.shape; rw [e]; rfl
      have hlt : lenV va1 < a'.length := by omega
      clear h1 h2 h3 hlv
      go_wp2_with fail
      exact ⟨⟨A1, B1, HV3, HV2, HR2, HBL2.out⟩, hlt⟩
    · have hc := cmpI_c I1 I2 w2
      have hne : (I1 != I2) = true := by simpa using h1
      rw [h2] at hc
      clear h1 h2
      go_wp2_with (go_at_call 54; refine hc.mono ?_; rintro e w' ⟨rfl, hw'⟩; rw [hw']; clear hw')
      go_ret
      exact ⟨rfl, HBL2.out⟩
end Go.Proofs.YtdgnbcbcfgfkmaaDoor
