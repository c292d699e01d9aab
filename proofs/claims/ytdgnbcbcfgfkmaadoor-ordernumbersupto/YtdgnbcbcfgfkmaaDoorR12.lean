/- A key's place, as the landed code reads it. -/
import Derived.Test.YtdgnbcbcfgfkmaaDoorR11b
import Derived.Test.YtdgnbcbcfgfkmaaDoorR7e
namespace Go.Proofs.YtdgnbcbcfgfkmaaDoor
open Go.RowKit Go.Shelf

theorem ret_ib {a b : Int} {c d : Bool} (h : a = b) (h' : c = d) : Ending.returned (.tuple #[.int .i64 a, .bool c]) = .returned (.tuple #[.int .i64 b, .bool d]) := by rw [h, h']
theorem numberFrom_c (least : Nat) (s : ByteArray) (w : World) (hs : s.size ≤ 2097152) :
    Calls Tryd.prog 65 #[.int .i64 (least : Int), .string s] w fun e w' => e = .returned (.tuple #[.int .i64 (numT s.data.toList).1, .bool ((numT s.data.toList).2 && decide ((least : Int) ≤ (numT s.data.toList).1))]) ∧ w' = w := by
  have h := number_any s 2147483647 w (by unfold maxLen; omega) (by decide) (by decide)
  obtain ⟨r, hr⟩ : ∃ r, numT s.data.toList = r := ⟨_, rfl⟩
  have hr2 : rdAll 10 2147483647 s.data.toList = r := hr
  rw [hr2] at h
  rw [hr]
  clear hr hr2
  obtain ⟨v, ok⟩ := r
  simp only at h ⊢
  cases ok with
  | false =>
    go_enter Tryd.func65, Tryd.ntmps65
    go_wp2_with (go_at_call 78; refine h.mono ?_; rintro e w' ⟨rfl, hw'⟩; rw [hw']; clear hw')
    go_ret2
    exact ⟨rfl, rfl⟩
  | true =>
    go_enter Tryd.func65, Tryd.ntmps65
    go_wp2_with (go_at_call 78; refine h.mono ?_; rintro e w' ⟨rfl, hw'⟩; rw [hw']; clear hw')
    go_ret2
    exact ⟨ret_ib rfl (by simp), rfl⟩
theorem contains_fl (c : UInt8) : ([98, 100, 102, 105, 110, 114] : List UInt8).contains c = isFl c := by
  unfold isFl
  rcases flN_cases c with ⟨rfl, e⟩ | ⟨rfl, e⟩ | ⟨rfl, e⟩ | ⟨rfl, e⟩ | ⟨rfl, e⟩ | ⟨rfl, e⟩ | ⟨e, h1, h2, h3, h4, h5, h6⟩
  all_goals first | (rw [e]; decide) | (rw [e]; simp [h1, h2, h3, h4, h5, h6])
theorem trim_c (s : ByteArray) (w : World) (hs : s.size ≤ 2097152) :
    Calls Tryd.prog 64 #[.string s, .string ⟨#[98, 100, 102, 105, 110, 114]⟩] w fun e w' => e = .returned (.string ⟨(trimR s.data.toList).toArray⟩) ∧ Below w.heap.size w w' := by
  have h := Tryd.trimRight_ascii s ⟨#[98, 100, 102, 105, 110, 114]⟩ w (by omega) (by decide) (by
    intro j b hb
    have hm := List.mem_of_getElem? hb
    simp at hm
    rcases hm with rfl | rfl | rfl | rfl | rfl | rfl <;> decide)
  have e : Lib.trimRightS s.data.toList (⟨#[98, 100, 102, 105, 110, 114]⟩ : ByteArray).data.toList = trimR s.data.toList := by
    show (s.data.toList.reverse.dropWhile (([98, 100, 102, 105, 110, 114] : List UInt8).contains ·)).reverse = _
    unfold trimR
    rw [show (fun c => ([98, 100, 102, 105, 110, 114] : List UInt8).contains c) = isFl from funext contains_fl]
  rw [e] at h
  exact h
/-- Where a place lies while it is read. -/
structure PlW (w : World) (K4 K7 F C X : Nat) (wr : World) : Prop where
  r : wr.heap[K4]? = some (.cells #[.int .i64 0, .int .i64 0, .int .u64 0] 72)
  p : wr.heap[K7]? = some (.cells #[.int .i64 (F : Int), .int .i64 (C : Int), .int .u64 (X : Int)] 72)
  bl : Below w.heap.size w wr
  lt : w.heap.size ≤ K4 ∧ w.heap.size ≤ K7 ∧ K4 ≠ K7
section
variable {w : World} {K4 K7 F C X : Nat} {wr : World}
theorem PlW.on (h : PlW w K4 K7 F C X wr) {wy : World} (hb : Below wr.heap.size wr wy) : PlW w K4 K7 F C X wy :=
  ⟨(hb.block K4 (Array.getElem?_eq_some_iff.1 h.r).1).trans h.r, (hb.block K7 (Array.getElem?_eq_some_iff.1 h.p).1).trans h.p, h.bl.trans (hb.mono h.bl.size), h.lt⟩
theorem set_1 {u : World} {K T i : Nat} {cs : Array Value} {v : Value} (h : u.heap[K]? = some (.cells cs T)) : (u.setCell ⟨K, i, none⟩ v).heap[K]? = some (.cells (cs.setIfInBounds i v) T) := by
  simp [World.setCell, Array.getElem?_modify, h]
theorem PlW.setX (h : PlW w K4 K7 F C X wr) (Y : Nat) : PlW w K4 K7 F C Y (wr.setCell ⟨K7, 2, none⟩ (.int .u64 (Y : Int))) :=
  ⟨by rw [set_other h.lt.2.2]; exact h.r, by rw [set_1 h.p]; rfl, h.bl.setCell (p := ⟨K7, 2, none⟩) h.lt.2.1 _, h.lt⟩
theorem PlW.setF (h : PlW w K4 K7 F C X wr) (Y : Nat) : PlW w K4 K7 Y C X (wr.setCell ⟨K7, 0, none⟩ (.int .i64 (Y : Int))) :=
  ⟨by rw [set_other h.lt.2.2]; exact h.r, by rw [set_1 h.p]; rfl, h.bl.setCell (p := ⟨K7, 0, none⟩) h.lt.2.1 _, h.lt⟩
theorem PlW.setC (h : PlW w K4 K7 F C X wr) (Y : Nat) : PlW w K4 K7 F Y X (wr.setCell ⟨K7, 1, none⟩ (.int .i64 (Y : Int))) :=
  ⟨by rw [set_other h.lt.2.2]; exact h.r, by rw [set_1 h.p]; rfl, h.bl.setCell (p := ⟨K7, 1, none⟩) h.lt.2.1 _, h.lt⟩
theorem PlW.p0 (h : PlW w K4 K7 F C X wr) : wr.cell? ⟨K7, 0, none⟩ = some (.int .i64 (F : Int)) := cell_of h.p 0 rfl
theorem PlW.p1 (h : PlW w K4 K7 F C X wr) : wr.cell? ⟨K7, 1, none⟩ = some (.int .i64 (C : Int)) := cell_of h.p 1 rfl
theorem PlW.p2 (h : PlW w K4 K7 F C X wr) : wr.cell? ⟨K7, 2, none⟩ = some (.int .u64 (X : Int)) := cell_of h.p 2 rfl
theorem PlW.pz (h : PlW w K4 K7 F C X wr) (i : Nat) : wr.frozen? ⟨K7, i, none⟩ = false := fz_of h.p i
theorem PlW.r0 (h : PlW w K4 K7 F C X wr) : wr.cell? ⟨K4, 0, none⟩ = some (.int .i64 0) := cell_of h.r 0 rfl
theorem PlW.r1 (h : PlW w K4 K7 F C X wr) : wr.cell? ⟨K4, 1, none⟩ = some (.int .i64 0) := cell_of h.r 1 rfl
theorem PlW.r2 (h : PlW w K4 K7 F C X wr) : wr.cell? ⟨K4, 2, none⟩ = some (.int .u64 0) := cell_of h.r 2 rfl
theorem PlW.rz (h : PlW w K4 K7 F C X wr) (i : Nat) : wr.frozen? ⟨K4, i, none⟩ = false := fz_of h.r i
/-- The place that is handed back. -/
theorem PlW.told (h : PlW w K4 K7 F C X wr) (a b c : Value) : (((wr.setCell ⟨K4, 0, none⟩ a).setCell ⟨K4, 1, none⟩ b).setCell ⟨K4, 2, none⟩ c).heap[K4]? = some (.cells #[a, b, c] 72) ∧ Below w.heap.size w (((wr.setCell ⟨K4, 0, none⟩ a).setCell ⟨K4, 1, none⟩ b).setCell ⟨K4, 2, none⟩ c) :=
  ⟨by rw [set_1 (set_1 (set_1 h.r))]; rfl, ((h.bl.setCell (p := ⟨K4, 0, none⟩) h.lt.1 _).setCell (p := ⟨K4, 1, none⟩) h.lt.1 _).setCell (p := ⟨K4, 2, none⟩) h.lt.1 _⟩
end
theorem info_place : (Tryd.prog.info? 72).map (·.size) = some 3 := by kernel_rfl
theorem results_place {fn : Func} {p u : Tmp} (h : fn.results = #[.cell p 72, .tmp u]) {tmps : Array Value} {w : World} {b : Nat} {x0 x1 x2 y : Value} (hp : tmps.getD p undef = .pointer (some ⟨b, 0, none⟩)) (hg : w.heap[b]? = some (.cells #[x0, x1, x2] 72)) (hy : tmps.getD u undef = y) :
    (results fn tmps).run Tryd.prog w = .ok (.tuple #[.agg #[x0, x1, x2], y]) w := by
  rw [results_ct h, hp, hy]
  simp [asAddr, Result.andThen, run_loadVar_row w b 72 72 #[x0, x1, x2] (0, 0) _ hg Tryd.underlying72 rfl info_place]
theorem lettersN_drop (L : List UInt8) (k : Nat) (h : k < L.length) (x : Nat) : lettersN (L.drop k) x = lettersN (L.drop (k + 1)) (x ||| flN L[k]) := by
  rw [List.drop_eq_getElem_cons h, lettersN]
theorem by_set {w : World} {b K i n cp : Nat} {v : Value} {d : List UInt8} (h : ByAt w (.slice (some ⟨b, 0, none⟩) n cp) d) (hne : K ≠ b) : ByAt (w.setCell ⟨K, i, none⟩ v) (.slice (some ⟨b, 0, none⟩) n cp) d := by
  rcases h with ⟨h1, _⟩ | ⟨b', off, cap, h1, h2, h3, h4⟩
  · cases h1
  · cases h1
    refine .inr ⟨b, 0, cp, rfl, h2, by simpa [World.setCell] using h3, fun j hj => ?_⟩
    rw [← h4 j hj]
    simp only [World.cell?, set_other (Ne.symm hne)]
def PlRet (o : Option PL) (e : Ending) : Prop :=
  match o with
  | none => e = .returned (.tuple #[placeV 0 0 0, .bool false])
  | some q => e = .returned (.tuple #[placeV q.F q.C q.X, .bool true])
set_option maxHeartbeats 4000000 in
set_option maxRecDepth 100000 in
theorem placeOf_c (s : ByteArray) (least : Nat) (w : World) (hs : s.size ≤ 2097152) :
    Calls Tryd.prog 51 #[.string s, .int .i64 (least : Int)] w fun e w' => PlRet (placeL s.data.toList least) e ∧ Below w.heap.size w w' := by
  have hA : Below w.heap.size w (w.alloc (.cells #[.int .i64 0, .int .i64 0, .int .u64 0] 72)) := (Below.refl w.heap.size w).alloc (Nat.le_refl _) _
  have h1 := trim_c s (w.alloc (.cells #[.int .i64 0, .int .i64 0, .int .u64 0] 72)) hs
  have HA := Lib.hid hA
  obtain ⟨L0, hs0, _⟩ := trim_split s.data.toList
  have hlen : (trimR s.data.toList).length ≤ s.size := by
    have := congrArg List.length hs0
    rw [List.length_append] at this
    have e : s.data.toList.length = s.size := rfl
    omega
  have HR := Lib.hid (placeL.eq_def s.data.toList least)
  have hcv := conv_sb
  have hx := ext_drop s (trimR s.data.toList).length
  clear hs0 hA
  generalize trimR s.data.toList = N at *
  have hNs : (⟨N.toArray⟩ : ByteArray).size = N.length := arr_size N
  obtain ⟨LL, hLL⟩ : ∃ l, s.data.toList.drop N.length = l := ⟨_, rfl⟩
  rw [hLL] at HR hx
  have hLl : LL.length ≤ 2097152 := by rw [← hLL, List.length_drop]; have e : s.data.toList.length = s.size := rfl; omega
  have hNl : N.length ≤ 2097152 := by omega
  clear hLL
  generalize placeL s.data.toList least = OUT at *
  go_enter Tryd.func51, Tryd.ntmps51
  go_wp2_with fail
  refine h1.mono ?_
  rintro e w1 ⟨rfl, hb1⟩
  clear h1
  have hw1r : w1.heap[w.heap.size]? = some (.cells #[.int .i64 0, .int .i64 0, .int .u64 0] 72) := (hb1.block w.heap.size (by simp)).trans (by show (w.heap.push _)[w.heap.size]? = _; simp)
  have HB1 := Lib.hid (And.intro (below_then HA.out hb1) hw1r)
  have hszx : (⟨LL.toArray⟩ : ByteArray).size = LL.length := arr_size LL
  clear hb1 hw1r HA
  go_wp2_with fail
  obtain ⟨W, hW⟩ : ∃ W, Lib.bytesWorld (w1.alloc (.cells #[.int .i64 0, .int .i64 (least : Int), .int .u64 0] 72)) 5 ⟨LL.toArray⟩ = W := ⟨_, rfl⟩
  obtain ⟨K4, hK4⟩ : ∃ K, w.heap.size = K := ⟨_, rfl⟩
  obtain ⟨K7, hK7⟩ : ∃ K, w1.heap.size = K := ⟨_, rfl⟩
  obtain ⟨K8, hK8⟩ : ∃ K, w1.heap.size + 1 = K := ⟨_, rfl⟩
  obtain ⟨cp, hcp⟩ : ∃ c, grownCap (w1.alloc (.cells #[.int .i64 0, .int .i64 (least : Int), .int .u64 0] 72)) LL.length 0 5 = c := ⟨_, rfl⟩
  have HW : Hid (PlW w K4 K7 0 least 0 W ∧ ByAt W (.slice (some ⟨K8, 0, none⟩) LL.length cp) LL) := by
    have hbA : Below w1.heap.size w1 (w1.alloc (.cells #[.int .i64 0, .int .i64 (least : Int), .int .u64 0] 72)) := (Below.refl _ _).alloc (Nat.le_refl _) _
    have hbB := below_bw _ (w1.alloc (.cells #[.int .i64 0, .int .i64 (least : Int), .int .u64 0] 72)) 5 ⟨LL.toArray⟩ (Nat.le_refl _)
    have hkl : w.heap.size < w1.heap.size := (Array.getElem?_eq_some_iff.1 HB1.out.2).1
    have hby := by_conv ⟨LL.toArray⟩ (w1.alloc (.cells #[.int .i64 0, .int .i64 (least : Int), .int .u64 0] 72)) (by rw [hszx]; omega)
    rw [hszx] at hby
    rw [← hW, ← hK4, ← hK7, ← hK8, ← hcp]
    refine ⟨⟨?_, ?_, below_then (below_then HB1.out.1 hbA) hbB, ?_⟩, ?_⟩
    · exact (hbB.block _ (by simp; omega)).trans ((hbA.block _ hkl).trans HB1.out.2)
    · exact (hbB.block _ (by simp)).trans (by show (w1.heap.push _)[w1.heap.size]? = _; simp)
    · omega
    · simpa using hby
  have HK : Hid (K7 ≠ K8) := by show K7 ≠ K8; omega
  rw [hW, hK8, hK7, hK4, hcp]
  clear hW hK4 hK7 hK8 hcp HB1 hx hcv
  obtain ⟨RX, hRX⟩ : ∃ x, lettersN LL 0 = x := ⟨_, rfl⟩
  rw [hRX] at HR
  have HX0 : Hid (lettersN (LL.drop 0) 0 = RX) := hRX
  clear hRX
  generalize hm : LL.length = m at hLl HW hszx ⊢
  have HM := Lib.hid hm
  clear hm
  go_loopw [24] (fun iv wr => ∃ k X : Nat, k ≤ m ∧ X < 64 ∧ iv = .int .i64 (k : Int) ∧ Hid (lettersN (LL.drop k) X = RX) ∧ Hid (PlW w K4 K7 0 least X wr ∧ ByAt wr (.slice (some ⟨K8, 0, none⟩) m cp) LL)) (fun iv _ => m - (intOf iv).toNat)
  case atStart => exact ⟨0, 0, by omega, by omega, rfl, HX0, HW⟩
  case round =>
    obtain ⟨k, X, hk, hX, rfl, HI, HP⟩ := hrel
    clear HX0 HW
    by_cases hlt : k < m
    · have hkl : k < LL.length := by rw [HM.out]; exact hlt
      have HJ := HI.out
      rw [lettersN_drop LL k hkl] at HJ
      have HJ' := Lib.hid HJ
      obtain ⟨b, off, e, hc⟩ := HP.out.2.get k hkl
      cases e
      simp only [Nat.zero_add] at hc
      have hfl := fun u => flagOf_c LL[k] u
      have hor := bits_or_u64_nat X (flN LL[k]) (by omega) (by have := flN_lt LL[k]; omega)
      have hlt2 := or_lt hX (flN_lt LL[k])
      have d2 : wr.drew.cell? ⟨K7, 2, none⟩ = some (.int .u64 (X : Int)) := HP.out.1.p2
      have z2 : wr.drew.frozen? ⟨K7, 2, none⟩ = false := HP.out.1.pz 2
      have HP2 : Hid (PlW w K4 K7 0 least (X ||| flN LL[k]) (wr.setCell ⟨K7, 2, none⟩ (.int .u64 ((X ||| flN LL[k] : Nat) : Int))).drew ∧ ByAt (wr.setCell ⟨K7, 2, none⟩ (.int .u64 ((X ||| flN LL[k] : Nat) : Int))).drew (.slice (some ⟨K8, 0, none⟩) m cp) LL) :=
        ⟨((HP.out.1.setX _).on (Below.refl _ _).drew), (by_set HP.out.2 HK.out).below (Below.refl _ _).drew⟩
      clear HJ HI
      generalize LL[k] = c at *
      go_wp2_with fail
      go_region_with (go_at_call 32; refine (hfl _).mono ?_; rintro e w' ⟨rfl, hw'⟩; rw [hw']; clear hw')
      all_goals
        go_wp2_with fail
        exact ⟨⟨k + 1, X ||| flN c, by omega, hlt2, by go_num, HJ', HP2⟩, by simp [intOf]; omega⟩
    · have hX2 : X = RX := by
        have := HI.out
        rw [List.drop_eq_nil_of_le (by rw [HM.out]; omega)] at this
        exact this
      subst hX2
      have HP3 := Lib.hid HP.out.1
      clear HI HP
      have hcut := fun u => cut_c ⟨N.toArray⟩ 46 u (by rw [hNs]; omega)
      have eA : (⟨(cutB 46 (⟨N.toArray⟩ : ByteArray).data.toList).toArray⟩ : ByteArray) = ⟨(N.takeWhile not46).toArray⟩ := rfl
      have eB : (⟨(cutA 46 (⟨N.toArray⟩ : ByteArray).data.toList).toArray⟩ : ByteArray) = ⟨((N.dropWhile not46).drop 1).toArray⟩ := rfl
      have eH : cutH 46 (⟨N.toArray⟩ : ByteArray).data.toList = !(N.dropWhile not46).isEmpty := rfl
      rw [eA, eB, eH] at hcut
      have hAl : (N.takeWhile not46).length ≤ 2097152 := Nat.le_trans (takeWhile_le _ _) hNl
      have hBl : ((N.dropWhile not46).drop 1).length ≤ 2097152 := by rw [List.length_drop, dropWhile_len]; omega
      have hva := numT_le (N.takeWhile not46)
      have hvb := numT_le ((N.dropWhile not46).drop 1)
      have hemp : (N.dropWhile not46).isEmpty = true ↔ N.dropWhile not46 = [] := List.isEmpty_iff
      clear eA eB eH
      generalize N.takeWhile not46 = A at *
      generalize (N.dropWhile not46).drop 1 = B at *
      generalize N.dropWhile not46 = NB at *
      have hn1 := fun u => numberFrom_c 1 ⟨A.toArray⟩ u (by rw [arr_size]; omega)
      have hn2 := fun u => numberFrom_c least ⟨B.toArray⟩ u (by rw [arr_size]; omega)
      have e1 : (⟨A.toArray⟩ : ByteArray).data.toList = A := rfl
      have e2 : (⟨B.toArray⟩ : ByteArray).data.toList = B := rfl
      rw [e1] at hn1
      rw [e2] at hn2
      clear e1 e2
      generalize numT A = rA at *
      generalize numT B = rB at *
      obtain ⟨vA, okA⟩ := rA
      obtain ⟨vB, okB⟩ := rB
      simp only at HR hn1 hn2 hva hvb
      obtain ⟨FA, rfl⟩ : ∃ F : Nat, vA = F := ⟨vA.toNat, by omega⟩
      obtain ⟨FB, rfl⟩ : ∃ F : Nat, vB = F := ⟨vB.toNat, by omega⟩
      simp only [Int.toNat_natCast] at HR
      go_wp2_with fail
      refine (hcut _).mono ?_
      rintro e w2 ⟨rfl, hb2⟩
      have HP4 := Lib.hid (HP3.out.on hb2)
      clear hcut hb2 HP3
      have p0 := HP4.out.p0
      have y0 := HP4.out.pz 0
      by_cases hA : okA = false ∨ (FA : Int) < 1
      · have hO : OUT = none := by rw [HR.out, if_pos hA]
        subst hO
        have hbad : (okA && decide (((1 : Nat) : Int) ≤ (FA : Int))) = false := by
          rcases hA with h | h
          · rw [h]; rfl
          · simp; intro _; omega
        rw [hbad] at hn1
        have HPF := Lib.hid (HP4.out.setF FA)
        have r0 := HPF.out.r0
        have r1 := HPF.out.r1
        have r2 := HPF.out.r2
        have z0 := HPF.out.rz 0
        have z1 := HPF.out.rz 1
        have z2 := HPF.out.rz 2
        have HT := Lib.hid (HPF.out.told (.int .i64 0) (.int .i64 0) (.int .u64 0))
        clear HR hA hbad HP4 HPF hn2
        go_wp2_with (go_at_call 65; refine (hn1 _).mono ?_; rintro e w' ⟨rfl, hw'⟩; rw [hw']; clear hw' hn1)
        refine bodyPost_ret (results_place rfl rfl HT.out.1 rfl) rfl ?_
        exact ⟨rfl, HT.out.2⟩
      · have hok : okA = true := by cases okA with | true => rfl | false => exact absurd (.inl rfl) hA
        have hF1 : 1 ≤ FA := by have := fun h => hA (.inr h); omega
        have hgood : (okA && decide (((1 : Nat) : Int) ≤ (FA : Int))) = true := by rw [hok]; simp; omega
        rw [hgood] at hn1
        rw [if_neg hA] at HR
        have HPF := Lib.hid (HP4.out.setF FA)
        clear hA hgood hok
        by_cases hNB : NB = []
        · have hO : OUT = some ⟨FA, false, least, X, LL.length⟩ := by rw [HR.out, if_pos hNB]
          subst hO
          have he : NB.isEmpty = true := hemp.2 hNB
          have fp0 := HPF.out.p0
          have fp1 := HPF.out.p1
          have fp2 := HPF.out.p2
          have fr0 := HPF.out.r0
          have fr1 := HPF.out.r1
          have fr2 := HPF.out.r2
          have fz0 := HPF.out.rz 0
          have fz1 := HPF.out.rz 1
          have fz2 := HPF.out.rz 2
          have HT := Lib.hid (HPF.out.told (.int .i64 (FA : Int)) (.int .i64 (least : Int)) (.int .u64 (X : Int)))
          clear HR HP4 HPF hn2 hNB hemp
          go_wp2_with (go_at_call 65; refine (hn1 _).mono ?_; rintro e w' ⟨rfl, hw'⟩; rw [hw']; clear hw' hn1)
          refine bodyPost_ret (results_place rfl rfl HT.out.1 rfl) rfl ?_
          exact ⟨rfl, HT.out.2⟩
        · have he : NB.isEmpty = false := by cases hh : NB.isEmpty with | false => rfl | true => exact absurd (hemp.1 hh) hNB
          rw [if_neg hNB] at HR
          have HPC := Lib.hid (HPF.out.setC FB)
          have g1 := HPF.out.p1
          have gz := HPF.out.pz 1
          have fp0 := HPC.out.p0
          have fp1 := HPC.out.p1
          have fp2 := HPC.out.p2
          have fr0 := HPC.out.r0
          have fr1 := HPC.out.r1
          have fr2 := HPC.out.r2
          have fz0 := HPC.out.rz 0
          have fz1 := HPC.out.rz 1
          have fz2 := HPC.out.rz 2
          by_cases hB : okB = false ∨ (FB : Int) < (least : Int)
          · have hO : OUT = none := by rw [HR.out, if_pos hB]
            subst hO
            have hbad : (okB && decide ((least : Int) ≤ (FB : Int))) = false := by
              rcases hB with h | h
              · rw [h]; rfl
              · simp; intro _; omega
            rw [hbad] at hn2
            have HT := Lib.hid (HPC.out.told (.int .i64 0) (.int .i64 0) (.int .u64 0))
            clear HR HP4 HPF HPC hNB hemp hB hbad
            go_wp2_with (first | (go_at_call 65; refine (hn1 _).mono ?_; rintro e w' ⟨rfl, hw'⟩; rw [hw']; clear hw' hn1) | (go_at_call 65; refine (hn2 _).mono ?_; rintro e w' ⟨rfl, hw'⟩; rw [hw']; clear hw' hn2))
            refine bodyPost_ret (results_place rfl rfl HT.out.1 rfl) rfl ?_
            exact ⟨rfl, HT.out.2⟩
          · have hO : OUT = some ⟨FA, true, FB, X, LL.length⟩ := by rw [HR.out, if_neg hB]
            subst hO
            have hok : okB = true := by cases okB with | true => rfl | false => exact absurd (.inl rfl) hB
            have hgood : (okB && decide ((least : Int) ≤ (FB : Int))) = true := by have := fun h => hB (.inr h); rw [hok]; simp; omega
            rw [hgood] at hn2
            have HT := Lib.hid (HPC.out.told (.int .i64 (FA : Int)) (.int .i64 (FB : Int)) (.int .u64 (X : Int)))
            clear HR HP4 HPF HPC hNB hemp hB hgood hok
            go_wp2_with (first | (go_at_call 65; refine (hn1 _).mono ?_; rintro e w' ⟨rfl, hw'⟩; rw [hw']; clear hw' hn1) | (go_at_call 65; refine (hn2 _).mono ?_; rintro e w' ⟨rfl, hw'⟩; rw [hw']; clear hw' hn2))
            refine bodyPost_ret (results_place rfl rfl HT.out.1 rfl) rfl ?_
            exact ⟨rfl, HT.out.2⟩
end Go.Proofs.YtdgnbcbcfgfkmaaDoor
