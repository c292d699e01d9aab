/- Places in a line, by the landed code. -/
import Derived.Test.YtdgnbcbcfgfkmaaDoorR4b
import Derived.Test.YtdgnbcbcfgfkmaaDoorR7
import Derived.Test.YtdgnbcbcfgfkmaaDoorQPlace
import Derived.Deep.RegionHeld3
namespace Go.Proofs.YtdgnbcbcfgfkmaaDoor
open Go.RowKit Go.Shelf

theorem within_c (x : Option Addr) (n cp from_ way : Nat) (w : World) (h1 : from_ ≤ n) (h2 : n ≤ 2097152) (h3 : way ≤ 2147483647) :
    Calls Tryd.prog 59 #[.slice x n cp, .int .i64 (from_ : Int), .int .i64 (way : Int)] w fun e w' => e = .returned (.int .i64 ((from_ + min way (n - from_) : Nat) : Int)) ∧ w' = w := by
  have hw : IntKind.i64.wrap ((n : Int) - (from_ : Int)) = (n : Int) - (from_ : Int) := IntWalk.i64_in _ (by omega)
  by_cases h : way ≤ n - from_
  · have hm : min (way : Int) ((n : Int) - (from_ : Int)) = (way : Int) := by omega
    rw [show min way (n - from_) = way by omega]
    go_enter Tryd.func59, Tryd.ntmps59
    go_wp2
    go_ret
    exact ⟨ret_i64 (by first | omega | (simp; omega)), rfl⟩
  · have hm : min (way : Int) ((n : Int) - (from_ : Int)) = (n : Int) - (from_ : Int) := by omega
    rw [show min way (n - from_) = n - from_ by omega]
    go_enter Tryd.func59, Tryd.ntmps59
    go_wp2
    go_ret
    exact ⟨ret_i64 (by first | omega | (simp; omega)), rfl⟩
def oS (x : Nat) (d : List UInt8) (f : Nat × Nat) : Nat := if x.testBit 0 then innerS d f else f.1
def placeV (F C x : Nat) : Value := .agg #[.int .i64 (F : Int), .int .i64 (C : Int), .int .u64 (x : Int)]
set_option maxHeartbeats 1000000 in
theorem origin_c (F C x : Nat) (v : Value) (d : List UInt8) (b e_ : Nat) (w : World) (hx : x < 64) (hd : d.length ≤ 2097152) (hbe : b ≤ e_) (hed : e_ ≤ d.length) (hB : ByAt w v d) :
    Calls Tryd.prog 60 #[placeV F C x, v, .int .i64 (b : Int), .int .i64 (e_ : Int)] w fun e w' => e = .returned (.int .i64 (oS x d (b, e_) : Int)) ∧ Below w.heap.size w w' := by
  have h1 := fun u => has_c x 1 u hx (by omega)
  rw [bit_0 x hx] at h1
  obtain ⟨xa, cp, rfl⟩ := hB.shape
  have hl := hB.len
  have hdr := by_sl (i := b) (j := e_) hB hbe hed
  have hbA : ∀ o, Below w.heap.size w (w.alloc o) := fun o => (Below.refl w.heap.size w).alloc (Nat.le_refl _) o
  unfold oS placeV
  cases hb0 : x.testBit 0 with
  | false =>
    rw [hb0] at h1
    have HA := Lib.hid hbA
    clear hdr hb0 hbA
    go_enter Tryd.func60, Tryd.ntmps60
    go_wp2_with (go_at_call 35; refine (h1 _).mono ?_; rintro e w' ⟨rfl, hw'⟩; rw [hw']; clear hw')
    go_ret
    exact ⟨rfl, HA.out _⟩
  | true =>
    rw [hb0] at h1
    have HA := Lib.hid hbA
    have hin : (e_ : Int) - ((((d.take e_).drop b).dropWhile isBl).length : Int) = (innerS d (b, e_) : Int) := by
      have e1 := dropWhile_len isBl ((d.take e_).drop b)
      have e2 : (((d.take e_).drop b).takeWhile isBl).length ≤ ((d.take e_).drop b).length := takeWhile_le _ _
      have e3 : ((d.take e_).drop b).length = e_ - b := by rw [List.length_drop, List.length_take]; omega
      unfold innerS skipB
      simp only
      omega
    have hle : (((d.take e_).drop b).dropWhile isBl).length ≤ e_ := by
      have e1 := dropWhile_len isBl ((d.take e_).drop b)
      have e3 : ((d.take e_).drop b).length = e_ - b := by rw [List.length_drop, List.length_take]; omega
      omega
    clear hb0
    obtain ⟨_, hl1, hl2⟩ := hl
    have hdw := fun v' u h => dropWhile_c fnP_blank v' ((d.take e_).drop b) u h
    simp only [if_true]
    by_cases hcp : cp = b
    · have hdl : e_ - b = 0 := by omega
      rw [if_pos hcp, hdl, show cp - b = 0 by omega] at hdr
      have HD := Lib.hid hdr
      subst hcp
      clear hdr
      go_enter Tryd.func60, Tryd.ntmps60
      go_wp2_with (go_at_call 35; refine (h1 _).mono ?_; rintro e w' ⟨rfl, hw'⟩; rw [hw']; clear hw')
      refine (hdw _ _ (HD.out.below (HA.out _))).mono ?_
      rintro e w' ⟨⟨v', rfl, hv'⟩, hw'⟩
      rw [hw']
      obtain ⟨x', c', rfl⟩ := (hv' w HD.out).shape
      clear hw' hv' hdw
      generalize (((d.take e_).drop _).dropWhile isBl).length = L at *
      go_wp2_with fail
      go_ret
      exact ⟨ret_i64 (by first | exact hin | omega), HA.out _⟩
    · rw [if_neg hcp] at hdr
      have HD := Lib.hid hdr
      clear hdr
      go_enter Tryd.func60, Tryd.ntmps60
      go_wp2_with (go_at_call 35; refine (h1 _).mono ?_; rintro e w' ⟨rfl, hw'⟩; rw [hw']; clear hw')
      refine (hdw _ _ (HD.out.below (HA.out _))).mono ?_
      rintro e w' ⟨⟨v', rfl, hv'⟩, hw'⟩
      rw [hw']
      obtain ⟨x', c', rfl⟩ := (hv' w HD.out).shape
      clear hw' hv' hdw
      generalize (((d.take e_).drop b).dropWhile isBl).length = L at *
      go_wp2_with fail
      go_ret
      exact ⟨ret_i64 (by first | exact hin | omega), HA.out _⟩
end Go.Proofs.YtdgnbcbcfgfkmaaDoor
/- Where a key begins and ends, by the landed code. -/
namespace Go.Proofs.YtdgnbcbcfgfkmaaDoor
open Go.RowKit Go.Shelf

def begS (sep : Option UInt8) (d : List UInt8) (F C x : Nat) : Nat :=
  match (fieldsS sep d)[F - 1]? with
  | none => d.length
  | some f => oS x d f + min (C - 1) (d.length - oS x d f)
def endS (sep : Option UInt8) (d : List UInt8) (F C x : Nat) : Nat :=
  if F = 0 then d.length else
  match (fieldsS sep d)[F - 1]? with
  | none => d.length
  | some f => if C = 0 then f.2 else oS x d f + min C (d.length - oS x d f)
theorem field_ok {sep : Option UInt8} {d : List UInt8} {i : Nat} {f : Nat × Nat} (h : (fieldsS sep d)[i]? = some f) : f.1 ≤ f.2 ∧ f.2 ≤ d.length := fieldsS_ok sep d f (List.mem_of_getElem? h)
theorem oS_le (x : Nat) (d : List UInt8) (f : Nat × Nat) (h1 : f.1 ≤ f.2) (h2 : f.2 ≤ d.length) : oS x d f ≤ d.length := by
  unfold oS
  split
  · unfold innerS skipB
    have e2 : (((d.take f.2).drop f.1).takeWhile isBl).length ≤ ((d.take f.2).drop f.1).length := takeWhile_le _ _
    have e3 : ((d.take f.2).drop f.1).length = f.2 - f.1 := by rw [List.length_drop, List.length_take]; omega
    omega
  · omega
theorem begS_le (sep : Option UInt8) (d : List UInt8) (F C x : Nat) : begS sep d F C x ≤ d.length := by
  unfold begS
  split
  · exact Nat.le_refl _
  · rename_i f hf
    have := oS_le x d f (field_ok hf).1 (field_ok hf).2
    omega
theorem endS_le (sep : Option UInt8) (d : List UInt8) (F C x : Nat) : endS sep d F C x ≤ d.length := by
  unfold endS
  split
  · exact Nat.le_refl _
  · split
    · exact Nat.le_refl _
    · rename_i f hf
      have := oS_le x d f (field_ok hf).1 (field_ok hf).2
      have := (field_ok hf).2
      split <;> omega
section
variable {f : FuncId} {first : Array Value} {sep : Option UInt8}
def partV (f : FuncId) (first : Array Value) (sep : Option UInt8) : Value := .agg #[.func (.func f) first #[], .int .i64 (btw sep : Int)]
def partC (f : FuncId) (first : Array Value) (sep : Option UInt8) : Array Value := #[.func (.func f) first #[], .int .i64 (btw sep : Int)]
def placeC (F C x : Nat) : Array Value := #[.int .i64 (F : Int), .int .i64 (C : Int), .int .u64 (x : Int)]
set_option maxHeartbeats 2000000 in
set_option maxRecDepth 100000 in
theorem begin_c (hcf : ∀ (z : Array Value) (u : World), (callFunc f z).run Tryd.prog u = .ok (.enter f z) u)
    (hc : ∀ (va : Value) (d : List UInt8) (w : World), ByAt w va d → Calls Tryd.prog f (first ++ #[va]) w fun e w' => e = .returned (.int .i64 (lenS sep d : Int)) ∧ w' = w)
    (v : Value) (d : List UInt8) (F C x : Nat) (w : World) (hF1 : 1 ≤ F) (hF : F ≤ 2147483647) (hC1 : 1 ≤ C) (hC : C ≤ 2147483647) (hx : x < 64) (hd : d.length ≤ 2097152) (hB : ByAt w v d) :
    Calls Tryd.prog 40 #[placeV F C x, v, partV f first sep] w fun e w' => e = .returned (.int .i64 (begS sep d F C x : Int)) ∧ Below w.heap.size w w' := by
  have HF := Lib.hid (fun u hu => field_c hcf hc v d F u ⟨hF1, hF⟩ hd hu)
  have HG := Lib.hid (fun b e_ u h1 h2 hu => origin_c F C x v d b e_ u hx hd h1 h2 hu)
  have HO := Lib.hid (fun f' (h : (fieldsS sep d)[F - 1]? = some f') => And.intro (field_ok h) (oS_le x d f' (field_ok h).1 (field_ok h).2))
  have HR := Lib.hid (show begS sep d F C x = match (fieldsS sep d)[F - 1]? with | none => d.length | some f => oS x d f + min (C - 1) (d.length - oS x d f) from rfl)
  obtain ⟨xa, cp, rfl⟩ := hB.shape
  have HB := Lib.hid hB
  have HA : Hid (∀ o1 o2, Below w.heap.size w ((w.alloc o1).alloc o2)) := fun o1 o2 => ((Below.refl w.heap.size w).alloc (Nat.le_refl _) o1).alloc (by simp) o2
  generalize begS sep d F C x = R at *
  generalize (fieldsS sep d)[F - 1]? = O at *
  clear hB hc
  have hpv : partV f first sep = .agg #[.func (.func f) first #[], .int .i64 (btw sep : Int)] := rfl
  rw [hpv]
  unfold placeV at *
  have hw2 : ((w.alloc (.cells (placeC F C x) 72)).alloc (.cells (partC f first sep) 44)).heap[w.heap.size]? = some (.cells (placeC F C x) 72) := two0 w _ _
  have hw3 : ((w.alloc (.cells (placeC F C x) 72)).alloc (.cells (partC f first sep) 44)).heap[w.heap.size + 1]? = some (.cells (partC f first sep) 44) := two1 w _ _
  go_enter Tryd.func40, Tryd.ntmps40
  go_wp2_with fail
  refine (HF.out _ (HB.out.below (HA.out _ _))).mono ?_
  rintro e w1 ⟨rfl, hb1⟩
  have HBL : Hid (Below w.heap.size w w1) := (HA.out _ _).trans (hb1.mono (HA.out _ _).size)
  have hp1 : w1.heap[w.heap.size]? = some (.cells (placeC F C x) 72) := (hb1.block _ (by simp; omega)).trans hw2
  have c0 : w1.cell? ⟨w.heap.size, 0, none⟩ = some (.int .i64 (F : Int)) := by simp [World.cell?, hp1, placeC]
  have c1 : w1.cell? ⟨w.heap.size, 1, none⟩ = some (.int .i64 (C : Int)) := by simp [World.cell?, hp1, placeC]
  have c2 : w1.cell? ⟨w.heap.size, 2, none⟩ = some (.int .u64 (x : Int)) := by simp [World.cell?, hp1, placeC]
  have HP1 := Lib.hid hp1
  clear hb1 hw2 hw3 hp1 HF hpv
  cases O with
  | none =>
    have hR : R = d.length := HR.out
    subst hR
    go_wp2_with fail
    go_ret
    exact ⟨rfl, HBL.out⟩
  | some q =>
    have hq := HO.out q rfl
    have hR : R = oS x d q + min (C - 1) (d.length - oS x d q) := HR.out
    obtain ⟨q1, q2⟩ := q
    have hor := HG.out q1 q2 w1.drew hq.1.1 hq.1.2 (HB.out.below HBL.out.drew)
    have ho1 := hq.2
    have hq1 := hq.1.1
    have hq2 := hq.1.2
    have d0 : w1.drew.cell? ⟨w.heap.size, 0, none⟩ = some (.int .i64 (F : Int)) := c0
    have d1 : w1.drew.cell? ⟨w.heap.size, 1, none⟩ = some (.int .i64 (C : Int)) := c1
    have d2 : w1.drew.cell? ⟨w.heap.size, 2, none⟩ = some (.int .u64 (x : Int)) := c2
    have hlt : w.heap.size < w1.drew.heap.size := (Array.getElem?_eq_some_iff.1 HP1.out).1
    have hwi : ∀ u, Calls Tryd.prog 59 #[.slice xa d.length cp, .int .i64 (oS x d (q1, q2) : Int), .int .i64 ((C : Int) - 1)] u fun e w' => e = .returned (.int .i64 (R : Int)) ∧ w' = u := by
      intro u
      have := within_c xa d.length cp (oS x d (q1, q2)) (C - 1) u ho1 hd (by omega)
      rw [show ((C - 1 : Nat) : Int) = (C : Int) - 1 by omega, ← hR] at this
      exact this
    have hwC : IntKind.i64.wrap ((C : Int) - 1) = (C : Int) - 1 := IntWalk.i64_in _ (by omega)
    have HR2 := Lib.hid hR
    clear HG HO HR hq hR
    generalize oS x d (q1, q2) = OO at *
    go_upto_region 4 with fail
    go_region_with (first
      | (go_at_call 60; refine hor.mono ?_; rintro e w2 ⟨rfl, hb2⟩; have HB2 : Hid (Below w.heap.size w w2) := HBL.out.drew.trans (hb2.mono HBL.out.drew.size); have g0 : w2.cell? ⟨w.heap.size, 0, none⟩ = some (.int .i64 (F : Int)) := (hb2.cell (p := ⟨w.heap.size, 0, none⟩) hlt).trans d0; have g1 : w2.cell? ⟨w.heap.size, 1, none⟩ = some (.int .i64 (C : Int)) := (hb2.cell (p := ⟨w.heap.size, 1, none⟩) hlt).trans d1; have g2 : w2.cell? ⟨w.heap.size, 2, none⟩ = some (.int .u64 (x : Int)) := (hb2.cell (p := ⟨w.heap.size, 2, none⟩) hlt).trans d2; clear hb2 hor)
      | (go_at_call 59; refine (hwi _).mono ?_; rintro e w' ⟨rfl, hw'⟩; rw [hw']; clear hw'))
    all_goals
      go_wp2_with fail
      go_ret
      exact ⟨rfl, HB2.out⟩
end
end Go.Proofs.YtdgnbcbcfgfkmaaDoor
/- Where a key ends, by the landed code. -/
namespace Go.Proofs.YtdgnbcbcfgfkmaaDoor
open Go.RowKit Go.Shelf
section
variable {f : FuncId} {first : Array Value} {sep : Option UInt8}
set_option maxHeartbeats 2000000 in
set_option maxRecDepth 100000 in
theorem end_c (hcf : ∀ (z : Array Value) (u : World), (callFunc f z).run Tryd.prog u = .ok (.enter f z) u)
    (hc : ∀ (va : Value) (d : List UInt8) (w : World), ByAt w va d → Calls Tryd.prog f (first ++ #[va]) w fun e w' => e = .returned (.int .i64 (lenS sep d : Int)) ∧ w' = w)
    (v : Value) (d : List UInt8) (F C x : Nat) (w : World) (hF : F ≤ 2147483647) (hC : C ≤ 2147483647) (hx : x < 64) (hd : d.length ≤ 2097152) (hB : ByAt w v d) :
    Calls Tryd.prog 41 #[placeV F C x, v, partV f first sep] w fun e w' => e = .returned (.int .i64 (endS sep d F C x : Int)) ∧ Below w.heap.size w w' := by
  have HF := Lib.hid (fun u (h1 : 1 ≤ F) hu => field_c hcf hc v d F u ⟨h1, hF⟩ hd hu)
  have HG := Lib.hid (fun b e_ u h1 h2 hu => origin_c F C x v d b e_ u hx hd h1 h2 hu)
  have HO := Lib.hid (fun f' (h : (fieldsS sep d)[F - 1]? = some f') => And.intro (field_ok h) (oS_le x d f' (field_ok h).1 (field_ok h).2))
  have HR := Lib.hid (show endS sep d F C x = if F = 0 then d.length else match (fieldsS sep d)[F - 1]? with | none => d.length | some f => if C = 0 then f.2 else oS x d f + min C (d.length - oS x d f) from rfl)
  obtain ⟨xa, cp, rfl⟩ := hB.shape
  have HB := Lib.hid hB
  have HA : Hid (∀ o1 o2, Below w.heap.size w ((w.alloc o1).alloc o2)) := fun o1 o2 => ((Below.refl w.heap.size w).alloc (Nat.le_refl _) o1).alloc (by simp) o2
  generalize endS sep d F C x = R at *
  generalize (fieldsS sep d)[F - 1]? = O at *
  clear hB hc
  have hpv : partV f first sep = .agg #[.func (.func f) first #[], .int .i64 (btw sep : Int)] := rfl
  rw [hpv]
  unfold placeV at *
  have hw2 : ((w.alloc (.cells (placeC F C x) 72)).alloc (.cells (partC f first sep) 44)).heap[w.heap.size]? = some (.cells (placeC F C x) 72) := two0 w _ _
  have hw3 : ((w.alloc (.cells (placeC F C x) 72)).alloc (.cells (partC f first sep) 44)).heap[w.heap.size + 1]? = some (.cells (partC f first sep) 44) := two1 w _ _
  by_cases hF0 : F = 0
  · have hR : R = d.length := by rw [HR.out, if_pos hF0]
    subst hR
    subst hF0
    go_enter Tryd.func41, Tryd.ntmps41
    go_wp2_with fail
    go_ret
    exact ⟨rfl, HA.out _ _⟩
  rw [if_neg hF0] at HR
  have hFe : ((F : Int) == 0) = false := by simp; omega
  go_enter Tryd.func41, Tryd.ntmps41
  go_wp2_with fail
  refine (HF.out _ (by omega) (HB.out.below (HA.out _ _))).mono ?_
  rintro e w1 ⟨rfl, hb1⟩
  have HBL : Hid (Below w.heap.size w w1) := (HA.out _ _).trans (hb1.mono (HA.out _ _).size)
  have hp1 : w1.heap[w.heap.size]? = some (.cells (placeC F C x) 72) := (hb1.block _ (by simp; omega)).trans hw2
  have c0 : w1.cell? ⟨w.heap.size, 0, none⟩ = some (.int .i64 (F : Int)) := by simp [World.cell?, hp1, placeC]
  have c1 : w1.cell? ⟨w.heap.size, 1, none⟩ = some (.int .i64 (C : Int)) := by simp [World.cell?, hp1, placeC]
  have c2 : w1.cell? ⟨w.heap.size, 2, none⟩ = some (.int .u64 (x : Int)) := by simp [World.cell?, hp1, placeC]
  have HP1 := Lib.hid hp1
  clear hb1 hw2 hw3 hp1 HF hpv
  cases O with
  | none =>
    have hR : R = d.length := HR.out
    subst hR
    go_wp2_with fail
    go_ret
    exact ⟨rfl, HBL.out⟩
  | some q =>
    have hq := HO.out q rfl
    obtain ⟨q1, q2⟩ := q
    by_cases hC0 : C = 0
    · have hR : R = q2 := by rw [HR.out]; simp only [if_pos hC0]
      subst hR
      subst hC0
      go_wp2_with fail
      go_ret
      exact ⟨rfl, HBL.out⟩
    have hCe : ((C : Int) == 0) = false := by simp; omega
    have hR : R = oS x d (q1, q2) + min C (d.length - oS x d (q1, q2)) := by rw [HR.out]; simp only [if_neg hC0]
    have hor := HG.out q1 q2 w1.drew hq.1.1 hq.1.2 (HB.out.below HBL.out.drew)
    have ho1 := hq.2
    have hq1 := hq.1.1
    have hq2 := hq.1.2
    have d0 : w1.drew.cell? ⟨w.heap.size, 0, none⟩ = some (.int .i64 (F : Int)) := c0
    have d1 : w1.drew.cell? ⟨w.heap.size, 1, none⟩ = some (.int .i64 (C : Int)) := c1
    have d2 : w1.drew.cell? ⟨w.heap.size, 2, none⟩ = some (.int .u64 (x : Int)) := c2
    have hlt : w.heap.size < w1.drew.heap.size := (Array.getElem?_eq_some_iff.1 HP1.out).1
    have hwi : ∀ u, Calls Tryd.prog 59 #[.slice xa d.length cp, .int .i64 (oS x d (q1, q2) : Int), .int .i64 (C : Int)] u fun e w' => e = .returned (.int .i64 (R : Int)) ∧ w' = u := by
      intro u
      have := within_c xa d.length cp (oS x d (q1, q2)) C u ho1 hd hC
      rw [← hR] at this
      exact this
    have HR2 := Lib.hid hR
    clear HG HO HR hq hR
    generalize oS x d (q1, q2) = OO at *
    go_upto_region 8 with fail
    go_region_with (first
      | (go_at_call 60; refine hor.mono ?_; rintro e w2 ⟨rfl, hb2⟩; have HB2 : Hid (Below w.heap.size w w2) := HBL.out.drew.trans (hb2.mono HBL.out.drew.size); have g0 : w2.cell? ⟨w.heap.size, 0, none⟩ = some (.int .i64 (F : Int)) := (hb2.cell (p := ⟨w.heap.size, 0, none⟩) hlt).trans d0; have g1 : w2.cell? ⟨w.heap.size, 1, none⟩ = some (.int .i64 (C : Int)) := (hb2.cell (p := ⟨w.heap.size, 1, none⟩) hlt).trans d1; have g2 : w2.cell? ⟨w.heap.size, 2, none⟩ = some (.int .u64 (x : Int)) := (hb2.cell (p := ⟨w.heap.size, 2, none⟩) hlt).trans d2; clear hb2 hor)
      | (go_at_call 59; refine (hwi _).mono ?_; rintro e w' ⟨rfl, hw'⟩; rw [hw']; clear hw'))
    all_goals
      go_wp2_with fail
      go_ret
      exact ⟨rfl, HB2.out⟩
end
end Go.Proofs.YtdgnbcbcfgfkmaaDoor
/- The bytes of a line that are of a key, by the landed code. -/
namespace Go.Proofs.YtdgnbcbcfgfkmaaDoor
open Go.RowKit Go.Shelf

/-- A key, as the program keeps it. -/
structure KyR (k : Ky) (F1 C1 x1 F2 C2 x2 : Nat) : Prop where
  f1 : k.f1 = (F1 : Int)
  c1 : (k.c1 - 1).toNat = C1 - 1
  f2 : k.f2 = (F2 : Int)
  c2 : k.c2 = (C2 : Int)
  fl : k.fl = fgOf x1 x2
  b : 1 ≤ F1 ∧ F1 ≤ 2147483647 ∧ 1 ≤ C1 ∧ C1 ≤ 2147483647 ∧ F2 ≤ 2147483647 ∧ C2 ≤ 2147483647 ∧ x1 < 64 ∧ x2 < 64
theorem piece_be (sep : Option UInt8) (d : List UInt8) {k : Ky} {F1 C1 x1 F2 C2 x2 : Nat} (h : KyR k F1 C1 x1 F2 C2 x2) : pieceS sep d k = (d.take (endS sep d F2 C2 x2)).drop (min (begS sep d F1 C1 x1) (endS sep d F2 C2 x2)) := by
  have hb := h.b
  have hE := endS_le sep d F2 C2 x2
  have hBl := begS_le sep d F1 C1 x1
  have eE : d.take (toS d k (fieldsS sep d)) = d.take (endS sep d F2 C2 x2) := by
    unfold toS endS
    rw [h.f2, h.c2]
    by_cases h0 : F2 = 0
    · rw [if_pos (by omega), if_pos h0]
    · rw [if_neg (by omega), if_neg h0, show ((F2 : Int) - 1).toNat = F2 - 1 by omega]
      cases hf : (fieldsS sep d)[F2 - 1]? with
      | none => rfl
      | some f =>
        simp only
        by_cases h1 : C2 = 0
        · rw [if_pos (by omega), if_pos h1]
        · have ho := oS_le x2 d f (field_ok hf).1 (field_ok hf).2
          rw [if_neg (by omega), if_neg h1, h.fl]
          show d.take (oS x2 d f + (C2 : Int).toNat) = _
          rw [Int.toNat_natCast]
          by_cases h2 : C2 ≤ d.length - oS x2 d f
          · rw [Nat.min_eq_left h2]
          · rw [List.take_of_length_le (by omega), List.take_of_length_le (by omega)]
  have eB : min (fromS d k (fieldsS sep d)) d.length = begS sep d F1 C1 x1 := by
    unfold fromS begS
    rw [h.f1, h.c1, h.fl, show ((F1 : Int) - 1).toNat = F1 - 1 by omega]
    cases hf : (fieldsS sep d)[F1 - 1]? with
    | none => simp
    | some f =>
      have ho := oS_le x1 d f (field_ok hf).1 (field_ok hf).2
      show min (oS x1 d f + (C1 - 1)) d.length = oS x1 d f + min (C1 - 1) (d.length - oS x1 d f)
      omega
  unfold pieceS
  rw [eE]
  generalize fromS d k (fieldsS sep d) = FR at *
  generalize begS sep d F1 C1 x1 = B at *
  generalize endS sep d F2 C2 x2 = E at *
  have hl : (d.take E).length = E := by rw [List.length_take]; omega
  by_cases h1 : FR ≤ E
  · rw [show min B E = FR by omega]
  · rw [List.drop_eq_nil_of_le (by omega), List.drop_eq_nil_of_le (by omega)]
theorem below_drew {B : Nat} {w u : World} (h : Below B w u) : Below B w u.drew := h.drew
theorem below_then {w u v : World} (h : Below w.heap.size w u) (k : Below u.heap.size u v) : Below w.heap.size w v := h.trans (k.mono h.size)
theorem cell_of {u : World} {K T : Nat} {cs : Array Value} (h : u.heap[K]? = some (.cells cs T)) (i : Nat) {y : Value} (hi : cs[i]? = some y) : u.cell? ⟨K, i, none⟩ = some y := by simp [World.cell?, h, hi]
def keyV (F1 C1 x1 F2 C2 x2 : Nat) (cv : Value) : Value := .agg #[.int .i64 (F1 : Int), .int .i64 (C1 : Int), .int .u64 (x1 : Int), .int .i64 (F2 : Int), .int .i64 (C2 : Int), .int .u64 (x2 : Int), cv]
def keyC (F1 C1 x1 F2 C2 x2 : Nat) (cv : Value) : Array Value := #[.int .i64 (F1 : Int), .int .i64 (C1 : Int), .int .u64 (x1 : Int), .int .i64 (F2 : Int), .int .i64 (C2 : Int), .int .u64 (x2 : Int), cv]
set_option maxHeartbeats 2000000 in
set_option maxRecDepth 100000 in
theorem bytesOf_c {f : FuncId} {first : Array Value} {sep : Option UInt8} (hcf : ∀ (z : Array Value) (u : World), (callFunc f z).run Tryd.prog u = .ok (.enter f z) u)
    (hc : ∀ (va : Value) (d : List UInt8) (w : World), ByAt w va d → Calls Tryd.prog f (first ++ #[va]) w fun e w' => e = .returned (.int .i64 (lenS sep d : Int)) ∧ w' = w)
    (v : Value) (d : List UInt8) (k : Ky) (F1 C1 x1 F2 C2 x2 : Nat) (g : FuncId) (gf : Array Value) (w : World) (hk : KyR k F1 C1 x1 F2 C2 x2) (hd : d.length ≤ 2097152) (hB : ByAt w v d) :
    Calls Tryd.prog 25 #[keyV F1 C1 x1 F2 C2 x2 (.func (.func g) gf #[]), v, partV f first sep] w fun e w' => (∃ v', e = .returned v' ∧ ByAt w' v' (pieceS sep d k)) ∧ Below w.heap.size w w' := by
  obtain ⟨b1, b2, b3, b4, b5, b6, b7, b8⟩ := hk.b
  have HG := Lib.hid (fun u hu => begin_c hcf hc v d F1 C1 x1 u b1 b2 b3 b4 b7 hd hu)
  have HE := Lib.hid (fun u hu => end_c hcf hc v d F2 C2 x2 u b5 b6 b8 hd hu)
  have HP := Lib.hid (piece_be sep d hk)
  have hBl := begS_le sep d F1 C1 x1
  have hEl := endS_le sep d F2 C2 x2
  obtain ⟨xa, cp, rfl⟩ := hB.shape
  have hl := hB.len
  have HB := Lib.hid hB
  have HA : Hid (∀ o1 o2, Below w.heap.size w ((w.alloc o1).alloc o2)) := fun o1 o2 => ((Below.refl w.heap.size w).alloc (Nat.le_refl _) o1).alloc (by simp) o2
  have hsl := fun u i j h hij hj => by_sl (w := u) (x := xa) (n := d.length) (cp := cp) (i := i) (j := j) (d := d) h hij hj
  have HSL := Lib.hid hsl
  clear hB hc hk hsl
  obtain ⟨bS, hbS⟩ : ∃ B, begS sep d F1 C1 x1 = B := ⟨_, rfl⟩
  obtain ⟨eS, heS⟩ : ∃ B, endS sep d F2 C2 x2 = B := ⟨_, rfl⟩
  obtain ⟨PP, hPP⟩ : ∃ B, pieceS sep d k = B := ⟨_, rfl⟩
  rw [hbS] at HG HP hBl
  rw [heS] at HE HP hEl
  rw [hPP] at HP ⊢
  clear hbS heS hPP
  have hw2 : ((w.alloc (.cells (keyC F1 C1 x1 F2 C2 x2 (.func (.func g) gf #[])) 74)).alloc (.cells (partC f first sep) 44)).heap[w.heap.size]? = some (.cells (keyC F1 C1 x1 F2 C2 x2 (.func (.func g) gf #[])) 74) := two0 w _ _
  have hw3 : ((w.alloc (.cells (keyC F1 C1 x1 F2 C2 x2 (.func (.func g) gf #[])) 74)).alloc (.cells (partC f first sep) 44)).heap[w.heap.size + 1]? = some (.cells (partC f first sep) 44) := two1 w _ _
  have hbw := HA.out (.cells (keyC F1 C1 x1 F2 C2 x2 (.func (.func g) gf #[])) 74) (.cells (partC f first sep) 44)
  unfold placeV partV at *
  unfold keyV
  go_enter Tryd.func25, Tryd.ntmps25
  go_upto_region 1 with fail
  obtain ⟨W, hW⟩ : ∃ W, (w.alloc (.cells (keyC F1 C1 x1 F2 C2 x2 (.func (.func g) gf #[])) 74)).alloc (.cells (partC f first sep) 44) = W := ⟨_, rfl⟩
  obtain ⟨K, hK⟩ : ∃ K, w.heap.size = K := ⟨_, rfl⟩
  rw [hW] at hw2 hw3 hbw
  unfold keyC partC at hW
  rw [hW]
  rw [hK] at hw2 hw3 ⊢
  have HK := Lib.hid hK
  have HW2 := Lib.hid hw2
  have HW3 := Lib.hid hw3
  have HBW := Lib.hid hbw
  clear hW hK hw2 hw3 hbw
  go_cut [7, 8] (fun a b wx => a = .int .i64 (bS : Int) ∧ b = .int .i64 (eS : Int) ∧ Hid (Below w.heap.size w wx))
  case first =>
    have hlt1 : K < W.heap.size := (Array.getElem?_eq_some_iff.1 HW2.out).1
    have hlt2 : K + 1 < W.heap.size := (Array.getElem?_eq_some_iff.1 HW3.out).1
    have KK : ∀ w', Below W.heap.size W w' → w'.cell? ⟨K, 0, none⟩ = some (.int .i64 (F1 : Int)) ∧ w'.cell? ⟨K, 1, none⟩ = some (.int .i64 (C1 : Int)) ∧ w'.cell? ⟨K, 2, none⟩ = some (.int .u64 (x1 : Int)) ∧ w'.cell? ⟨K, 3, none⟩ = some (.int .i64 (F2 : Int)) ∧ w'.cell? ⟨K, 4, none⟩ = some (.int .i64 (C2 : Int)) ∧ w'.cell? ⟨K, 5, none⟩ = some (.int .u64 (x2 : Int)) ∧ w'.cell? ⟨K, 6, none⟩ = some (.func (.func g) gf #[]) ∧ w'.cell? ⟨K + 1, 0, none⟩ = some (.func (.func f) first #[]) ∧ w'.cell? ⟨K + 1, 1, none⟩ = some (.int .i64 (btw sep : Int)) := fun w' h => ⟨(h.cell (p := ⟨K, 0, none⟩) hlt1).trans (cell_of HW2.out 0 rfl), (h.cell (p := ⟨K, 1, none⟩) hlt1).trans (cell_of HW2.out 1 rfl), (h.cell (p := ⟨K, 2, none⟩) hlt1).trans (cell_of HW2.out 2 rfl), (h.cell (p := ⟨K, 3, none⟩) hlt1).trans (cell_of HW2.out 3 rfl), (h.cell (p := ⟨K, 4, none⟩) hlt1).trans (cell_of HW2.out 4 rfl), (h.cell (p := ⟨K, 5, none⟩) hlt1).trans (cell_of HW2.out 5 rfl), (h.cell (p := ⟨K, 6, none⟩) hlt1).trans (cell_of HW2.out 6 rfl), (h.cell (p := ⟨K + 1, 0, none⟩) hlt2).trans (cell_of HW3.out 0 rfl), (h.cell (p := ⟨K + 1, 1, none⟩) hlt2).trans (cell_of HW3.out 1 rfl)⟩
    have hG := fun u (h : Below W.heap.size W u) => HG.out u (HB.out.below (below_then HBW.out h))
    have hE := fun u (h : Below W.heap.size W u) => HE.out u (HB.out.below (below_then HBW.out h))
    go_region_held3 (fun w' => w'.cell? ⟨K, 0, none⟩ = some (.int .i64 (F1 : Int)) ∧ w'.cell? ⟨K, 1, none⟩ = some (.int .i64 (C1 : Int)) ∧ w'.cell? ⟨K, 2, none⟩ = some (.int .u64 (x1 : Int)) ∧ w'.cell? ⟨K, 3, none⟩ = some (.int .i64 (F2 : Int)) ∧ w'.cell? ⟨K, 4, none⟩ = some (.int .i64 (C2 : Int)) ∧ w'.cell? ⟨K, 5, none⟩ = some (.int .u64 (x2 : Int)) ∧ w'.cell? ⟨K, 6, none⟩ = some (.func (.func g) gf #[]) ∧ w'.cell? ⟨K + 1, 0, none⟩ = some (.func (.func f) first #[]) ∧ w'.cell? ⟨K + 1, 1, none⟩ = some (.int .i64 (btw sep : Int))) (exact KK _ (by repeat (first | with_reducible exact Below.refl _ _ | with_reducible exact hBw3 | with_reducible exact hBw2 | with_reducible refine below_drew ?_))) (first
      | (go_at_call 40; refine (hG _ (by repeat (first | with_reducible exact Below.refl _ _ | with_reducible exact hBw3 | with_reducible exact hBw2 | with_reducible refine below_drew ?_))).mono ?_; rintro e w2 ⟨rfl, hb2⟩; have hBw2 : Below W.heap.size W w2 := below_then (by repeat (first | with_reducible exact Below.refl _ _ | with_reducible exact hBw3 | with_reducible exact hBw2 | with_reducible refine below_drew ?_)) hb2; have hE2 := hE; clear hb2)
      | (go_at_call 41; refine (hE2 _ (by repeat (first | with_reducible exact Below.refl _ _ | with_reducible exact hBw3 | with_reducible exact hBw2 | with_reducible refine below_drew ?_))).mono ?_; rintro e w3 ⟨rfl, hb3⟩; have hBw3 : Below W.heap.size W w3 := below_then (by repeat (first | with_reducible exact Below.refl _ _ | with_reducible exact hBw3 | with_reducible exact hBw2 | with_reducible refine below_drew ?_)) hb3; clear hb3))
    all_goals
      try simp only [Act.put, List.getElem_toArray, List.getElem_cons_succ, List.getElem_cons_zero, List.setIfInBounds_toArray, List.set_cons_succ, List.set_cons_zero]
      go_wp2_with fail
      go_meet
      case rel => exact ⟨rfl, rfl, below_then HBW.out (by repeat (first | with_reducible exact Below.refl _ _ | with_reducible exact hBw3 | with_reducible exact hBw2 | with_reducible refine below_drew ?_))⟩
  case rest =>
    obtain ⟨rfl, rfl, HB3⟩ := hcut
    obtain ⟨_, hl1, hl2⟩ := hl
    have HBc := Lib.hid (HB.out.below HB3.out)
    clear HG HE HB HA HW2 HW3 HBW
    by_cases hbe : bS ≤ eS
    · have hm : min (bS : Int) (eS : Int) = (bS : Int) := by omega
      have hdr := HSL.out wc bS eS HBc.out hbe hEl
      have hPP : Hid (PP = (d.take eS).drop bS) := by show _ = _; rw [HP.out, Nat.min_eq_left hbe]
      by_cases hcp : cp = bS
      · rw [if_pos hcp, show cp - bS = 0 by omega, ← hPP.out] at hdr
        have HD := Lib.hid hdr
        clear hdr
        subst hcp
        go_wp2_with fail
        go_ret
        exact ⟨⟨_, rfl, HD.out⟩, HB3.out⟩
      · rw [if_neg hcp, ← hPP.out] at hdr
        have HD := Lib.hid hdr
        clear hdr
        go_wp2_with fail
        go_ret
        exact ⟨⟨_, rfl, HD.out⟩, HB3.out⟩
    · have hm : min (bS : Int) (eS : Int) = (eS : Int) := by omega
      have hdr := HSL.out wc eS eS HBc.out (Nat.le_refl _) hEl
      have hPP : Hid (PP = (d.take eS).drop eS) := by show _ = _; rw [HP.out, Nat.min_eq_right (by omega)]
      by_cases hcp : cp = eS
      · rw [if_pos hcp, show eS - eS = 0 by omega, show cp - eS = 0 by omega, ← hPP.out] at hdr
        have HD := Lib.hid hdr
        clear hdr
        subst hcp
        go_wp2_with fail
        go_ret
        exact ⟨⟨_, rfl, HD.out⟩, HB3.out⟩
      · rw [if_neg hcp, ← hPP.out, show eS - eS = 0 by omega] at hdr
        have HD := Lib.hid hdr
        clear hdr
        go_wp2_with fail
        go_ret
        exact ⟨⟨_, rfl, HD.out⟩, HB3.out⟩
end Go.Proofs.YtdgnbcbcfgfkmaaDoor
