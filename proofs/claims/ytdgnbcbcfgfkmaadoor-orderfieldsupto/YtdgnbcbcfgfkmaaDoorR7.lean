/- Fields, by the landed code. -/
import Derived.Test.YtdgnbcbcfgfkmaaDoorR3
import Derived.Test.YtdgnbcbcfgfkmaaDoorQFldB
import Derived.Deep.RegionWith
namespace Go.Proofs.YtdgnbcbcfgfkmaaDoor
open Go.RowKit Go.Shelf

def lenS (sep : Option UInt8) (s : List UInt8) : Nat := match sep with | some c => fldLenC c s | none => fldLen s
def btw (sep : Option UInt8) : Nat := match sep with | some _ => 1 | none => 0
def FL (sep : Option UInt8) (d : List UInt8) (b : Nat) : List (Nat × Nat) :=
  match sep with
  | some c => fldsC c (d.drop b) b b
  | none => if d.drop b = [] then [(b, b)] else fldsB (d.drop b).length (d.drop b) b
theorem FL_zero (sep : Option UInt8) (d : List UInt8) : FL sep d 0 = fieldsS sep d := by cases sep <;> rfl
theorem fldsC_cut (c : UInt8) : ∀ (s : List UInt8) (b i : Nat), fldsC c s b i = (b, i + fldLenC c s) :: if fldLenC c s = s.length then [] else fldsC c (s.drop (fldLenC c s + 1)) (i + fldLenC c s + 1) (i + fldLenC c s + 1)
  | [], b, i => rfl
  | x :: r, b, i => by
    by_cases hx : x = c
    · have e : fldLenC c (x :: r) = 0 := by unfold fldLenC; rw [List.takeWhile_cons, if_neg (by simpa using hx)]; rfl
      rw [fldsC, if_pos hx, e, if_neg (by simp)]
      rfl
    · have e : fldLenC c (x :: r) = fldLenC c r + 1 := by unfold fldLenC; rw [List.takeWhile_cons, if_pos (by simpa using hx)]; rfl
      rw [fldsC, if_neg hx, fldsC_cut c r b (i + 1), e, List.length_cons, List.drop_succ_cons, show i + 1 + fldLenC c r = i + (fldLenC c r + 1) by omega]
      by_cases h : fldLenC c r = r.length
      · rw [if_pos h, if_pos (by omega)]
      · rw [if_neg h, if_neg (by omega)]
theorem fldsB_fuel : ∀ (n : Nat) (s : List UInt8) (i : Nat), s.length ≤ n → fldsB n s i = fldsB s.length s i
  | 0, [], i, _ => rfl
  | n + 1, [], i, _ => rfl
  | n + 1, x :: r, i, h => by
    have hp := fldLen_pos x r
    have hl : ((x :: r).drop (fldLen (x :: r))).length ≤ r.length := by rw [List.length_drop, List.length_cons]; omega
    rw [List.length_cons, fldsB, fldsB, fldsB_fuel n _ _ (by simp at h; omega), fldsB_fuel r.length _ _ hl]
theorem lenS_le (sep : Option UInt8) (s : List UInt8) : lenS sep s ≤ s.length := by
  cases sep with
  | none => exact fldLen_le s
  | some c => exact takeWhile_le _ _
theorem FL_step (sep : Option UInt8) (d : List UInt8) (b : Nat) (hb : b ≤ d.length) : FL sep d b = (b, b + lenS sep (d.drop b)) :: if b + lenS sep (d.drop b) = d.length then [] else FL sep d (b + lenS sep (d.drop b) + btw sep) := by
  have hl := lenS_le sep (d.drop b)
  rw [List.length_drop] at hl
  cases sep with
  | some c =>
    show fldsC c (d.drop b) b b = _
    rw [fldsC_cut, List.length_drop, List.drop_drop]
    show _ = (b, b + fldLenC c (d.drop b)) :: _
    congr 1
    by_cases h : fldLenC c (d.drop b) = d.length - b
    · rw [if_pos h, if_pos (by show b + fldLenC c (d.drop b) = _; omega)]
    · rw [if_neg h, if_neg (by show ¬ b + fldLenC c (d.drop b) = _; omega)]
      show _ = fldsC c (d.drop (b + fldLenC c (d.drop b) + 1)) (b + fldLenC c (d.drop b) + 1) (b + fldLenC c (d.drop b) + 1)
      rw [Nat.add_assoc b]
  | none =>
    show (if d.drop b = [] then [(b, b)] else fldsB (d.drop b).length (d.drop b) b) = (b, b + fldLen (d.drop b)) :: (if b + fldLen (d.drop b) = d.length then [] else (if d.drop (b + fldLen (d.drop b) + 0) = [] then _ else fldsB (d.drop (b + fldLen (d.drop b) + 0)).length (d.drop (b + fldLen (d.drop b) + 0)) (b + fldLen (d.drop b) + 0)))
    rw [Nat.add_zero]
    by_cases h0 : d.drop b = []
    · rw [if_pos h0, h0]
      have hbl : d.length ≤ b := List.drop_eq_nil_iff.1 h0
      show _ = (b, b + 0) :: _
      rw [if_pos (by show b + 0 = d.length; omega)]
      rfl
    · rw [if_neg h0]
      have hbl : b < d.length := by
        rcases Nat.lt_or_ge b d.length with h | h
        · exact h
        · exact absurd (List.drop_eq_nil_of_le h) h0
      have hs := fldsB_step d b ((d.drop b).length - 1) hbl
      have hln : (d.drop b).length - 1 + 1 = (d.drop b).length := by rw [List.length_drop]; omega
      rw [hln] at hs
      rw [hs]
      have hp : 1 ≤ fldLen (d.drop b) := by rw [List.drop_eq_getElem_cons hbl]; exact fldLen_pos _ _
      congr 1
      by_cases h : b + fldLen (d.drop b) = d.length
      · rw [if_pos h, show d.drop (b + fldLen (d.drop b)) = [] from List.drop_eq_nil_of_le (by omega), fldsB_nil]
      · rw [if_neg h, if_neg (by rw [List.drop_eq_nil_iff]; have := fldLen_le (d.drop b); rw [List.length_drop] at this; omega)]
        exact fldsB_fuel _ _ _ (by rw [List.length_drop, List.length_drop]; omega)
theorem FL_next (sep : Option UInt8) (d : List UInt8) (b : Nat) (hb : b ≤ d.length) (h : ¬ b + lenS sep (d.drop b) = d.length) : b + lenS sep (d.drop b) + btw sep ≤ d.length := by
  have hl := lenS_le sep (d.drop b)
  rw [List.length_drop] at hl
  cases sep <;> simp only [btw] <;> omega

/-- A function value that tells how long a field is. -/
structure FnL (v : Value) (sep : Option UInt8) : Prop where
  ex : ∃ (f : FuncId) (first : Array Value), v = .func (.func f) first #[] ∧ (∀ (z : Array Value) (u : World), (callFunc f z).run Tryd.prog u = .ok (.enter f z) u) ∧
    ∀ (va : Value) (d : List UInt8) (w : World), ByAt w va d → Calls Tryd.prog f (first ++ #[va]) w fun e w' => e = .returned (.int .i64 (lenS sep d : Int)) ∧ w' = w
theorem fnL_blanks : FnL (.func (.func 30) #[] #[]) none :=
  ⟨⟨_, _, rfl, enters_of Tryd.func30 (by kernel_rfl) rfl, fun va d w h => lengthByBlanks_c va d w h⟩⟩
theorem fnL_sep (c : UInt8) : FnL (.func (.func 31) #[.int .u8 (c.toNat : Int)] #[]) (some c) :=
  ⟨⟨_, _, rfl, enters_of Tryd.func31 (by kernel_rfl) rfl, fun va d w h => lengthAhead_c c va d w h⟩⟩
def fldB (o : Option (Nat × Nat)) : Nat := match o with | none => 0 | some f => f.1
def fldE (o : Option (Nat × Nat)) : Nat := match o with | none => 0 | some f => f.2
set_option maxHeartbeats 2000000 in
set_option maxRecDepth 100000 in
theorem field_c {f : FuncId} {first : Array Value} {sep : Option UInt8} (hcf : ∀ (z : Array Value) (u : World), (callFunc f z).run Tryd.prog u = .ok (.enter f z) u)
    (hc : ∀ (va : Value) (d : List UInt8) (w : World), ByAt w va d → Calls Tryd.prog f (first ++ #[va]) w fun e w' => e = .returned (.int .i64 (lenS sep d : Int)) ∧ w' = w)
    (v : Value) (d : List UInt8) (n : Nat) (w : World) (hn : 1 ≤ n ∧ n ≤ 2147483647) (hd : d.length ≤ 2097152) (hB : ByAt w v d) :
    Calls Tryd.prog 58 #[.agg #[.func (.func f) first #[], .int .i64 (btw sep : Int)], v, .int .i64 (n : Int)] w fun e w' => e = .returned (.tuple #[.int .i64 (fldB (fieldsS sep d)[n - 1]? : Int), .int .i64 (fldE (fieldsS sep d)[n - 1]? : Int), .bool ((fieldsS sep d)[n - 1]?).isSome]) ∧ Below w.heap.size w w' := by
  obtain ⟨x, cp, rfl⟩ := hB.shape
  have hl := hB.len
  have HB := Lib.hid hB
  have HC := Lib.hid hc
  have HS := Lib.hid (fun b hb => FL_step sep d b hb)
  have HN := Lib.hid (fun b hb h => FL_next sep d b hb h)
  have HL := Lib.hid (fun b => lenS_le sep (d.drop b))
  obtain ⟨O, hO⟩ : ∃ O, (fieldsS sep d)[n - 1]? = O := ⟨_, rfl⟩
  rw [hO]
  have HO : Hid ((FL sep d 0)[n - 1]? = O) := by show _ = _; rw [FL_zero]; exact hO
  have hbt : btw sep ≤ 1 := by cases sep <;> simp [btw]
  clear hB hc hO
  generalize btw sep = bt at *
  go_enter Tryd.func58, Tryd.ntmps58
  go_wp2_with fail
  obtain ⟨W, hW⟩ : ∃ W, w.alloc (.cells #[.func (.func f) first #[], .int .i64 (bt : Int)] 44) = W := ⟨_, rfl⟩
  obtain ⟨K, hK⟩ : ∃ K, w.heap.size = K := ⟨_, rfl⟩
  have HW : Hid (W.heap[K]? = some (.cells #[.func (.func f) first #[], .int .i64 (bt : Int)] 44) ∧ Below w.heap.size w W) := by
    rw [← hW, ← hK]
    exact ⟨by show (w.heap.push _)[w.heap.size]? = _; simp, (Below.refl w.heap.size w).alloc (Nat.le_refl _) _⟩
  have HK : Hid (K = w.heap.size) := hK.symm
  rw [hW, hK]
  clear hW hK
  go_loopw [2, 6] (fun nv bv wr => ∃ m b : Nat, 1 ≤ m ∧ m ≤ 2147483647 ∧ b ≤ d.length ∧ nv = .int .i64 (m : Int) ∧ bv = .int .i64 (b : Int) ∧ Hid ((FL sep d b)[m - 1]? = O) ∧ Hid (wr.heap[K]? = some (.cells #[.func (.func f) first #[], .int .i64 (bt : Int)] 44) ∧ Below w.heap.size w wr)) (fun nv _ _ => (intOf nv).toNat)
  case atStart => exact ⟨n, 0, hn.1, hn.2, by omega, rfl, rfl, HO, HW⟩
  case round =>
    obtain ⟨m, b, hm1, hm2, hbl, rfl, rfl, HI, HR⟩ := hrel
    clear HO HW
    have hb0 : wr.cell? ⟨K, 0, none⟩ = some (.func (.func f) first #[]) := by simp [World.cell?, HR.out.1]
    have hb1 : wr.cell? ⟨K, 1, none⟩ = some (.int .i64 (bt : Int)) := by simp [World.cell?, HR.out.1]
    have e1 : wr.drew.cell? ⟨K, 0, none⟩ = some (.func (.func f) first #[]) := hb0
    have e2 : wr.drew.cell? ⟨K, 1, none⟩ = some (.int .i64 (bt : Int)) := hb1
    have HRd : Hid (wr.drew.heap[K]? = some (.cells #[.func (.func f) first #[], .int .i64 (bt : Int)] 44) ∧ Below w.heap.size w wr.drew) := ⟨HR.out.1, HR.out.2.drew⟩
    have hdr := by_from (i := b) HB.out hbl rfl
    have hstep := HS.out b hbl
    have hnext := HN.out b hbl
    have hlen := HL.out b
    rw [List.length_drop] at hlen
    have hcall := fun va h => HC.out va (d.drop b) wr.drew h
    generalize lenS sep (d.drop b) = LN at *
    have hI := HI.out
    rw [hstep] at hI
    have HI2 := Lib.hid hI
    have HX := Lib.hid hnext
    clear hI hstep hnext HI HS HL HC
    obtain ⟨_, hl1, hl2⟩ := hl
    have hw1 : IntKind.i64.wrap ((b : Int) + (LN : Int)) = (b : Int) + (LN : Int) := IntWalk.i64_in _ (by omega)
    go_upto_region 1 with fail
    go_cut [7] (fun v wx => v = .int .i64 ((b : Int) + (LN : Int)) ∧ wx = wr.drew)
    case first =>
      by_cases hcp : cp = b
      · have hdl : d.length - b = 0 := by omega
        rw [if_pos hcp, hdl, show cp - b = 0 by omega] at hdr
        have hcl := hcall _ (hdr.below (HR.out.2.drew))
        clear hcall hdr
        subst hcp
        go_region_with (refine hcl.mono ?_; rintro e w' ⟨rfl, hw'⟩; rw [hw']; clear hw')
        all_goals
          go_wp2_with fail
          go_meet
          case rel => exact ⟨rfl, rfl⟩
      · rw [if_neg hcp] at hdr
        have hcl := hcall _ (hdr.below (HR.out.2.drew))
        clear hcall hdr
        go_region_with (refine hcl.mono ?_; rintro e w' ⟨rfl, hw'⟩; rw [hw']; clear hw')
        all_goals
          go_wp2_with fail
          go_meet
          case rel => exact ⟨rfl, rfl⟩
    case rest =>
      obtain ⟨rfl, rfl⟩ := hcut
      clear hcall hdr
      by_cases hm : m = 1
      · subst hm
        have hO : O = some (b, b + LN) := HI2.out.symm
        subst hO
        go_wp2_with fail
        go_ret3
        exact ⟨by first | rfl | simp [fldB, fldE], HRd.out.2⟩
      · have hme : ((m : Int) == 1) = false := by simp; omega
        obtain ⟨q, rfl⟩ : ∃ q, m = q + 2 := ⟨m - 2, by omega⟩
        by_cases he : b + LN = d.length
        · have hO : O = none := by have := HI2.out; rw [if_pos he] at this; rw [← this]; simp
          have hee : ((b : Int) + (LN : Int) == (d.length : Int)) = true := by simp; omega
          subst hO
          go_wp2_with fail
          go_ret3
          exact ⟨rfl, HRd.out.2⟩
        · have hI3 : Hid ((FL sep d (b + LN + bt))[q]? = O) := by have := HI2.out; rw [if_neg he] at this; exact this
          have hee : ((b : Int) + (LN : Int) == (d.length : Int)) = false := by simp; omega
          have hle := HX.out he
          have hw2 : IntKind.i64.wrap ((b : Int) + (LN : Int) + (bt : Int)) = (b : Int) + (LN : Int) + (bt : Int) := IntWalk.i64_in _ (by omega)
          clear HI2
          go_wp2_with fail
          exact ⟨⟨q + 1, b + LN + bt, by omega, by omega, hle, by go_num, by go_num, hI3, HRd⟩, by simp [intOf]; omega⟩
end Go.Proofs.YtdgnbcbcfgfkmaaDoor
