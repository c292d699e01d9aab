/- A key, as the landed code reads it. -/
import Derived.Test.YtdgnbcbcfgfkmaaDoorR12
import Derived.Test.YtdgnbcbcfgfkmaaDoorR6
import Derived.Deep.RegionHeld3
namespace Go.Proofs.YtdgnbcbcfgfkmaaDoor
open Go.RowKit Go.Shelf

/-- A key's numbers. -/
structure KN where
  (F1 C1 x1 F2 C2 x2 : Nat)
def finK (all : Nat) (p : PL) (F2 C2 X2 : Nat) : KN := if p.X ||| X2 = 0 then ⟨p.F, p.C, all, F2, C2, all⟩ else ⟨p.F, p.C, p.X, F2, C2, X2⟩
def keyL (s : List UInt8) (all : Nat) : Option KN :=
  (placeL (cutB 44 s) 1).bind fun p => if cutH 44 s then (placeL (cutA 44 s) 0).map fun q => finK all p q.F q.C q.X else some (finK all p 0 0 0)
theorem placeL_ok {s : List UInt8} {least : Nat} {q : PL} (h : placeL s least = some q) (hle : least ≤ 1) : 1 ≤ q.F ∧ q.F ≤ 2147483647 ∧ least ≤ q.C ∧ q.C ≤ 2147483647 ∧ q.X < 64 ∧ (q.n = 0 ↔ q.X = 0) ∧ (q.has = false → q.C = least) := by
  obtain ⟨L, hs, hL⟩ := trim_split s
  have hdl : s.drop (trimR s).length = L := by
    have : (trimR s ++ L).drop (trimR s).length = L := List.drop_left
    rw [← hs] at this; exact this
  have hX : lettersN L 0 < 64 := lettersN_lt L 0 (by omega)
  have hn : L.length = 0 ↔ lettersN L 0 = 0 := by
    constructor
    · intro h; rw [List.length_eq_zero_iff.1 h]; rfl
    · intro h
      cases L with
      | nil => rfl
      | cons a r => exact absurd h (lettersN_pos (a :: r) 0 hL (.inr (by simp)))
  unfold placeL at h
  rw [hdl] at h
  have hva := numT_le ((trimR s).takeWhile not46)
  have hvb := numT_le (((trimR s).dropWhile not46).drop 1)
  split at h
  · simp at h
  · rename_i h1
    have h1' : ¬ (numT ((trimR s).takeWhile not46)).1 < 1 := fun e => h1 (.inr e)
    split at h
    · simp only [Option.some.injEq] at h
      subst h
      exact ⟨by simp only; omega, by simp only; omega, Nat.le_refl _, by simp only; omega, hX, hn, fun _ => rfl⟩
    · split at h
      · simp at h
      · rename_i h2
        have h2' : ¬ (numT (((trimR s).dropWhile not46).drop 1)).1 < (least : Int) := fun e => h2 (.inr e)
        simp only [Option.some.injEq] at h
        subst h
        exact ⟨by simp only; omega, by simp only; omega, by simp only; omega, by simp only; omega, hX, hn, fun h => by cases h⟩
theorem notC_comma : notC 44 = notComma := rfl
theorem kept_or (x y : Nat) : keptS (fgOf (x ||| y) (x ||| y)) = keptS (fgOf x y) := by
  funext a
  unfold keptS
  have e1 : counts1 (fgOf (x ||| y) (x ||| y)) = counts1 (fgOf x y) := by funext c; unfold counts1 fgOf; simp only [Nat.or_self]
  have e2 : upS (fgOf (x ||| y) (x ||| y)) = upS (fgOf x y) := by funext c; unfold upS fgOf; simp only [Nat.or_self]
  rw [e1, e2]
theorem kcmp_or (k : Ky) (x y : Nat) (h : k.fl = fgOf x y) : cmpF (x ||| y) = kcmp k := by
  funext a b
  unfold cmpF kcmp
  rw [h, kept_or]
  rfl
theorem gS_first (X : Nat) : gS false 0 X = fgOf X 0 := rfl
theorem gS_second (x X : Nat) : gS true x X = fgOf x X := rfl
/-- What the landed code reads is the key that the document means. -/
theorem keyS_L (s : List UInt8) (all : Nat) (hall : all < 64) : match keyL s all with
    | none => keyS s (fgOf all all) = none
    | some n => ∃ k, keyS s (fgOf all all) = some k ∧ KyR k n.F1 n.C1 n.x1 n.F2 n.C2 n.x2 := by
  unfold keyL keyS
  have e0 : fg0 = gS false 0 0 := rfl
  rw [e0, placeS_L (s.takeWhile notComma) false 0]
  have ec : cutB 44 s = s.takeWhile notComma := rfl
  rw [ec]
  cases hp : placeL (s.takeWhile notComma) 1 with
  | none => simp [hp]
  | some p =>
    have okp := placeL_ok hp (by omega)
    have hp' : placeL (s.takeWhile notComma) (if false = true then 0 else 1) = some p := hp
    rw [hp']
    simp only [Option.map_some, Option.bind_some]
    have eh : cutH 44 s = !(s.dropWhile notComma).isEmpty := rfl
    have ea : cutA 44 s = (s.dropWhile notComma).drop 1 := rfl
    rw [eh, ea]
    have hc1 : (cS p - 1).toNat = p.C - 1 := by
      unfold cS
      cases hh : p.has with
      | true => simp
      | false => have := okp.2.2.2.2.2.2 hh; simp; omega
    by_cases hd : s.dropWhile notComma = []
    · rw [if_pos hd, hd]
      simp only [List.isEmpty_nil, Bool.not_true]
      refine ⟨_, rfl, ?_⟩
      unfold finK
      rw [Nat.or_zero]
      by_cases hX : p.X = 0
      · rw [if_pos hX, if_pos (okp.2.2.2.2.2.1.2 hX)]
        exact ⟨rfl, hc1, rfl, rfl, rfl, okp.1, okp.2.1, okp.2.2.1, okp.2.2.2.1, Nat.zero_le _, Nat.zero_le _, hall, hall⟩
      · rw [if_neg hX, if_neg (fun e => hX (okp.2.2.2.2.2.1.1 e)), gS_first]
        exact ⟨rfl, hc1, rfl, rfl, rfl, okp.1, okp.2.1, okp.2.2.1, okp.2.2.2.1, Nat.zero_le _, Nat.zero_le _, okp.2.2.2.2.1, Nat.zero_lt_succ _⟩
    · rw [if_neg hd, gS_first]
      have hemp : (s.dropWhile notComma).isEmpty = false := by
        cases hh : (s.dropWhile notComma).isEmpty with
        | false => rfl
        | true => exact absurd (List.isEmpty_iff.1 hh) hd
      rw [hemp, ← gS_second p.X 0, placeS_L _ true p.X]
      simp only [Bool.not_false, if_true]
      cases hq : placeL ((s.dropWhile notComma).drop 1) 0 with
      | none => simp
      | some q =>
        have okq := placeL_ok hq (by omega)
        simp only [Option.map_some]
        refine ⟨_, rfl, ?_⟩
        have hc2 : cS q = (q.C : Int) := by
          unfold cS
          cases hh : q.has with
          | true => simp
          | false => have := okq.2.2.2.2.2.2 hh; simp; omega
        unfold finK
        have e1 := okp.2.2.2.2.2.1
        have e2 := okq.2.2.2.2.2.1
        by_cases hX : p.X ||| q.X = 0
        · have hz := Nat.or_eq_zero_iff.1 hX
          rw [if_pos hX, if_pos (by have := e1.2 hz.1; have := e2.2 hz.2; omega)]
          exact ⟨rfl, hc1, rfl, hc2, rfl, okp.1, okp.2.1, okp.2.2.1, okp.2.2.2.1, okq.2.1, okq.2.2.2.1, hall, hall⟩
        · have hz : ¬ (p.n + q.n = 0) := fun e => hX (Nat.or_eq_zero_iff.2 ⟨e1.1 (by omega), e2.1 (by omega)⟩)
          rw [if_neg hX, if_neg hz, gS_second]
          exact ⟨rfl, hc1, rfl, hc2, rfl, okp.1, okp.2.1, okp.2.2.1, okp.2.2.2.1, okq.2.1, okq.2.2.2.1, okp.2.2.2.2.1, okq.2.2.2.2.1⟩
end Go.Proofs.YtdgnbcbcfgfkmaaDoor
/- A key read: the walk. -/
namespace Go.Proofs.YtdgnbcbcfgfkmaaDoor
open Go.RowKit Go.Shelf

def zeroC : Array Value := #[.int .i64 0, .int .i64 0, .int .u64 0, .int .i64 0, .int .i64 0, .int .u64 0, .nilFunc]
/-- Where a key lies while it is read. -/
structure KwL (w : World) (K4 K9 K11 F C X G D Y : Nat) (wr : World) : Prop where
  r : wr.heap[K4]? = some (.cells #[.int .i64 0, .int .i64 0, .int .u64 0, .int .i64 0, .int .i64 0, .int .u64 0, .nilFunc] 74)
  p : wr.heap[K9]? = some (.cells #[.int .i64 (F : Int), .int .i64 (C : Int), .int .u64 (X : Int)] 72)
  q : wr.heap[K11]? = some (.cells #[.int .i64 (G : Int), .int .i64 (D : Int), .int .u64 (Y : Int)] 72)
  bl : Below w.heap.size w wr
  lt : w.heap.size ≤ K4 ∧ w.heap.size ≤ K9 ∧ w.heap.size ≤ K11 ∧ K4 ≠ K9 ∧ K4 ≠ K11 ∧ K9 ≠ K11
/-- Six of seven cells set. -/
def set6 (u : World) (K : Nat) (a b c d e f : Value) : World := (((((u.setCell ⟨K, 0, none⟩ a).setCell ⟨K, 1, none⟩ b).setCell ⟨K, 2, none⟩ c).setCell ⟨K, 3, none⟩ d).setCell ⟨K, 4, none⟩ e).setCell ⟨K, 5, none⟩ f
theorem set6_at {u : World} {K T : Nat} (h : u.heap[K]? = some (.cells #[.int .i64 0, .int .i64 0, .int .u64 0, .int .i64 0, .int .i64 0, .int .u64 0, .nilFunc] T)) (a b c d e f : Value) : (set6 u K a b c d e f).heap[K]? = some (.cells #[a, b, c, d, e, f, .nilFunc] T) := by
  unfold set6; rw [set_1 (set_1 (set_1 (set_1 (set_1 (set_1 h)))))]; rfl
theorem told7 {w u : World} {K T : Nat} (h : u.heap[K]? = some (.cells #[.int .i64 0, .int .i64 0, .int .u64 0, .int .i64 0, .int .i64 0, .int .u64 0, .nilFunc] T)) (hb : Below w.heap.size w u) (hl : w.heap.size ≤ K) (a b c d e f g : Value) : ((set6 u K a b c d e f).setCell ⟨K, 6, none⟩ g).heap[K]? = some (.cells #[a, b, c, d, e, f, g] T) ∧ Below w.heap.size w ((set6 u K a b c d e f).setCell ⟨K, 6, none⟩ g) :=
  ⟨by rw [set_1 (set6_at h a b c d e f)]; rfl, by unfold set6; exact ((((((hb.setCell (p := ⟨K, 0, none⟩) hl _).setCell (p := ⟨K, 1, none⟩) hl _).setCell (p := ⟨K, 2, none⟩) hl _).setCell (p := ⟨K, 3, none⟩) hl _).setCell (p := ⟨K, 4, none⟩) hl _).setCell (p := ⟨K, 5, none⟩) hl _).setCell (p := ⟨K, 6, none⟩) hl _⟩
theorem store6_nf {u : World} {K T : Nat} (h : u.heap[K]? = some (.cells #[.int .i64 0, .int .i64 0, .int .u64 0, .int .i64 0, .int .i64 0, .int .u64 0, .nilFunc] T)) (a b c d e f : Value) : (store ⟨K, 6, none⟩ .nilFunc).run Tryd.prog (set6 u K a b c d e f) = .ok () ((set6 u K a b c d e f).setCell ⟨K, 6, none⟩ .nilFunc) := by
  have h6 := set6_at h a b c d e f
  have hc := cell_of h6 6 rfl
  have hz := fz_of h6 6
  simp [store, Sem.run, hc, hz]
theorem store6_fn {u : World} {K T : Nat} (h : u.heap[K]? = some (.cells #[.int .i64 0, .int .i64 0, .int .u64 0, .int .i64 0, .int .i64 0, .int .u64 0, .nilFunc] T)) (a b c d e f : Value) (fn : Fn) (y z : Array Value) : (store ⟨K, 6, none⟩ (.func fn y z)).run Tryd.prog (set6 u K a b c d e f) = .ok () ((set6 u K a b c d e f).setCell ⟨K, 6, none⟩ (.func fn y z)) :=
  store_fn fn y z (cell_of (set6_at h a b c d e f) 6 rfl) (fz_of (set6_at h a b c d e f) 6)
theorem drew_heap (u : World) : u.drew.heap = u.heap := rfl
section
variable {w : World} {K4 K9 K11 F C X G D Y : Nat} {wr : World}
theorem KwL.on (h : KwL w K4 K9 K11 F C X G D Y wr) {wy : World} (hb : Below wr.heap.size wr wy) : KwL w K4 K9 K11 F C X G D Y wy :=
  ⟨(hb.block K4 (Array.getElem?_eq_some_iff.1 h.r).1).trans h.r, (hb.block K9 (Array.getElem?_eq_some_iff.1 h.p).1).trans h.p, (hb.block K11 (Array.getElem?_eq_some_iff.1 h.q).1).trans h.q, h.bl.trans (hb.mono h.bl.size), h.lt⟩
theorem KwL.setQ (h : KwL w K4 K9 K11 F C X G D Y wr) (G' D' Y' : Nat) : KwL w K4 K9 K11 F C X G' D' Y' (((wr.setCell ⟨K11, 0, none⟩ (.int .i64 (G' : Int))).setCell ⟨K11, 1, none⟩ (.int .i64 (D' : Int))).setCell ⟨K11, 2, none⟩ (.int .u64 (Y' : Int))) :=
  ⟨by rw [set_other h.lt.2.2.2.2.1, set_other h.lt.2.2.2.2.1, set_other h.lt.2.2.2.2.1]; exact h.r, by rw [set_other h.lt.2.2.2.2.2, set_other h.lt.2.2.2.2.2, set_other h.lt.2.2.2.2.2]; exact h.p, by rw [set_1 (set_1 (set_1 h.q))]; rfl, ((h.bl.setCell (p := ⟨K11, 0, none⟩) h.lt.2.2.1 _).setCell (p := ⟨K11, 1, none⟩) h.lt.2.2.1 _).setCell (p := ⟨K11, 2, none⟩) h.lt.2.2.1 _, h.lt⟩
theorem KwL.setA (h : KwL w K4 K9 K11 F C X G D Y wr) (a : Nat) : KwL w K4 K9 K11 F C a G D a ((wr.setCell ⟨K9, 2, none⟩ (.int .u64 (a : Int))).setCell ⟨K11, 2, none⟩ (.int .u64 (a : Int))) :=
  ⟨by rw [set_other h.lt.2.2.2.2.1, set_other h.lt.2.2.2.1]; exact h.r, by rw [set_other h.lt.2.2.2.2.2, set_1 h.p]; rfl, by rw [set_1 ((set_other (Ne.symm h.lt.2.2.2.2.2)).trans h.q)]; rfl, (h.bl.setCell (p := ⟨K9, 2, none⟩) h.lt.2.1 _).setCell (p := ⟨K11, 2, none⟩) h.lt.2.2.1 _, h.lt⟩
end
theorem info_keyL : (Tryd.prog.info? 74).map (·.size) = some 7 := by kernel_rfl
theorem results_key {fn : Func} {p u : Tmp} (h : fn.results = #[.cell p 74, .tmp u]) {tmps : Array Value} {w : World} {b : Nat} {x0 x1 x2 x3 x4 x5 x6 y : Value} (hp : tmps.getD p undef = .pointer (some ⟨b, 0, none⟩)) (hg : w.heap[b]? = some (.cells #[x0, x1, x2, x3, x4, x5, x6] 74)) (hy : tmps.getD u undef = y) :
    (results fn tmps).run Tryd.prog w = .ok (.tuple #[.agg #[x0, x1, x2, x3, x4, x5, x6], y]) w := by
  rw [results_ct h, hp, hy]
  simp [asAddr, Result.andThen, run_loadVar_row w b 74 74 #[x0, x1, x2, x3, x4, x5, x6] (0, 0) _ hg Tryd.underlying74 rfl info_keyL]
def zeroK : Value := .agg #[.int .i64 0, .int .i64 0, .int .u64 0, .int .i64 0, .int .i64 0, .int .u64 0, .nilFunc]
def KeyRet (o : Option KN) (e : Ending) : Prop :=
  match o with
  | none => e = .returned (.tuple #[zeroK, .bool false])
  | some n => ∃ g gf, e = .returned (.tuple #[keyV n.F1 n.C1 n.x1 n.F2 n.C2 n.x2 (.func (.func g) gf #[]), .bool true]) ∧ FnC (.func (.func g) gf #[]) (cmpF (n.x1 ||| n.x2))
set_option maxHeartbeats 2000000 in
set_option maxRecDepth 100000 in
theorem keyOf_c (s : ByteArray) (all : Nat) (w : World) (hs : s.size ≤ 2097152) (hall : all < 64) :
    Calls Tryd.prog 33 #[.string s, .int .u64 (all : Int)] w fun e w' => KeyRet (keyL s.data.toList all) e ∧ Below w.heap.size w w' := by
  have hbA : Below w.heap.size w (w.alloc (.cells #[.int .i64 0, .int .i64 0, .int .u64 0, .int .i64 0, .int .i64 0, .int .u64 0, .nilFunc] 74)) := (Below.refl w.heap.size w).alloc (Nat.le_refl _) _
  have h1 := cut_c s 44 (w.alloc (.cells #[.int .i64 0, .int .i64 0, .int .u64 0, .int .i64 0, .int .i64 0, .int .u64 0, .nilFunc] 74)) hs
  have HA := Lib.hid hbA
  have HR := Lib.hid (keyL.eq_def s.data.toList all)
  have hl1 : (cutB 44 s.data.toList).length ≤ 2097152 := Nat.le_trans (takeWhile_le _ _) hs
  have hl2 : (cutA 44 s.data.toList).length ≤ 2097152 := by unfold cutA; rw [List.length_drop, dropWhile_len]; have e : s.data.toList.length = s.size := rfl; omega
  generalize cutB 44 s.data.toList = A at *
  generalize cutA 44 s.data.toList = B at *
  generalize cutH 44 s.data.toList = has at *
  generalize keyL s.data.toList all = OUT at *
  have hp1 := fun u => placeOf_c ⟨A.toArray⟩ 1 u (by rw [arr_size]; exact hl1)
  have hp2 := fun u => placeOf_c ⟨B.toArray⟩ 0 u (by rw [arr_size]; exact hl2)
  have e1 : (⟨A.toArray⟩ : ByteArray).data.toList = A := rfl
  have e2 : (⟨B.toArray⟩ : ByteArray).data.toList = B := rfl
  rw [e1] at hp1
  rw [e2] at hp2
  have okp := fun q (h : placeL A 1 = some q) => placeL_ok h (by omega)
  have okq := fun q (h : placeL B 0 = some q) => placeL_ok h (by omega)
  clear e1 e2 hbA hl1 hl2
  generalize placeL A 1 = P1 at *
  generalize placeL B 0 = P2 at *
  have HP2 := Lib.hid hp2
  have HQ := Lib.hid okq
  clear hp2 okq
  go_enter Tryd.func33, Tryd.ntmps33
  go_wp2_with fail
  refine h1.mono ?_
  rintro e w1 ⟨rfl, hb1⟩
  have hw1 : w1.heap[w.heap.size]? = some (.cells #[.int .i64 0, .int .i64 0, .int .u64 0, .int .i64 0, .int .i64 0, .int .u64 0, .nilFunc] 74) := (hb1.block w.heap.size (by simp)).trans (by show (w.heap.push _)[w.heap.size]? = _; simp)
  have HB1 := Lib.hid (And.intro (below_then HA.out hb1) hw1)
  clear h1 hb1 hw1 HA
  go_wp2_with fail
  refine (hp1 _).mono ?_
  rintro e w2 ⟨hr1, hb2⟩
  have hw2 : w2.heap[w.heap.size]? = some (.cells #[.int .i64 0, .int .i64 0, .int .u64 0, .int .i64 0, .int .i64 0, .int .u64 0, .nilFunc] 74) := (hb2.block w.heap.size (Array.getElem?_eq_some_iff.1 HB1.out.2).1).trans HB1.out.2
  have HB2 := Lib.hid (And.intro (below_then HB1.out.1 hb2) hw2)
  clear hp1 hb2 hw2 HB1
  cases P1 with
  | none =>
    have hO : OUT = none := HR.out
    subst hO
    have hr1' : e = .returned (.tuple #[.agg #[.int .i64 0, .int .i64 0, .int .u64 0], .bool false]) := hr1
    subst hr1'
    clear hr1 HR HP2 HQ okp
    have HWr : Hid ((w2.alloc (.cells #[.int .i64 0, .int .i64 0, .int .u64 0] 72)).heap[w.heap.size]? = some (.cells #[.int .i64 0, .int .i64 0, .int .u64 0, .int .i64 0, .int .i64 0, .int .u64 0, .nilFunc] 74) ∧ Below w.heap.size w (w2.alloc (.cells #[.int .i64 0, .int .i64 0, .int .u64 0] 72))) :=
      ⟨(((Below.refl w2.heap.size w2).alloc (Nat.le_refl _) _).block _ (Array.getElem?_eq_some_iff.1 HB2.out.2).1).trans HB2.out.2, HB2.out.1.alloc HB2.out.1.size _⟩
    go_upto_region 3 with fail
    obtain ⟨W, hW⟩ : ∃ W, w2.alloc (.cells #[.int .i64 0, .int .i64 0, .int .u64 0] 72) = W := ⟨_, rfl⟩
    rw [hW] at HWr
    rw [hW]
    clear hW HB2
    have r0 := cell_of HWr.out.1 0 rfl
    have z0 := fz_of HWr.out.1 0
    have r1 := cell_of HWr.out.1 1 rfl
    have z1 := fz_of HWr.out.1 1
    have r2 := cell_of HWr.out.1 2 rfl
    have z2 := fz_of HWr.out.1 2
    have r3 := cell_of HWr.out.1 3 rfl
    have z3 := fz_of HWr.out.1 3
    have r4 := cell_of HWr.out.1 4 rfl
    have z4 := fz_of HWr.out.1 4
    have r5 := cell_of HWr.out.1 5 rfl
    have z5 := fz_of HWr.out.1 5
    have r6 := cell_of HWr.out.1 6 rfl
    have z6 := fz_of HWr.out.1 6
    have HT := Lib.hid (told7 HWr.out.1 HWr.out.2 (Nat.le_refl _) (.int .i64 0) (.int .i64 0) (.int .u64 0) (.int .i64 0) (.int .i64 0) (.int .u64 0) .nilFunc)
    have hsf := store6_nf HWr.out.1 (.int .i64 0) (.int .i64 0) (.int .u64 0) (.int .i64 0) (.int .i64 0) (.int .u64 0)
    unfold set6 at hsf HT
    clear HWr
    go_wp2_with fail
    refine bodyPost_ret (results_key rfl rfl HT.out.1 rfl) rfl ?_
    exact ⟨rfl, HT.out.2⟩
  | some p =>
    have hr1' : e = .returned (.tuple #[.agg #[.int .i64 (p.F : Int), .int .i64 (p.C : Int), .int .u64 (p.X : Int)], .bool true]) := hr1
    subst hr1'
    have hpX := (okp p rfl).2.2.2.2.1
    clear hr1 okp
    have HWr : Hid (KwL w w.heap.size w2.heap.size (w2.heap.size + 1) p.F p.C p.X 0 0 0 ((w2.alloc (.cells #[.int .i64 (p.F : Int), .int .i64 (p.C : Int), .int .u64 (p.X : Int)] 72)).alloc (.cells #[.int .i64 0, .int .i64 0, .int .u64 0] 72))) := by
      have hl : w.heap.size < w2.heap.size := (Array.getElem?_eq_some_iff.1 HB2.out.2).1
      have hb : Below w2.heap.size w2 ((w2.alloc (.cells #[.int .i64 (p.F : Int), .int .i64 (p.C : Int), .int .u64 (p.X : Int)] 72)).alloc (.cells #[.int .i64 0, .int .i64 0, .int .u64 0] 72)) := ((Below.refl w2.heap.size w2).alloc (Nat.le_refl _) _).alloc (by simp) _
      exact ⟨(hb.block _ hl).trans HB2.out.2, two0 w2 _ _, two1 w2 _ _, below_then HB2.out.1 hb, by omega, by omega, by omega, by omega, by omega, by omega⟩
    go_upto_region 6 with fail
    obtain ⟨W, hW⟩ : ∃ W, (w2.alloc (.cells #[.int .i64 (p.F : Int), .int .i64 (p.C : Int), .int .u64 (p.X : Int)] 72)).alloc (.cells #[.int .i64 0, .int .i64 0, .int .u64 0] 72) = W := ⟨_, rfl⟩
    obtain ⟨K9, hK9⟩ : ∃ K, w2.heap.size = K := ⟨_, rfl⟩
    obtain ⟨K11, hK11⟩ : ∃ K, w2.heap.size + 1 = K := ⟨_, rfl⟩
    rw [hW, hK11, hK9] at HWr
    rw [hW, hK11, hK9]
    clear hW hK9 hK11 HB2
    go_upto_if 27 with fail
    go_cut [10] (fun v wx => v = .bool true ∧ Hid (∃ G D Y, KwL w w.heap.size K9 K11 p.F p.C p.X G D Y wx ∧ Y < 64 ∧ OUT = some (finK all p G D Y)))
    case first =>
      cases has with
      | false =>
        have hO : OUT = some (finK all p 0 0 0) := HR.out
        have HE : Hid (∃ G D Y, KwL w w.heap.size K9 K11 p.F p.C p.X G D Y W ∧ Y < 64 ∧ OUT = some (finK all p G D Y)) := (show ∃ G D Y, _ from ⟨0, 0, 0, HWr.out, by omega, hO⟩)
        clear HR HP2 HQ HWr hO
        go_wp2_with fail
        go_meet
        case rel => exact ⟨rfl, HE⟩
      | true =>
        go_wp2_with fail
        refine (HP2.out _).mono ?_
        rintro e w3 ⟨hr2, hb3⟩
        have HW2 := Lib.hid (HWr.out.on hb3)
        clear hb3 HWr HP2
        cases P2 with
        | none =>
          have hO : OUT = none := HR.out
          subst hO
          have hr2' : e = .returned (.tuple #[.agg #[.int .i64 0, .int .i64 0, .int .u64 0], .bool false]) := hr2
          subst hr2'
          clear hr2 HR HQ
          have HW3 := Lib.hid (HW2.out.setQ 0 0 0)
          have q0 := cell_of HW2.out.q 0 rfl
          have y0 := fz_of HW2.out.q 0
          have q1 := cell_of HW2.out.q 1 rfl
          have y1 := fz_of HW2.out.q 1
          have q2 := cell_of HW2.out.q 2 rfl
          have y2 := fz_of HW2.out.q 2
          clear HW2
          go_upto_region 8 with fail
          obtain ⟨W3, hW3⟩ : ∃ W, ((w3.setCell ⟨K11, 0, none⟩ (.int .i64 ((0 : Nat) : Int))).setCell ⟨K11, 1, none⟩ (.int .i64 ((0 : Nat) : Int))).setCell ⟨K11, 2, none⟩ (.int .u64 ((0 : Nat) : Int)) = W := ⟨_, rfl⟩
          rw [hW3] at HW3
          have hW3' : ((w3.setCell ⟨K11, 0, none⟩ (.int .i64 0)).setCell ⟨K11, 1, none⟩ (.int .i64 0)).setCell ⟨K11, 2, none⟩ (.int .u64 0) = W3 := hW3
          rw [hW3']
          clear hW3 hW3' q0 q1 q2 y0 y1 y2
          have r0 := cell_of HW3.out.r 0 rfl
          have z0 := fz_of HW3.out.r 0
          have r1 := cell_of HW3.out.r 1 rfl
          have z1 := fz_of HW3.out.r 1
          have r2 := cell_of HW3.out.r 2 rfl
          have z2 := fz_of HW3.out.r 2
          have r3 := cell_of HW3.out.r 3 rfl
          have z3 := fz_of HW3.out.r 3
          have r4 := cell_of HW3.out.r 4 rfl
          have z4 := fz_of HW3.out.r 4
          have r5 := cell_of HW3.out.r 5 rfl
          have z5 := fz_of HW3.out.r 5
          have r6 := cell_of HW3.out.r 6 rfl
          have z6 := fz_of HW3.out.r 6
          have HT := Lib.hid (told7 HW3.out.r HW3.out.bl (Nat.le_refl _) (.int .i64 0) (.int .i64 0) (.int .u64 0) (.int .i64 0) (.int .i64 0) (.int .u64 0) .nilFunc)
          have hsf := store6_nf HW3.out.r (.int .i64 0) (.int .i64 0) (.int .u64 0) (.int .i64 0) (.int .i64 0) (.int .u64 0)
          unfold set6 at hsf HT
          clear HW3
          go_wp2_with fail
          refine bodyPost_ret (results_key rfl rfl HT.out.1 rfl) rfl ?_
          exact ⟨rfl, HT.out.2⟩
        | some q =>
          have hO : OUT = some (finK all p q.F q.C q.X) := HR.out
          have hr2' : e = .returned (.tuple #[.agg #[.int .i64 (q.F : Int), .int .i64 (q.C : Int), .int .u64 (q.X : Int)], .bool true]) := hr2
          subst hr2'
          have hqX := (HQ.out q rfl).2.2.2.2.1
          have q0 := cell_of HW2.out.q 0 rfl
          have y0 := fz_of HW2.out.q 0
          have q1 := cell_of HW2.out.q 1 rfl
          have y1 := fz_of HW2.out.q 1
          have q2 := cell_of HW2.out.q 2 rfl
          have y2 := fz_of HW2.out.q 2
          have HE : Hid (∃ G D Y, KwL w w.heap.size K9 K11 p.F p.C p.X G D Y (((w3.setCell ⟨K11, 0, none⟩ (.int .i64 (q.F : Int))).setCell ⟨K11, 1, none⟩ (.int .i64 (q.C : Int))).setCell ⟨K11, 2, none⟩ (.int .u64 (q.X : Int))) ∧ Y < 64 ∧ OUT = some (finK all p G D Y)) := (show ∃ G D Y, _ from ⟨q.F, q.C, q.X, HW2.out.setQ q.F q.C q.X, hqX, hO⟩)
          clear hr2 HR HQ HW2 hO
          go_wp2_with fail
          go_meet
          case rel => exact ⟨rfl, HE⟩
    case rest =>
      obtain ⟨rfl, HE⟩ := hcut
      obtain ⟨G, D, Y, hK, hY, hO⟩ := HE.out
      have HKw := Lib.hid hK
      clear HE hK HR HP2 HQ HWr
      have p0 := cell_of HKw.out.p 0 rfl
      have p1 := cell_of HKw.out.p 1 rfl
      have p2 := cell_of HKw.out.p 2 rfl
      have q0 := cell_of HKw.out.q 0 rfl
      have q1 := cell_of HKw.out.q 1 rfl
      have q2 := cell_of HKw.out.q 2 rfl
      have x0 := fz_of HKw.out.p 0
      have x1 := fz_of HKw.out.p 1
      have x2 := fz_of HKw.out.p 2
      have y0 := fz_of HKw.out.q 0
      have y1 := fz_of HKw.out.q 1
      have y2 := fz_of HKw.out.q 2
      have hor := bits_or_u64_nat p.X Y (by omega) (by omega)
      go_upto_if 41 with fail
      go_cut [10] (fun v wx => v = .bool true ∧ Hid (∃ X Z, KwL w w.heap.size K9 K11 p.F p.C X G D Z wx ∧ X < 64 ∧ Z < 64 ∧ OUT = some ⟨p.F, p.C, X, G, D, Z⟩))
      case first =>
        by_cases hz : p.X ||| Y = 0
        · have he : (((p.X ||| Y : Nat) : Int) == 0) = true := by rw [hz]; rfl
          have HE : Hid (∃ X Z, KwL w w.heap.size K9 K11 p.F p.C X G D Z ((wc.setCell ⟨K9, 2, none⟩ (.int .u64 (all : Int))).setCell ⟨K11, 2, none⟩ (.int .u64 (all : Int))) ∧ X < 64 ∧ Z < 64 ∧ OUT = some ⟨p.F, p.C, X, G, D, Z⟩) := (show ∃ X Z, _ from ⟨all, all, HKw.out.setA all, hall, hall, by rw [hO, finK, if_pos hz]⟩)
          have hne := HKw.out.lt.2.2.2.2.2
          clear HKw hO hz
          go_wp2_with fail
          go_meet
          case rel => exact ⟨rfl, HE⟩
        · have he : (((p.X ||| Y : Nat) : Int) == 0) = false := by simpa using hz
          have HE : Hid (∃ X Z, KwL w w.heap.size K9 K11 p.F p.C X G D Z wc ∧ X < 64 ∧ Z < 64 ∧ OUT = some ⟨p.F, p.C, X, G, D, Z⟩) := (show ∃ X Z, _ from ⟨p.X, Y, HKw.out, hpX, hY, by rw [hO, finK, if_neg hz]⟩)
          clear HKw hO hz
          go_wp2_with fail
          go_meet
          case rel => exact ⟨rfl, HE⟩
      case rest =>
        obtain ⟨rfl, HE⟩ := hcut
        obtain ⟨X, Z, hK, hX, hZ, hO2⟩ := HE.out
        clear HE HKw hO p0 p1 p2 q0 q1 q2 x0 x1 x2 y0 y1 y2 hor
        subst hO2
        have HKw := Lib.hid hK
        have HKd := Lib.hid (hK.on (Below.refl _ _).drew)
        have hcm := fun u => comparing_c (X ||| Z) (or_lt hX hZ) u
        have hor := bits_or_u64_nat X Z (by omega) (by omega)
        have r0 := cell_of HKd.out.r 0 rfl
        have r1 := cell_of HKd.out.r 1 rfl
        have r2 := cell_of HKd.out.r 2 rfl
        have r3 := cell_of HKd.out.r 3 rfl
        have r4 := cell_of HKd.out.r 4 rfl
        have r5 := cell_of HKd.out.r 5 rfl
        have r6 := cell_of HKd.out.r 6 rfl
        have z0 := fz_of HKd.out.r 0
        have z1 := fz_of HKd.out.r 1
        have z2 := fz_of HKd.out.r 2
        have z3 := fz_of HKd.out.r 3
        have z4 := fz_of HKd.out.r 4
        have z5 := fz_of HKd.out.r 5
        have z6 := fz_of HKd.out.r 6
        have rr0 := cell_of HKw.out.r 0 rfl
        have rr1 := cell_of HKw.out.r 1 rfl
        have rr2 := cell_of HKw.out.r 2 rfl
        have rr3 := cell_of HKw.out.r 3 rfl
        have rr4 := cell_of HKw.out.r 4 rfl
        have rr5 := cell_of HKw.out.r 5 rfl
        have rr6 := cell_of HKw.out.r 6 rfl
        have zz0 := fz_of HKw.out.r 0
        have zz1 := fz_of HKw.out.r 1
        have zz2 := fz_of HKw.out.r 2
        have zz3 := fz_of HKw.out.r 3
        have zz4 := fz_of HKw.out.r 4
        have zz5 := fz_of HKw.out.r 5
        have zz6 := fz_of HKw.out.r 6
        have h6 : (set6 wc w.heap.size (.int .i64 (p.F : Int)) (.int .i64 (p.C : Int)) (.int .u64 (X : Int)) (.int .i64 (G : Int)) (.int .i64 (D : Int)) (.int .u64 (Z : Int))).drew.heap[w.heap.size]? = some (.cells #[.int .i64 (p.F : Int), .int .i64 (p.C : Int), .int .u64 (X : Int), .int .i64 (G : Int), .int .i64 (D : Int), .int .u64 (Z : Int), .nilFunc] 74) := by rw [drew_heap]; exact set6_at HKw.out.r (.int .i64 (p.F : Int)) (.int .i64 (p.C : Int)) (.int .u64 (X : Int)) (.int .i64 (G : Int)) (.int .i64 (D : Int)) (.int .u64 (Z : Int))
        have hsf := fun (fn : Fn) (y z : Array Value) => store_fn (w := (set6 wc w.heap.size (.int .i64 (p.F : Int)) (.int .i64 (p.C : Int)) (.int .u64 (X : Int)) (.int .i64 (G : Int)) (.int .i64 (D : Int)) (.int .u64 (Z : Int))).drew) fn y z (cell_of h6 6 rfl) (fz_of h6 6)
        clear h6
        have HT : Hid (∀ g, (((set6 wc w.heap.size (.int .i64 (p.F : Int)) (.int .i64 (p.C : Int)) (.int .u64 (X : Int)) (.int .i64 (G : Int)) (.int .i64 (D : Int)) (.int .u64 (Z : Int))).setCell ⟨w.heap.size, 6, none⟩ g).drew).heap[w.heap.size]? = some (.cells #[.int .i64 (p.F : Int), .int .i64 (p.C : Int), .int .u64 (X : Int), .int .i64 (G : Int), .int .i64 (D : Int), .int .u64 (Z : Int), g] 74) ∧ Below w.heap.size w ((set6 wc w.heap.size (.int .i64 (p.F : Int)) (.int .i64 (p.C : Int)) (.int .u64 (X : Int)) (.int .i64 (G : Int)) (.int .i64 (D : Int)) (.int .u64 (Z : Int))).setCell ⟨w.heap.size, 6, none⟩ g).drew) := fun g => ⟨by rw [drew_heap]; exact (told7 HKw.out.r HKw.out.bl (Nat.le_refl _) (.int .i64 (p.F : Int)) (.int .i64 (p.C : Int)) (.int .u64 (X : Int)) (.int .i64 (G : Int)) (.int .i64 (D : Int)) (.int .u64 (Z : Int)) g).1, (told7 HKw.out.r HKw.out.bl (Nat.le_refl _) (.int .i64 (p.F : Int)) (.int .i64 (p.C : Int)) (.int .u64 (X : Int)) (.int .i64 (G : Int)) (.int .i64 (D : Int)) (.int .u64 (Z : Int)) g).2.drew⟩
        unfold set6 at hsf HT
        have KK : ∀ w' : World, w'.heap[K9]? = wc.heap[K9]? → w'.heap[K11]? = wc.heap[K11]? → w'.cell? ⟨K9, 0, none⟩ = some (.int .i64 (p.F : Int)) ∧ w'.cell? ⟨K9, 1, none⟩ = some (.int .i64 (p.C : Int)) ∧ w'.cell? ⟨K9, 2, none⟩ = some (.int .u64 (X : Int)) ∧ w'.cell? ⟨K11, 0, none⟩ = some (.int .i64 (G : Int)) ∧ w'.cell? ⟨K11, 1, none⟩ = some (.int .i64 (D : Int)) ∧ w'.cell? ⟨K11, 2, none⟩ = some (.int .u64 (Z : Int)) := fun w' h9 h11 => by
          have a := h9.trans HKw.out.p
          have b := h11.trans HKw.out.q
          exact ⟨cell_of a 0 rfl, cell_of a 1 rfl, cell_of a 2 rfl, cell_of b 0 rfl, cell_of b 1 rfl, cell_of b 2 rfl⟩
        have hne9 : K9 ≠ w.heap.size := Ne.symm HKw.out.lt.2.2.2.1
        have hne11 : K11 ≠ w.heap.size := Ne.symm HKw.out.lt.2.2.2.2.1
        have hs9 : ∀ g, ((set6 wc w.heap.size (.int .i64 (p.F : Int)) (.int .i64 (p.C : Int)) (.int .u64 (X : Int)) (.int .i64 (G : Int)) (.int .i64 (D : Int)) (.int .u64 (Z : Int))).setCell ⟨w.heap.size, 6, none⟩ g).drew.heap[K9]? = wc.heap[K9]? := fun g => by rw [drew_heap]; unfold set6; rw [set_other hne9, set_other hne9, set_other hne9, set_other hne9, set_other hne9, set_other hne9, set_other hne9]
        have hs11 : ∀ g, ((set6 wc w.heap.size (.int .i64 (p.F : Int)) (.int .i64 (p.C : Int)) (.int .u64 (X : Int)) (.int .i64 (G : Int)) (.int .i64 (D : Int)) (.int .u64 (Z : Int))).setCell ⟨w.heap.size, 6, none⟩ g).drew.heap[K11]? = wc.heap[K11]? := fun g => by rw [drew_heap]; unfold set6; rw [set_other hne11, set_other hne11, set_other hne11, set_other hne11, set_other hne11, set_other hne11, set_other hne11]
        unfold set6 at hs9 hs11
        have KS := Lib.hid (fun g => KK _ (hs9 g) (hs11 g))
        have KD := Lib.hid (KK wc.drew rfl rfl)
        have KW := Lib.hid (KK wc rfl rfl)
        clear hK hs9 hs11 hne9 hne11 KK
        go_upto_region 12 with fail
        go_region_held3 (fun w' => w'.cell? ⟨K9, 0, none⟩ = some (.int .i64 (p.F : Int)) ∧ w'.cell? ⟨K9, 1, none⟩ = some (.int .i64 (p.C : Int)) ∧ w'.cell? ⟨K9, 2, none⟩ = some (.int .u64 (X : Int)) ∧ w'.cell? ⟨K11, 0, none⟩ = some (.int .i64 (G : Int)) ∧ w'.cell? ⟨K11, 1, none⟩ = some (.int .i64 (D : Int)) ∧ w'.cell? ⟨K11, 2, none⟩ = some (.int .u64 (Z : Int))) (first | with_reducible exact KD.out | with_reducible exact KW.out | with_reducible exact KS.out _) (first
          | (go_at_call 22; refine (hcm _).mono ?_; rintro e w' ⟨⟨v, rfl, hv⟩, hw'⟩; rw [hw']; clear hw'; have HV := Lib.hid hv; obtain ⟨g, gf, rfl, hg1, hg2⟩ := hv.ex; clear hg1 hg2 hv))
        all_goals
          try simp only [Act.put, List.getElem_toArray, List.getElem_cons_succ, List.getElem_cons_zero, List.setIfInBounds_toArray, List.set_cons_succ, List.set_cons_zero]
          go_wp2_with fail
          refine bodyPost_ret (results_key rfl rfl (HT.out _).1 rfl) rfl ?_
          exact ⟨⟨g, gf, rfl, HV.out⟩, (HT.out _).2⟩
end Go.Proofs.YtdgnbcbcfgfkmaaDoor
