/- Flags and how a line is parted, as the landed code reads them. -/
import Derived.Test.YtdgnbcbcfgfkmaaDoorR10
import Derived.Test.YtdgnbcbcfgfkmaaDoorR7
import Derived.Test.YtdgnbcbcfgfkmaaDoorRNum
import Derived.Test.YtdgnbcbcfgfkmaaDoorRShelf
import Derived.Test.YtdgnbcbcfgfkmaaDoorR8
namespace Go.Proofs.YtdgnbcbcfgfkmaaDoor
open Go.RowKit Go.Shelf

theorem ret_u64 {a b : Int} (h : a = b) : Ending.returned (.int .u64 a) = .returned (.int .u64 b) := by rw [h]
theorem idx_letters (c : UInt8) : (c = 98 ∧ Lib.indexByte [98, 100, 102, 105, 110, 114] c = 0 ∧ flN c = 1) ∨ (c = 100 ∧ Lib.indexByte [98, 100, 102, 105, 110, 114] c = 1 ∧ flN c = 2) ∨ (c = 102 ∧ Lib.indexByte [98, 100, 102, 105, 110, 114] c = 2 ∧ flN c = 4) ∨ (c = 105 ∧ Lib.indexByte [98, 100, 102, 105, 110, 114] c = 3 ∧ flN c = 8) ∨ (c = 110 ∧ Lib.indexByte [98, 100, 102, 105, 110, 114] c = 4 ∧ flN c = 16) ∨ (c = 114 ∧ Lib.indexByte [98, 100, 102, 105, 110, 114] c = 5 ∧ flN c = 32) ∨ (Lib.indexByte [98, 100, 102, 105, 110, 114] c = -1 ∧ flN c = 0) := by
  rcases flN_cases c with ⟨rfl, e⟩ | ⟨rfl, e⟩ | ⟨rfl, e⟩ | ⟨rfl, e⟩ | ⟨rfl, e⟩ | ⟨rfl, e⟩ | ⟨e, h1, h2, h3, h4, h5, h6⟩
  · exact .inl ⟨rfl, by decide, e⟩
  · exact .inr (.inl ⟨rfl, by decide, e⟩)
  · exact .inr (.inr (.inl ⟨rfl, by decide, e⟩))
  · exact .inr (.inr (.inr (.inl ⟨rfl, by decide, e⟩)))
  · exact .inr (.inr (.inr (.inr (.inl ⟨rfl, by decide, e⟩))))
  · exact .inr (.inr (.inr (.inr (.inr (.inl ⟨rfl, by decide, e⟩)))))
  · refine .inr (.inr (.inr (.inr (.inr (.inr ⟨?_, e⟩)))))
    simp [Lib.indexByte, Ne.symm h1, Ne.symm h2, Ne.symm h3, Ne.symm h4, Ne.symm h5, Ne.symm h6]
set_option maxHeartbeats 1000000 in
set_option maxRecDepth 100000 in
theorem flagOf_c (c : UInt8) (w : World) : Calls Tryd.prog 32 #[.int .u8 (c.toNat : Int)] w fun e w' => e = .returned (.int .u64 (flN c : Int)) ∧ w' = w := by
  have h : Calls Tryd.prog 49 #[.string ⟨#[98, 100, 102, 105, 110, 114]⟩, .int .u8 (c.toNat : Int)] w fun e w' => e = .returned (.int .i64 (Lib.indexByte [98, 100, 102, 105, 110, 114] c)) ∧ w' = w := strIndexByte_c ⟨#[98, 100, 102, 105, 110, 114]⟩ c w
  rcases idx_letters c with ⟨hc, e1, e2⟩ | ⟨hc, e1, e2⟩ | ⟨hc, e1, e2⟩ | ⟨hc, e1, e2⟩ | ⟨hc, e1, e2⟩ | ⟨hc, e1, e2⟩ | ⟨e1, e2⟩
  all_goals
    try clear hc
    rw [e1] at h
    rw [e2]
    clear e1 e2
    go_enter Tryd.func32, Tryd.ntmps32
    go_wp2_with (go_at_call 49; refine h.mono ?_; rintro e w' ⟨rfl, hw'⟩; rw [hw']; clear hw')
    go_ret
    exact ⟨by first | rfl | (refine ret_u64 ?_; decide), rfl⟩
def flagsN : Opts → Nat → Nat
  | [], x => x
  | q :: l, x => flagsN l (x ||| flN q.1)
theorem flagsN_lt : ∀ (l : Opts) (x : Nat), x < 64 → flagsN l x < 64
  | [], _, h => h
  | q :: l, _, h => flagsN_lt l _ (or_lt h (flN_lt q.1))
theorem fg_ee (x y : Nat) : ({ fgOf (x ||| y) x with e := (fgOf (x ||| y) x).b } : Fg) = fgOf (x ||| y) (x ||| y) := by
  have e : x ||| y ||| x = x ||| y := by rw [Nat.or_comm, ← Nat.or_assoc, Nat.or_self]
  unfold fgOf
  simp only [e, Nat.or_self]
theorem flagS_fg (x y : Nat) (c : UInt8) (h : flN c ≠ 0) : flagS (fgOf x y) c false = some (fgOf (x ||| flN c) y) := by
  rcases flN_cases c with ⟨rfl, e⟩ | ⟨rfl, e⟩ | ⟨rfl, e⟩ | ⟨rfl, e⟩ | ⟨rfl, e⟩ | ⟨rfl, e⟩ | ⟨e, _⟩
  all_goals first | (exact absurd e h) | skip
  all_goals
    rw [e]
    simp only [flagS, fgOf, Nat.testBit_or, Bool.or_false, Bool.or_true, Bool.true_or, tb00, tb01, tb02, tb03, tb04, tb05, tb10, tb11, tb12, tb13, tb14, tb15, tb20, tb21, tb22, tb23, tb24, tb25, tb30, tb31, tb32, tb33, tb34, tb35, tb40, tb41, tb42, tb43, tb44, tb45, tb50, tb51, tb52, tb53, tb54, tb55]
    rfl
theorem flag1_fg (x : Nat) (c : UInt8) : flag1 (fgOf x x) c = fgOf (x ||| flN c) (x ||| flN c) := by
  unfold flag1
  by_cases h : flN c = 0
  · rw [flagS_none _ c false h, h, Nat.or_zero]
  · rw [flagS_fg x x c h]; exact fg_ee x _
theorem flagsS_fg : ∀ (l : Opts) (x : Nat), flagsS l (fgOf x x) = fgOf (flagsN l x) (flagsN l x)
  | [], _ => rfl
  | q :: l, x => by rw [flagsS, flag1_fg, flagsS_fg l, flagsN]
theorem fg0_of : fg0 = fgOf 0 0 := rfl
theorem OpAt.shape {w : World} {v : Value} {l : Opts} (h : OpAt w v l) : ∃ x c, v = .slice x l.length c := by
  rcases h with ⟨rfl, rfl⟩ | ⟨b, off, cap, rfl, _⟩
  · exact ⟨none, 0, rfl⟩
  · exact ⟨_, cap, rfl⟩
theorem OpAt.get {w : World} {x : Option Addr} {n c : Nat} {l : Opts} (h : OpAt w (.slice x n c) l) (k : Nat) (hk : k < l.length) : ∃ b off, x = some ⟨b, off, none⟩ ∧ b < w.heap.size ∧ w.cell? ⟨b, off + k * 2, none⟩ = some (.int .u8 ((nthO l k).1.toNat : Int)) ∧ w.cell? ⟨b, off + k * 2 + 1, none⟩ = some (.string (nthO l k).2) := by
  rcases h with ⟨_, rfl⟩ | ⟨b, off, cap, h1, h2, h3, h4⟩
  · simp at hk
  · cases h1
    exact ⟨b, off, rfl, h3, (h4 k hk).1, (h4 k hk).2⟩
theorem flagsN_drop (l : Opts) (k : Nat) (h : k < l.length) (x : Nat) : flagsN (l.drop k) x = flagsN (l.drop (k + 1)) (x ||| flN (nthO l k).1) := by
  rw [List.drop_eq_getElem_cons h, flagsN]; simp [nthO, h]
set_option maxHeartbeats 1000000 in
set_option maxRecDepth 100000 in
theorem flagsOf_c (v : Value) (l : Opts) (w : World) (hl : l.length ≤ 2097152) (hO : OpAt w v l) :
    Calls Tryd.prog 20 #[v] w fun e w' => e = .returned (.int .u64 (flagsN l 0 : Int)) ∧ Below w.heap.size w w' := by
  obtain ⟨x, cp, rfl⟩ := hO.shape
  have HO := Lib.hid hO
  obtain ⟨R, hR⟩ : ∃ R, flagsN l 0 = R := ⟨_, rfl⟩
  rw [hR]
  have HR : Hid (flagsN (l.drop 0) 0 = R) := hR
  clear hO hR
  generalize hn : l.length = n at hl ⊢
  have HN := Lib.hid hn
  clear hn
  go_enter Tryd.func20, Tryd.ntmps20
  go_wp2_with fail
  go_loopw [3, 8] (fun xv iv wr => ∃ X k : Nat, X < 64 ∧ k ≤ n ∧ xv = .int .u64 (X : Int) ∧ iv = .int .i64 (k : Int) ∧ Hid (flagsN (l.drop k) X = R) ∧ Hid (Below w.heap.size w wr)) (fun _ iv _ => n - (intOf iv).toNat)
  case atStart => exact ⟨0, 0, by omega, by omega, rfl, rfl, HR, Below.refl _ _⟩
  case round =>
    obtain ⟨X, k, hX, hk, rfl, rfl, HI, HB⟩ := hrel
    clear HR
    by_cases hlt : k < n
    · have hkl : k < l.length := by rw [HN.out]; exact hlt
      have HJ := HI.out
      rw [flagsN_drop l k hkl] at HJ
      obtain ⟨b, off, rfl, _, c0, c1⟩ := (HO.out.below HB.out).get k hkl
      have hfl := fun u => flagOf_c (nthO l k).1 u
      have hor := bits_or_u64_nat X (flN (nthO l k).1) (by omega) (by have := flN_lt (nthO l k).1; omega)
      have hlt2 := or_lt hX (flN_lt (nthO l k).1)
      have HJ' := Lib.hid HJ
      clear HJ HI
      generalize (nthO l k).1 = c at *
      generalize (nthO l k).2 = s at *
      go_wp2_with (go_at_call 32; refine (hfl _).mono ?_; rintro e w' ⟨rfl, hw'⟩; rw [hw']; clear hw')
      exact ⟨⟨X ||| flN c, k + 1, hlt2, by omega, by first | rfl | (rw [hor]), by go_num, HJ', HB.out.alloc HB.out.size _⟩, by simp [intOf]; omega⟩
    · have hR : X = R := by
        have := HI.out
        rw [List.drop_eq_nil_of_le (by rw [HN.out]; omega)] at this
        exact this
      subst hR
      clear HI
      go_wp2_with fail
      go_ret
      exact ⟨rfl, HB.out⟩
end Go.Proofs.YtdgnbcbcfgfkmaaDoor
/- How a line is parted into fields, as the landed code reads it. -/
namespace Go.Proofs.YtdgnbcbcfgfkmaaDoor
open Go.RowKit Go.Shelf

theorem store_fn20 (w : World) (y : Value) (f : Fn) (a b : Array Value) (t : Nat) : (store ⟨w.heap.size, 0, none⟩ (.func f a b)).run Tryd.prog (w.alloc (.cells #[.nilFunc, y] t)) = .ok () (w.alloc (.cells #[.func f a b, y] t)) := by
  have hn : (w.alloc (.cells #[.nilFunc, y] t)).heap[w.heap.size]? = some (.cells #[.nilFunc, y] t) := by show (w.heap.push _)[w.heap.size]? = _; simp
  rw [store_fn f a b (cell_of hn 0 rfl) (fz_of hn 0)]
  simp [go_sem]
theorem results_ct {fn : Func} {p u : Tmp} {ty : TypeId} (h : fn.results = #[.cell p ty, .tmp u]) (tmps : Array Value) (P : Program) (w : World) :
    (results fn tmps).run P w = ((asAddr (tmps.getD p undef)).run P w).andThen fun a w1 => ((loadVar ty a).run P w1).andThen fun x w2 => .ok (.tuple #[x, tmps.getD u undef]) w2 := by
  unfold results
  rw [h]
  simp [Result.andThen]
theorem info_part : (Tryd.prog.info? 44).map (·.size) = some 2 := by kernel_rfl
theorem results_part {fn : Func} {p u : Tmp} (h : fn.results = #[.cell p 44, .tmp u]) {tmps : Array Value} {w : World} {b : Nat} {x0 x1 y : Value} (hp : tmps.getD p undef = .pointer (some ⟨b, 0, none⟩)) (hg : w.heap[b]? = some (.cells #[x0, x1] 44)) (hy : tmps.getD u undef = y) :
    (results fn tmps).run Tryd.prog w = .ok (.tuple #[.agg #[x0, x1], y]) w := by
  rw [results_ct h, hp, hy]
  simp [asAddr, Result.andThen, run_loadVar_row w b 44 44 #[x0, x1] (0, 0) _ hg Tryd.underlying44 rfl info_part]
/-- What is known of the byte between fields, by the last option t. -/
def SepOk (o : Option ByteArray) (sep : Option UInt8) (ok : Bool) : Prop :=
  match o with
  | none => sep = none ∧ ok = true
  | some a => (a.size = 1 → ok = true ∧ sep = a.data.toList.head?) ∧ (a.size ≠ 1 → ok = false)
/-- A struct of two cells stored over another one. -/
theorem set_pair {u : World} {K T : Nat} {x0 x1 y0 y1 : Value} (h : u.heap[K]? = some (.cells #[x0, x1] T)) : ((u.setCell ⟨K, 0, none⟩ y0).setCell ⟨K, 1, none⟩ y1).heap[K]? = some (.cells #[y0, y1] T) := by
  simp [World.setCell, Array.getElem?_modify, h]
theorem set_other {u : World} {K k i : Nat} {v : Value} (h : k ≠ K) : (u.setCell ⟨K, i, none⟩ v).heap[k]? = u.heap[k]? := Below.heap_setCell _ _ _ _ h
structure PtW (w : World) (K2 K4 : Nat) (f : FuncId) (first : Array Value) (sep : Option UInt8) (wr : World) : Prop where
  r : wr.heap[K2]? = some (.cells #[.nilFunc, .int .i64 0] 44)
  p : wr.heap[K4]? = some (.cells #[.func (.func f) first #[], .int .i64 (btw sep : Int)] 44)
  fn : FnL (.func (.func f) first #[]) sep
  bl : Below w.heap.size w wr
  lt : w.heap.size ≤ K2 ∧ w.heap.size ≤ K4 ∧ K2 ≠ K4
theorem PtW.alloc {w : World} {K2 K4 : Nat} {f : FuncId} {first : Array Value} {sep : Option UInt8} {wr : World} (h : PtW w K2 K4 f first sep wr) (o : Obj) : PtW w K2 K4 f first sep (wr.alloc o) := by
  have hb : Below wr.heap.size wr (wr.alloc o) := (Below.refl _ _).alloc (Nat.le_refl _) o
  exact ⟨(hb.block K2 (Array.getElem?_eq_some_iff.1 h.r).1).trans h.r, (hb.block K4 (Array.getElem?_eq_some_iff.1 h.p).1).trans h.p, h.fn, h.bl.trans (hb.mono h.bl.size), h.lt⟩
theorem PtW.put {w : World} {K2 K4 : Nat} {f f' : FuncId} {first first' : Array Value} {sep sep' : Option UInt8} {wr : World} (h : PtW w K2 K4 f first sep wr) (hf : FnL (.func (.func f') first' #[]) sep') : PtW w K2 K4 f' first' sep' ((wr.setCell ⟨K4, 0, none⟩ (.func (.func f') first' #[])).setCell ⟨K4, 1, none⟩ (.int .i64 (btw sep' : Int))) := by
  refine ⟨?_, set_pair h.p, hf, (h.bl.setCell (p := ⟨K4, 0, none⟩) h.lt.2.1 _).setCell (p := ⟨K4, 1, none⟩) h.lt.2.1 _, h.lt⟩
  rw [set_other h.lt.2.2, set_other h.lt.2.2]; exact h.r
set_option maxHeartbeats 2000000 in
set_option maxRecDepth 100000 in
theorem partingOf_c (v : Value) (l : Opts) (w : World) (hl : l.length ≤ 2097152) (hq : ∀ q ∈ l, q.2.size ≤ 2097152) (hO : OpAt w v l) :
    Calls Tryd.prog 19 #[v] w fun e w' => (∃ f first sep ok, e = .returned (.tuple #[partV f first sep, .bool ok]) ∧ FnL (.func (.func f) first #[]) sep ∧ SepOk (lastS l 116) sep ok) ∧ Below w.heap.size w w' := by
  have hmf : ∀ (fn : Fn) (first cap : Array Value) (w : World), (Instr.makeFunc fn first cap).run Tryd.prog w = .ok (.func fn first cap) w := fun _ _ _ _ => rfl
  obtain ⟨x, cp, rfl⟩ := hO.shape
  have HO := Lib.hid hO
  have HQ := Lib.hid hq
  have h0 := store_fn20 (w.alloc (.cells #[.nilFunc, .int .i64 0] 44))
  simp only [World.size_alloc] at h0
  clear hO hq
  generalize hn : l.length = n at hl ⊢
  have HN := Lib.hid hn
  clear hn
  go_enter Tryd.func19, Tryd.ntmps19
  go_wp2_with fail
  clear h0
  obtain ⟨W, hW⟩ : ∃ W, (w.alloc (.cells #[.nilFunc, .int .i64 0] 44)).alloc (.cells #[.func (.func 30) #[] #[], .int .i64 0] 44) = W := ⟨_, rfl⟩
  obtain ⟨K2, hK2⟩ : ∃ K, w.heap.size = K := ⟨_, rfl⟩
  obtain ⟨K4, hK4⟩ : ∃ K, w.heap.size + 1 = K := ⟨_, rfl⟩
  have HW : Hid (PtW w K2 K4 30 #[] none W) := by
    rw [← hW, ← hK2, ← hK4]
    exact ⟨two0 w _ _, two1 w _ _, fnL_blanks, ((Below.refl w.heap.size w).alloc (Nat.le_refl _) _).alloc (by simp) _, by omega, by omega, by omega⟩
  rw [hW, hK4, hK2]
  clear hW hK2 hK4
  go_loopw [5, 11] (fun ov iv wr => ∃ (ok : Bool) (k : Nat), k ≤ n ∧ ov = .bool ok ∧ iv = .int .i64 (k : Int) ∧ Hid (∃ f first sep, PtW w K2 K4 f first sep wr ∧ SepOk (lastS (l.take k) 116) sep ok)) (fun _ iv _ => n - (intOf iv).toNat)
  case atStart => exact ⟨true, 0, by omega, rfl, rfl, (show ∃ f first sep, _ from ⟨_, _, none, HW.out, rfl, rfl⟩)⟩
  case round =>
    obtain ⟨ok, k, hk, rfl, rfl, HI⟩ := hrel
    clear HW
    obtain ⟨f, first, sep, hP, hS⟩ := HI.out
    have HP := Lib.hid hP
    clear HI
    by_cases hlt : k < n
    · have hkl : k < l.length := by rw [HN.out]; exact hlt
      have hst := lastS_step l 116 k hkl
      obtain ⟨b, off, rfl, _, c0, c1⟩ := (HO.out.below HP.out.bl).get k hkl
      have hsz := HQ.out (nthO l k) (by simp [nthO, hkl])
      generalize (nthO l k).1 = c at *
      generalize (nthO l k).2 = s at *
      by_cases hc : c = 116
      · rw [if_pos hc] at hst
        have he : ((c.toNat : Int) != 116) = false := by rw [hc]; rfl
        have HS : Hid (lastS (l.take (k + 1)) 116 = some s) := hst
        clear hst hS hc
        by_cases h1 : s.size = 1
        · have h1e : ((s.size : Int) == 1) = true := by simp; omega
          have hs0 : s.data.toList.head? = some (s[0]'(by omega)) := by
            rw [List.head?_eq_getElem?, by_at s 0 (by omega)]
          have HS2 : Hid (SepOk (lastS (l.take (k + 1)) 116) (some (s[0]'(by omega))) true) := by
            show SepOk _ _ _
            rw [HS.out]; exact ⟨fun _ => ⟨rfl, hs0.symm⟩, fun h => absurd h1 h⟩
          have HPa := Lib.hid (HP.out.alloc (.cells #[.int .u8 (c.toNat : Int), .string s] 63))
          have d0 := cell_of HPa.out.p 0 rfl
          have d1 := cell_of HPa.out.p 1 rfl
          have z0 := fz_of HPa.out.p 0
          have z1 := fz_of HPa.out.p 1
          have hsf := fun fn y z => store_fn (a := ⟨K4, 0, none⟩) fn y z d0 z0
          have hne2 : ∀ v, ((wr.alloc (.cells #[.int .u8 (c.toNat : Int), .string s] 63)).setCell ⟨K4, 0, none⟩ v).cell? ⟨K4, 1, none⟩ = some (.int .i64 (btw sep : Int)) := fun v => by
            have := set_pair (y0 := v) (y1 := .int .i64 (btw sep : Int)) HPa.out.p
            simp [World.cell?, World.setCell, Array.getElem?_modify, HPa.out.p]
          have hlt0 : 0 < s.size := by omega
          have HF := Lib.hid (HPa.out.put (fnL_sep (s[0]'hlt0)))
          have hbt : (btw (some (s[0]'hlt0)) : Int) = 1 := rfl
          clear hs0 hP HPa HP
          go_wp2_with fail
          exact ⟨⟨true, k + 1, by omega, rfl, by go_num, (show ∃ f first sep, _ from ⟨_, _, some (s[0]'hlt0), HF.out, HS2.out⟩)⟩, by simp [intOf]; omega⟩
        · have h1e : ((s.size : Int) == 1) = false := by simp; omega
          have HPa := Lib.hid (HP.out.alloc (.cells #[.int .u8 (c.toNat : Int), .string s] 63))
          have HS2 : Hid (SepOk (lastS (l.take (k + 1)) 116) sep false) := by
            show SepOk _ _ _
            rw [HS.out]; exact ⟨fun h => absurd h h1, fun _ => rfl⟩
          clear hP HP
          go_wp2_with fail
          exact ⟨⟨false, k + 1, by omega, rfl, by go_num, (show ∃ f first sep, _ from ⟨_, _, _, HPa.out, HS2.out⟩)⟩, by simp [intOf]; omega⟩
      · rw [if_neg hc] at hst
        have he : ((c.toNat : Int) != 116) = true := by
          have h6 : ((c.toNat : Int) == 116) = false := u8_no (a := c) 116 (by omega) hc
          simp only [bne, h6]; rfl
        have HPa := Lib.hid (HP.out.alloc (.cells #[.int .u8 (c.toNat : Int), .string s] 63))
        have HS2 : Hid (SepOk (lastS (l.take (k + 1)) 116) sep ok) := by show SepOk _ _ _; rw [hst]; exact hS
        clear hst hS hc hP HP
        go_wp2_with fail
        exact ⟨⟨ok, k + 1, by omega, rfl, by go_num, (show ∃ f first sep, _ from ⟨_, _, _, HPa.out, HS2.out⟩)⟩, by simp [intOf]; omega⟩
    · have HS2 : Hid (SepOk (lastS l 116) sep ok) := by
        show SepOk _ _ _
        rw [List.take_of_length_le (by rw [HN.out]; omega)] at hS; exact hS
      have p0 := cell_of HP.out.p 0 rfl
      have p1 := cell_of HP.out.p 1 rfl
      have r0 := cell_of HP.out.r 0 rfl
      have r1 := cell_of HP.out.r 1 rfl
      have z0 := fz_of HP.out.r 0
      have z1 := fz_of HP.out.r 1
      have hsf := fun fn y z => store_fn (a := ⟨K2, 0, none⟩) fn y z r0 z0
      have HE := Lib.hid (set_pair (y0 := .func (.func f) first #[]) (y1 := .int .i64 (btw sep : Int)) HP.out.r)
      have HBL : Hid (Below w.heap.size w ((wr.setCell ⟨K2, 0, none⟩ (.func (.func f) first #[])).setCell ⟨K2, 1, none⟩ (.int .i64 (btw sep : Int)))) := (HP.out.bl.setCell (p := ⟨K2, 0, none⟩) HP.out.lt.1 _).setCell (p := ⟨K2, 1, none⟩) HP.out.lt.1 _
      have HFN := Lib.hid HP.out.fn
      clear hS hP HP
      go_wp2_with fail
      refine bodyPost_ret (results_part rfl rfl HE.out rfl) rfl ?_
      exact ⟨⟨f, first, sep, ok, rfl, HFN.out, HS2.out⟩, HBL.out⟩
end Go.Proofs.YtdgnbcbcfgfkmaaDoor
