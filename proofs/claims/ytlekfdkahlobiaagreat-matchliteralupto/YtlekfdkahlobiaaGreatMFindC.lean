/- Find. -/
import Derived.WalkMore
import Derived.Deep.QuietTactic
import Derived.BigQuiet
import Derived.Test.YtlekfdkahlobiaaGreatMReachC
import Derived.Test.YtlekfdkahlobiaaGreatJLaw1
namespace Go.Proofs.YtlekfdkahlobiaaGreat.Re
open Go.Proofs.YtlekfdkahlobiaaGreat.Tr
open Go.RowKit Go.Maps

/-- The sets in memory. -/
def SeR (w : World) (tb : Nat) (B : Bst) : Prop :=
  ∀ (i : Nat) (p : UInt8 → Bool), B.sets[i]? = some p → ∀ c : UInt8, w.cell? ⟨tb, i * 256 + c.toNat, none⟩ = some (.bool (p c))
theorem SeR.below {w w' : World} {n0 tb : Nat} {B : Bst} (h : SeR w tb B) (hs : tb < n0) (hb : Below n0 w w') : SeR w' tb B := fun i p hi c => (hb.cell hs).trans (h i p hi c)
theorem stR_of {w : World} {B : Bst} {sb sc : Nat} (h : w.ownsRow 0 58 4 (.slice (some ⟨sb, 0, none⟩) B.sts.length sc) B.sts.length (stCells B.sts)) : StR w sb B := by
  intro q s hq
  rcases h.2 with ⟨e, _⟩ | ⟨g, cap, cur, e, hb, hg, hle, hcap, hsz, ht⟩
  · cases e
  cases e
  have hlt := (List.getElem?_eq_some_iff.1 hq).1
  have key : ∀ (l : List Stt) (q : Nat), l[q]? = some s → (stCells l)[q * 4]? = some (.int .i64 (s.kind : Int)) ∧ (stCells l)[q * 4 + 1]? = some (.int .i64 (s.set : Int)) ∧ (stCells l)[q * 4 + 2]? = some (.int .i64 (s.next : Int)) ∧ (stCells l)[q * 4 + 3]? = some (.int .i64 (s.other : Int)) := by
    intro l
    induction l with
    | nil => intro q h; cases h
    | cons x l ih =>
      intro q h
      have e : stCells (x :: l) = .int .i64 (x.kind : Int) :: .int .i64 (x.set : Int) :: .int .i64 (x.next : Int) :: .int .i64 (x.other : Int) :: stCells l := rfl
      cases q with
      | zero => cases h; rw [e]; exact ⟨rfl, rfl, rfl, rfl⟩
      | succ q =>
        have ih := ih q h
        rw [e, show (q + 1) * 4 = q * 4 + 1 + 1 + 1 + 1 by omega]
        exact ih
  obtain ⟨k0, k1, k2, k3⟩ := key B.sts q hq
  have rd : ∀ (j : Nat) (v : Value), j < 4 → (stCells B.sts)[q * 4 + j]? = some v → w.cell? ⟨sb, q * 4 + j, none⟩ = some v := fun j v hj h => by
    refine h_cell hg _ ?_
    rw [← ht, List.getElem?_take, if_pos (by omega), Array.getElem?_toList] at h
    exact h
  exact ⟨rd 0 _ (by decide) k0, rd 1 _ (by decide) k1, rd 2 _ (by decide) k2, rd 3 _ (by decide) k3⟩
theorem seR_of {w : World} {B : Bst} {tb tc : Nat} (h : w.ownsRow 0 40 256 (.slice (some ⟨tb, 0, none⟩) B.sets.length tc) B.sets.length (bsCells B.sets)) : SeR w tb B := by
  intro i p hi c
  rcases h.2 with ⟨e, _⟩ | ⟨g, cap, cur, e, hb, hg, hle, hcap, hsz, ht⟩
  · cases e
  cases e
  have hlt := (List.getElem?_eq_some_iff.1 hi).1
  have hc := c.toNat_lt
  have key : ∀ (l : List (UInt8 → Bool)) (i : Nat), l[i]? = some p → (bsCells l)[i * 256 + c.toNat]? = some (.bool (p c)) := by
    intro l
    induction l with
    | nil => intro i h; cases h
    | cons x l ih =>
      intro i h
      have e : bsCells (x :: l) = boolsL x ++ bsCells l := rfl
      cases i with
      | zero =>
        cases h
        rw [e, List.getElem?_append_left (by rw [boolsL_len]; omega), Nat.zero_mul, Nat.zero_add]
        simp [boolsL, hc]
      | succ i =>
        rw [e, List.getElem?_append_right (by rw [boolsL_len]; omega), boolsL_len, show (i + 1) * 256 + c.toNat - 256 = i * 256 + c.toNat by omega]
        exact ih i h
  have h := key B.sets i hi
  refine h_cell hg _ ?_
  rw [← ht, List.getElem?_take, if_pos (by omega), Array.getElem?_toList] at h
  exact h
theorem row_some {w : World} {e s n c : Nat} {a : Option Addr} {xs : List Value} (h : w.ownsRow 0 e s (.slice a n c) n xs) (hn : 0 < n) : ∃ g, a = some ⟨g, 0, none⟩ ∧ g < w.heap.size := by
  rcases h.2 with ⟨_, e0⟩ | ⟨g, cap, cur, e, _, hg, _⟩
  · omega
  · injection e with e1 _ _
    exact ⟨g, e1, h_lt hg⟩
theorem byAt_cell {w : World} {va : Option Addr} {vc : Nat} {b : List UInt8} (h : ByAt w (.slice va b.length vc) b) {j : Nat} {c : UInt8} (hj : b[j]? = some c) : ∃ vb vo, va = some ⟨vb, vo, none⟩ ∧ vb < w.heap.size ∧ w.cell? ⟨vb, vo + j, none⟩ = some (.int .u8 (c.toNat : Int)) := by
  have hl := (List.getElem?_eq_some_iff.1 hj).1
  rcases h with ⟨_, e⟩ | ⟨vb, vo, cap, e, _, h3, h4⟩
  · subst e; cases hj
  · cases e
    refine ⟨vb, vo, rfl, h3, ?_⟩
    rw [h4 j hl, hj]
    rfl
section
variable {w : World}
/-- At a place. -/
structure FdI (w : World) (n0 wb rb rcap sb sc : Nat) (B : Bst) (b : List UInt8) (fr : Nat) (wr : World) (tv rv lv : Value) (tr rm : List (Nat × Nat)) (rch : List Nat) (at' : Nat) (is : Bool) (g z gk : Nat) : Prop where
  wm : WM wr n0 wb rb rcap (.slice (some ⟨sb, 0, none⟩) B.sts.length sc) b.length tv rv lv tr rm rch []
  hd : HdI b B fr at' at' rch tr is g z
  bel : Below n0 w wr
  ms : b.length + 1 ≤ at' + gk
  ge : fr ≤ at'
  lim : at' ≤ b.length + 1 ∨ at' = fr
/-- Within a place. -/
structure FiI (w : World) (n0 wb rb rcap sb sc : Nat) (B : Bst) (b : List UInt8) (fr : Nat) (wr : World) (tv rv lv : Value) (tr T : List (Nat × Nat)) (rch : List Nat) (at' k : Nat) (is : Bool) (g z gk : Nat) : Prop where
  wm : WM wr n0 wb rb rcap (.slice (some ⟨sb, 0, none⟩) B.sts.length sc) b.length tv rv lv tr T rch []
  inn : InI b B fr at' T k rch tr is g z
  bel : Below n0 w wr
  ms : T.length ≤ k + gk
  le : k ≤ T.length
/-- The next place. -/
theorem FdI.next {w : World} {n0 wb rb rcap sb sc : Nat} {B : Bst} {b : List UInt8} {fr : Nat} {wr : World} {tv rv lv : Value} {tr T : List (Nat × Nat)} {rch rch0 : List Nat} {at' k : Nat} {is is0 : Bool} {g z g0 z0 gk go : Nat} (hB : Okb B) (h0 : HdI b B fr at' (at' + 1) rch0 T is0 g0 z0) (h : FiI w n0 wb rb rcap sb sc B b fr wr tv rv lv tr T rch at' k is g z gk) (ht : b.length + 1 ≤ at' + 1 + go) (hge : fr ≤ at') (hl : at' ≤ b.length) (hk : T.length ≤ k ∨ (is = true ∧ ∃ t, T[k]? = some t ∧ g < t.1)) : FdI w n0 wb rb rcap sb sc B b fr wr tv rv lv tr T rch (at' + 1) is g z go :=
  ⟨h.wm, h.inn.done hB h0 hk, h.bel, ht, Nat.le_succ_of_le hge, .inl (by omega)⟩
/-- A trail in memory. -/
theorem WM.trail {w : World} {n0 wb rb rcap n k : Nat} {sv tv lv : Value} {a : Option Addr} {c : Nat} {tr rm : List (Nat × Nat)} {rch lf : List Nat} {t : Nat × Nat} (h : WM w n0 wb rb rcap sv n tv (.slice a rm.length c) lv tr rm rch lf) (ht : rm[k]? = some t) : ∃ tg, a = some ⟨tg, 0, none⟩ ∧ w.cell? ⟨tg, k * 2, none⟩ = some (.int .i64 (t.1 : Int)) ∧ w.cell? ⟨tg, k * 2 + 1, none⟩ = some (.int .i64 (t.2 : Int)) ∧ tg < w.heap.size ∧ rm.length ≤ c ∧ c ≤ 9223372036854775807 := by
  have hlt := (List.getElem?_eq_some_iff.1 ht).1
  rcases h.rm.2 with ⟨_, e0⟩ | ⟨g, cap, cur, e, hb, hg, hle, hcap, hsz, hcs⟩
  · omega
  injection e with e1 _ e3
  subst e1; subst e3
  obtain ⟨k0, k1⟩ := trCells_get ht
  have rd : ∀ (j : Nat) (v : Value), j < 2 → (trCells rm)[k * 2 + j]? = some v → w.cell? ⟨g, k * 2 + j, none⟩ = some v := fun j v hj h => by
    refine h_cell hg _ ?_
    rw [← hcs, List.getElem?_take, if_pos (by omega), Array.getElem?_toList] at h
    exact h
  exact ⟨g, rfl, rd 0 _ (by decide) k0, rd 1 _ (by decide) k1, h_lt hg, hle, by unfold maxLen at hcap; exact hcap⟩
theorem best_end {b : List UInt8} {B : Bst} {fr at' : Nat} {is : Bool} {g z : Nat} (h : ¬ at' ≤ b.length) (hl : at' ≤ b.length + 1 ∨ at' = fr) (hb : BestP (Pat b B fr at') is g z) : BestP (Pat b B fr (b.length + 1)) is g z := by
  refine hb.congr fun i j => ?_
  constructor
  · rintro ⟨h1, h2, k, hk⟩
    have h3 := goN_fwd hk
    by_cases hi : i ≤ b.length
    · have := goN_end hk hi
      exact ⟨h1, by omega, k, hk⟩
    · omega
  · rintro ⟨h1, h2, h3⟩
    exact ⟨h1, by omega, h3⟩
theorem toNat_max (f : Int) : max f 0 = ((fromN f : Nat) : Int) := by unfold fromN; omega
set_option maxHeartbeats 8000000 in
set_option maxRecDepth 100000 in
theorem find_p {v p : Value} {x : Nd} {b : List UInt8} {f : Int} (hP : PgP w p x) (hb : ByAt w v b) (hl : b.length ≤ 1048576) (hf : IntKind.i64.min ≤ f ∧ f ≤ IntKind.i64.max) :
    Calls Tryz.prog 8 #[p, v, .int .i64 f] w (FdOut x b f w) := by
  obtain ⟨pb, B, sv, tv0, rfl, hp, hst, hse, hA, hN, hN2⟩ := hP
  obtain ⟨va, vc, rfl⟩ := hb.shape
  obtain ⟨sa, sc, rfl⟩ := own_sh hst
  obtain ⟨ta0, tc0, rfl⟩ := own_sh hse
  have h0 : 0 < B.sts.length := Nat.lt_of_le_of_lt (Nat.zero_le _) hA.ok.first
  obtain ⟨sb, rfl⟩ : ∃ sb, sa = some ⟨sb, 0, none⟩ := by
    rcases hst.2 with ⟨_, e⟩ | ⟨g, cap, cur, e, _⟩
    · omega
    · cases e; exact ⟨g, rfl⟩
  have hsb : sb < w.heap.size := (hst.lt sb rfl).2
  have hpb := h_lt hp
  have HS := Lib.hid (stR_of hst)
  have HA := Lib.hid hA
  have HB := Lib.hid hb
  have HSe := Lib.hid hse
  have hwc := walk_c (len := b.length) (vc := vc) (va := va) hp (by omega)
  have c0 := h_cell hp 0 rfl
  have c1 := h_cell hp 1 rfl
  have c2 := h_cell hp 2 rfl
  have m1 := toNat_max f
  have hfr : ((fromN f : Nat) : Int) ≤ 9223372036854775807 := by
    have : IntKind.i64.max = 9223372036854775807 := rfl
    unfold fromN; omega
  have HC : Hid (∀ w', Below w.heap.size w w' → w'.cell? ⟨pb, 0, none⟩ = some (.slice (some ⟨sb, 0, none⟩) B.sts.length sc) ∧ w'.cell? ⟨pb, 1, none⟩ = some (.slice ta0 B.sets.length tc0) ∧ w'.cell? ⟨pb, 2, none⟩ = some (.int .i64 (B.first : Int))) := Lib.hid fun w' hB => ⟨(hB.cell (p := ⟨pb, 0, none⟩) hpb).trans c0, (hB.cell (p := ⟨pb, 1, none⟩) hpb).trans c1, (hB.cell (p := ⟨pb, 2, none⟩) hpb).trans c2⟩
  clear hp hst hse hA hb
  generalize hfn : fromN f = fr at *
  go_enter Tryz.func8, Tryz.ntmps8
  go_wp2_with fail
  go_step3
  go_wp2_with (go_at_call 17; refine hwc.mono ?_; rintro e w1 ⟨wb, rb, rfl, hW, hB1⟩; have HI0 : Hid (FdI w w.heap.size wb rb B.sts.length sb sc B b fr w1 (.slice none 0 0) (.slice none 0 0) (.slice none 0 0) [] [] (List.replicate B.sts.length 0) fr false 0 0 (b.length + 1)) := Lib.hid ⟨hW, HdI.start (List.length_replicate ..) (fun q v h => by rw [List.getElem?_replicate] at h; split at h <;> simp_all), hB1, by omega, Nat.le_refl _, .inr rfl⟩; clear hW hB1)
  go_step3
  go_wp2_with fail
  clear hwc c0 c1 c2
  go_loopg [9, 10, 11, 13] (b.length + 1) (fun gk v9 v10 v11 v13 wr => ∃ (at' g z : Nat) (is : Bool) (tv rv lv : Value) (tr rm : List (Nat × Nat)) (rch : List Nat), v9 = .int .i64 (g : Int) ∧ v10 = .int .i64 (z : Int) ∧ v11 = .bool is ∧ v13 = .int .i64 (at' : Int) ∧ Hid (FdI w w.heap.size wb rb B.sts.length sb sc B b fr wr tv rv lv tr rm rch at' is g z gk))
  case atStart => exact ⟨fr, 0, 0, false, _, _, _, [], [], _, rfl, rfl, rfl, rfl, HI0⟩
  case round =>
    obtain ⟨at', g, z, is, tv, rv, lv, tr, rm, rch, rfl, rfl, rfl, rfl, HI⟩ := hrel
    clear HI0
    have hms := HI.out.ms
    by_cases hat : at' ≤ b.length
    case neg =>
      have n1 : ¬ (at' : Int) ≤ (b.length : Int) := by omega
      have HF : Hid (FdOut x b f w (.returned (.tuple #[.int .i64 (g : Int), .int .i64 (z : Int), .bool is])) wr) := Lib.hid ⟨(g : Int), (z : Int), is, rfl, HA.out.find (by rw [hfn]; exact best_end hat HI.out.lim HI.out.hd.best), HI.out.bel⟩
      clear HI hms
      go_wp2_with fail
      go_ret3
      exact HF.out
    have n1 : (at' : Int) ≤ (b.length : Int) := by omega
    have hge := HI.out.ge
    obtain ⟨go, rfl⟩ : ∃ go, gk = go + 1 := ⟨gk - 1, by have := HI.out.lim; omega⟩
    obtain ⟨kc0, kc1, kc2⟩ := HC.out wr HI.out.bel
    have htop : b.length + 1 ≤ at' + 1 + go := by omega
    clear hms
    cases is with
    | false =>
      have hrc := reach_c (a := at') (i := at') HI.out.wm HA.out.ok HI.out.hd.wk (HS.out.below hsb HI.out.bel) hsb (by omega) HA.out.ok.first (by omega)
      have HH := Lib.hid HI.out.hd
      have HBl := Lib.hid HI.out.bel
      clear HI
      go_upto_region 8 with (go_at_call 18; refine hrc.mono ?_; rintro e w2 ⟨rfl, tv2, lv2, rch2, T, hW2, hR2, hB2⟩; have HX : Hid (WM w2 w.heap.size wb rb B.sts.length (.slice (some ⟨sb, 0, none⟩) B.sts.length sc) b.length tv2 rv lv2 T rm rch2 [] ∧ HdI b B fr at' (at' + 1) rch2 T false g z ∧ Below w.heap.size w w2) := Lib.hid ⟨hW2, HH.out.begin hge hR2, HBl.out.trans hB2⟩; clear hW2 hR2 hB2)
      clear hrc HH HBl
      obtain ⟨ta, tc, rfl⟩ := own_sh HX.out.1.tr
      have hnx := next_c HX.out.1
      have HRt : Hid (HdI b B fr at' (at' + 1) rch2 T false g z) := Lib.hid HX.out.2.1
      have HB2 := Lib.hid HX.out.2.2
      have hN2 := HX.out.1.tr
      clear HX
      go_wp2_with (go_at_call 19; refine hnx.mono ?_; rintro e w3 ⟨rfl, tv3, hW3, hB3⟩; have HJ0 : Hid (FiI w w.heap.size wb rb B.sts.length sb sc B b fr w3 tv3 (.slice ta T.length tc) lv2 [] T rch2 at' 0 false g z T.length) := Lib.hid ⟨hW3, InI.start HRt.out, HB2.out.trans hB3, by omega, Nat.zero_le _⟩; clear hW3 hB3)
      clear hnx kc0 kc1 kc2
      go_loopg [9, 10, 11, 49] T.length (fun gk v9 v10 v11 v49 wr => ∃ (k g z : Nat) (is : Bool) (tv lv : Value) (tr : List (Nat × Nat)) (rch : List Nat), v9 = .int .i64 (g : Int) ∧ v10 = .int .i64 (z : Int) ∧ v11 = .bool is ∧ v49 = .int .i64 (k : Int) ∧ Hid (FiI w w.heap.size wb rb B.sts.length sb sc B b fr wr tv (.slice ta T.length tc) lv tr T rch at' k is g z gk))
      case atStart => exact ⟨0, g, z, false, _, _, [], _, rfl, rfl, rfl, rfl, HJ0⟩
      case round =>
        obtain ⟨k, g', z', is', tv', lv', tr', rch', rfl, rfl, rfl, rfl, HJ⟩ := hrel
        clear HJ0
        by_cases hk : k < T.length
        case neg =>
          have n3 : ¬ (k : Int) < (T.length : Int) := by omega
          have HN := Lib.hid (FdI.next HA.out.ok HRt.out HJ.out htop hge (by omega) (.inl (by omega)))
          clear HJ
          go_wp2_with fail
          go_roundg go
          case measure => omega
          case rel => exact ⟨at' + 1, g', z', is', _, _, _, _, _, _, rfl, rfl, rfl, by go_num, HN⟩
        have n3 : (k : Int) < (T.length : Int) := by omega
        obtain ⟨⟨i, q⟩, ht⟩ : ∃ t, T[k]? = some t := ⟨_, List.getElem?_eq_getElem hk⟩
        obtain ⟨tg, rfl, r0, r1, rlt, rle, rcap⟩ := HJ.out.wm.trail ht
        obtain ⟨gk, rfl⟩ : ∃ x, gk = x + 1 := ⟨gk - 1, by have := HJ.out.ms; omega⟩
        have hBV : Below wr.heap.size wr (wr.alloc (.cells #[.int .i64 (i : Int), .int .i64 (q : Int)] 55)) := (Below.refl _ wr).alloc (Nat.le_refl _) _
        have hbx := al_new wr (.cells #[.int .i64 (i : Int), .int .i64 (q : Int)] 55)
        have hwg : w.heap.size ≤ wr.heap.size := HJ.out.bel.size
        have hHJ : FiI w w.heap.size wb rb B.sts.length sb sc B b fr (wr.alloc (.cells #[.int .i64 (i : Int), .int .i64 (q : Int)] 55)) tv' (.slice (some ⟨tg, 0, none⟩) T.length tc) lv' tr' T rch' at' k is' g' z' (gk + 1) := ⟨HJ.out.wm.below hBV, HJ.out.inn, HJ.out.bel.trans (hBV.mono hwg), HJ.out.ms, HJ.out.le⟩
        go_upto_region 13 with fail
        clear r0 r1
        generalize wr.alloc (.cells #[.int .i64 (i : Int), .int .i64 (q : Int)] 55) = V at hBV hbx hHJ ⊢
        have HV := Lib.hid hHJ
        have x0 := h_cell hbx 0 rfl
        have x1 := h_cell hbx 1 rfl
        have x0 : V.cell? ⟨wr.heap.size, 0, none⟩ = some (.int .i64 (i : Int)) := x0
        have x1 : V.cell? ⟨wr.heap.size, 1, none⟩ = some (.int .i64 (q : Int)) := x1
        have hxl := h_lt hbx
        obtain ⟨kc0, kc1, kc2⟩ := HC.out V HV.out.bel
        have hmem := List.mem_of_getElem? ht
        obtain ⟨_, s, hs, hkd⟩ := HRt.out.wk.tr1 i q hmem
        have HSd := Lib.hid (HRt.out.snd (i, q) hmem)
        obtain ⟨s0, s1, s2, _⟩ := HS.out.below hsb HV.out.bel q s hs
        have hql := (List.getElem?_eq_some_iff.1 hs).1
        have n5 : (q : Int) < (B.sts.length : Int) := by omega
        have hsq : q * 4 ≤ 200000 := by omega
        clear hHJ HJ hBV hbx
        by_cases hgi : is' = true ∧ g' < i
        · obtain ⟨rfl, hgi⟩ := hgi
          have n4 : (g' : Int) < (i : Int) := by omega
          have HN := Lib.hid (FdI.next HA.out.ok HRt.out HV.out htop hge (by omega) (.inr ⟨rfl, (i, q), ht, hgi⟩))
          clear HV hgi
          go_wp2_with fail
          go_roundg go
          case measure => omega
          case rel => exact ⟨at' + 1, g', z', true, _, _, _, _, _, _, rfl, rfl, rfl, by go_num, HN⟩
        have hgi2 : is' = true → i ≤ g' := fun e => Nat.le_of_not_lt fun h => hgi ⟨e, h⟩
        have n4 : is' = true → ¬ (g' : Int) < (i : Int) := fun e => by have := hgi2 e; omega
        have HG := Lib.hid hgi2
        clear hgi hgi2
        cases is' with
        | false =>
          clear n4
          go_upto_region 14 with fail
          go_region_held3 (fun w' => w'.cell? ⟨pb, 0, none⟩ = some (.slice (some ⟨sb, 0, none⟩) B.sts.length sc) ∧ w'.cell? ⟨wr.heap.size, 1, none⟩ = some (.int .i64 (q : Int))) (first | exact ⟨kc0, x1⟩ | go_keep) (fail)
          have y0 : V.drew.cell? ⟨sb, q * 4, none⟩ = some (.int .i64 (s.kind : Int)) := s0
          have y1 : V.drew.cell? ⟨sb, q * 4 + 1, none⟩ = some (.int .i64 (s.set : Int)) := s1
          have y2 : V.drew.cell? ⟨sb, q * 4 + 2, none⟩ = some (.int .i64 (s.next : Int)) := s2
          have z0 : V.drew.cell? ⟨wr.heap.size, 0, none⟩ = some (.int .i64 (i : Int)) := x0
          have zc : V.drew.cell? ⟨pb, 1, none⟩ = some (.slice ta0 B.sets.length tc0) := kc1
          have HK := Lib.hid (HA.out.ok.zero q s hs)
          have HSs := Lib.hid hs
          have HSet := Lib.hid (HA.out.ok.set q s hs)
          have hnx2 := HA.out.ok.next q s hs
          clear s0 s2 x0 x1 kc0 kc2 hs
          rcases (show s.kind = 0 ∨ s.kind = 1 by omega) with hk0 | hk0
          · have hq0 := HK.out.1 hk0
            subst hq0
            rw [hk0] at y0
            have HN : Hid (FiI w w.heap.size wb rb B.sts.length sb sc B b fr V.drew tv' (.slice (some ⟨tg, 0, none⟩) T.length tc) lv' tr' T rch' at' (k + 1) true i at' gk) := Lib.hid ⟨HV.out.wm.drew, HV.out.inn.stood HA.out.ok ht HG.out, HV.out.bel.drew, by have := HV.out.ms; omega, by omega⟩
            clear HV HG hk0
            go_wp2_with fail
            go_roundg gk
            case measure => omega
            case rel => exact ⟨k + 1, i, at', true, _, _, _, _, rfl, rfl, rfl, by go_num, HN⟩
          · rw [hk0] at y0
            have hq0 : q ≠ 0 := fun e => by have := HK.out.2 e; omega
            have hsl := HSet.out hk0
            obtain ⟨p, hpp⟩ : ∃ p, B.sets[s.set]? = some p := ⟨_, List.getElem?_eq_getElem hsl⟩
            obtain ⟨tb, rfl, htb⟩ := row_some HSe.out (by omega)
            by_cases han : at' < b.length
            case neg =>
              have n9 : ¬ (at' : Int) < (b.length : Int) := by omega
              have n10 : decide ((at' : Int) < (b.length : Int)) = false := decide_eq_false n9
              have HN : Hid (∀ u, Below V.heap.size V u → FiI w w.heap.size wb rb B.sts.length sb sc B b fr u tv' (.slice (some ⟨tg, 0, none⟩) T.length tc) lv' tr' T rch' at' (k + 1) false g' z' gk) := Lib.hid fun u hu => ⟨HV.out.wm.below hu, HV.out.inn.pass ht hq0 (fun r hr => by
                obtain ⟨_, _, _, _, _, _, hr, _⟩ := hr
                have := (List.getElem?_eq_some_iff.1 hr).1
                omega), HV.out.bel.trans (hu.mono HV.out.bel.size), by have := HV.out.ms; omega, by omega⟩
              clear HV HG hk0
              go_upto_region 17 with fail
              go_quiet (fail)
              go_wp2_with fail
              go_roundg gk
              case measure => omega
              case rel => exact ⟨k + 1, g', z', false, _, _, _, _, rfl, rfl, rfl, by go_num, Lib.hid (HN.out _ below_drewN)⟩
            obtain ⟨c, hc⟩ : ∃ c, b[at']? = some c := ⟨_, List.getElem?_eq_getElem han⟩
            obtain ⟨vb, vo, rfl, hvb, hcb⟩ := byAt_cell HB.out hc
            have yb : V.drew.cell? ⟨vb, vo + at', none⟩ = some (.int .u8 (c.toNat : Int)) := (HV.out.bel.drew.cell (p := ⟨vb, vo + at', none⟩) hvb).trans hcb
            have ys : V.drew.cell? ⟨tb, s.set * 256 + c.toNat, none⟩ = some (.bool (p c)) := (seR_of HSe.out).below htb HV.out.bel.drew s.set p hpp c
            have yb2 : V.cell? ⟨vb, vo + at', none⟩ = some (.int .u8 (c.toNat : Int)) := yb
            have ys2 : V.cell? ⟨tb, s.set * 256 + c.toNat, none⟩ = some (.bool (p c)) := ys
            have hc256 := c.toNat_lt
            have n9 : (at' : Int) < (b.length : Int) := by omega
            have n10 : decide ((at' : Int) < (b.length : Int)) = true := decide_eq_true n9
            have n11 : (s.set : Int) < (B.sets.length : Int) := by omega
            have n12 : (c.toNat : Int) < 256 := by omega
            have hst2 : s.set * 256 ≤ 20000000 := by omega
            have HTk : Hid (∀ r, tak b B q at' r → p c = true ∧ r = s.next) := Lib.hid fun r hr => by
              obtain ⟨s', c', p', h1, _, h3, h4, h5, h6⟩ := hr
              rw [HSs.out] at h1
              cases h1
              rw [hc] at h4
              cases h4
              rw [hpp] at h5
              cases h5
              exact ⟨h6, h3⟩
            have HTk2 : Hid (p c = true → tak b B q at' s.next) := Lib.hid fun h => ⟨s, c, p, HSs.out, hk0, rfl, hc, hpp, h⟩
            clear hcb hc hpp
            cases hpc : p c with
            | false =>
              rw [hpc] at ys ys2
              have HN : Hid (∀ u, Below V.heap.size V u → FiI w w.heap.size wb rb B.sts.length sb sc B b fr u tv' (.slice (some ⟨tg, 0, none⟩) T.length tc) lv' tr' T rch' at' (k + 1) false g' z' gk) := Lib.hid fun u hu => ⟨HV.out.wm.below hu, HV.out.inn.pass ht hq0 (fun r hr => by
                have := (HTk.out r hr).1
                rw [hpc] at this
                cases this), HV.out.bel.trans (hu.mono HV.out.bel.size), by have := HV.out.ms; omega, by omega⟩
              clear HV HG hk0 HTk HTk2 hpc
              go_upto_region 17 with fail
              go_quiet (fail)
              go_wp2_with fail
              go_roundg gk
              case measure => omega
              case rel => exact ⟨k + 1, g', z', false, _, _, _, _, rfl, rfl, rfl, by go_num, Lib.hid (HN.out _ below_drewN)⟩
            | true =>
              rw [hpc] at ys ys2
              have htak := HTk2.out hpc
              have HRC : Hid (∀ u, Below V.heap.size V u → Calls Tryz.prog 18 #[ptr wb, .int .i64 (s.next : Int), .int .i64 (i : Int), .int .i64 ((at' : Int) + 1)] u fun e w5 => e = .returned (.tuple #[]) ∧ ∃ tv5 lv5 rch5 tr5, FiI w w.heap.size wb rb B.sts.length sb sc B b fr w5 tv5 (.slice (some ⟨tg, 0, none⟩) T.length tc) lv5 tr5 T rch5 at' (k + 1) false g' z' gk) := Lib.hid fun u hu => by
                have hru := reach_c (a := at' + 1) (i := i) (HV.out.wm.below hu) HA.out.ok HV.out.inn.wk (HS.out.below hsb (HV.out.bel.trans (hu.mono HV.out.bel.size))) hsb (by omega) hnx2 (by omega)
                rw [show ((at' + 1 : Nat) : Int) = (at' : Int) + 1 by omega] at hru
                refine hru.mono fun e w5 hq => ?_
                obtain ⟨e1, tv5, lv5, rch5, tr5, h1, h2, h3⟩ := hq
                exact ⟨e1, tv5, lv5, rch5, tr5, ⟨h1, HV.out.inn.taken HA.out.ok HRt.out.sorted ht HSd.out htak h2, (HV.out.bel.trans (hu.mono HV.out.bel.size)).trans h3, by have := HV.out.ms; omega, by omega⟩⟩
              clear HV HG hk0 HTk HTk2 hpc htak
              go_upto_region 17 with fail
              go_quiet (fail)
              go_upto_region 18 with fail
              have hwr : IntKind.i64.wrap ((at' : Int) + 1) = (at' : Int) + 1 := IntWalk.i64_in _ (by omega)
              refine wp_region_tail 9 (fun u => u.cell? ⟨sb, q * 4 + 2, none⟩ = some (.int .i64 (s.next : Int)) ∧ u.cell? ⟨wr.heap.size, 0, none⟩ = some (.int .i64 (i : Int))) (by kernel_rfl) ⟨y2, z0⟩ (fun hHeld => ?_)
              repeat
                first
                  | (refine wpAnyT_take (i := 0) (v := ?_) 9 rfl (by decide +kernel) (fun _ _ _ h => h) (Or.inl ⟨by rfl, fun u hu => ?_⟩) (by assumption) ?_; rotate_left; focus ((try dsimp only at hu); go_simp; try with_reducible rfl))
                  | (refine wpAnyT_take (i := 1) (v := ?_) 9 rfl (by decide +kernel) (fun _ _ _ h => h) (Or.inl ⟨by rfl, fun u hu => ?_⟩) (by assumption) ?_; rotate_left; focus ((try dsimp only at hu); go_simp; try with_reducible rfl))
                  | (refine wpAnyT_take (i := 2) (v := ?_) 9 rfl (by decide +kernel) (fun _ _ _ h => h) (Or.inl ⟨by rfl, fun u hu => ?_⟩) (by assumption) ?_; rotate_left; focus ((try dsimp only at hu); go_simp; try with_reducible rfl))
                  | (refine wpAnyT_take (i := 3) (v := ?_) 9 rfl (by decide +kernel) (fun _ _ _ h => h) (Or.inl ⟨by rfl, fun u hu => ?_⟩) (by assumption) ?_; rotate_left; focus ((try dsimp only at hu); go_simp; try with_reducible rfl))
                  | (refine wpAnyT_take (i := 4) (v := ?_) 9 rfl (by decide +kernel) (fun _ _ _ h => h) (Or.inl ⟨by rfl, fun u hu => ?_⟩) (by assumption) ?_; rotate_left; focus ((try dsimp only at hu); go_simp; try with_reducible rfl))
                  | (refine wpAnyT_take (i := 5) (v := ?_) 9 rfl (by decide +kernel) (fun _ _ _ h => h) (Or.inl ⟨by rfl, fun u hu => ?_⟩) (by assumption) ?_; rotate_left; focus ((try dsimp only at hu); go_simp; try with_reducible rfl))
                  | (refine wpAnyT_take (i := 6) (v := ?_) 9 rfl (by decide +kernel) (fun _ _ _ h => h) (Or.inl ⟨by rfl, fun u hu => ?_⟩) (by assumption) ?_; rotate_left; focus ((try dsimp only at hu); go_simp; try with_reducible rfl))
                  | (refine wpAnyT_take (i := 7) (v := ?_) 9 rfl (by decide +kernel) (fun _ _ _ h => h) (Or.inl ⟨by rfl, fun u hu => ?_⟩) (by assumption) ?_; rotate_left; focus ((try dsimp only at hu); go_simp; try with_reducible rfl))
                  | (refine wpAnyT_take (i := 8) (v := ?_) 9 rfl (by decide +kernel) (fun _ _ _ h => h) (Or.inl ⟨by rfl, fun u hu => ?_⟩) (by assumption) ?_; rotate_left; focus ((try dsimp only at hu); go_simp; try with_reducible rfl))
                simp only [Act.put, List.setIfInBounds_toArray, List.set_cons_zero, List.set_cons_succ]
              refine wpAnyT_one (i := 9) rfl (by kernel_rfl) (fun K hK => ?_)
              go_simp
              go_at_call 18
              refine (HRC.out _ below_drewN).mono ?_
              rintro e w5 ⟨rfl, tv5, lv5, rch5, tr5, hF5⟩
              have H5 := Lib.hid hF5
              clear hF5
              refine hK.out _ _ (fun hne => ?_) ?_
              · exact absurd rfl hne
              clear hK K
              refine wpAnyT_done (by kernel_rfl) ?_ _
              go_wp2_with fail
              go_roundg gk
              case measure => omega
              case rel => exact ⟨k + 1, g', z', false, tv5, lv5, tr5, rch5, rfl, rfl, rfl, by go_num, H5⟩
        | true =>
          have n4 := n4 rfl
          go_upto_region 14 with fail
          go_region_held3 (fun w' => w'.cell? ⟨pb, 0, none⟩ = some (.slice (some ⟨sb, 0, none⟩) B.sts.length sc) ∧ w'.cell? ⟨wr.heap.size, 1, none⟩ = some (.int .i64 (q : Int))) (first | exact ⟨kc0, x1⟩ | go_keep) (fail)
          have y0 : V.drew.cell? ⟨sb, q * 4, none⟩ = some (.int .i64 (s.kind : Int)) := s0
          have y1 : V.drew.cell? ⟨sb, q * 4 + 1, none⟩ = some (.int .i64 (s.set : Int)) := s1
          have y2 : V.drew.cell? ⟨sb, q * 4 + 2, none⟩ = some (.int .i64 (s.next : Int)) := s2
          have z0 : V.drew.cell? ⟨wr.heap.size, 0, none⟩ = some (.int .i64 (i : Int)) := x0
          have zc : V.drew.cell? ⟨pb, 1, none⟩ = some (.slice ta0 B.sets.length tc0) := kc1
          have HK := Lib.hid (HA.out.ok.zero q s hs)
          have HSs := Lib.hid hs
          have HSet := Lib.hid (HA.out.ok.set q s hs)
          have hnx2 := HA.out.ok.next q s hs
          clear s0 s2 x0 x1 kc0 kc2 hs
          rcases (show s.kind = 0 ∨ s.kind = 1 by omega) with hk0 | hk0
          · have hq0 := HK.out.1 hk0
            subst hq0
            rw [hk0] at y0
            have HN : Hid (FiI w w.heap.size wb rb B.sts.length sb sc B b fr V.drew tv' (.slice (some ⟨tg, 0, none⟩) T.length tc) lv' tr' T rch' at' (k + 1) true i at' gk) := Lib.hid ⟨HV.out.wm.drew, HV.out.inn.stood HA.out.ok ht HG.out, HV.out.bel.drew, by have := HV.out.ms; omega, by omega⟩
            clear HV HG hk0
            go_wp2_with fail
            go_roundg gk
            case measure => omega
            case rel => exact ⟨k + 1, i, at', true, _, _, _, _, rfl, rfl, rfl, by go_num, HN⟩
          · rw [hk0] at y0
            have hq0 : q ≠ 0 := fun e => by have := HK.out.2 e; omega
            have hsl := HSet.out hk0
            obtain ⟨p, hpp⟩ : ∃ p, B.sets[s.set]? = some p := ⟨_, List.getElem?_eq_getElem hsl⟩
            obtain ⟨tb, rfl, htb⟩ := row_some HSe.out (by omega)
            by_cases han : at' < b.length
            case neg =>
              have n9 : ¬ (at' : Int) < (b.length : Int) := by omega
              have n10 : decide ((at' : Int) < (b.length : Int)) = false := decide_eq_false n9
              have HN : Hid (∀ u, Below V.heap.size V u → FiI w w.heap.size wb rb B.sts.length sb sc B b fr u tv' (.slice (some ⟨tg, 0, none⟩) T.length tc) lv' tr' T rch' at' (k + 1) true g' z' gk) := Lib.hid fun u hu => ⟨HV.out.wm.below hu, HV.out.inn.pass ht hq0 (fun r hr => by
                obtain ⟨_, _, _, _, _, _, hr, _⟩ := hr
                have := (List.getElem?_eq_some_iff.1 hr).1
                omega), HV.out.bel.trans (hu.mono HV.out.bel.size), by have := HV.out.ms; omega, by omega⟩
              clear HV HG hk0
              go_upto_region 17 with fail
              go_quiet (fail)
              go_wp2_with fail
              go_roundg gk
              case measure => omega
              case rel => exact ⟨k + 1, g', z', true, _, _, _, _, rfl, rfl, rfl, by go_num, Lib.hid (HN.out _ below_drewN)⟩
            obtain ⟨c, hc⟩ : ∃ c, b[at']? = some c := ⟨_, List.getElem?_eq_getElem han⟩
            obtain ⟨vb, vo, rfl, hvb, hcb⟩ := byAt_cell HB.out hc
            have yb : V.drew.cell? ⟨vb, vo + at', none⟩ = some (.int .u8 (c.toNat : Int)) := (HV.out.bel.drew.cell (p := ⟨vb, vo + at', none⟩) hvb).trans hcb
            have ys : V.drew.cell? ⟨tb, s.set * 256 + c.toNat, none⟩ = some (.bool (p c)) := (seR_of HSe.out).below htb HV.out.bel.drew s.set p hpp c
            have yb2 : V.cell? ⟨vb, vo + at', none⟩ = some (.int .u8 (c.toNat : Int)) := yb
            have ys2 : V.cell? ⟨tb, s.set * 256 + c.toNat, none⟩ = some (.bool (p c)) := ys
            have hc256 := c.toNat_lt
            have n9 : (at' : Int) < (b.length : Int) := by omega
            have n10 : decide ((at' : Int) < (b.length : Int)) = true := decide_eq_true n9
            have n11 : (s.set : Int) < (B.sets.length : Int) := by omega
            have n12 : (c.toNat : Int) < 256 := by omega
            have hst2 : s.set * 256 ≤ 20000000 := by omega
            have HTk : Hid (∀ r, tak b B q at' r → p c = true ∧ r = s.next) := Lib.hid fun r hr => by
              obtain ⟨s', c', p', h1, _, h3, h4, h5, h6⟩ := hr
              rw [HSs.out] at h1
              cases h1
              rw [hc] at h4
              cases h4
              rw [hpp] at h5
              cases h5
              exact ⟨h6, h3⟩
            have HTk2 : Hid (p c = true → tak b B q at' s.next) := Lib.hid fun h => ⟨s, c, p, HSs.out, hk0, rfl, hc, hpp, h⟩
            clear hcb hc hpp
            cases hpc : p c with
            | false =>
              rw [hpc] at ys ys2
              have HN : Hid (∀ u, Below V.heap.size V u → FiI w w.heap.size wb rb B.sts.length sb sc B b fr u tv' (.slice (some ⟨tg, 0, none⟩) T.length tc) lv' tr' T rch' at' (k + 1) true g' z' gk) := Lib.hid fun u hu => ⟨HV.out.wm.below hu, HV.out.inn.pass ht hq0 (fun r hr => by
                have := (HTk.out r hr).1
                rw [hpc] at this
                cases this), HV.out.bel.trans (hu.mono HV.out.bel.size), by have := HV.out.ms; omega, by omega⟩
              clear HV HG hk0 HTk HTk2 hpc
              go_upto_region 17 with fail
              go_quiet (fail)
              go_wp2_with fail
              go_roundg gk
              case measure => omega
              case rel => exact ⟨k + 1, g', z', true, _, _, _, _, rfl, rfl, rfl, by go_num, Lib.hid (HN.out _ below_drewN)⟩
            | true =>
              rw [hpc] at ys ys2
              have htak := HTk2.out hpc
              have HRC : Hid (∀ u, Below V.heap.size V u → Calls Tryz.prog 18 #[ptr wb, .int .i64 (s.next : Int), .int .i64 (i : Int), .int .i64 ((at' : Int) + 1)] u fun e w5 => e = .returned (.tuple #[]) ∧ ∃ tv5 lv5 rch5 tr5, FiI w w.heap.size wb rb B.sts.length sb sc B b fr w5 tv5 (.slice (some ⟨tg, 0, none⟩) T.length tc) lv5 tr5 T rch5 at' (k + 1) true g' z' gk) := Lib.hid fun u hu => by
                have hru := reach_c (a := at' + 1) (i := i) (HV.out.wm.below hu) HA.out.ok HV.out.inn.wk (HS.out.below hsb (HV.out.bel.trans (hu.mono HV.out.bel.size))) hsb (by omega) hnx2 (by omega)
                rw [show ((at' + 1 : Nat) : Int) = (at' : Int) + 1 by omega] at hru
                refine hru.mono fun e w5 hq => ?_
                obtain ⟨e1, tv5, lv5, rch5, tr5, h1, h2, h3⟩ := hq
                exact ⟨e1, tv5, lv5, rch5, tr5, ⟨h1, HV.out.inn.taken HA.out.ok HRt.out.sorted ht HSd.out htak h2, (HV.out.bel.trans (hu.mono HV.out.bel.size)).trans h3, by have := HV.out.ms; omega, by omega⟩⟩
              clear HV HG hk0 HTk HTk2 hpc htak
              go_upto_region 17 with fail
              go_quiet (fail)
              go_upto_region 18 with fail
              have hwr : IntKind.i64.wrap ((at' : Int) + 1) = (at' : Int) + 1 := IntWalk.i64_in _ (by omega)
              refine wp_region_tail 9 (fun u => u.cell? ⟨sb, q * 4 + 2, none⟩ = some (.int .i64 (s.next : Int)) ∧ u.cell? ⟨wr.heap.size, 0, none⟩ = some (.int .i64 (i : Int))) (by kernel_rfl) ⟨y2, z0⟩ (fun hHeld => ?_)
              repeat
                first
                  | (refine wpAnyT_take (i := 0) (v := ?_) 9 rfl (by decide +kernel) (fun _ _ _ h => h) (Or.inl ⟨by rfl, fun u hu => ?_⟩) (by assumption) ?_; rotate_left; focus ((try dsimp only at hu); go_simp; try with_reducible rfl))
                  | (refine wpAnyT_take (i := 1) (v := ?_) 9 rfl (by decide +kernel) (fun _ _ _ h => h) (Or.inl ⟨by rfl, fun u hu => ?_⟩) (by assumption) ?_; rotate_left; focus ((try dsimp only at hu); go_simp; try with_reducible rfl))
                  | (refine wpAnyT_take (i := 2) (v := ?_) 9 rfl (by decide +kernel) (fun _ _ _ h => h) (Or.inl ⟨by rfl, fun u hu => ?_⟩) (by assumption) ?_; rotate_left; focus ((try dsimp only at hu); go_simp; try with_reducible rfl))
                  | (refine wpAnyT_take (i := 3) (v := ?_) 9 rfl (by decide +kernel) (fun _ _ _ h => h) (Or.inl ⟨by rfl, fun u hu => ?_⟩) (by assumption) ?_; rotate_left; focus ((try dsimp only at hu); go_simp; try with_reducible rfl))
                  | (refine wpAnyT_take (i := 4) (v := ?_) 9 rfl (by decide +kernel) (fun _ _ _ h => h) (Or.inl ⟨by rfl, fun u hu => ?_⟩) (by assumption) ?_; rotate_left; focus ((try dsimp only at hu); go_simp; try with_reducible rfl))
                  | (refine wpAnyT_take (i := 5) (v := ?_) 9 rfl (by decide +kernel) (fun _ _ _ h => h) (Or.inl ⟨by rfl, fun u hu => ?_⟩) (by assumption) ?_; rotate_left; focus ((try dsimp only at hu); go_simp; try with_reducible rfl))
                  | (refine wpAnyT_take (i := 6) (v := ?_) 9 rfl (by decide +kernel) (fun _ _ _ h => h) (Or.inl ⟨by rfl, fun u hu => ?_⟩) (by assumption) ?_; rotate_left; focus ((try dsimp only at hu); go_simp; try with_reducible rfl))
                  | (refine wpAnyT_take (i := 7) (v := ?_) 9 rfl (by decide +kernel) (fun _ _ _ h => h) (Or.inl ⟨by rfl, fun u hu => ?_⟩) (by assumption) ?_; rotate_left; focus ((try dsimp only at hu); go_simp; try with_reducible rfl))
                  | (refine wpAnyT_take (i := 8) (v := ?_) 9 rfl (by decide +kernel) (fun _ _ _ h => h) (Or.inl ⟨by rfl, fun u hu => ?_⟩) (by assumption) ?_; rotate_left; focus ((try dsimp only at hu); go_simp; try with_reducible rfl))
                simp only [Act.put, List.setIfInBounds_toArray, List.set_cons_zero, List.set_cons_succ]
              refine wpAnyT_one (i := 9) rfl (by kernel_rfl) (fun K hK => ?_)
              go_simp
              go_at_call 18
              refine (HRC.out _ below_drewN).mono ?_
              rintro e w5 ⟨rfl, tv5, lv5, rch5, tr5, hF5⟩
              have H5 := Lib.hid hF5
              clear hF5
              refine hK.out _ _ (fun hne => ?_) ?_
              · exact absurd rfl hne
              clear hK K
              refine wpAnyT_done (by kernel_rfl) ?_ _
              go_wp2_with fail
              go_roundg gk
              case measure => omega
              case rel => exact ⟨k + 1, g', z', true, tv5, lv5, tr5, rch5, rfl, rfl, rfl, by go_num, H5⟩
    | true =>
      obtain ⟨T, rfl⟩ : ∃ T, T = tr := ⟨_, rfl⟩
      obtain ⟨rch2, rfl⟩ : ∃ r, r = rch := ⟨_, rfl⟩
      obtain ⟨lv2, rfl⟩ : ∃ r, r = lv := ⟨_, rfl⟩
      have HX : Hid (WM wr w.heap.size wb rb B.sts.length (.slice (some ⟨sb, 0, none⟩) B.sts.length sc) b.length tv rv lv2 T rm rch2 [] ∧ HdI b B fr at' (at' + 1) rch2 T true g z ∧ Below w.heap.size w wr) := Lib.hid ⟨HI.out.wm, HI.out.hd.found, HI.out.bel⟩
      clear HI
      obtain ⟨ta, tc, rfl⟩ := own_sh HX.out.1.tr
      rcases Nat.eq_zero_or_pos T.length with hT | hT
      · obtain rfl := List.length_eq_zero_iff.1 hT
        have hnx := next_c HX.out.1
        have HBs := Lib.hid (HX.out.2.1.stop HA.out.ok (b.length + 1) (by omega))
        have HBl := Lib.hid HX.out.2.2
        clear HX hT
        go_wp2_with (go_at_call 19; refine hnx.mono ?_; rintro e w3 ⟨rfl, tv3, hW3, hB3⟩; have HF : Hid (FdOut x b f w (.returned (.tuple #[.int .i64 (g : Int), .int .i64 (z : Int), .bool true])) w3) := Lib.hid ⟨(g : Int), (z : Int), true, rfl, HA.out.find (by rw [hfn]; exact HBs.out), HBl.out.trans hB3⟩; clear hW3 hB3)
        go_ret3
        exact HF.out
      · go_upto_region 8 with fail
        have hnx := next_c HX.out.1
        have HRt : Hid (HdI b B fr at' (at' + 1) rch2 T true g z) := Lib.hid HX.out.2.1
        have HB2 := Lib.hid HX.out.2.2
        have hN2 := HX.out.1.tr
        have n7 : ((T.length : Int) == 0) = false := by rw [beq_eq_false_iff_ne]; omega
        have n8 : ¬ T.length = 0 := by omega
        clear HX
        go_wp2_with (go_at_call 19; refine hnx.mono ?_; rintro e w3 ⟨rfl, tv3, hW3, hB3⟩; have HJ0 : Hid (FiI w w.heap.size wb rb B.sts.length sb sc B b fr w3 tv3 (.slice ta T.length tc) lv2 [] T rch2 at' 0 true g z T.length) := Lib.hid ⟨hW3, InI.start HRt.out, HB2.out.trans hB3, by omega, Nat.zero_le _⟩; clear hW3 hB3)
        clear hnx kc0 kc1 kc2
        go_loopg [9, 10, 11, 49] T.length (fun gk v9 v10 v11 v49 wr => ∃ (k g z : Nat) (is : Bool) (tv lv : Value) (tr : List (Nat × Nat)) (rch : List Nat), v9 = .int .i64 (g : Int) ∧ v10 = .int .i64 (z : Int) ∧ v11 = .bool is ∧ v49 = .int .i64 (k : Int) ∧ Hid (FiI w w.heap.size wb rb B.sts.length sb sc B b fr wr tv (.slice ta T.length tc) lv tr T rch at' k is g z gk))
        case atStart => exact ⟨0, g, z, true, _, _, [], _, rfl, rfl, rfl, rfl, HJ0⟩
        case round =>
          obtain ⟨k, g', z', is', tv', lv', tr', rch', rfl, rfl, rfl, rfl, HJ⟩ := hrel
          clear HJ0
          by_cases hk : k < T.length
          case neg =>
            have n3 : ¬ (k : Int) < (T.length : Int) := by omega
            have HN := Lib.hid (FdI.next HA.out.ok HRt.out HJ.out htop hge (by omega) (.inl (by omega)))
            clear HJ
            go_wp2_with fail
            go_roundg go
            case measure => omega
            case rel => exact ⟨at' + 1, g', z', is', _, _, _, _, _, _, rfl, rfl, rfl, by go_num, HN⟩
          have n3 : (k : Int) < (T.length : Int) := by omega
          obtain ⟨⟨i, q⟩, ht⟩ : ∃ t, T[k]? = some t := ⟨_, List.getElem?_eq_getElem hk⟩
          obtain ⟨tg, rfl, r0, r1, rlt, rle, rcap⟩ := HJ.out.wm.trail ht
          obtain ⟨gk, rfl⟩ : ∃ x, gk = x + 1 := ⟨gk - 1, by have := HJ.out.ms; omega⟩
          have hBV : Below wr.heap.size wr (wr.alloc (.cells #[.int .i64 (i : Int), .int .i64 (q : Int)] 55)) := (Below.refl _ wr).alloc (Nat.le_refl _) _
          have hbx := al_new wr (.cells #[.int .i64 (i : Int), .int .i64 (q : Int)] 55)
          have hwg : w.heap.size ≤ wr.heap.size := HJ.out.bel.size
          have hHJ : FiI w w.heap.size wb rb B.sts.length sb sc B b fr (wr.alloc (.cells #[.int .i64 (i : Int), .int .i64 (q : Int)] 55)) tv' (.slice (some ⟨tg, 0, none⟩) T.length tc) lv' tr' T rch' at' k is' g' z' (gk + 1) := ⟨HJ.out.wm.below hBV, HJ.out.inn, HJ.out.bel.trans (hBV.mono hwg), HJ.out.ms, HJ.out.le⟩
          go_upto_region 13 with fail
          clear r0 r1
          generalize wr.alloc (.cells #[.int .i64 (i : Int), .int .i64 (q : Int)] 55) = V at hBV hbx hHJ ⊢
          have HV := Lib.hid hHJ
          have x0 := h_cell hbx 0 rfl
          have x1 := h_cell hbx 1 rfl
          have x0 : V.cell? ⟨wr.heap.size, 0, none⟩ = some (.int .i64 (i : Int)) := x0
          have x1 : V.cell? ⟨wr.heap.size, 1, none⟩ = some (.int .i64 (q : Int)) := x1
          have hxl := h_lt hbx
          obtain ⟨kc0, kc1, kc2⟩ := HC.out V HV.out.bel
          have hmem := List.mem_of_getElem? ht
          obtain ⟨_, s, hs, hkd⟩ := HRt.out.wk.tr1 i q hmem
          have HSd := Lib.hid (HRt.out.snd (i, q) hmem)
          obtain ⟨s0, s1, s2, _⟩ := HS.out.below hsb HV.out.bel q s hs
          have hql := (List.getElem?_eq_some_iff.1 hs).1
          have n5 : (q : Int) < (B.sts.length : Int) := by omega
          have hsq : q * 4 ≤ 200000 := by omega
          clear hHJ HJ hBV hbx
          by_cases hgi : is' = true ∧ g' < i
          · obtain ⟨rfl, hgi⟩ := hgi
            have n4 : (g' : Int) < (i : Int) := by omega
            have HN := Lib.hid (FdI.next HA.out.ok HRt.out HV.out htop hge (by omega) (.inr ⟨rfl, (i, q), ht, hgi⟩))
            clear HV hgi
            go_wp2_with fail
            go_roundg go
            case measure => omega
            case rel => exact ⟨at' + 1, g', z', true, _, _, _, _, _, _, rfl, rfl, rfl, by go_num, HN⟩
          have hgi2 : is' = true → i ≤ g' := fun e => Nat.le_of_not_lt fun h => hgi ⟨e, h⟩
          have n4 : is' = true → ¬ (g' : Int) < (i : Int) := fun e => by have := hgi2 e; omega
          have HG := Lib.hid hgi2
          clear hgi hgi2
          cases is' with
          | false =>
            clear n4
            go_upto_region 14 with fail
            go_region_held3 (fun w' => w'.cell? ⟨pb, 0, none⟩ = some (.slice (some ⟨sb, 0, none⟩) B.sts.length sc) ∧ w'.cell? ⟨wr.heap.size, 1, none⟩ = some (.int .i64 (q : Int))) (first | exact ⟨kc0, x1⟩ | go_keep) (fail)
            have y0 : V.drew.cell? ⟨sb, q * 4, none⟩ = some (.int .i64 (s.kind : Int)) := s0
            have y1 : V.drew.cell? ⟨sb, q * 4 + 1, none⟩ = some (.int .i64 (s.set : Int)) := s1
            have y2 : V.drew.cell? ⟨sb, q * 4 + 2, none⟩ = some (.int .i64 (s.next : Int)) := s2
            have z0 : V.drew.cell? ⟨wr.heap.size, 0, none⟩ = some (.int .i64 (i : Int)) := x0
            have zc : V.drew.cell? ⟨pb, 1, none⟩ = some (.slice ta0 B.sets.length tc0) := kc1
            have HK := Lib.hid (HA.out.ok.zero q s hs)
            have HSs := Lib.hid hs
            have HSet := Lib.hid (HA.out.ok.set q s hs)
            have hnx2 := HA.out.ok.next q s hs
            clear s0 s2 x0 x1 kc0 kc2 hs
            rcases (show s.kind = 0 ∨ s.kind = 1 by omega) with hk0 | hk0
            · have hq0 := HK.out.1 hk0
              subst hq0
              rw [hk0] at y0
              have HN : Hid (FiI w w.heap.size wb rb B.sts.length sb sc B b fr V.drew tv' (.slice (some ⟨tg, 0, none⟩) T.length tc) lv' tr' T rch' at' (k + 1) true i at' gk) := Lib.hid ⟨HV.out.wm.drew, HV.out.inn.stood HA.out.ok ht HG.out, HV.out.bel.drew, by have := HV.out.ms; omega, by omega⟩
              clear HV HG hk0
              go_wp2_with fail
              go_roundg gk
              case measure => omega
              case rel => exact ⟨k + 1, i, at', true, _, _, _, _, rfl, rfl, rfl, by go_num, HN⟩
            · rw [hk0] at y0
              have hq0 : q ≠ 0 := fun e => by have := HK.out.2 e; omega
              have hsl := HSet.out hk0
              obtain ⟨p, hpp⟩ : ∃ p, B.sets[s.set]? = some p := ⟨_, List.getElem?_eq_getElem hsl⟩
              obtain ⟨tb, rfl, htb⟩ := row_some HSe.out (by omega)
              by_cases han : at' < b.length
              case neg =>
                have n9 : ¬ (at' : Int) < (b.length : Int) := by omega
                have n10 : decide ((at' : Int) < (b.length : Int)) = false := decide_eq_false n9
                have HN : Hid (∀ u, Below V.heap.size V u → FiI w w.heap.size wb rb B.sts.length sb sc B b fr u tv' (.slice (some ⟨tg, 0, none⟩) T.length tc) lv' tr' T rch' at' (k + 1) false g' z' gk) := Lib.hid fun u hu => ⟨HV.out.wm.below hu, HV.out.inn.pass ht hq0 (fun r hr => by
                  obtain ⟨_, _, _, _, _, _, hr, _⟩ := hr
                  have := (List.getElem?_eq_some_iff.1 hr).1
                  omega), HV.out.bel.trans (hu.mono HV.out.bel.size), by have := HV.out.ms; omega, by omega⟩
                clear HV HG hk0
                go_upto_region 17 with fail
                go_quiet (fail)
                go_wp2_with fail
                go_roundg gk
                case measure => omega
                case rel => exact ⟨k + 1, g', z', false, _, _, _, _, rfl, rfl, rfl, by go_num, Lib.hid (HN.out _ below_drewN)⟩
              obtain ⟨c, hc⟩ : ∃ c, b[at']? = some c := ⟨_, List.getElem?_eq_getElem han⟩
              obtain ⟨vb, vo, rfl, hvb, hcb⟩ := byAt_cell HB.out hc
              have yb : V.drew.cell? ⟨vb, vo + at', none⟩ = some (.int .u8 (c.toNat : Int)) := (HV.out.bel.drew.cell (p := ⟨vb, vo + at', none⟩) hvb).trans hcb
              have ys : V.drew.cell? ⟨tb, s.set * 256 + c.toNat, none⟩ = some (.bool (p c)) := (seR_of HSe.out).below htb HV.out.bel.drew s.set p hpp c
              have yb2 : V.cell? ⟨vb, vo + at', none⟩ = some (.int .u8 (c.toNat : Int)) := yb
              have ys2 : V.cell? ⟨tb, s.set * 256 + c.toNat, none⟩ = some (.bool (p c)) := ys
              have hc256 := c.toNat_lt
              have n9 : (at' : Int) < (b.length : Int) := by omega
              have n10 : decide ((at' : Int) < (b.length : Int)) = true := decide_eq_true n9
              have n11 : (s.set : Int) < (B.sets.length : Int) := by omega
              have n12 : (c.toNat : Int) < 256 := by omega
              have hst2 : s.set * 256 ≤ 20000000 := by omega
              have HTk : Hid (∀ r, tak b B q at' r → p c = true ∧ r = s.next) := Lib.hid fun r hr => by
                obtain ⟨s', c', p', h1, _, h3, h4, h5, h6⟩ := hr
                rw [HSs.out] at h1
                cases h1
                rw [hc] at h4
                cases h4
                rw [hpp] at h5
                cases h5
                exact ⟨h6, h3⟩
              have HTk2 : Hid (p c = true → tak b B q at' s.next) := Lib.hid fun h => ⟨s, c, p, HSs.out, hk0, rfl, hc, hpp, h⟩
              clear hcb hc hpp
              cases hpc : p c with
              | false =>
                rw [hpc] at ys ys2
                have HN : Hid (∀ u, Below V.heap.size V u → FiI w w.heap.size wb rb B.sts.length sb sc B b fr u tv' (.slice (some ⟨tg, 0, none⟩) T.length tc) lv' tr' T rch' at' (k + 1) false g' z' gk) := Lib.hid fun u hu => ⟨HV.out.wm.below hu, HV.out.inn.pass ht hq0 (fun r hr => by
                  have := (HTk.out r hr).1
                  rw [hpc] at this
                  cases this), HV.out.bel.trans (hu.mono HV.out.bel.size), by have := HV.out.ms; omega, by omega⟩
                clear HV HG hk0 HTk HTk2 hpc
                go_upto_region 17 with fail
                go_quiet (fail)
                go_wp2_with fail
                go_roundg gk
                case measure => omega
                case rel => exact ⟨k + 1, g', z', false, _, _, _, _, rfl, rfl, rfl, by go_num, Lib.hid (HN.out _ below_drewN)⟩
              | true =>
                rw [hpc] at ys ys2
                have htak := HTk2.out hpc
                have HRC : Hid (∀ u, Below V.heap.size V u → Calls Tryz.prog 18 #[ptr wb, .int .i64 (s.next : Int), .int .i64 (i : Int), .int .i64 ((at' : Int) + 1)] u fun e w5 => e = .returned (.tuple #[]) ∧ ∃ tv5 lv5 rch5 tr5, FiI w w.heap.size wb rb B.sts.length sb sc B b fr w5 tv5 (.slice (some ⟨tg, 0, none⟩) T.length tc) lv5 tr5 T rch5 at' (k + 1) false g' z' gk) := Lib.hid fun u hu => by
                  have hru := reach_c (a := at' + 1) (i := i) (HV.out.wm.below hu) HA.out.ok HV.out.inn.wk (HS.out.below hsb (HV.out.bel.trans (hu.mono HV.out.bel.size))) hsb (by omega) hnx2 (by omega)
                  rw [show ((at' + 1 : Nat) : Int) = (at' : Int) + 1 by omega] at hru
                  refine hru.mono fun e w5 hq => ?_
                  obtain ⟨e1, tv5, lv5, rch5, tr5, h1, h2, h3⟩ := hq
                  exact ⟨e1, tv5, lv5, rch5, tr5, ⟨h1, HV.out.inn.taken HA.out.ok HRt.out.sorted ht HSd.out htak h2, (HV.out.bel.trans (hu.mono HV.out.bel.size)).trans h3, by have := HV.out.ms; omega, by omega⟩⟩
                clear HV HG hk0 HTk HTk2 hpc htak
                go_upto_region 17 with fail
                go_quiet (fail)
                go_upto_region 18 with fail
                have hwr : IntKind.i64.wrap ((at' : Int) + 1) = (at' : Int) + 1 := IntWalk.i64_in _ (by omega)
                refine wp_region_tail 9 (fun u => u.cell? ⟨sb, q * 4 + 2, none⟩ = some (.int .i64 (s.next : Int)) ∧ u.cell? ⟨wr.heap.size, 0, none⟩ = some (.int .i64 (i : Int))) (by kernel_rfl) ⟨y2, z0⟩ (fun hHeld => ?_)
                repeat
                  first
                    | (refine wpAnyT_take (i := 0) (v := ?_) 9 rfl (by decide +kernel) (fun _ _ _ h => h) (Or.inl ⟨by rfl, fun u hu => ?_⟩) (by assumption) ?_; rotate_left; focus ((try dsimp only at hu); go_simp; try with_reducible rfl))
                    | (refine wpAnyT_take (i := 1) (v := ?_) 9 rfl (by decide +kernel) (fun _ _ _ h => h) (Or.inl ⟨by rfl, fun u hu => ?_⟩) (by assumption) ?_; rotate_left; focus ((try dsimp only at hu); go_simp; try with_reducible rfl))
                    | (refine wpAnyT_take (i := 2) (v := ?_) 9 rfl (by decide +kernel) (fun _ _ _ h => h) (Or.inl ⟨by rfl, fun u hu => ?_⟩) (by assumption) ?_; rotate_left; focus ((try dsimp only at hu); go_simp; try with_reducible rfl))
                    | (refine wpAnyT_take (i := 3) (v := ?_) 9 rfl (by decide +kernel) (fun _ _ _ h => h) (Or.inl ⟨by rfl, fun u hu => ?_⟩) (by assumption) ?_; rotate_left; focus ((try dsimp only at hu); go_simp; try with_reducible rfl))
                    | (refine wpAnyT_take (i := 4) (v := ?_) 9 rfl (by decide +kernel) (fun _ _ _ h => h) (Or.inl ⟨by rfl, fun u hu => ?_⟩) (by assumption) ?_; rotate_left; focus ((try dsimp only at hu); go_simp; try with_reducible rfl))
                    | (refine wpAnyT_take (i := 5) (v := ?_) 9 rfl (by decide +kernel) (fun _ _ _ h => h) (Or.inl ⟨by rfl, fun u hu => ?_⟩) (by assumption) ?_; rotate_left; focus ((try dsimp only at hu); go_simp; try with_reducible rfl))
                    | (refine wpAnyT_take (i := 6) (v := ?_) 9 rfl (by decide +kernel) (fun _ _ _ h => h) (Or.inl ⟨by rfl, fun u hu => ?_⟩) (by assumption) ?_; rotate_left; focus ((try dsimp only at hu); go_simp; try with_reducible rfl))
                    | (refine wpAnyT_take (i := 7) (v := ?_) 9 rfl (by decide +kernel) (fun _ _ _ h => h) (Or.inl ⟨by rfl, fun u hu => ?_⟩) (by assumption) ?_; rotate_left; focus ((try dsimp only at hu); go_simp; try with_reducible rfl))
                    | (refine wpAnyT_take (i := 8) (v := ?_) 9 rfl (by decide +kernel) (fun _ _ _ h => h) (Or.inl ⟨by rfl, fun u hu => ?_⟩) (by assumption) ?_; rotate_left; focus ((try dsimp only at hu); go_simp; try with_reducible rfl))
                  simp only [Act.put, List.setIfInBounds_toArray, List.set_cons_zero, List.set_cons_succ]
                refine wpAnyT_one (i := 9) rfl (by kernel_rfl) (fun K hK => ?_)
                go_simp
                go_at_call 18
                refine (HRC.out _ below_drewN).mono ?_
                rintro e w5 ⟨rfl, tv5, lv5, rch5, tr5, hF5⟩
                have H5 := Lib.hid hF5
                clear hF5
                refine hK.out _ _ (fun hne => ?_) ?_
                · exact absurd rfl hne
                clear hK K
                refine wpAnyT_done (by kernel_rfl) ?_ _
                go_wp2_with fail
                go_roundg gk
                case measure => omega
                case rel => exact ⟨k + 1, g', z', false, tv5, lv5, tr5, rch5, rfl, rfl, rfl, by go_num, H5⟩
          | true =>
            have n4 := n4 rfl
            go_upto_region 14 with fail
            go_region_held3 (fun w' => w'.cell? ⟨pb, 0, none⟩ = some (.slice (some ⟨sb, 0, none⟩) B.sts.length sc) ∧ w'.cell? ⟨wr.heap.size, 1, none⟩ = some (.int .i64 (q : Int))) (first | exact ⟨kc0, x1⟩ | go_keep) (fail)
            have y0 : V.drew.cell? ⟨sb, q * 4, none⟩ = some (.int .i64 (s.kind : Int)) := s0
            have y1 : V.drew.cell? ⟨sb, q * 4 + 1, none⟩ = some (.int .i64 (s.set : Int)) := s1
            have y2 : V.drew.cell? ⟨sb, q * 4 + 2, none⟩ = some (.int .i64 (s.next : Int)) := s2
            have z0 : V.drew.cell? ⟨wr.heap.size, 0, none⟩ = some (.int .i64 (i : Int)) := x0
            have zc : V.drew.cell? ⟨pb, 1, none⟩ = some (.slice ta0 B.sets.length tc0) := kc1
            have HK := Lib.hid (HA.out.ok.zero q s hs)
            have HSs := Lib.hid hs
            have HSet := Lib.hid (HA.out.ok.set q s hs)
            have hnx2 := HA.out.ok.next q s hs
            clear s0 s2 x0 x1 kc0 kc2 hs
            rcases (show s.kind = 0 ∨ s.kind = 1 by omega) with hk0 | hk0
            · have hq0 := HK.out.1 hk0
              subst hq0
              rw [hk0] at y0
              have HN : Hid (FiI w w.heap.size wb rb B.sts.length sb sc B b fr V.drew tv' (.slice (some ⟨tg, 0, none⟩) T.length tc) lv' tr' T rch' at' (k + 1) true i at' gk) := Lib.hid ⟨HV.out.wm.drew, HV.out.inn.stood HA.out.ok ht HG.out, HV.out.bel.drew, by have := HV.out.ms; omega, by omega⟩
              clear HV HG hk0
              go_wp2_with fail
              go_roundg gk
              case measure => omega
              case rel => exact ⟨k + 1, i, at', true, _, _, _, _, rfl, rfl, rfl, by go_num, HN⟩
            · rw [hk0] at y0
              have hq0 : q ≠ 0 := fun e => by have := HK.out.2 e; omega
              have hsl := HSet.out hk0
              obtain ⟨p, hpp⟩ : ∃ p, B.sets[s.set]? = some p := ⟨_, List.getElem?_eq_getElem hsl⟩
              obtain ⟨tb, rfl, htb⟩ := row_some HSe.out (by omega)
              by_cases han : at' < b.length
              case neg =>
                have n9 : ¬ (at' : Int) < (b.length : Int) := by omega
                have n10 : decide ((at' : Int) < (b.length : Int)) = false := decide_eq_false n9
                have HN : Hid (∀ u, Below V.heap.size V u → FiI w w.heap.size wb rb B.sts.length sb sc B b fr u tv' (.slice (some ⟨tg, 0, none⟩) T.length tc) lv' tr' T rch' at' (k + 1) true g' z' gk) := Lib.hid fun u hu => ⟨HV.out.wm.below hu, HV.out.inn.pass ht hq0 (fun r hr => by
                  obtain ⟨_, _, _, _, _, _, hr, _⟩ := hr
                  have := (List.getElem?_eq_some_iff.1 hr).1
                  omega), HV.out.bel.trans (hu.mono HV.out.bel.size), by have := HV.out.ms; omega, by omega⟩
                clear HV HG hk0
                go_upto_region 17 with fail
                go_quiet (fail)
                go_wp2_with fail
                go_roundg gk
                case measure => omega
                case rel => exact ⟨k + 1, g', z', true, _, _, _, _, rfl, rfl, rfl, by go_num, Lib.hid (HN.out _ below_drewN)⟩
              obtain ⟨c, hc⟩ : ∃ c, b[at']? = some c := ⟨_, List.getElem?_eq_getElem han⟩
              obtain ⟨vb, vo, rfl, hvb, hcb⟩ := byAt_cell HB.out hc
              have yb : V.drew.cell? ⟨vb, vo + at', none⟩ = some (.int .u8 (c.toNat : Int)) := (HV.out.bel.drew.cell (p := ⟨vb, vo + at', none⟩) hvb).trans hcb
              have ys : V.drew.cell? ⟨tb, s.set * 256 + c.toNat, none⟩ = some (.bool (p c)) := (seR_of HSe.out).below htb HV.out.bel.drew s.set p hpp c
              have yb2 : V.cell? ⟨vb, vo + at', none⟩ = some (.int .u8 (c.toNat : Int)) := yb
              have ys2 : V.cell? ⟨tb, s.set * 256 + c.toNat, none⟩ = some (.bool (p c)) := ys
              have hc256 := c.toNat_lt
              have n9 : (at' : Int) < (b.length : Int) := by omega
              have n10 : decide ((at' : Int) < (b.length : Int)) = true := decide_eq_true n9
              have n11 : (s.set : Int) < (B.sets.length : Int) := by omega
              have n12 : (c.toNat : Int) < 256 := by omega
              have hst2 : s.set * 256 ≤ 20000000 := by omega
              have HTk : Hid (∀ r, tak b B q at' r → p c = true ∧ r = s.next) := Lib.hid fun r hr => by
                obtain ⟨s', c', p', h1, _, h3, h4, h5, h6⟩ := hr
                rw [HSs.out] at h1
                cases h1
                rw [hc] at h4
                cases h4
                rw [hpp] at h5
                cases h5
                exact ⟨h6, h3⟩
              have HTk2 : Hid (p c = true → tak b B q at' s.next) := Lib.hid fun h => ⟨s, c, p, HSs.out, hk0, rfl, hc, hpp, h⟩
              clear hcb hc hpp
              cases hpc : p c with
              | false =>
                rw [hpc] at ys ys2
                have HN : Hid (∀ u, Below V.heap.size V u → FiI w w.heap.size wb rb B.sts.length sb sc B b fr u tv' (.slice (some ⟨tg, 0, none⟩) T.length tc) lv' tr' T rch' at' (k + 1) true g' z' gk) := Lib.hid fun u hu => ⟨HV.out.wm.below hu, HV.out.inn.pass ht hq0 (fun r hr => by
                  have := (HTk.out r hr).1
                  rw [hpc] at this
                  cases this), HV.out.bel.trans (hu.mono HV.out.bel.size), by have := HV.out.ms; omega, by omega⟩
                clear HV HG hk0 HTk HTk2 hpc
                go_upto_region 17 with fail
                go_quiet (fail)
                go_wp2_with fail
                go_roundg gk
                case measure => omega
                case rel => exact ⟨k + 1, g', z', true, _, _, _, _, rfl, rfl, rfl, by go_num, Lib.hid (HN.out _ below_drewN)⟩
              | true =>
                rw [hpc] at ys ys2
                have htak := HTk2.out hpc
                have HRC : Hid (∀ u, Below V.heap.size V u → Calls Tryz.prog 18 #[ptr wb, .int .i64 (s.next : Int), .int .i64 (i : Int), .int .i64 ((at' : Int) + 1)] u fun e w5 => e = .returned (.tuple #[]) ∧ ∃ tv5 lv5 rch5 tr5, FiI w w.heap.size wb rb B.sts.length sb sc B b fr w5 tv5 (.slice (some ⟨tg, 0, none⟩) T.length tc) lv5 tr5 T rch5 at' (k + 1) true g' z' gk) := Lib.hid fun u hu => by
                  have hru := reach_c (a := at' + 1) (i := i) (HV.out.wm.below hu) HA.out.ok HV.out.inn.wk (HS.out.below hsb (HV.out.bel.trans (hu.mono HV.out.bel.size))) hsb (by omega) hnx2 (by omega)
                  rw [show ((at' + 1 : Nat) : Int) = (at' : Int) + 1 by omega] at hru
                  refine hru.mono fun e w5 hq => ?_
                  obtain ⟨e1, tv5, lv5, rch5, tr5, h1, h2, h3⟩ := hq
                  exact ⟨e1, tv5, lv5, rch5, tr5, ⟨h1, HV.out.inn.taken HA.out.ok HRt.out.sorted ht HSd.out htak h2, (HV.out.bel.trans (hu.mono HV.out.bel.size)).trans h3, by have := HV.out.ms; omega, by omega⟩⟩
                clear HV HG hk0 HTk HTk2 hpc htak
                go_upto_region 17 with fail
                go_quiet (fail)
                go_upto_region 18 with fail
                have hwr : IntKind.i64.wrap ((at' : Int) + 1) = (at' : Int) + 1 := IntWalk.i64_in _ (by omega)
                refine wp_region_tail 9 (fun u => u.cell? ⟨sb, q * 4 + 2, none⟩ = some (.int .i64 (s.next : Int)) ∧ u.cell? ⟨wr.heap.size, 0, none⟩ = some (.int .i64 (i : Int))) (by kernel_rfl) ⟨y2, z0⟩ (fun hHeld => ?_)
                repeat
                  first
                    | (refine wpAnyT_take (i := 0) (v := ?_) 9 rfl (by decide +kernel) (fun _ _ _ h => h) (Or.inl ⟨by rfl, fun u hu => ?_⟩) (by assumption) ?_; rotate_left; focus ((try dsimp only at hu); go_simp; try with_reducible rfl))
                    | (refine wpAnyT_take (i := 1) (v := ?_) 9 rfl (by decide +kernel) (fun _ _ _ h => h) (Or.inl ⟨by rfl, fun u hu => ?_⟩) (by assumption) ?_; rotate_left; focus ((try dsimp only at hu); go_simp; try with_reducible rfl))
                    | (refine wpAnyT_take (i := 2) (v := ?_) 9 rfl (by decide +kernel) (fun _ _ _ h => h) (Or.inl ⟨by rfl, fun u hu => ?_⟩) (by assumption) ?_; rotate_left; focus ((try dsimp only at hu); go_simp; try with_reducible rfl))
                    | (refine wpAnyT_take (i := 3) (v := ?_) 9 rfl (by decide +kernel) (fun _ _ _ h => h) (Or.inl ⟨by rfl, fun u hu => ?_⟩) (by assumption) ?_; rotate_left; focus ((try dsimp only at hu); go_simp; try with_reducible rfl))
                    | (refine wpAnyT_take (i := 4) (v := ?_) 9 rfl (by decide +kernel) (fun _ _ _ h => h) (Or.inl ⟨by rfl, fun u hu => ?_⟩) (by assumption) ?_; rotate_left; focus ((try dsimp only at hu); go_simp; try with_reducible rfl))
                    | (refine wpAnyT_take (i := 5) (v := ?_) 9 rfl (by decide +kernel) (fun _ _ _ h => h) (Or.inl ⟨by rfl, fun u hu => ?_⟩) (by assumption) ?_; rotate_left; focus ((try dsimp only at hu); go_simp; try with_reducible rfl))
                    | (refine wpAnyT_take (i := 6) (v := ?_) 9 rfl (by decide +kernel) (fun _ _ _ h => h) (Or.inl ⟨by rfl, fun u hu => ?_⟩) (by assumption) ?_; rotate_left; focus ((try dsimp only at hu); go_simp; try with_reducible rfl))
                    | (refine wpAnyT_take (i := 7) (v := ?_) 9 rfl (by decide +kernel) (fun _ _ _ h => h) (Or.inl ⟨by rfl, fun u hu => ?_⟩) (by assumption) ?_; rotate_left; focus ((try dsimp only at hu); go_simp; try with_reducible rfl))
                    | (refine wpAnyT_take (i := 8) (v := ?_) 9 rfl (by decide +kernel) (fun _ _ _ h => h) (Or.inl ⟨by rfl, fun u hu => ?_⟩) (by assumption) ?_; rotate_left; focus ((try dsimp only at hu); go_simp; try with_reducible rfl))
                  simp only [Act.put, List.setIfInBounds_toArray, List.set_cons_zero, List.set_cons_succ]
                refine wpAnyT_one (i := 9) rfl (by kernel_rfl) (fun K hK => ?_)
                go_simp
                go_at_call 18
                refine (HRC.out _ below_drewN).mono ?_
                rintro e w5 ⟨rfl, tv5, lv5, rch5, tr5, hF5⟩
                have H5 := Lib.hid hF5
                clear hF5
                refine hK.out _ _ (fun hne => ?_) ?_
                · exact absurd rfl hne
                clear hK K
                refine wpAnyT_done (by kernel_rfl) ?_ _
                go_wp2_with fail
                go_roundg gk
                case measure => omega
                case rel => exact ⟨k + 1, g', z', true, tv5, lv5, tr5, rch5, rfl, rfl, rfl, by go_num, H5⟩
end
end Go.Proofs.YtlekfdkahlobiaaGreat.Re
