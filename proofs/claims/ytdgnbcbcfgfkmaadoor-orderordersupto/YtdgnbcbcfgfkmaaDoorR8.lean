/- Two lines by their keys, by the landed code. -/
import Derived.Test.YtdgnbcbcfgfkmaaDoorR6
import Derived.Test.YtdgnbcbcfgfkmaaDoorR7e
namespace Go.Proofs.YtdgnbcbcfgfkmaaDoor
open Go.RowKit Go.Shelf

/-- A key in memory. -/
structure KR where
  (F1 C1 x1 F2 C2 x2 : Nat)
  g : FuncId
  gf : Array Value
def KR.cells (r : KR) : Array Value := keyC r.F1 r.C1 r.x1 r.F2 r.C2 r.x2 (.func (.func r.g) r.gf #[])
/-- How a key compares the bytes that are its own. -/
def kcmp (k : Ky) (a b : List UInt8) : Int := flip1 k.fl.r (if k.fl.n then numsS a b else cmpL (keptS k.fl a) (keptS k.fl b))
structure KOk (k : Ky) (r : KR) : Prop where
  ky : KyR k r.F1 r.C1 r.x1 r.F2 r.C2 r.x2
  fn : FnC (.func (.func r.g) r.gf #[]) (kcmp k)
theorem FnC.call {g : FuncId} {gf : Array Value} {C : List UInt8 → List UInt8 → Int} (h : FnC (.func (.func g) gf #[]) C) : (∀ (z : Array Value) (u : World), (callFunc g z).run Tryd.prog u = .ok (.enter g z) u) ∧
    ∀ (va vb : Value) (a b : List UInt8) (w : World), ByAt w va a → ByAt w vb b → Calls Tryd.prog g (gf ++ #[va, vb]) w fun e w' => e = .returned (.int .i64 (C a b)) ∧ Below w.heap.size w w' := by
  obtain ⟨f, first, e, h1, h2⟩ := h.ex
  cases e
  exact ⟨h1, h2⟩
theorem FnL.call {g : FuncId} {gf : Array Value} {sep : Option UInt8} (h : FnL (.func (.func g) gf #[]) sep) : (∀ (z : Array Value) (u : World), (callFunc g z).run Tryd.prog u = .ok (.enter g z) u) ∧
    ∀ (va : Value) (d : List UInt8) (w : World), ByAt w va d → Calls Tryd.prog g (gf ++ #[va]) w fun e w' => e = .returned (.int .i64 (lenS sep d : Int)) ∧ w' = w := by
  obtain ⟨f, first, e, h1, h2⟩ := h.ex
  cases e
  exact ⟨h1, h2⟩
def krCells (rs : List KR) : List Value := rs.flatMap fun r => r.cells.toList
theorem krCells_snoc (rs : List KR) (r : KR) : krCells (rs ++ [r]) = krCells rs ++ r.cells.toList := by simp [krCells]
theorem krCells_at (rs : List KR) : ∀ (i : Nat) (h : i < rs.length) (j : Nat), j < 7 → (krCells rs)[i * 7 + j]? = (rs[i]).cells[j]? := by
  induction rs with
  | nil => intro i h; simp at h
  | cons r rs ih =>
    intro i h j hj
    have e : krCells (r :: rs) = r.cells.toList ++ krCells rs := by simp [krCells]
    have hl : r.cells.toList.length = 7 := rfl
    rw [e]
    cases i with
    | zero =>
      rw [List.getElem?_append_left (by rw [hl]; omega), Nat.zero_mul, Nat.zero_add]
      simp
    | succ i =>
      rw [List.getElem?_append_right (by rw [hl]; omega), hl, show (i + 1) * 7 + j - 7 = i * 7 + j by omega]
      exact ih i (by simpa using h) j hj
/-- The landed order in memory. -/
structure OrdL (w : World) (p : Nat) (o : Od) : Prop where
  ex : ∃ (lf : FuncId) (lfirst : Array Value) (kv : Value) (wf : FuncId) (wfirst : Array Value) (rs : List KR),
    w.heap[p]? = some (.cells #[.func (.func lf) lfirst #[], .int .i64 (btw o.sep : Int), kv, .func (.func wf) wfirst #[]] 56) ∧
    FnL (.func (.func lf) lfirst #[]) o.sep ∧ FnC (.func (.func wf) wfirst #[]) (fun a b => flip1 o.fl.r (cmpL a b)) ∧
    w.ownsRow 0 74 7 kv rs.length (krCells rs) ∧ rs.length = o.keys.length ∧ (∀ i (h : i < o.keys.length) (h' : i < rs.length), KOk o.keys[i] rs[i]) ∧ rs.length ≤ 2097153
theorem OrdL.keep (w w' : World) (p : Nat) (o : Od) (h : OrdL w p o) (hb : Below w.heap.size w w') : OrdL w' p o := by
  obtain ⟨lf, lfirst, kv, wf, wfirst, rs, h1, h2, h3, h4, h5, h6, h7⟩ := h.ex
  exact ⟨⟨lf, lfirst, kv, wf, wfirst, rs, (hb.block p (Array.getElem?_eq_some_iff.1 h1).1).trans h1, h2, h3, own_below h4 hb, h5, h6, h7⟩⟩
/-- What stands through a round. -/
structure Bl (w0 : World) (p : Nat) (o : Od) (va vb : Value) (a b : List UInt8) (wx : World) : Prop where
  a : ByAt wx va a
  b : ByAt wx vb b
  bl : Below w0.heap.size w0 wx
theorem Bl.on {w0 : World} {p : Nat} {o : Od} {va vb : Value} {a b : List UInt8} {wx wy : World} (h : Bl w0 p o va vb a b wx) (hb : Below wx.heap.size wx wy) : Bl w0 p o va vb a b wy :=
  ⟨h.a.below hb, h.b.below hb, h.bl.trans (hb.mono h.bl.size)⟩
theorem store_fn {w : World} {a : Addr} {v0 : Value} (f : Fn) (y z : Array Value) (h : w.cell? a = some v0) (hz : w.frozen? a = false) : (store a (.func f y z)).run Tryd.prog w = .ok () (w.setCell a (.func f y z)) := by
  simp [store, Sem.run, h, hz]
theorem fz_of {u : World} {K T : Nat} {cs : Array Value} (h : u.heap[K]? = some (.cells cs T)) (i : Nat) : u.frozen? ⟨K, i, none⟩ = false := by simp [World.frozen?, h]
theorem store_fn7 (w : World) (x0 x1 x2 x3 x4 x5 : Value) (f : Fn) (y z : Array Value) (t : Nat) : (store ⟨w.heap.size, 6, none⟩ (.func f y z)).run Tryd.prog (w.alloc (.cells #[x0, x1, x2, x3, x4, x5, .nilFunc] t)) = .ok () (w.alloc (.cells #[x0, x1, x2, x3, x4, x5, .func f y z] t)) := by
  have hn : (w.alloc (.cells #[x0, x1, x2, x3, x4, x5, .nilFunc] t)).heap[w.heap.size]? = some (.cells #[x0, x1, x2, x3, x4, x5, .nilFunc] t) := by show (w.heap.push _)[w.heap.size]? = _; simp
  rw [store_fn f y z (cell_of hn 6 rfl) (fz_of hn 6)]
  simp [go_sem]
set_option maxHeartbeats 4000000 in
set_option maxRecDepth 100000 in
theorem keys_c (p : Nat) (o : Od) (va vb : Value) (a b : List UInt8) (w : World) (hO : OrdL w p o) (ha : a.length ≤ 2097152) (hb : b.length ≤ 2097152) (hA : ByAt w va a) (hB : ByAt w vb b) :
    Calls Tryd.prog 11 #[.pointer (some ⟨p, 0, none⟩), va, vb] w fun e w' => e = .returned (.int .i64 (o.keysC a b)) ∧ Below w.heap.size w w' := by
  obtain ⟨lf, lfirst, kv, wf, wfirst, rs, hp, hL, hC, hks, hln, hok, hmx⟩ := hO.ex
  obtain ⟨xk, ck, rfl⟩ := own_slice2 hks
  have HR := Lib.hid (show o.keysC a b = byKeys o.sep (o.keys.drop 0) a b from rfl)
  have HP := Lib.hid hp
  have HKS := Lib.hid hks
  have HOK := Lib.hid hok
  have HL := Lib.hid hL.call
  have c0 : w.cell? ⟨p, 0, none⟩ = some (.func (.func lf) lfirst #[]) := cell_of hp 0 rfl
  have c1 : w.cell? ⟨p, 1, none⟩ = some (.int .i64 (btw o.sep : Int)) := cell_of hp 1 rfl
  have c2 : w.cell? ⟨p, 2, none⟩ = some (.slice xk rs.length ck) := cell_of hp 2 rfl
  have hpl : p < w.heap.size := (Array.getElem?_eq_some_iff.1 hp).1
  have H0 : Hid (Bl w p o va vb a b w) := ⟨hA, hB, Below.refl _ _⟩
  obtain ⟨xa, ca, rfl⟩ := hA.shape
  obtain ⟨xb, cb, rfl⟩ := hB.shape
  obtain ⟨RR, hRR⟩ : ∃ R, o.keysC a b = R := ⟨_, rfl⟩
  rw [hRR] at HR ⊢
  have HLN := Lib.hid hln
  clear hO hA hB hp hL hC hks hok hRR hln
  generalize hm : rs.length = m at hmx HP HKS c2 HLN
  have HM := Lib.hid hm
  clear hm
  go_enter Tryd.func11, Tryd.ntmps11
  go_wp2_with fail
  go_loopw [15] (fun iv wr => ∃ i : Nat, i ≤ m ∧ iv = .int .i64 i ∧ Hid (RR = byKeys o.sep (o.keys.drop i) a b) ∧ Hid (Bl w p o (.slice xa a.length ca) (.slice xb b.length cb) a b wr)) (fun iv _ => m - (intOf iv).toNat)
  case atStart => exact ⟨0, by omega, rfl, HR, H0⟩
  case round =>
    obtain ⟨i, hi, rfl, HI, H1⟩ := hrel
    clear HR H0
    by_cases hlt : i < m
    · have hio : i < o.keys.length := by rw [← HLN.out]; exact hlt
      have hir : i < rs.length := by rw [HM.out]; exact hlt
      have hkk := HOK.out i hio hir
      have hJ := HI.out
      rw [byKeys_drop o.sep o.keys i hio] at hJ
      have HJ : Hid (RR = if kcmp o.keys[i] (pieceS o.sep a o.keys[i]) (pieceS o.sep b o.keys[i]) = 0 then byKeys o.sep (o.keys.drop (i + 1)) a b else kcmp o.keys[i] (pieceS o.sep a o.keys[i]) (pieceS o.sep b o.keys[i])) := hJ
      have hks2 : wr.ownsRow 0 74 7 (.slice xk m ck) m (krCells rs) := own_below HKS.out H1.out.bl
      obtain ⟨kb, rfl⟩ := own_some2 hks2 (by omega)
      have kc := fun j (hj : j < 7) => (own_cell2 hks2 (i * 7 + j) (by omega)).trans (krCells_at rs i hir j hj)
      generalize o.keys[i] = k at hkk HJ
      generalize rs[i] = r at hkk kc
      have q0 : wr.cell? ⟨kb, i * 7, none⟩ = some (.int .i64 (r.F1 : Int)) := kc 0 (by omega)
      have q1 : wr.cell? ⟨kb, i * 7 + 1, none⟩ = some (.int .i64 (r.C1 : Int)) := kc 1 (by omega)
      have q2 : wr.cell? ⟨kb, i * 7 + 2, none⟩ = some (.int .u64 (r.x1 : Int)) := kc 2 (by omega)
      have q3 : wr.cell? ⟨kb, i * 7 + 3, none⟩ = some (.int .i64 (r.F2 : Int)) := kc 3 (by omega)
      have q4 : wr.cell? ⟨kb, i * 7 + 4, none⟩ = some (.int .i64 (r.C2 : Int)) := kc 4 (by omega)
      have q5 : wr.cell? ⟨kb, i * 7 + 5, none⟩ = some (.int .u64 (r.x2 : Int)) := kc 5 (by omega)
      have q6 : wr.cell? ⟨kb, i * 7 + 6, none⟩ = some (.func (.func r.g) r.gf #[]) := kc 6 (by omega)
      have hfn := hkk.fn.call
      have HFN := Lib.hid hfn.2
      have hcg := hfn.1
      have HBA := Lib.hid (fun u hu => bytesOf_c HL.out.1 HL.out.2 (.slice xa a.length ca) a k r.F1 r.C1 r.x1 r.F2 r.C2 r.x2 r.g r.gf u hkk.ky ha hu)
      have HBB := Lib.hid (fun u hu => bytesOf_c HL.out.1 HL.out.2 (.slice xb b.length cb) b k r.F1 r.C1 r.x1 r.F2 r.C2 r.x2 r.g r.gf u hkk.ky hb hu)
      clear hJ HI kc hks2 hkk hfn hio hir
      generalize pieceS o.sep a k = PA at *
      generalize pieceS o.sep b k = PB at *
      generalize kcmp k = CC at *
      have hsf := store_fn7 wr
      go_upto_region 4 with fail
      obtain ⟨W, hW⟩ : ∃ W, wr.alloc (.cells r.cells 74) = W := ⟨_, rfl⟩
      obtain ⟨K, hK⟩ : ∃ K, wr.heap.size = K := ⟨_, rfl⟩
      have HKW : Hid (W.heap[K]? = some (.cells r.cells 74)) := by
        rw [← hW, ← hK]; show (wr.heap.push _)[wr.heap.size]? = _; simp
      have HW : Hid (Bl w p o (.slice xa a.length ca) (.slice xb b.length cb) a b W) := by
        rw [← hW]; exact H1.out.on ((Below.refl wr.heap.size wr).alloc (Nat.le_refl _) _)
      unfold KR.cells keyC at hW
      rw [hW, hK]
      have HPW : Hid (W.heap[p]? = some (.cells #[.func (.func lf) lfirst #[], .int .i64 (btw o.sep : Int), .slice (some ⟨kb, 0, none⟩) m ck, .func (.func wf) wfirst #[]] 56)) := (HW.out.bl.block p hpl).trans HP.out
      clear hW hK q0 q1 q2 q3 q4 q5 q6 H1
      go_cut [9] (fun v wx => v = .int .i64 (CC PA PB) ∧ Hid (Bl w p o (.slice xa a.length ca) (.slice xb b.length cb) a b wx))
      case first =>
        have hlt1 : K < W.heap.size := (Array.getElem?_eq_some_iff.1 HKW.out).1
        have hlt2 : p < W.heap.size := (Array.getElem?_eq_some_iff.1 HPW.out).1
        have KK : ∀ w', Below W.heap.size W w' → w'.cell? ⟨K, 0, none⟩ = some (.int .i64 (r.F1 : Int)) ∧ w'.cell? ⟨K, 1, none⟩ = some (.int .i64 (r.C1 : Int)) ∧ w'.cell? ⟨K, 2, none⟩ = some (.int .u64 (r.x1 : Int)) ∧ w'.cell? ⟨K, 3, none⟩ = some (.int .i64 (r.F2 : Int)) ∧ w'.cell? ⟨K, 4, none⟩ = some (.int .i64 (r.C2 : Int)) ∧ w'.cell? ⟨K, 5, none⟩ = some (.int .u64 (r.x2 : Int)) ∧ w'.cell? ⟨K, 6, none⟩ = some (.func (.func r.g) r.gf #[]) ∧ w'.cell? ⟨p, 0, none⟩ = some (.func (.func lf) lfirst #[]) ∧ w'.cell? ⟨p, 1, none⟩ = some (.int .i64 (btw o.sep : Int)) := fun w' h => ⟨(h.cell (p := ⟨K, 0, none⟩) hlt1).trans (cell_of HKW.out 0 rfl), (h.cell (p := ⟨K, 1, none⟩) hlt1).trans (cell_of HKW.out 1 rfl), (h.cell (p := ⟨K, 2, none⟩) hlt1).trans (cell_of HKW.out 2 rfl), (h.cell (p := ⟨K, 3, none⟩) hlt1).trans (cell_of HKW.out 3 rfl), (h.cell (p := ⟨K, 4, none⟩) hlt1).trans (cell_of HKW.out 4 rfl), (h.cell (p := ⟨K, 5, none⟩) hlt1).trans (cell_of HKW.out 5 rfl), (h.cell (p := ⟨K, 6, none⟩) hlt1).trans (cell_of HKW.out 6 rfl), (h.cell (p := ⟨p, 0, none⟩) hlt2).trans (cell_of HPW.out 0 rfl), (h.cell (p := ⟨p, 1, none⟩) hlt2).trans (cell_of HPW.out 1 rfl)⟩
        have hcA := fun u (h : Below W.heap.size W u) => HBA.out u (HW.out.a.below h)
        have hcB := fun u (h : Below W.heap.size W u) => HBB.out u (HW.out.b.below h)
        unfold keyV partV at hcA hcB
        go_region_held3 (fun w' => w'.cell? ⟨K, 0, none⟩ = some (.int .i64 (r.F1 : Int)) ∧ w'.cell? ⟨K, 1, none⟩ = some (.int .i64 (r.C1 : Int)) ∧ w'.cell? ⟨K, 2, none⟩ = some (.int .u64 (r.x1 : Int)) ∧ w'.cell? ⟨K, 3, none⟩ = some (.int .i64 (r.F2 : Int)) ∧ w'.cell? ⟨K, 4, none⟩ = some (.int .i64 (r.C2 : Int)) ∧ w'.cell? ⟨K, 5, none⟩ = some (.int .u64 (r.x2 : Int)) ∧ w'.cell? ⟨K, 6, none⟩ = some (.func (.func r.g) r.gf #[]) ∧ w'.cell? ⟨p, 0, none⟩ = some (.func (.func lf) lfirst #[]) ∧ w'.cell? ⟨p, 1, none⟩ = some (.int .i64 (btw o.sep : Int))) (exact KK _ (by repeat (first | with_reducible exact Below.refl _ _ | with_reducible exact hBw4 | with_reducible exact hBw3 | with_reducible exact hBw2 | with_reducible refine below_drew ?_))) (first
          | (go_at_call 25; refine (hcB2 _ (by repeat (first | with_reducible exact Below.refl _ _ | with_reducible exact hBw4 | with_reducible exact hBw3 | with_reducible exact hBw2 | with_reducible refine below_drew ?_))).mono ?_; rintro e w3 ⟨⟨v2, rfl, hv2⟩, hb3⟩; have hBw3 : Below W.heap.size W w3 := below_then (by repeat (first | with_reducible exact Below.refl _ _ | with_reducible exact hBw4 | with_reducible exact hBw3 | with_reducible exact hBw2 | with_reducible refine below_drew ?_)) hb3; have HV2 : Hid (ByAt w3 v1 PA ∧ ByAt w3 v2 PB) := ⟨HV1.out.below (below_then (by repeat (first | with_reducible exact Below.refl _ _ | with_reducible refine below_drew ?_)) hb3), hv2⟩; clear hb3 hcB2 hv2)
          | (go_at_call 25; refine (hcA _ (by repeat (first | with_reducible exact Below.refl _ _ | with_reducible exact hBw4 | with_reducible exact hBw3 | with_reducible exact hBw2 | with_reducible refine below_drew ?_))).mono ?_; rintro e w2 ⟨⟨v1, rfl, hv1⟩, hb2⟩; have hBw2 : Below W.heap.size W w2 := below_then (by repeat (first | with_reducible exact Below.refl _ _ | with_reducible exact hBw4 | with_reducible exact hBw3 | with_reducible exact hBw2 | with_reducible refine below_drew ?_)) hb2; have HV1 := Lib.hid hv1; have hcB2 := hcB; clear hb2 hv1 hcA)
          | (refine (HFN.out v1 v2 PA PB _ (HV2.out.1.below (by repeat (first | with_reducible exact Below.refl _ _ | with_reducible refine below_drew ?_))) (HV2.out.2.below (by repeat (first | with_reducible exact Below.refl _ _ | with_reducible refine below_drew ?_)))).mono ?_; rintro e w4 ⟨rfl, hb4⟩; have hBw4 : Below W.heap.size W w4 := below_then (by repeat (first | with_reducible exact Below.refl _ _ | with_reducible exact hBw4 | with_reducible exact hBw3 | with_reducible exact hBw2 | with_reducible refine below_drew ?_)) hb4; clear hb4))
        all_goals
          try simp only [Act.put, List.getElem_toArray, List.getElem_cons_succ, List.getElem_cons_zero, List.setIfInBounds_toArray, List.set_cons_succ, List.set_cons_zero]
          go_wp2_with fail
          go_meet
          case rel => exact ⟨rfl, HW.out.on (by repeat (first | with_reducible exact Below.refl _ _ | with_reducible exact hBw4 | with_reducible exact hBw3 | with_reducible exact hBw2 | with_reducible refine below_drew ?_))⟩
      case rest =>
        obtain ⟨rfl, H9⟩ := hcut
        clear HW HKW HPW HBA HBB HFN
        have hCr := HJ.out
        by_cases hz : CC PA PB = 0
        · rw [if_pos hz] at hCr
          have HN := Lib.hid hCr
          have hzb : (CC PA PB != 0) = false := by simpa using hz
          clear hCr HJ
          go_wp2_with fail
          exact ⟨⟨i + 1, by omega, by go_num, HN, H9⟩, by simp [intOf]; omega⟩
        · rw [if_neg hz] at hCr
          subst hCr
          have hzb : (CC PA PB != 0) = true := by simpa using hz
          clear HJ
          go_wp2_with fail
          go_ret
          exact ⟨rfl, H9.out.bl⟩
    · have hend : RR = 0 := by
        rw [HI.out, List.drop_eq_nil_of_le (by rw [← HLN.out]; omega)]
        rfl
      subst hend
      clear HI
      go_wp2_with fail
      go_ret
      exact ⟨rfl, H1.out.bl⟩
set_option maxHeartbeats 1000000 in
theorem compare_c (p : Nat) (o : Od) (va vb : Value) (a b : List UInt8) (w : World) (hO : OrdL w p o) (ha : a.length ≤ 2097152) (hb : b.length ≤ 2097152) (hA : ByAt w va a) (hB : ByAt w vb b) :
    Calls Tryd.prog 12 #[.pointer (some ⟨p, 0, none⟩), va, vb] w fun e w' => e = .returned (.int .i64 (o.cmp a b)) ∧ Below w.heap.size w w' := by
  have hk := keys_c p o va vb a b w hO ha hb hA hB
  have HR := Lib.hid (show o.cmp a b = if o.keysC a b = 0 then flip1 o.fl.r (cmpL a b) else o.keysC a b from rfl)
  obtain ⟨lf, lfirst, kv, wf, wfirst, rs, hp, hL, hC, hks, hln, hok, hmx⟩ := hO.ex
  have hcg := hC.call.1
  have HF := Lib.hid hC.call.2
  have HP := Lib.hid hp
  have HA := Lib.hid hA
  have HB := Lib.hid hB
  obtain ⟨xa, ca, rfl⟩ := hA.shape
  obtain ⟨xb, cb, rfl⟩ := hB.shape
  clear hO hA hB hp hL hC hks hln hok hmx
  generalize o.cmp a b = R at *
  generalize o.keysC a b = KK at *
  go_enter Tryd.func12, Tryd.ntmps12
  go_wp2_with fail
  refine hk.mono ?_
  rintro e w1 ⟨rfl, hb1⟩
  have c3 : w1.cell? ⟨p, 3, none⟩ = some (.func (.func wf) wfirst #[]) := (hb1.cell (p := ⟨p, 3, none⟩) (Array.getElem?_eq_some_iff.1 HP.out).1).trans (cell_of HP.out 3 rfl)
  have HB1 := Lib.hid hb1
  have hf := HF.out _ _ a b w1 (HA.out.below hb1) (HB.out.below hb1)
  clear hk hb1 HF HA HB
  by_cases hz : KK = 0
  · subst hz
    have hR : R = flip1 o.fl.r (cmpL a b) := by rw [HR.out, if_pos rfl]
    subst hR
    go_wp2_with fail
    refine hf.mono ?_
    rintro e w2 ⟨rfl, hb2⟩
    have HB2 : Hid (Below w.heap.size w w2) := HB1.out.trans (hb2.mono HB1.out.size)
    clear hb2 hf
    go_wp2_with fail
    go_ret
    exact ⟨rfl, HB2.out⟩
  · have hR : R = KK := by rw [HR.out, if_neg hz]
    subst hR
    have hzb : (R != 0) = true := by simpa using hz
    go_wp2_with fail
    go_ret
    exact ⟨rfl, HB1.out⟩
end Go.Proofs.YtdgnbcbcfgfkmaaDoor
