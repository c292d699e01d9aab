/- Two lines by their keys, by the reference. -/
import Derived.Test.YtdgnbcbcfgfkmaaDoorQPiece
namespace Go.Proofs.YtdgnbcbcfgfkmaaDoor
open Go.RowKit

def kyCells (ks : List Ky) : List Value := ks.flatMap fun k => k.cells.toList
theorem kyCells_snoc (ks : List Ky) (k : Ky) : kyCells (ks ++ [k]) = kyCells ks ++ k.cells.toList := by simp [kyCells]
theorem kyCells_length (ks : List Ky) : (kyCells ks).length = ks.length * 11 := by
  induction ks with
  | nil => rfl
  | cons a l ih => rw [kyCells, List.flatMap_cons, List.length_append]; have := ih; unfold kyCells at this; rw [this]; simp [Ky.cells]; omega
theorem kyCells_at (ks : List Ky) : ∀ (i : Nat) (h : i < ks.length) (j : Nat), j < 11 → (kyCells ks)[i * 11 + j]? = (ks[i]).cells[j]? := by
  induction ks with
  | nil => intro i h; simp at h
  | cons k ks ih =>
    intro i h j hj
    have e : kyCells (k :: ks) = k.cells.toList ++ kyCells ks := by simp [kyCells]
    have hl : k.cells.toList.length = 11 := rfl
    rw [e]
    cases i with
    | zero =>
      rw [List.getElem?_append_left (by rw [hl]; omega), Nat.zero_mul, Nat.zero_add]
      simp
    | succ i =>
      rw [List.getElem?_append_right (by rw [hl]; omega), hl, show (i + 1) * 11 + j - 11 = i * 11 + j by omega]
      exact ih i (by simpa using h) j hj
abbrev KsAt (w : World) (base : Nat) (v : Value) (ks : List Ky) : Prop := w.ownsRow base 68 11 v ks.length (kyCells ks)
/-- The reference's order in memory. -/
structure OrR (w : World) (p : Nat) (o : Od) : Prop where
  at_ : ∃ kv, w.heap[p]? = some (.cells #[.bool o.fl.b, .bool o.fl.e, .bool o.fl.d, .bool o.fl.f, .bool o.fl.i, .bool o.fl.n, .bool o.fl.r, .int .i64 (sepI o.sep), kv] 61) ∧ KsAt w 0 kv o.keys
  ok : ∀ k ∈ o.keys, k.Ok
  len : o.keys.length ≤ 2097153
theorem OrR.keep (w w' : World) (p : Nat) (o : Od) (h : OrR w p o) (hb : Below w.heap.size w w') : OrR w' p o := by
  obtain ⟨kv, h1, h2⟩ := h.at_
  exact ⟨⟨kv, (hb.block p (Array.getElem?_eq_some_iff.1 h1).1).trans h1, own_below h2 hb⟩, h.ok, h.len⟩
theorem byKeys_drop (sep : Option UInt8) (ks : List Ky) (i : Nat) (h : i < ks.length) (a b : List UInt8) : byKeys sep (ks.drop i) a b = if keyCmp sep ks[i] a b = 0 then byKeys sep (ks.drop (i + 1)) a b else keyCmp sep ks[i] a b := by
  rw [List.drop_eq_getElem_cons h]; rfl
/-- What stands through a round. -/
structure Bk (w0 : World) (p : Nat) (o : Od) (va vb : Value) (a b : List UInt8) (wx : World) : Prop where
  o : OrR wx p o
  a : ByAt wx va a
  b : ByAt wx vb b
  bl : Below w0.heap.size w0 wx
theorem Bk.on {w0 : World} {p : Nat} {o : Od} {va vb : Value} {a b : List UInt8} {wx wy : World} (h : Bk w0 p o va vb a b wx) (hb : Below wx.heap.size wx wy) : Bk w0 p o va vb a b wy :=
  ⟨OrR.keep _ _ _ _ h.o hb, h.a.below hb, h.b.below hb, h.bl.trans (hb.mono h.bl.size)⟩
theorem OrR.sep {w : World} {p : Nat} {o : Od} (h : OrR w p o) : w.cell? ⟨p, 7, none⟩ = some (.int .i64 (sepI o.sep)) := by
  obtain ⟨kv, h1, _⟩ := h.at_
  simp [World.cell?, h1]
theorem kb_cell {w : World} {K : Nat} {k : Ky} (h : w.heap[K]? = some (.cells k.cells 68)) (i : Nat) {y : Value} (hi : k.cells[i]? = some y) : w.cell? ⟨K, i, none⟩ = some y := by simp [World.cell?, h, hi]
theorem piece_len (sep : Option UInt8) (d : List UInt8) (k : Ky) : (pieceS sep d k).length ≤ d.length := by
  unfold pieceS; rw [List.length_drop, List.length_take]; omega

set_option maxHeartbeats 4000000 in
set_option maxRecDepth 100000 in
theorem byKeys_c (p : Nat) (o : Od) (va vb : Value) (a b : List UInt8) (w : World) (hO : OrR w p o) (ha : a.length ≤ 2097152) (hb : b.length ≤ 2097152) (hA : ByAt w va a) (hB : ByAt w vb b) :
    Calls Tryd.prog 13 #[.pointer (some ⟨p, 0, none⟩), va, vb] w fun e w' => e = .returned (.int .i64 (o.keysC a b)) ∧ Below w.heap.size w w' := by
  have HR := Lib.hid (show o.keysC a b = byKeys o.sep (o.keys.drop 0) a b from rfl)
  have hle := hO.len
  have H0 : Hid (Bk w p o va vb a b w) := ⟨hO, hA, hB, Below.refl _ _⟩
  clear hO hA hB
  go_enter Tryd.func13, Tryd.ntmps13
  go_wp2_with fail
  go_loopw [7] (fun iv wr => ∃ i : Nat, i ≤ o.keys.length ∧ iv = .int .i64 i ∧ Hid (o.keysC a b = byKeys o.sep (o.keys.drop i) a b) ∧ Hid (Bk w p o va vb a b wr)) (fun iv _ => o.keys.length - (intOf iv).toNat)
  case atStart => exact ⟨0, by omega, rfl, HR, H0⟩
  case round =>
    obtain ⟨i, hi, rfl, HI, H1⟩ := hrel
    clear HR H0
    obtain ⟨kv, hp1, hks⟩ := H1.out.o.at_
    obtain ⟨xk, ck, rfl⟩ := own_slice2 hks
    unfold KsAt at hks
    have c8 : wr.cell? ⟨p, 8, none⟩ = some (.slice xk o.keys.length ck) := by simp [World.cell?, hp1]
    generalize hm : o.keys.length = m at hi hle c8 hks ⊢
    by_cases hlt : i < m
    · have hio : i < o.keys.length := by rw [hm]; exact hlt
      obtain ⟨g, rfl⟩ := own_some2 hks (by omega)
      have hcl : ∀ j, j < 11 → wr.cell? ⟨g, i * 11 + j, none⟩ = (o.keys[i]).cells[j]? := fun j hj => by
        rw [own_cell2 hks (i * 11 + j) (show i * 11 + j < m * 11 by omega)]; exact kyCells_at o.keys i hio j hj
      have hko := H1.out.o.ok _ (List.getElem_mem hio)
      have HS := HI.out
      rw [byKeys_drop o.sep o.keys i hio] at HS
      have HJ := Lib.hid HS
      clear HS HI hks hp1
      generalize o.keys[i] = k at hcl hko HJ
      have q0 : wr.cell? ⟨g, i * 11, none⟩ = some (.int .i64 k.f1) := hcl 0 (by omega)
      have q1 : wr.cell? ⟨g, i * 11 + 1, none⟩ = some (.int .i64 k.c1) := hcl 1 (by omega)
      have q2 : wr.cell? ⟨g, i * 11 + 2, none⟩ = some (.int .i64 k.f2) := hcl 2 (by omega)
      have q3 : wr.cell? ⟨g, i * 11 + 3, none⟩ = some (.int .i64 k.c2) := hcl 3 (by omega)
      have q4 : wr.cell? ⟨g, i * 11 + 4, none⟩ = some (.bool k.fl.b) := hcl 4 (by omega)
      have q5 : wr.cell? ⟨g, i * 11 + 5, none⟩ = some (.bool k.fl.e) := hcl 5 (by omega)
      have q6 : wr.cell? ⟨g, i * 11 + 6, none⟩ = some (.bool k.fl.d) := hcl 6 (by omega)
      have q7 : wr.cell? ⟨g, i * 11 + 7, none⟩ = some (.bool k.fl.f) := hcl 7 (by omega)
      have q8 : wr.cell? ⟨g, i * 11 + 8, none⟩ = some (.bool k.fl.i) := hcl 8 (by omega)
      have q9 : wr.cell? ⟨g, i * 11 + 9, none⟩ = some (.bool k.fl.n) := hcl 9 (by omega)
      have q10 : wr.cell? ⟨g, i * 11 + 10, none⟩ = some (.bool k.fl.r) := hcl 10 (by omega)
      clear hcl
      have hpc := fun (u : World) (v : Value) (d : List UInt8) (hd : d.length ≤ 2097152) (h1 : OrR u p o) (h2 : ByAt u v d) => piece_c p o.sep v d k u hd hko h1.sep h2
      have HPC := Lib.hid hpc
      clear hpc hko
      go_upto_region 5 with fail
      obtain ⟨W5, hW5⟩ : ∃ W, wr.alloc (.cells #[.int .i64 k.f1, .int .i64 k.c1, .int .i64 k.f2, .int .i64 k.c2, .bool k.fl.b, .bool k.fl.e, .bool k.fl.d, .bool k.fl.f, .bool k.fl.i, .bool k.fl.n, .bool k.fl.r] 68) = W := ⟨_, rfl⟩
      rw [hW5]
      have H5 : Hid (Bk w p o va vb a b W5) := by rw [← hW5]; exact H1.out.on ((Below.refl wr.heap.size wr).alloc (Nat.le_refl _) _)
      obtain ⟨K, hK⟩ : ∃ K, wr.heap.size = K := ⟨_, rfl⟩
      have HK5 : Hid (W5.heap[K]? = some (.cells k.cells 68)) := by rw [← hW5, ← hK]; show (wr.heap.push _)[wr.heap.size]? = _; simp [Ky.cells]
      rw [hK]
      clear hW5 hK H1 q0 q1 q2 q3 q4 q5 q6 q7 q8 q9 q10
      have r0 : W5.cell? ⟨K, 0, none⟩ = some (.int .i64 k.f1) := kb_cell HK5.out 0 rfl
      have r1 : W5.cell? ⟨K, 1, none⟩ = some (.int .i64 k.c1) := kb_cell HK5.out 1 rfl
      have r2 : W5.cell? ⟨K, 2, none⟩ = some (.int .i64 k.f2) := kb_cell HK5.out 2 rfl
      have r3 : W5.cell? ⟨K, 3, none⟩ = some (.int .i64 k.c2) := kb_cell HK5.out 3 rfl
      have r4 : W5.cell? ⟨K, 4, none⟩ = some (.bool k.fl.b) := kb_cell HK5.out 4 rfl
      have r5 : W5.cell? ⟨K, 5, none⟩ = some (.bool k.fl.e) := kb_cell HK5.out 5 rfl
      have r6 : W5.cell? ⟨K, 6, none⟩ = some (.bool k.fl.d) := kb_cell HK5.out 6 rfl
      have r7 : W5.cell? ⟨K, 7, none⟩ = some (.bool k.fl.f) := kb_cell HK5.out 7 rfl
      have r8 : W5.cell? ⟨K, 8, none⟩ = some (.bool k.fl.i) := kb_cell HK5.out 8 rfl
      have r9 : W5.cell? ⟨K, 9, none⟩ = some (.bool k.fl.n) := kb_cell HK5.out 9 rfl
      have r10 : W5.cell? ⟨K, 10, none⟩ = some (.bool k.fl.r) := kb_cell HK5.out 10 rfl
      go_wp2_with fail
      refine (HPC.out W5 va a ha H5.out.o H5.out.a).mono ?_
      rintro e w1 ⟨xv, rfl, hx1, hb1⟩
      have H6 := Lib.hid (H5.out.on hb1)
      have HK6 : Hid (w1.heap[K]? = some (.cells k.cells 68)) := (hb1.block K (Array.getElem?_eq_some_iff.1 HK5.out).1).trans HK5.out
      have HX1 := Lib.hid hx1
      clear hb1 hx1 H5 HK5 r0 r1 r2 r3 r4 r5 r6 r7 r8 r9 r10
      have r0 : w1.cell? ⟨K, 0, none⟩ = some (.int .i64 k.f1) := kb_cell HK6.out 0 rfl
      have r1 : w1.cell? ⟨K, 1, none⟩ = some (.int .i64 k.c1) := kb_cell HK6.out 1 rfl
      have r2 : w1.cell? ⟨K, 2, none⟩ = some (.int .i64 k.f2) := kb_cell HK6.out 2 rfl
      have r3 : w1.cell? ⟨K, 3, none⟩ = some (.int .i64 k.c2) := kb_cell HK6.out 3 rfl
      have r4 : w1.cell? ⟨K, 4, none⟩ = some (.bool k.fl.b) := kb_cell HK6.out 4 rfl
      have r5 : w1.cell? ⟨K, 5, none⟩ = some (.bool k.fl.e) := kb_cell HK6.out 5 rfl
      have r6 : w1.cell? ⟨K, 6, none⟩ = some (.bool k.fl.d) := kb_cell HK6.out 6 rfl
      have r7 : w1.cell? ⟨K, 7, none⟩ = some (.bool k.fl.f) := kb_cell HK6.out 7 rfl
      have r8 : w1.cell? ⟨K, 8, none⟩ = some (.bool k.fl.i) := kb_cell HK6.out 8 rfl
      have r9 : w1.cell? ⟨K, 9, none⟩ = some (.bool k.fl.n) := kb_cell HK6.out 9 rfl
      have r10 : w1.cell? ⟨K, 10, none⟩ = some (.bool k.fl.r) := kb_cell HK6.out 10 rfl
      go_wp2_with fail
      refine (HPC.out w1 vb b hb H6.out.o H6.out.b).mono ?_
      rintro e w2 ⟨yv, rfl, hy2, hb2⟩
      have H7 := Lib.hid (H6.out.on hb2)
      have HK7 : Hid (w2.heap[K]? = some (.cells k.cells 68)) := (hb2.block K (Array.getElem?_eq_some_iff.1 HK6.out).1).trans HK6.out
      have HX2 : Hid (ByAt w2 xv (pieceS o.sep a k) ∧ ByAt w2 yv (pieceS o.sep b k)) := ⟨HX1.out.below hb2, hy2⟩
      have lx := Nat.le_trans (piece_len o.sep a k) ha
      have ly := Nat.le_trans (piece_len o.sep b k) hb
      have HCmp : Hid (keyCmp o.sep k a b = flip1 k.fl.r (if k.fl.n then numsS (pieceS o.sep a k) (pieceS o.sep b k) else cmpL (keptS k.fl (pieceS o.sep a k)) (keptS k.fl (pieceS o.sep b k)))) := (show _ = _ from rfl)
      generalize keyCmp o.sep k a b = KC at HCmp HJ
      generalize pieceS o.sep a k = X at *
      generalize pieceS o.sep b k = Y at *
      clear hb2 hy2 HX1 H6 HK6 HPC r0 r1 r2 r3 r4 r5 r6 r7 r8 r9 r10
      have r4 : w2.cell? ⟨K, 4, none⟩ = some (.bool k.fl.b) := kb_cell HK7.out 4 rfl
      have r5 : w2.cell? ⟨K, 5, none⟩ = some (.bool k.fl.e) := kb_cell HK7.out 5 rfl
      have r6 : w2.cell? ⟨K, 6, none⟩ = some (.bool k.fl.d) := kb_cell HK7.out 6 rfl
      have r7 : w2.cell? ⟨K, 7, none⟩ = some (.bool k.fl.f) := kb_cell HK7.out 7 rfl
      have r8 : w2.cell? ⟨K, 8, none⟩ = some (.bool k.fl.i) := kb_cell HK7.out 8 rfl
      have r9 : w2.cell? ⟨K, 9, none⟩ = some (.bool k.fl.n) := kb_cell HK7.out 9 rfl
      have r10 : w2.cell? ⟨K, 10, none⟩ = some (.bool k.fl.r) := kb_cell HK7.out 10 rfl
      have hk1 := kept_c xv X k.fl w2.drew lx HX2.out.1
      unfold Fg.val at hk1
      simp only [Fg.cells] at hk1
      go_upto_region 7 with fail
      go_cut [11] (fun v wx => v = .int .i64 (cmpL (keptS k.fl X) (keptS k.fl Y)) ∧ Hid (Bk w p o va vb a b wx) ∧ Hid (wx.heap[K]? = some (.cells k.cells 68)) ∧ Hid (ByAt wx xv X ∧ ByAt wx yv Y))
      case first =>
        have HD : Hid (Below w2.heap.size w2 w2.drew) := (Below.refl w2.heap.size w2).drew
        go_region_with (first
          | (go_at_call 28; refine hk1.mono ?_; rintro e w3 ⟨rfl, hb3⟩; have hb23 : Below w2.heap.size w2 w3 := HD.out.trans (hb3.mono HD.out.size); have HK8 : Hid (w3.heap[K]? = some (.cells k.cells 68)) := (hb23.block K (Array.getElem?_eq_some_iff.1 HK7.out).1).trans HK7.out; have t4 : w3.cell? ⟨K, 4, none⟩ = some (.bool k.fl.b) := kb_cell HK8.out 4 rfl; have t5 : w3.cell? ⟨K, 5, none⟩ = some (.bool k.fl.e) := kb_cell HK8.out 5 rfl; have t6 : w3.cell? ⟨K, 6, none⟩ = some (.bool k.fl.d) := kb_cell HK8.out 6 rfl; have t7 : w3.cell? ⟨K, 7, none⟩ = some (.bool k.fl.f) := kb_cell HK8.out 7 rfl; have t8 : w3.cell? ⟨K, 8, none⟩ = some (.bool k.fl.i) := kb_cell HK8.out 8 rfl; have t9 : w3.cell? ⟨K, 9, none⟩ = some (.bool k.fl.n) := kb_cell HK8.out 9 rfl; have t10 : w3.cell? ⟨K, 10, none⟩ = some (.bool k.fl.r) := kb_cell HK8.out 10 rfl; have hk2 := kept_c yv Y k.fl w3 ly (HX2.out.2.below hb23); unfold Fg.val at hk2; simp only [Fg.cells] at hk2; have HB23 := Lib.hid hb23; clear hb3 hb23 hk1)
          | (go_at_call 28; refine hk2.mono ?_; rintro e w4 ⟨rfl, hb4⟩; have ht := texts_c ⟨(keptS k.fl X).toArray⟩ ⟨(keptS k.fl Y).toArray⟩ w4; have HB24 : Hid (Below w2.heap.size w2 w4) := HB23.out.trans (hb4.mono HB23.out.size); clear hb4 hk2)
          | (go_at_call 27; refine ht.mono ?_; rintro e w' ⟨rfl, hw'⟩; rw [hw']; clear hw' ht))
        all_goals
          go_wp2_with fail
          go_meet
          case rel => exact ⟨rfl, H7.out.on HB24.out, (HB24.out.block K (Array.getElem?_eq_some_iff.1 HK7.out).1).trans HK7.out, HX2.out.1.below HB24.out, HX2.out.2.below HB24.out⟩
      case rest =>
        obtain ⟨rfl, H9, HK9, HX9⟩ := hcut
        clear H7 HK7 HX2 hk1 r4 r5 r6 r7 r8 r9 r10
        have r9 : wc.cell? ⟨K, 9, none⟩ = some (.bool k.fl.n) := kb_cell HK9.out 9 rfl
        have r10 : wc.cell? ⟨K, 10, none⟩ = some (.bool k.fl.r) := kb_cell HK9.out 10 rfl
        have hKl : K < wc.heap.size := (Array.getElem?_eq_some_iff.1 HK9.out).1
        have hnm := nums_c xv yv X Y wc lx ly HX9.out.1 HX9.out.2
        have g1 := cmpL_rng (keptS k.fl X) (keptS k.fl Y)
        have g2 := cm_nums.rng X Y
        generalize cmpL (keptS k.fl X) (keptS k.fl Y) = C at *
        generalize numsS X Y = N at *
        cases hfn : k.fl.n with
        | false =>
          rw [hfn, if_neg (by simp)] at HCmp
          cases hfr : k.fl.r with
          | false =>
            rw [hfr] at HCmp
            by_cases hz : C = 0
            · subst hz
              have HJ' : Hid (o.keysC a b = byKeys o.sep (o.keys.drop (i + 1)) a b) := by show _ = _; rw [HJ.out, if_pos (by rw [HCmp.out]; simp [flip1])]
              go_wp2_with fail
              exact ⟨⟨i + 1, by omega, by go_num, HJ', H9⟩, by simp [intOf]; omega⟩
            · have hKC : KC = C := by rw [HCmp.out]; simp [flip1]
              have HJ' : Hid (o.keysC a b = C) := by show _ = _; rw [HJ.out, if_neg (by rw [hKC]; omega), hKC]
              have hzb : (C != 0) = true := by simpa using hz
              have hzb2 : (-C != 0) = true := by simp; omega
              have hwn : IntKind.i64.wrap (-C) = -C := IntWalk.i64_in _ (by omega)
              have hzn : ¬ -C = 0 := by omega
              clear HJ HCmp hKC
              go_wp2_with fail
              go_ret
              exact ⟨by rw [HJ'.out]; first | done | rfl, H9.out.bl⟩
          | true =>
            rw [hfr] at HCmp
            by_cases hz : C = 0
            · subst hz
              have HJ' : Hid (o.keysC a b = byKeys o.sep (o.keys.drop (i + 1)) a b) := by show _ = _; rw [HJ.out, if_pos (by rw [HCmp.out]; simp [flip1])]
              go_wp2_with fail
              exact ⟨⟨i + 1, by omega, by go_num, HJ', H9⟩, by simp [intOf]; omega⟩
            · have hKC : KC = -C := by rw [HCmp.out]; simp [flip1]
              have HJ' : Hid (o.keysC a b = -C) := by show _ = _; rw [HJ.out, if_neg (by rw [hKC]; omega), hKC]
              have hzb : (C != 0) = true := by simpa using hz
              have hzb2 : (-C != 0) = true := by simp; omega
              have hwn : IntKind.i64.wrap (-C) = -C := IntWalk.i64_in _ (by omega)
              have hzn : ¬ -C = 0 := by omega
              clear HJ HCmp hKC
              go_wp2_with fail
              go_ret
              exact ⟨by rw [HJ'.out]; first | done | rfl, H9.out.bl⟩
        | true =>
          rw [hfn, if_pos rfl] at HCmp
          cases hfr : k.fl.r with
          | false =>
            rw [hfr] at HCmp
            by_cases hz : N = 0
            · subst hz
              have HJ' : Hid (o.keysC a b = byKeys o.sep (o.keys.drop (i + 1)) a b) := by show _ = _; rw [HJ.out, if_pos (by rw [HCmp.out]; simp [flip1])]
              go_wp2_with (go_at_call 29; refine hnm.mono ?_; rintro e w5 ⟨rfl, hb5⟩; have H10 := Lib.hid (H9.out.on hb5); have u10 : w5.cell? ⟨K, 10, none⟩ = some (.bool k.fl.r) := (hb5.cell (p := ⟨K, 10, none⟩) hKl).trans r10; clear hb5)
              exact ⟨⟨i + 1, by omega, by go_num, HJ', H10⟩, by simp [intOf]; omega⟩
            · have hKC : KC = N := by rw [HCmp.out]; simp [flip1]
              have HJ' : Hid (o.keysC a b = N) := by show _ = _; rw [HJ.out, if_neg (by rw [hKC]; omega), hKC]
              have hzb : (N != 0) = true := by simpa using hz
              have hzb2 : (-N != 0) = true := by simp; omega
              have hwn : IntKind.i64.wrap (-N) = -N := IntWalk.i64_in _ (by omega)
              have hzn : ¬ -N = 0 := by omega
              clear HJ HCmp hKC
              go_wp2_with (go_at_call 29; refine hnm.mono ?_; rintro e w5 ⟨rfl, hb5⟩; have H10 := Lib.hid (H9.out.on hb5); have u10 : w5.cell? ⟨K, 10, none⟩ = some (.bool k.fl.r) := (hb5.cell (p := ⟨K, 10, none⟩) hKl).trans r10; clear hb5)
              go_ret
              exact ⟨by rw [HJ'.out]; first | done | rfl, H10.out.bl⟩
          | true =>
            rw [hfr] at HCmp
            by_cases hz : N = 0
            · subst hz
              have HJ' : Hid (o.keysC a b = byKeys o.sep (o.keys.drop (i + 1)) a b) := by show _ = _; rw [HJ.out, if_pos (by rw [HCmp.out]; simp [flip1])]
              go_wp2_with (go_at_call 29; refine hnm.mono ?_; rintro e w5 ⟨rfl, hb5⟩; have H10 := Lib.hid (H9.out.on hb5); have u10 : w5.cell? ⟨K, 10, none⟩ = some (.bool k.fl.r) := (hb5.cell (p := ⟨K, 10, none⟩) hKl).trans r10; clear hb5)
              exact ⟨⟨i + 1, by omega, by go_num, HJ', H10⟩, by simp [intOf]; omega⟩
            · have hKC : KC = -N := by rw [HCmp.out]; simp [flip1]
              have HJ' : Hid (o.keysC a b = -N) := by show _ = _; rw [HJ.out, if_neg (by rw [hKC]; omega), hKC]
              have hzb : (N != 0) = true := by simpa using hz
              have hzb2 : (-N != 0) = true := by simp; omega
              have hwn : IntKind.i64.wrap (-N) = -N := IntWalk.i64_in _ (by omega)
              have hzn : ¬ -N = 0 := by omega
              clear HJ HCmp hKC
              go_wp2_with (go_at_call 29; refine hnm.mono ?_; rintro e w5 ⟨rfl, hb5⟩; have H10 := Lib.hid (H9.out.on hb5); have u10 : w5.cell? ⟨K, 10, none⟩ = some (.bool k.fl.r) := (hb5.cell (p := ⟨K, 10, none⟩) hKl).trans r10; clear hb5)
              go_ret
              exact ⟨by rw [HJ'.out]; first | done | rfl, H10.out.bl⟩
    · have hend : Hid (o.keysC a b = 0) := by
        show _ = _
        rw [HI.out, List.drop_eq_nil_of_le (by rw [hm]; omega)]
        rfl
      clear HI
      go_wp2_with fail
      go_ret
      exact ⟨by rw [hend.out]; rfl, H1.out.bl⟩
end Go.Proofs.YtdgnbcbcfgfkmaaDoor
