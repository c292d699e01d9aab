/- Brackets, whole. -/
import Derived.Test.YtlekfdkahlobiaaGreatHBr5
namespace Go.Proofs.YtlekfdkahlobiaaGreat.Re
open Go.Proofs.YtlekfdkahlobiaaGreat.Tr
open Go.RowKit

theorem partG_len {l : List UInt8} {q : (UInt8 → Bool) × List UInt8} (h : partG l = some q) : q.2.length < l.length := by
  have hl : l ≠ [] := by
    rintro rfl
    have h0 : partG [] = none := rfl
    rw [h0] at h
    cases h
  rcases partG_eq hl with e | ⟨e, _⟩
  · rw [e] at h
    exact partS_len hl h
  · rw [e] at h; cases h
theorem not_beg (l : List UInt8) : begins [94] l = notS l := by
  unfold notS
  cases l with
  | nil => rfl
  | cons c r =>
    rw [Bool.eq_iff_iff, begins_one, List.getElem?_cons_zero, beq_iff_eq]
theorem cut_not (l : List UInt8) : cutL [94] l = behindNot l := by
  unfold cutL behindNot
  rw [not_beg]
  rfl
theorem partsG_more : ∀ (f g : Nat) (first : Bool) (p : UInt8 → Bool) (l : List UInt8), l.length < f → l.length < g → partsG f first p l = partsG g first p l
  | 0, _, _, _, _, h, _ => absurd h (by omega)
  | _ + 1, 0, _, _, _, _, h => absurd h (by omega)
  | f + 1, g + 1, first, p, l, h1, h2 => by
    rw [partsG, partsG]
    split
    · rfl
    · cases hq : partG l with
      | none => rfl
      | some q =>
        have := partG_len hq
        exact partsG_more f g false _ q.2 (by omega) (by omega)
theorem bl_bar2 {w W u : World} {rb : Nat} {p : UInt8 → Bool} (h : BlP W (w.heap.size + 1) p) (hrb : rb < w.heap.size) (hB : Bar rb W u) : BlP u (w.heap.size + 1) p := (hB.block _ (h_lt h) (by omega)).trans h
theorem bl_bar3 {w W u : World} {rb : Nat} {p : UInt8 → Bool} (h : BlP W w.heap.size p) (hrb : rb < w.heap.size) (hB : Bar rb W u) : BlP u w.heap.size p := (hB.block _ (h_lt h) (by omega)).trans h
/-- A bracket's state between two parts. -/
structure BkI (rb : Nat) (ext fold : Bool) (last depth : Int) (pv ov : Value) (made : Int) (w wr : World) (R : PartR) (first : Bool) (p : UInt8 → Bool) (t : List UInt8) : Prop where
  has : BlP wr (w.heap.size + 1) p
  out : BlP wr w.heap.size noB
  oth : ∀ j, j < w.heap.size → j ≠ rb → wr.heap[j]? = w.heap[j]?
  wld : wr.os = w.os ∧ wr.tape = w.tape ∧ wr.output = w.output
  siz : w.heap.size + 2 ≤ wr.heap.size
  rd : ∃ cl, Rd wr rb t ext fold last depth cl pv ov made ∧ (cl = true → ClsN t)
  go : partsG (t.length + 1) first p t = R
def BkO (rb : Nat) (ext fold : Bool) (last depth : Int) (pv ov : Value) (made : Int) (w : World) (o : R1) (e : Ending) (w' : World) : Prop :=
  Bar rb w w' ∧ match o with
    | none => e = .panicked gaveUp
    | some q => ∃ p, q.1 = setN p ∧ e = .returned (bl p) ∧ ∃ cl, Rd w' rb q.2 ext fold last depth cl pv ov made ∧ (cl = true → ClsN q.2)
section
variable {w : World} {rb : Nat} {l : List UInt8} {ext fold cl : Bool} {last depth made : Int} {pv ov : Value}
theorem BkI.bar {wr : World} {R : PartR} {first : Bool} {p : UInt8 → Bool} {t : List UInt8} (h : BkI rb ext fold last depth pv ov made w wr R first p t) : Bar rb w wr := ⟨h.wld.1, h.wld.2.1, h.wld.2.2, by have := h.siz; omega, h.oth⟩
/-- A bracket's state behind what turns the reader and the set alone. -/
theorem BkI.next {wr u : World} {R : PartR} {first first' : Bool} {p p' : UInt8 → Bool} {t t' : List UInt8} (h : BkI rb ext fold last depth pv ov made w wr R first p t) (hrb : rb < w.heap.size) (hB : Bar2 rb (w.heap.size + 1) wr u) (h1 : BlP u (w.heap.size + 1) p') (h2 : ∃ cl, Rd u rb t' ext fold last depth cl pv ov made ∧ (cl = true → ClsN t')) (h3 : partsG (t'.length + 1) first' p' t' = R) : BkI rb ext fold last depth pv ov made w u R first' p' t' :=
  ⟨h1, (hB.block _ (h_lt h.out) (by omega) (by omega)).trans h.out, fun j hj hj2 => (hB.block j (by have := h.siz; omega) hj2 (by omega)).trans (h.oth j hj hj2), ⟨hB.os.trans h.wld.1, hB.tape.trans h.wld.2.1, hB.output.trans h.wld.2.2⟩, Nat.le_trans h.siz hB.size, h2, h3⟩
theorem Bar.trans_two {b c : Nat} {u v x : World} (h : Bar b u v) (k : Bar2 b c v x) (hc : u.heap.size ≤ c) : Bar b u x := ⟨k.os.trans h.os, k.tape.trans h.tape, k.output.trans h.output, Nat.le_trans h.size k.size, fun j hj hb => (k.block j (Nat.lt_of_lt_of_le hj h.size) hb (by omega)).trans (h.block j hj hb)⟩
/-- A bracket whose parts are all read. -/
structure TlI (rb : Nat) (ext fold : Bool) (last depth : Int) (pv ov : Value) (made : Int) (w U : World) (p : UInt8 → Bool) (t : List UInt8) : Prop where
  has : U.heap[w.heap.size + 1]? = some (.cells (boolsL p).toArray 40)
  out : U.heap[w.heap.size]? = some (.cells (boolsL noB).toArray 40)
  bar : Bar rb w U
  rd : ∃ cl, Rd U rb t ext fold last depth cl pv ov made ∧ (cl = true → ClsN t)
theorem TlI.call {U u : World} {p : UInt8 → Bool} {t : List UInt8} (h : TlI rb ext fold last depth pv ov made w U p t) (hB : Below U.heap.size U u) : TlI rb ext fold last depth pv ov made w u p t := by
  obtain ⟨cl, h1, h2⟩ := h.rd
  exact ⟨(hB.block _ (h_lt h.has)).trans h.has, (hB.block _ (h_lt h.out)).trans h.out, h.bar.trans (Bar.of hB), cl, h1.keep hB, h2⟩
theorem TlI.store {U : World} {p : UInt8 → Bool} {t : List UInt8} (h : TlI rb ext fold last depth pv ov made w U p t) (hrb : rb < w.heap.size) (p' : UInt8 → Bool) : (storeCells ⟨w.heap.size + 1, 0, none⟩ (boolsL p').toArray.toList).run Tryz.prog U = .ok () (U.setRow (w.heap.size + 1) (boolsL p').toArray) ∧ TlI rb ext fold last depth pv ov made w (U.setRow (w.heap.size + 1) (boolsL p').toArray) p' t := by
  obtain ⟨cl, h1, h2⟩ := h.rd
  refine ⟨store_arr h.has (by rw [bl_size, bl_size]) (bl_one p'), setRow_heap _ _ _ _ _ _ h.has, (setRow_other _ _ _ _ (by omega)).trans h.out, ⟨h.bar.os, h.bar.tape, h.bar.output, by rw [size_setRow]; exact h.bar.size, fun j hj hj2 => (setRow_other _ _ _ _ (by omega)).trans (h.bar.block j hj hj2)⟩, cl, (setRow_other _ _ _ _ (by omega)).trans h1, h2⟩
theorem TlI.fin {U : World} {p : UInt8 → Bool} {t : List UInt8} (h : TlI rb ext fold last depth pv ov made w U p t) (hrb : rb < w.heap.size) : (storeCells ⟨w.heap.size, 0, none⟩ (boolsL p).toArray.toList).run Tryz.prog U = .ok () (U.setRow w.heap.size (boolsL p).toArray) ∧ (U.setRow w.heap.size (boolsL p).toArray).heap[w.heap.size]? = some (.cells (boolsL p).toArray 40) ∧ Bar rb w (U.setRow w.heap.size (boolsL p).toArray) ∧ ∃ cl, Rd (U.setRow w.heap.size (boolsL p).toArray) rb t ext fold last depth cl pv ov made ∧ (cl = true → ClsN t) := by
  obtain ⟨cl, h1, h2⟩ := h.rd
  exact ⟨store_arr h.out (by rw [bl_size, bl_size]) (bl_one p), setRow_heap _ _ _ _ _ _ h.out, ⟨h.bar.os, h.bar.tape, h.bar.output, by rw [size_setRow]; exact h.bar.size, fun j hj hj2 => (setRow_other _ _ _ _ (by omega)).trans (h.bar.block j hj hj2)⟩, cl, (setRow_other _ _ _ _ (by omega)).trans h1, h2⟩
set_option maxHeartbeats 4000000 in
set_option maxRecDepth 100000 in
theorem bracket_c {m : Int} (h : Rd w rb l ext fold last depth cl pv ov made) (hcl : cl = true → ClsN l) (hm : w.cell? ⟨0, 0, none⟩ = some (.int .i64 m)) (hG : 0 < rb) (hl : l.length ≤ 2097152) :
    Calls Tryz.prog 67 #[ptr rb] w (BkO rb ext fold last depth pv ov made w (bracketS fold l)) := by
  have hrb := h_lt h
  have HB0 := two_bl w
  have HS0 : Hid (∀ u, Below w.heap.size w u → Calls Tryz.prog 71 #[ptr rb, .string (bs [94])] u fun e w' => e = .returned (.bool (notS l)) ∧ Bar rb u w' ∧ Rd w' rb (behindNot l) ext fold last depth cl pv ov made) := fun u hu => (skip_l [94] (h.keep hu)).mono fun e w' hq => ⟨by rw [hq.1, not_beg], hq.2.1, by rw [← cut_not]; exact hq.2.2⟩
  have hcb : cl = true → ClsN (behindNot l) := fun e => by
    unfold behindNot
    split
    · exact (hcl e).drop 1
    · exact hcl e
  have hlb : (behindNot l).length ≤ l.length := by unfold behindNot; split <;> simp
  obtain ⟨R, hR⟩ : ∃ R, partsG ((behindNot l).length + 1) true noB (behindNot l) = R := ⟨_, rfl⟩
  have HBk : Hid (bracketS fold l = R.map fun q => (setN fun c => foldP fold q.1 c != notS l, q.2)) := by
    show _ = _
    unfold bracketS
    rw [← partsG_eq, partsG_more _ ((behindNot l).length + 1) _ _ _ (by omega) (by omega), hR]
  have HR := Lib.hid hR
  rw [HBk.out]
  clear h hcl hR
  go_enter Tryz.func67, Tryz.ntmps67
  go_upto_region 2 with fail
  generalize (w.alloc (.cells Tryz.zeroCells40 40)).alloc (.cells Tryz.zeroCells40 40) = W at HB0 ⊢
  have hs0 := HS0.out W HB0.out.2.2
  go_wp2_with (go_at_call 71; refine hs0.mono ?_; rintro e w1 ⟨rfl, hB1, hR1⟩; have HI0 : Hid (BkI rb ext fold last depth pv ov made w w1 R true noB (behindNot l)) := ⟨bl_bar2 HB0.out.2.1 hrb hB1, bl_bar3 HB0.out.1 hrb hB1, fun j hj hj2 => (hB1.block j (Nat.lt_of_lt_of_le hj HB0.out.2.2.size) hj2).trans (HB0.out.2.2.block j hj), ⟨hB1.os.trans HB0.out.2.2.os, hB1.tape.trans HB0.out.2.2.tape, hB1.output.trans HB0.out.2.2.output⟩, Nat.le_trans (h_lt HB0.out.2.1) hB1.size, ⟨cl, hR1, hcb⟩, HR.out⟩; clear hB1 hR1)
  go_loopw [5] (fun v5 wr => ∃ first p t, v5 = .bool first ∧ t.length ≤ 2097152 ∧ Hid (BkI rb ext fold last depth pv ov made w wr R first p t)) (fun _ wr => leftW wr rb)
  case atStart => exact ⟨true, noB, behindNot l, rfl, by omega, HI0⟩
  case round =>
    obtain ⟨first, p, t, rfl, htl, HI⟩ := hrel
    clear HI0 hs0 HS0 HB0 HR
    have HPt : Hid (∀ u cl1, (∀ j, j < w.heap.size → j ≠ rb → u.heap[j]? = w.heap[j]?) → Rd u rb t ext fold last depth cl1 pv ov made → (cl1 = true → ClsN t) → BlP u (w.heap.size + 1) p → Calls Tryz.prog 76 #[ptr rb, ptr (w.heap.size + 1)] u (PtO rb (w.heap.size + 1) p ext fold last depth pv ov made u (partG t))) := fun u cl1 h0 h1 h2 h3 => part_c h1 h2 (by
      rw [World.cell?_of_block (w := w) (h0 0 (by omega) (by omega))]
      exact hm) htl h3
    have HNx : Hid (∀ (u v : World) (q : (UInt8 → Bool) × List UInt8) (f : Bool), BkI rb ext fold last depth pv ov made w u R f p t → (f = false → begins [93] t = false) → partG t = some q → Bar2 rb (w.heap.size + 1) u v → BlP v (w.heap.size + 1) (orP p q.1) → (∃ cl, Rd v rb q.2 ext fold last depth cl pv ov made ∧ (cl = true → ClsN q.2)) → BkI rb ext fold last depth pv ov made w v R false (orP p q.1) q.2) := fun u v q f h1 hf h2 h3 h4 h5 => h1.next hrb h3 h4 h5 (by
      have hgo := h1.go
      rw [partsG, if_neg (by rintro ⟨e1, e2⟩; rw [hf e1] at e2; cases e2), h2, Option.bind_some] at hgo
      have hlt := partG_len h2
      rw [partsG_more _ t.length _ _ _ (by omega) (by omega)]
      exact hgo)
    have HNo : Hid (∀ (u : World) (f : Bool), BkI rb ext fold last depth pv ov made w u R f p t → (f = false → begins [93] t = false) → partG t = none → R = none) := fun u f h1 hf h2 => by
      have hgo := h1.go
      rw [partsG, if_neg (by rintro ⟨e1, e2⟩; rw [hf e1] at e2; cases e2), h2] at hgo
      exact hgo.symm
    have HLw : Hid (∀ u, (∃ cl, Rd u rb t ext fold last depth cl pv ov made ∧ (cl = true → ClsN t)) → leftW u rb = t.length) := fun u hu => hu.elim fun cl hc => hc.1.leftW
    have HLq : Hid (∀ (u : World) (q : (UInt8 → Bool) × List UInt8), (∃ cl, Rd u rb q.2 ext fold last depth cl pv ov made ∧ (cl = true → ClsN q.2)) → leftW u rb = q.2.length) := fun u q hu => hu.elim fun cl hc => hc.1.leftW
    cases first with
    | true =>
      obtain ⟨cl1, hRw, hcw⟩ := HI.out.rd
      have hpt := HPt.out wr cl1 HI.out.oth hRw hcw HI.out.has
      clear hRw hcw
      cases hP : partG t with
      | none =>
        rw [hP] at hpt
        have HRn := Lib.hid (HNo.out wr true HI.out (by simp) hP)
        clear hP
        go_wp2_with (go_at_call 76; refine hpt.mono ?_; rintro e u1 ⟨hBu, rfl⟩)
        refine ⟨rfl, ?_, by rw [HRn.out]; rfl⟩
        exact HI.out.bar.trans_two hBu (by omega)
      | some q =>
        rw [hP] at hpt
        have HN1 : Hid (∀ v, Bar2 rb (w.heap.size + 1) wr v → BlP v (w.heap.size + 1) (orP p q.1) → (∃ cl, Rd v rb q.2 ext fold last depth cl pv ov made ∧ (cl = true → ClsN q.2)) → BkI rb ext fold last depth pv ov made w v R false (orP p q.1) q.2) := fun v a1 a2 a3 => HNx.out wr v q true HI.out (by simp) hP a1 a2 a3
        have hlt := partG_len hP
        have HLt := Lib.hid (HLw.out wr HI.out.rd)
        clear hP
        go_wp2_with (go_at_call 76; refine hpt.mono ?_; rintro e u1 ⟨hBu, rfl, hbu, hRu⟩; have HJ := Lib.hid (HN1.out u1 hBu hbu hRu); have HLu := Lib.hid (HLq.out u1 q hRu); clear hBu hbu hRu)
        exact ⟨⟨false, orP p q.1, q.2, rfl, by omega, HJ⟩, by rw [HLu.out, HLt.out]; exact hlt⟩
    | false =>
      obtain ⟨cl1, hRw, hcw⟩ := HI.out.rd
      cases hb : begins [93] t with
      | false =>
        have hsk := skip_no hb hRw
        have HJ1 : Hid (∀ u, Bar rb wr u → Rd u rb t ext fold last depth cl1 pv ov made → BkI rb ext fold last depth pv ov made w u R false p t) := fun u hB hR => HI.out.next hrb hB.two (bl_bar2 HI.out.has hrb hB) ⟨cl1, hR, hcw⟩ HI.out.go
        have HPt2 : Hid (∀ u, Bar rb wr u → Rd u rb t ext fold last depth cl1 pv ov made → Calls Tryz.prog 76 #[ptr rb, ptr (w.heap.size + 1)] u (PtO rb (w.heap.size + 1) p ext fold last depth pv ov made u (partG t))) := fun u hB hR => HPt.out u cl1 (HJ1.out u hB hR).oth hR hcw (HJ1.out u hB hR).has
        cases hP : partG t with
        | none =>
          rw [hP] at HPt2
          have HRn : Hid (R = none) := HNo.out wr false HI.out (fun _ => hb) hP
          clear hP hb hRw
          go_wp2_with (first
            | (go_at_call 71; refine hsk.mono ?_; rintro e u0 ⟨rfl, hB0, hR0⟩; have hpt := HPt2.out u0 hB0 hR0; have HJ0 := Lib.hid (HJ1.out u0 hB0 hR0); clear hB0 hR0)
            | (go_at_call 76; refine hpt.mono ?_; rintro e u1 ⟨hBu, rfl⟩))
          refine ⟨rfl, ?_, by rw [HRn.out]; rfl⟩
          exact HJ0.out.bar.trans_two hBu (by omega)
        | some q =>
          rw [hP] at HPt2
          have HN1 : Hid (∀ u v, BkI rb ext fold last depth pv ov made w u R false p t → Bar2 rb (w.heap.size + 1) u v → BlP v (w.heap.size + 1) (orP p q.1) → (∃ cl, Rd v rb q.2 ext fold last depth cl pv ov made ∧ (cl = true → ClsN q.2)) → BkI rb ext fold last depth pv ov made w v R false (orP p q.1) q.2) := fun u v a0 a1 a2 a3 => HNx.out u v q false a0 (fun _ => hb) hP a1 a2 a3
          have hlt := partG_len hP
          have HLt := Lib.hid (HLw.out wr HI.out.rd)
          clear hP hb hRw
          go_wp2_with (first
            | (go_at_call 71; refine hsk.mono ?_; rintro e u0 ⟨rfl, hB0, hR0⟩; have hpt := HPt2.out u0 hB0 hR0; have HJ0 := Lib.hid (HJ1.out u0 hB0 hR0); clear hB0 hR0)
            | (go_at_call 76; refine hpt.mono ?_; rintro e u1 ⟨hBu, rfl, hbu, hRu⟩; have HJ := Lib.hid (HN1.out u0 u1 HJ0.out hBu hbu hRu); have HLu := Lib.hid (HLq.out u1 q hRu); clear hBu hbu hRu))
          exact ⟨⟨false, orP p q.1, q.2, rfl, by omega, HJ⟩, by rw [HLu.out, HLt.out]; exact hlt⟩
      | true =>
        have hsk := skip_yes hb hRw
        have HRt : Hid (R = some (p, t.drop 1)) := by
          have hgo := HI.out.go
          rw [partsG, if_pos ⟨rfl, hb⟩] at hgo
          exact hgo.symm
        have HTl : Hid (∀ u, Bar rb wr u → Rd u rb (t.drop 1) ext fold last depth cl1 pv ov made → TlI rb ext fold last depth pv ov made w u p (t.drop 1) ∧ u.cell? ⟨rb, 2, none⟩ = some (.bool fold)) := fun u hB hR => ⟨⟨bl_bar2 HI.out.has hrb hB, bl_bar3 HI.out.out hrb hB, HI.out.bar.trans hB, cl1, hR, fun e => (hcw e).drop 1⟩, h_cell hR 2 rfl⟩
        clear hRw hb HPt HNx HNo HLw HLq HI
        generalize hnl : notS l = nt at *
        have HNl := Lib.hid hnl
        clear hnl
        generalize hd1 : t.drop 1 = t1 at *
        cases fold with
        | true =>
          cases nt with
          | true =>
            have HEnd : Hid (∀ u, Bar rb w u → (∃ cl, Rd u rb (t1) ext true last depth cl pv ov made ∧ (cl = true → ClsN (t1))) → BkO rb ext true last depth pv ov made w (R.map fun q => (setN fun c => foldP true q.1 c != true, q.2)) (.returned (bl (fun c => !(foldP true p) c))) u) := fun u hu hc => by
              refine ⟨hu, ?_⟩
              rw [HRt.out]
              refine ⟨(fun c => !(foldP true p) c), ?_, rfl, hc⟩
              show setN _ = setN _
              congr 1
              funext c
              show (foldP true p c != true) = _
              cases foldP true p c <;> rfl
            have hz0 := bl_size p
            have hz1 := bl_size (foldP true p)
            have hz2 := bl_size (fun c => !(foldP true p) c)
            have hf1 := fun u => folded_c p u
            have HS1 : Hid (∀ u, TlI rb ext true last depth pv ov made w u p t1 → _) := fun u hu => TlI.store hu hrb (foldP true p)
            have hf2 := fun u => turned_c (foldP true p) u
            have HS2 : Hid (∀ u, TlI rb ext true last depth pv ov made w u (foldP true p) t1 → _) := fun u hu => TlI.store hu hrb (fun c => !(foldP true p) c)
            have HFn : Hid (∀ u, TlI rb ext true last depth pv ov made w u (fun c => !(foldP true p) c) t1 → _) := fun u hu => TlI.fin hu hrb
            have HH : Hid (∀ u, TlI rb ext true last depth pv ov made w u p t1 → u.heap[w.heap.size + 1]? = some (.cells (boolsL p).toArray 40)) := fun u hu => hu.has
            have HH1 : Hid (∀ u, TlI rb ext true last depth pv ov made w u (foldP true p) t1 → u.heap[w.heap.size + 1]? = some (.cells (boolsL (foldP true p)).toArray 40)) := fun u hu => hu.has
            have HH2 : Hid (∀ u, TlI rb ext true last depth pv ov made w u (fun c => !(foldP true p) c) t1 → u.heap[w.heap.size + 1]? = some (.cells (boolsL (fun c => !(foldP true p) c)).toArray 40)) := fun u hu => hu.has
            unfold bl at hf1 hf2 HEnd
            generalize (boolsL p).toArray = d0 at hz0 HFn HEnd HH HH1 HH2 hf1 hf2 HS1 HS2
            generalize (boolsL (foldP true p)).toArray = d1 at hz1 HFn HEnd HH HH1 HH2 hf1 hf2 HS1 HS2
            generalize (boolsL (fun c => !(foldP true p) c)).toArray = d2 at hz2 HFn HEnd HH HH1 HH2 hf1 hf2 HS1 HS2
            go_wp2_with (go_at_call 71; refine hsk.mono ?_; rintro e U ⟨rfl, hBU, hRU⟩; obtain ⟨gT, k2⟩ := HTl.out U hBU hRU; have HT := Lib.hid gT; clear gT hBU hRU)
            refine wp_load_arr 40 (.tmp 3) rfl (w.heap.size + 1) d0 rfl 40 (HH.out _ HT.out) Tryz.underlying40 rfl (by rw [hz0]; exact info256) ?_
            go_wp2_with (go_at_call 21; refine (hf1 _).mono ?_; rintro e u1 ⟨rfl, hBu1⟩; obtain ⟨g1, gT1⟩ := HS1.out u1 (HT.out.call hBu1); have HT1 := Lib.hid gT1; clear gT1 hBu1)
            refine wp_load_arr 40 (.tmp 3) rfl (w.heap.size + 1) d1 rfl 40 (HH1.out _ HT1.out) Tryz.underlying40 rfl (by rw [hz1]; exact info256) ?_
            go_wp2_with (go_at_call 66; refine (hf2 _).mono ?_; rintro e u2 ⟨rfl, hBu2⟩; obtain ⟨g2, gT2⟩ := HS2.out u2 (HT1.out.call hBu2); have HT2 := Lib.hid gT2; clear gT2 hBu2)
            obtain ⟨gf, gh, gb, gr⟩ := HFn.out _ HT2.out
            have HZ := Lib.hid (And.intro gh (And.intro gb gr))
            clear gh gb gr
            refine wp_load_arr 40 (.tmp 3) rfl (w.heap.size + 1) d2 rfl 40 (HH2.out _ HT2.out) Tryz.underlying40 rfl (by rw [hz2]; exact info256) ?_
            go_wp2_with fail
            refine bodyPost_ret (results_cell_row rfl _ _ w.heap.size 40 d2 (0, 0) _ rfl HZ.out.1 Tryz.underlying40 rfl (by rw [hz2]; exact info256)) rfl ?_
            rw [HNl.out]
            exact HEnd.out _ HZ.out.2.1 HZ.out.2.2
          | false =>
            have HEnd : Hid (∀ u, Bar rb w u → (∃ cl, Rd u rb (t1) ext true last depth cl pv ov made ∧ (cl = true → ClsN (t1))) → BkO rb ext true last depth pv ov made w (R.map fun q => (setN fun c => foldP true q.1 c != false, q.2)) (.returned (bl (foldP true p))) u) := fun u hu hc => by
              refine ⟨hu, ?_⟩
              rw [HRt.out]
              refine ⟨(foldP true p), ?_, rfl, hc⟩
              show setN _ = setN _
              congr 1
              funext c
              show (foldP true p c != false) = _
              cases foldP true p c <;> rfl
            have hz0 := bl_size p
            have hz1 := bl_size (foldP true p)
            have hf1 := fun u => folded_c p u
            have HS1 : Hid (∀ u, TlI rb ext true last depth pv ov made w u p t1 → _) := fun u hu => TlI.store hu hrb (foldP true p)
            have HFn : Hid (∀ u, TlI rb ext true last depth pv ov made w u (foldP true p) t1 → _) := fun u hu => TlI.fin hu hrb
            have HH : Hid (∀ u, TlI rb ext true last depth pv ov made w u p t1 → u.heap[w.heap.size + 1]? = some (.cells (boolsL p).toArray 40)) := fun u hu => hu.has
            have HH1 : Hid (∀ u, TlI rb ext true last depth pv ov made w u (foldP true p) t1 → u.heap[w.heap.size + 1]? = some (.cells (boolsL (foldP true p)).toArray 40)) := fun u hu => hu.has
            unfold bl at hf1 HEnd
            generalize (boolsL p).toArray = d0 at hz0 HFn HEnd HH HH1 hf1 HS1
            generalize (boolsL (foldP true p)).toArray = d1 at hz1 HFn HEnd HH HH1 hf1 HS1
            go_wp2_with (go_at_call 71; refine hsk.mono ?_; rintro e U ⟨rfl, hBU, hRU⟩; obtain ⟨gT, k2⟩ := HTl.out U hBU hRU; have HT := Lib.hid gT; clear gT hBU hRU)
            refine wp_load_arr 40 (.tmp 3) rfl (w.heap.size + 1) d0 rfl 40 (HH.out _ HT.out) Tryz.underlying40 rfl (by rw [hz0]; exact info256) ?_
            go_wp2_with (go_at_call 21; refine (hf1 _).mono ?_; rintro e u1 ⟨rfl, hBu1⟩; obtain ⟨g1, gT1⟩ := HS1.out u1 (HT.out.call hBu1); have HT1 := Lib.hid gT1; clear gT1 hBu1)
            obtain ⟨gf, gh, gb, gr⟩ := HFn.out _ HT1.out
            have HZ := Lib.hid (And.intro gh (And.intro gb gr))
            clear gh gb gr
            refine wp_load_arr 40 (.tmp 3) rfl (w.heap.size + 1) d1 rfl 40 (HH1.out _ HT1.out) Tryz.underlying40 rfl (by rw [hz1]; exact info256) ?_
            go_wp2_with fail
            refine bodyPost_ret (results_cell_row rfl _ _ w.heap.size 40 d1 (0, 0) _ rfl HZ.out.1 Tryz.underlying40 rfl (by rw [hz1]; exact info256)) rfl ?_
            rw [HNl.out]
            exact HEnd.out _ HZ.out.2.1 HZ.out.2.2
        | false =>
          cases nt with
          | true =>
            have HEnd : Hid (∀ u, Bar rb w u → (∃ cl, Rd u rb (t1) ext false last depth cl pv ov made ∧ (cl = true → ClsN (t1))) → BkO rb ext false last depth pv ov made w (R.map fun q => (setN fun c => foldP false q.1 c != true, q.2)) (.returned (bl (fun c => !p c))) u) := fun u hu hc => by
              refine ⟨hu, ?_⟩
              rw [HRt.out]
              refine ⟨(fun c => !p c), ?_, rfl, hc⟩
              show setN _ = setN _
              congr 1
              funext c
              show (foldP false p c != true) = _
              rw [hfoldP_false]; cases p c <;> rfl
            have hz0 := bl_size p
            have hz1 := bl_size (fun c => !p c)
            have hf1 := fun u => turned_c p u
            have HS1 : Hid (∀ u, TlI rb ext false last depth pv ov made w u p t1 → _) := fun u hu => TlI.store hu hrb (fun c => !p c)
            have HFn : Hid (∀ u, TlI rb ext false last depth pv ov made w u (fun c => !p c) t1 → _) := fun u hu => TlI.fin hu hrb
            have HH : Hid (∀ u, TlI rb ext false last depth pv ov made w u p t1 → u.heap[w.heap.size + 1]? = some (.cells (boolsL p).toArray 40)) := fun u hu => hu.has
            have HH1 : Hid (∀ u, TlI rb ext false last depth pv ov made w u (fun c => !p c) t1 → u.heap[w.heap.size + 1]? = some (.cells (boolsL (fun c => !p c)).toArray 40)) := fun u hu => hu.has
            unfold bl at hf1 HEnd
            generalize (boolsL p).toArray = d0 at hz0 HFn HEnd HH HH1 hf1 HS1
            generalize (boolsL (fun c => !p c)).toArray = d1 at hz1 HFn HEnd HH HH1 hf1 HS1
            go_wp2_with (go_at_call 71; refine hsk.mono ?_; rintro e U ⟨rfl, hBU, hRU⟩; obtain ⟨gT, k2⟩ := HTl.out U hBU hRU; have HT := Lib.hid gT; clear gT hBU hRU)
            refine wp_load_arr 40 (.tmp 3) rfl (w.heap.size + 1) d0 rfl 40 (HH.out _ HT.out) Tryz.underlying40 rfl (by rw [hz0]; exact info256) ?_
            go_wp2_with (go_at_call 66; refine (hf1 _).mono ?_; rintro e u1 ⟨rfl, hBu1⟩; obtain ⟨g1, gT1⟩ := HS1.out u1 (HT.out.call hBu1); have HT1 := Lib.hid gT1; clear gT1 hBu1)
            obtain ⟨gf, gh, gb, gr⟩ := HFn.out _ HT1.out
            have HZ := Lib.hid (And.intro gh (And.intro gb gr))
            clear gh gb gr
            refine wp_load_arr 40 (.tmp 3) rfl (w.heap.size + 1) d1 rfl 40 (HH1.out _ HT1.out) Tryz.underlying40 rfl (by rw [hz1]; exact info256) ?_
            go_wp2_with fail
            refine bodyPost_ret (results_cell_row rfl _ _ w.heap.size 40 d1 (0, 0) _ rfl HZ.out.1 Tryz.underlying40 rfl (by rw [hz1]; exact info256)) rfl ?_
            rw [HNl.out]
            exact HEnd.out _ HZ.out.2.1 HZ.out.2.2
          | false =>
            have HEnd : Hid (∀ u, Bar rb w u → (∃ cl, Rd u rb (t1) ext false last depth cl pv ov made ∧ (cl = true → ClsN (t1))) → BkO rb ext false last depth pv ov made w (R.map fun q => (setN fun c => foldP false q.1 c != false, q.2)) (.returned (bl p)) u) := fun u hu hc => by
              refine ⟨hu, ?_⟩
              rw [HRt.out]
              refine ⟨p, ?_, rfl, hc⟩
              show setN _ = setN _
              congr 1
              funext c
              show (foldP false p c != false) = _
              rw [hfoldP_false]; cases p c <;> rfl
            have hz0 := bl_size p
            have HFn : Hid (∀ u, TlI rb ext false last depth pv ov made w u p t1 → _) := fun u hu => TlI.fin hu hrb
            have HH : Hid (∀ u, TlI rb ext false last depth pv ov made w u p t1 → u.heap[w.heap.size + 1]? = some (.cells (boolsL p).toArray 40)) := fun u hu => hu.has
            unfold bl at HEnd
            generalize (boolsL p).toArray = d0 at hz0 HFn HEnd HH
            go_wp2_with (go_at_call 71; refine hsk.mono ?_; rintro e U ⟨rfl, hBU, hRU⟩; obtain ⟨gT, k2⟩ := HTl.out U hBU hRU; have HT := Lib.hid gT; clear gT hBU hRU)
            obtain ⟨gf, gh, gb, gr⟩ := HFn.out _ HT.out
            have HZ := Lib.hid (And.intro gh (And.intro gb gr))
            clear gh gb gr
            refine wp_load_arr 40 (.tmp 3) rfl (w.heap.size + 1) d0 rfl 40 (HH.out _ HT.out) Tryz.underlying40 rfl (by rw [hz0]; exact info256) ?_
            go_wp2_with fail
            refine bodyPost_ret (results_cell_row rfl _ _ w.heap.size 40 d0 (0, 0) _ rfl HZ.out.1 Tryz.underlying40 rfl (by rw [hz0]; exact info256)) rfl ?_
            rw [HNl.out]
            exact HEnd.out _ HZ.out.2.1 HZ.out.2.2
end
end Go.Proofs.YtlekfdkahlobiaaGreat.Re
