/- The reference of strings: the whole. -/
import Derived.Test.YtfkoehfkiommpaaGreatDoorZRef5
import Derived.Test.YtfkoehfkiommpaaGreatDoorZSet2b
namespace Go.Proofs.YtfkoehfkiommpaaGreatDoor.Tr
open Go.Proofs.YtfkoehfkiommpaaGreatDoor.Op
open Go.RowKit

/-- Bytes in memory. -/
def ByAt (w : World) (v : Value) (d : List UInt8) : Prop :=
  (v = .slice none 0 0 ∧ d = []) ∨ ∃ b off cap, v = .slice (some ⟨b, off, none⟩) d.length cap ∧ (d.length ≤ cap ∧ cap ≤ 9223372036854775807) ∧ b < w.heap.size ∧ ∀ j, j < d.length → w.cell? ⟨b, off + j, none⟩ = some (.int .u8 ((d[j]?.getD 0).toNat : Int))
theorem ByAt.below {w w' : World} {v : Value} {d : List UInt8} (h : ByAt w v d) (hb : Below w.heap.size w w') : ByAt w' v d := by
  rcases h with h | ⟨b, off, cap, h1, h2, h3, h4⟩
  · exact .inl h
  · exact .inr ⟨b, off, cap, h1, h2, Nat.lt_of_lt_of_le h3 hb.size, fun j hj => (hb.cell (p := ⟨b, off + j, none⟩) h3).trans (h4 j hj)⟩
theorem ByAt.shape {w : World} {v : Value} {d : List UInt8} (h : ByAt w v d) : ∃ a c, v = .slice a d.length c := by
  rcases h with ⟨rfl, rfl⟩ | ⟨b, off, cap, rfl, _⟩
  · exact ⟨none, 0, rfl⟩
  · exact ⟨_, cap, rfl⟩
theorem row_by {w : World} {B : Nat} {v : Value} {l : List UInt8} (h : Row w B v l) : ByAt w v l := by
  rcases h.2 with ⟨h1, h0⟩ | ⟨g, cap, cur, rfl, hb, hg, hle, hcap, hsz, ht⟩
  · exact .inl ⟨h1, List.length_eq_zero_iff.1 h0⟩
  · refine .inr ⟨g, 0, cap, rfl, ⟨hle, by unfold maxLen at hcap; exact hcap⟩, h_lt hg, fun j hj => ?_⟩
    have h1 := own_cell2 h j (by omega)
    rw [Nat.zero_add, h1]
    simp [u8s, hj]

theorem setN_go (n : Nat) (s : ByteArray) (k : Nat) (x : St) (h : k < s.size) : setN (n + 1) (s.data.toList.drop k) x = setN n (s.data.toList.drop (k + (stepS (s.data.toList.drop k)).1)) ((stepS (s.data.toList.drop k)).2 x) := by
  have e := by_drop s k h
  rw [e, setN, ← e, List.drop_drop]
theorem setN_end (n : Nat) (s : ByteArray) (k : Nat) (x : St) (h : s.size ≤ k) : setN n (s.data.toList.drop k) x = x := by
  rw [by_drop_end s k h]
  cases n <;> rfl
theorem step_class {s : List UInt8} {p : Nat × (St → St)} (h : classS s = some p) : stepS s = p := by rw [stepS, h]
theorem step_equal {s : List UInt8} {p : Nat × (St → St)} (h0 : classS s = none) (h : equalS s = some p) : stepS s = p := by rw [stepS, h0, h]
theorem step_times {s : List UInt8} {p : Nat × (St → St)} (h0 : classS s = none) (h1 : equalS s = none) (h : timesS s = some p) : stepS s = p := by rw [stepS, h0, h1, h]
theorem step_plain {s : List UInt8} (h0 : classS s = none) (h1 : equalS s = none) (h : timesS s = none) : stepS s = plainS s := by rw [stepS, h0, h1, h]
theorem shut_len : ∀ (l : List UInt8) (j : Nat), shutS l = some j → j + 2 ≤ l.length
  | [], j, h => by simp [shutS] at h
  | [_], j, h => by simp [shutS] at h
  | a :: b :: r, j, h => by
    rw [shutS] at h
    split at h
    · cases h; simp
    · cases hs : shutS (b :: r) with
      | none => rw [hs] at h; simp at h
      | some i =>
        rw [hs] at h
        have := shut_len (b :: r) i hs
        simp at h this ⊢
        omega
/-- What a step takes and tells. -/
structure Fits (l : List UInt8) (p : Nat × (St → St)) : Prop where
  pos : 1 ≤ p.1
  le : p.1 ≤ l.length
  out : ∀ x : St, (p.2 x).out.length ≤ x.out.length + 65536 * p.1
theorem class_fits {l : List UInt8} {p : Nat × (St → St)} (h : classS l = some p) : Fits l p := by
  rcases l with _ | ⟨a, _ | ⟨b, t⟩⟩
  · cases h
  · cases h
  · rw [classS] at h
    split at h
    · cases hs : shutS t with
      | none => rw [hs] at h; simp at h
      | some j =>
        rw [hs] at h
        simp at h
        subst h
        have := shut_len t j hs
        refine ⟨by simp, by simp; omega, fun x => ?_⟩
        have hb := bytesOf_len (classB (t.take j)) 256
        rw [← classL_of] at hb
        simp
        omega
    · cases h
theorem equal_fits {l : List UInt8} {p : Nat × (St → St)} (h : equalS l = some p) : Fits l p := by
  rcases l with _ | ⟨a, _ | ⟨b, _ | ⟨d, t⟩⟩⟩
  · cases h
  · cases h
  · cases h
  · rw [equalS] at h
    split at h
    · rename_i hc
      simp at h
      subst h
      have h1 := (List.getElem?_eq_some_iff.1 hc.2.2.2).1
      rw [List.length_drop] at h1
      refine ⟨by simp, by simp at h1 ⊢; omega, fun x => ?_⟩
      simp [addS]
      omega
    · cases h
theorem times_out (c : UInt8) (q : Int × Bool) (x : St) : (timesX c q x).out.length ≤ x.out.length + 65536 := by
  unfold timesX
  split
  · simp
  · split
    · simp
    · rw [List.length_append, List.length_replicate]; omega
theorem times_fits {l : List UInt8} {p : Nat × (St → St)} (h : timesS l = some p) : Fits l p := by
  rcases l with _ | ⟨a, _ | ⟨b, t⟩⟩
  · cases h
  · cases h
  · rw [timesS] at h
    split at h
    · simp only at h
      split at h
      · rename_i hc
        simp at h
        subst h
        have h1 := (List.getElem?_eq_some_iff.1 hc).1
        rw [List.length_drop, List.length_drop] at h1
        refine ⟨by simp, by simp at h1 ⊢; omega, fun x => ?_⟩
        have := times_out (signS (b :: t)).1 (manyS (((b :: t).drop ((signS (b :: t)).2 + 1)).takeWhile isDec)) x
        exact Nat.le_trans this (by show _ ≤ x.out.length + 65536 * ((signS (b :: t)).2 + (((b :: t).drop ((signS (b :: t)).2 + 1)).takeWhile isDec).length + 3); omega)
      · cases h
    · cases h
theorem span_len (c d : UInt8) : (spanL c d).length ≤ 256 := by
  unfold spanL
  have := d.toNat_lt
  simp
  omega
theorem plain_fits {l : List UInt8} (hl : 0 < l.length) : Fits l (plainS l) := by
  have h1 := sign_len hl
  unfold plainS
  simp only
  split
  · rename_i hc
    have h2 := sign_len (s := (l.drop (signS l).2).drop 1) (by simp at hc ⊢; omega)
    simp at h2
    refine ⟨by simp; omega, by simp at hc ⊢; omega, fun x => ?_⟩
    have := span_len (signS l).1 (signS ((l.drop (signS l).2).drop 1)).1
    simp at this ⊢
    omega
  · refine ⟨h1.1, h1.2, fun x => ?_⟩
    simp [addS]
    omega

def atOf (w : World) (xb : Nat) : Nat := match w.cell? ⟨xb, 1, none⟩ with | some v => (intOf v).toNat | none => 0
theorem atOf_eq {w : World} {xb k : Nat} {s : ByteArray} {x : St} (h : XAt w xb s k x) : atOf w xb = k := by
  obtain ⟨ov, hx, _⟩ := h
  have c1 : w.cell? ⟨xb, 1, none⟩ = some (.int .i64 (k : Int)) := h_cell hx 1 rfl
  rw [atOf, c1]
  simp [intOf]
/-- Between two signs. -/
structure Rd (w wr : World) (xb : Nat) (s : ByteArray) (R : St) (k : Nat) (x : St) : Prop where
  at_ : XAt wr xb s k x
  le : k ≤ s.size
  out : x.out.length ≤ 65536 * k
  run : ∃ n, s.size - k ≤ n ∧ setN n (s.data.toList.drop k) x = R
  below : Below xb w wr
theorem Rd.step {w wr w' : World} {xb : Nat} {s : ByteArray} {R : St} {k : Nat} {x : St} {p : Nat × (St → St)} (h : Rd w wr xb s R k x) (hk : k < s.size) (hf : Fits (s.data.toList.drop k) p) (hp : stepS (s.data.toList.drop k) = p) (hx : XAt w' xb s (k + p.1) (p.2 x)) (hB : Below xb wr w') :
    Rd w w' xb s R (k + p.1) (p.2 x) ∧ s.size - atOf w' xb < s.size - atOf wr xb := by
  have h1 := hf.le
  rw [List.length_drop] at h1
  have h1 : p.1 ≤ s.size - k := h1
  have h0 := hf.pos
  have h2 := hf.out x
  have h3 := h.out
  obtain ⟨n, hn, hR⟩ := h.run
  obtain ⟨n, rfl⟩ : ∃ j, n = j + 1 := ⟨n - 1, by omega⟩
  rw [setN_go n s k x hk, hp] at hR
  refine ⟨⟨hx, by omega, by omega, ⟨n, by omega, hR⟩, h.below.trans hB⟩, ?_⟩
  rw [atOf_eq hx, atOf_eq h.at_]
  omega
theorem span_snoc (c : UInt8) (m : Nat) (h : c.toNat ≤ m) : ((List.range (m + 1 - c.toNat)).map fun i => UInt8.ofNat (c.toNat + i)) = ((List.range (m - c.toNat)).map fun i => UInt8.ofNat (c.toNat + i)) ++ [UInt8.ofNat m] := by
  have e : m + 1 - c.toNat = (m - c.toNat) + 1 := by omega
  have e2 : c.toNat + (m - c.toNat) = m := by omega
  rw [e, List.range_succ, List.map_append, List.map_cons, List.map_nil, e2]
theorem below_new {w w' : World} {o : Obj} (h : Below w.heap.size (w.alloc o) w') : Below w.heap.size w w' := ((Below.refl w.heap.size w).alloc (Nat.le_refl _) o).trans h

set_option maxHeartbeats 8000000 in
set_option maxRecDepth 100000 in
theorem refSet_c (s : ByteArray) (w : World) (hs : s.size ≤ 2097152) :
    Calls Tryz.prog 8 #[.string s] w fun e w' => ∃ v, e = .returned (.tuple #[v, .int .i64 (setS s.data.toList).2.1, .bool (setS s.data.toList).2.2]) ∧ ByAt w' v (setS s.data.toList).1 ∧ Below w.heap.size w w' := by
  have HR := Lib.hid (show setS s.data.toList = setE (setN s.size (s.data.toList.drop 0) st0) by rw [List.drop_zero]; rfl)
  obtain ⟨R, hR⟩ : ∃ R, setN s.size (s.data.toList.drop 0) st0 = R := ⟨_, rfl⟩
  rw [hR] at HR
  generalize setS s.data.toList = SS at HR ⊢
  go_enter Tryz.func8, Tryz.ntmps8
  go_wp2_with fail
  obtain ⟨xb, hxb⟩ : ∃ xb, xb = w.heap.size := ⟨_, rfl⟩
  have HI0 : Hid (Rd (w.alloc (.cells #[.string s, .int .i64 0, .slice none 0 0, .int .i64 (-1), .bool false] 50)) (w.alloc (.cells #[.string s, .int .i64 0, .slice none 0 0, .int .i64 (-1), .bool false] 50)) xb s R 0 st0) :=
    ⟨⟨.slice none 0 0, (by subst hxb; show (w.heap.push _)[w.heap.size]? = _; simp [st0]), World.ownsRow_nil _ _ _ _⟩, by omega, by simp [st0], ⟨s.size, by omega, hR⟩, Below.refl _ _⟩
  have HB0 : Hid (∀ w', Below xb (w.alloc (.cells #[.string s, .int .i64 0, .slice none 0 0, .int .i64 (-1), .bool false] 50)) w' → Below w.heap.size w w') := fun w' h => below_new (hxb ▸ h)
  rw [← hxb]
  clear hR hxb
  generalize w.alloc (.cells #[.string s, .int .i64 0, .slice none 0 0, .int .i64 (-1), .bool false] 50) = W at HI0 HB0 ⊢
  generalize Value.agg #[.string s, .int .i64 0, .slice none 0 0, .int .i64 (-1), .bool false] = AG
  go_loopw [6] (fun _ wr => ∃ (k : Nat) (x : St), Hid (Rd W wr xb s R k x)) (fun _ wr => s.size - atOf wr xb)
  case atStart => exact ⟨0, st0, HI0⟩
  case round =>
    obtain ⟨k, x, HRd⟩ := hrel
    clear HI0
    by_cases hk : k < s.size
    · have hX := HRd.out.at_
      have hl := HRd.out.out
      have c1 : wr.cell? ⟨xb, 1, none⟩ = some (.int .i64 (k : Int)) := by obtain ⟨ov, hx, _⟩ := hX; exact h_cell hx 1 rfl
      have p0 : (k : Int) < (s.size : Int) := by omega
      have hcm := class_m xb k s x wr hs hk hl hX
      cases hC : classS (s.data.toList.drop k) with
      | some p =>
        rw [hC] at hcm
        have HF : Hid (∀ w', XAt w' xb s (k + p.1) (p.2 x) → Below xb wr w' → Rd W w' xb s R (k + p.1) (p.2 x) ∧ s.size - atOf w' xb < s.size - atOf wr xb) := fun w' hx hB => HRd.out.step hk (class_fits hC) (step_class hC) hx hB
        go_wp2_with (go_at_call 15; refine hcm.mono ?_; rintro e w1 ⟨⟨rfl, hX1⟩, hB1⟩)
        have hF := HF.out w1 hX1 hB1
        exact ⟨⟨_, _, hF.1⟩, hF.2⟩
      | none =>
        rw [hC] at hcm
        cases hE : equalS (s.data.toList.drop k) with
        | some p =>
          have HF : Hid (∀ w', XAt w' xb s (k + p.1) (p.2 x) → Below xb wr w' → Rd W w' xb s R (k + p.1) (p.2 x) ∧ s.size - atOf w' xb < s.size - atOf wr xb) := fun w' hx hB => HRd.out.step hk (equal_fits hE) (step_equal hC hE) hx hB
          go_wp2_with (first | (go_at_call 15; refine hcm.mono ?_; rintro e w1 ⟨⟨rfl, hX1⟩, hB1⟩; have hem := equal_m xb k s x w1 hs hk hl hX1; rw [hE] at hem) | (go_at_call 16; refine hem.mono ?_; rintro e w2 ⟨⟨rfl, hX2⟩, hB2⟩))
          have hF := HF.out w2 hX2 (hB1.trans hB2)
          exact ⟨⟨_, _, hF.1⟩, hF.2⟩
        | none =>
          cases hT : timesS (s.data.toList.drop k) with
          | some p =>
            have HF : Hid (∀ w', XAt w' xb s (k + p.1) (p.2 x) → Below xb wr w' → Rd W w' xb s R (k + p.1) (p.2 x) ∧ s.size - atOf w' xb < s.size - atOf wr xb) := fun w' hx hB => HRd.out.step hk (times_fits hT) (step_times hC hE hT) hx hB
            go_wp2_with (first | (go_at_call 15; refine hcm.mono ?_; rintro e w1 ⟨⟨rfl, hX1⟩, hB1⟩; have hem := equal_m xb k s x w1 hs hk hl hX1; rw [hE] at hem) | (go_at_call 16; refine hem.mono ?_; rintro e w2 ⟨⟨rfl, hX2⟩, hB2⟩; have htm := times_m xb k s x w2 hs hk hl hX2; rw [hT] at htm) | (go_at_call 17; refine htm.mono ?_; rintro e w3 ⟨⟨rfl, hX3⟩, hB3⟩))
            have hF := HF.out w3 hX3 ((hB1.trans hB2).trans hB3)
            exact ⟨⟨_, _, hF.1⟩, hF.2⟩
          | none =>
            have HSp := Lib.hid (step_plain hC hE hT)
            have HFt := Lib.hid (plain_fits (l := s.data.toList.drop k) (by rw [List.length_drop]; show 0 < s.size - k; omega))
            have hsl := sign_len (s := s.data.toList.drop k) (by rw [List.length_drop]; show 0 < s.size - k; omega)
            rw [List.length_drop] at hsl
            have hsl2 : (signS (s.data.toList.drop k)).2 ≤ s.size - k := hsl.2
            have hsl1 := hsl.1
            have hsg := fun u => sign_c s k u hs hk
            have HP := Lib.hid (show plainS (s.data.toList.drop k) = if ((s.data.toList.drop k).drop (signS (s.data.toList.drop k)).2)[0]? = some 45 ∧ 2 ≤ ((s.data.toList.drop k).drop (signS (s.data.toList.drop k)).2).length then ((signS (s.data.toList.drop k)).2 + 1 + (signS (((s.data.toList.drop k).drop (signS (s.data.toList.drop k)).2).drop 1)).2, fun x : St => { x with out := x.out ++ spanL (signS (s.data.toList.drop k)).1 (signS (((s.data.toList.drop k).drop (signS (s.data.toList.drop k)).2).drop 1)).1, bad := x.bad || decide ((signS (((s.data.toList.drop k).drop (signS (s.data.toList.drop k)).2).drop 1)).1.toNat < (signS (s.data.toList.drop k)).1.toNat) }) else ((signS (s.data.toList.drop k)).2, addS (signS (s.data.toList.drop k)).1) from rfl)
            generalize signS (s.data.toList.drop k) = P at HP hsl1 hsl2 hsg
            obtain ⟨c, n⟩ := P
            have hsg : ∀ u, Calls Tryz.prog 18 #[.string s, .int .i64 (k : Int)] u fun e w' => e = .returned (.tuple #[.int .u8 (c.toNat : Int), .int .i64 (n : Int)]) ∧ Below u.heap.size u w' := hsg
            simp only at hsl1 hsl2 HP
            rw [List.drop_drop, List.drop_drop, List.getElem?_drop, List.length_drop, Nat.add_zero, show s.data.toList.length = s.size from rfl] at HP
            clear hsl hX
            go_upto_region 11 with (first
              | (go_at_call 15; refine hcm.mono ?_; rintro e w1 ⟨⟨rfl, hX1⟩, hB1⟩; have hem := equal_m xb k s x w1 hs hk hl hX1; rw [hE] at hem; clear hcm)
              | (go_at_call 16; refine hem.mono ?_; rintro e w2 ⟨⟨rfl, hX2⟩, hB2⟩; have htm := times_m xb k s x w2 hs hk hl hX2; rw [hT] at htm; clear hem)
              | (go_at_call 17; refine htm.mono ?_; rintro e w3 ⟨⟨rfl, hX3⟩, hB3⟩; obtain ⟨ov, hx3, hO3⟩ := hX3; have HX3 : Hid (XsAt w3 xb s k ov x.rest x.bad ∧ Row w3 (xb + 1) ov x.out ∧ Below xb wr w3) := ⟨hx3, hO3, (hB1.trans hB2).trans hB3⟩; have f1 : w3.cell? ⟨xb, 1, none⟩ = some (.int .i64 (k : Int)) := h_cell hx3 1 rfl; clear htm hx3 hO3 hB1 hB2 hB3 hX1 hX2)
              | (go_at_call 18; refine (hsg _).mono ?_; rintro e w4 ⟨rfl, hB4⟩; have HX4 : Hid (XsAt w4 xb s k ov x.rest x.bad ∧ Row w4 (xb + 1) ov x.out ∧ Below xb wr w4) := ⟨HX3.out.1.turn hB4, row_turn HX3.out.2.1 hB4, HX3.out.2.2.trans (hB4.mono (Nat.le_of_lt (h_lt HX3.out.1)))⟩; have g1 : w4.cell? ⟨xb, 1, none⟩ = some (.int .i64 (k : Int)) := h_cell HX4.out.1 1 rfl; have gz := h_fz HX4.out.1 1; clear HX3 hB4 hsg f1))
            have HX5 : Hid (XsAt (w4.setCell ⟨xb, 1, none⟩ (.int .i64 ((k : Int) + n))) xb s (k + n) ov x.rest x.bad ∧ Row (w4.setCell ⟨xb, 1, none⟩ (.int .i64 ((k : Int) + n))) (xb + 1) ov x.out ∧ Below xb wr (w4.setCell ⟨xb, 1, none⟩ (.int .i64 ((k : Int) + n)))) := ⟨HX4.out.1.setAt (k + n), row_set HX4.out.2.1 1 _, below_set HX4.out.2.2 1 _⟩
            clear HX4 g1 gz
            generalize w4.setCell ⟨xb, 1, none⟩ (.int .i64 ((k : Int) + n)) = W5 at HX5 ⊢
            have q1 : W5.cell? ⟨xb, 1, none⟩ = some (.int .i64 ((k : Int) + n)) := h_cell HX5.out.1 1 rfl
            have q2 : W5.cell? ⟨xb, 2, none⟩ = some ov := h_cell HX5.out.1 2 rfl
            have qz := h_fz HX5.out.1 1
            have hcn := c.toNat_lt
            by_cases a1 : k + n + 1 < s.size ∧ ∃ h : k + n < s.size, s[k + n] = 45
            · obtain ⟨a1, a0, a2⟩ := a1
              have hsl := sign_len (s := s.data.toList.drop (k + n + 1)) (by rw [List.length_drop]; show 0 < s.size - (k + n + 1); omega)
              rw [List.length_drop] at hsl
              have hsm2 : (signS (s.data.toList.drop (k + n + 1))).2 ≤ s.size - (k + n + 1) := hsl.2
              have hsm1 := hsl.1
              have hsg2 := sign_c s (k + n + 1) W5 hs a1
              rw [by_at s (k + n) a0, if_pos ⟨by rw [a2], by omega⟩] at HP
              generalize signS (s.data.toList.drop (k + n + 1)) = P2 at HP hsm1 hsm2 hsg2
              obtain ⟨d, m⟩ := P2
              have hsg2 : Calls Tryz.prog 18 #[.string s, .int .i64 ((k : Int) + n + 1)] W5 fun e w' => e = .returned (.tuple #[.int .u8 (d.toNat : Int), .int .i64 (m : Int)]) ∧ Below W5.heap.size W5 w' := hsg2
              simp only at hsm1 hsm2 HP
              have e2 : ((s[k + n].toNat : Int) == 45) = true := u8_yes 45 (by omega) a2
              have p1 : (k : Int) + n + 1 < (s.size : Int) := by omega
              have hdn := d.toNat_lt
              have hkm : k + (n + 1 + m) = k + n + 1 + m := by omega
              have HF : Hid (∀ w', XAt w' xb s (k + n + 1 + m) ⟨x.out ++ ((List.range (d.toNat + 1 - c.toNat)).map fun j => UInt8.ofNat (c.toNat + j)), x.rest, x.bad || decide (d.toNat < c.toNat)⟩ → Below xb wr w' → Rd W w' xb s R (k + n + 1 + m) ⟨x.out ++ ((List.range (d.toNat + 1 - c.toNat)).map fun j => UInt8.ofNat (c.toNat + j)), x.rest, x.bad || decide (d.toNat < c.toNat)⟩ ∧ s.size - atOf w' xb < s.size - atOf wr xb) := fun w' hx hB => by
                have hq := HRd.out.step (p := plainS (s.data.toList.drop k)) hk HFt.out HSp.out (w' := w')
                rw [HP.out] at hq
                have hq2 := hq (by show XAt w' xb s (k + (n + 1 + m)) _; rw [hkm]; exact hx) hB
                rw [← hkm]
                exact hq2
              clear HP HFt HSp a2 hsl hkm HRd
              by_cases b1 : d.toNat < c.toNat
              · rw [decide_eq_true b1, Bool.or_true] at HF
                have p3 : (d.toNat : Int) < (c.toNat : Int) := by omega
                go_upto_region 16 with (go_at_call 18; refine hsg2.mono ?_; rintro e w6 ⟨rfl, hB6⟩; have HX6 : Hid (XsAt w6 xb s (k + n) ov x.rest x.bad ∧ Row w6 (xb + 1) ov x.out ∧ Below xb wr w6) := ⟨HX5.out.1.turn hB6, row_turn HX5.out.2.1 hB6, HX5.out.2.2.trans (hB6.mono (Nat.le_of_lt (h_lt HX5.out.1)))⟩; have g1 : w6.cell? ⟨xb, 1, none⟩ = some (.int .i64 ((k : Int) + n)) := h_cell HX6.out.1 1 rfl; have gz := h_fz HX6.out.1 1; have HX7 : Hid (XsAt (w6.setCell ⟨xb, 1, none⟩ (.int .i64 ((k : Int) + n + 1 + m))) xb s (k + n + 1 + m) ov x.rest x.bad ∧ Row (w6.setCell ⟨xb, 1, none⟩ (.int .i64 ((k : Int) + n + 1 + m))) (xb + 1) ov x.out ∧ Below xb wr (w6.setCell ⟨xb, 1, none⟩ (.int .i64 ((k : Int) + n + 1 + m)))) := ⟨HX6.out.1.setAt (k + n + 1 + m), row_set HX6.out.2.1 1 _, below_set HX6.out.2.2 1 _⟩; have j4 := h_cell HX7.out.1 4 rfl; have jz := h_fz HX7.out.1 4; have HX8 : Hid (XsAt ((w6.setCell ⟨xb, 1, none⟩ (.int .i64 ((k : Int) + n + 1 + m))).setCell ⟨xb, 4, none⟩ (.bool true)) xb s (k + n + 1 + m) ov x.rest true ∧ Row ((w6.setCell ⟨xb, 1, none⟩ (.int .i64 ((k : Int) + n + 1 + m))).setCell ⟨xb, 4, none⟩ (.bool true)) (xb + 1) ov x.out ∧ Below xb wr ((w6.setCell ⟨xb, 1, none⟩ (.int .i64 ((k : Int) + n + 1 + m))).setCell ⟨xb, 4, none⟩ (.bool true))) := ⟨HX7.out.1.setBad true, row_set HX7.out.2.1 4 _, below_set HX7.out.2.2 4 _⟩; clear HX6 HX5 hB6 hsg2 q1 q2 qz HX7)
                generalize (w6.setCell ⟨xb, 1, none⟩ (.int .i64 ((k : Int) + n + 1 + m))).setCell ⟨xb, 4, none⟩ (.bool true) = W8 at HX8 ⊢
                clear g1 gz j4 jz e2 p1 p3 a1
                go_wp2_with fail
                go_loopw [11] (fun iv wq => ∃ (i : Nat) (o2 : Value), c.toNat ≤ i ∧ i ≤ 256 ∧ iv = .int .i64 i ∧ (i ≤ d.toNat + 1 ∨ i = c.toNat) ∧ Hid (XsAt wq xb s (k + n + 1 + m) o2 x.rest true ∧ Row wq (xb + 1) o2 (x.out ++ (List.range (i - c.toNat)).map fun j => UInt8.ofNat (c.toNat + j)) ∧ Below xb wr wq)) (fun iv _ => 256 - (intOf iv).toNat)
                case atStart => exact ⟨c.toNat, _, by omega, by omega, rfl, .inr rfl, (show _ ∧ _ ∧ _ from ⟨HX8.out.1, by simpa using HX8.out.2.1, HX8.out.2.2⟩)⟩
                case round =>
                  obtain ⟨i, o2, hi1, hi2, rfl, hi3, HO⟩ := hrel
                  clear HX8
                  by_cases l1 : i ≤ d.toNat
                  · exfalso; omega
                  · have p7 : ¬ (i : Int) ≤ (d.toNat : Int) := by omega
                    have hie : i - c.toNat = d.toNat + 1 - c.toNat := by omega
                    rw [hie] at HO
                    clear hie
                    go_wp2_with fail
                    have hF := HF.out wr ⟨o2, HO.out.1, HO.out.2.1⟩ HO.out.2.2
                    exact ⟨⟨_, _, hF.1⟩, hF.2⟩
              · rw [decide_eq_false b1, Bool.or_false] at HF
                have p3 : ¬ (d.toNat : Int) < (c.toNat : Int) := by omega
                go_upto_region 16 with (go_at_call 18; refine hsg2.mono ?_; rintro e w6 ⟨rfl, hB6⟩; have HX6 : Hid (XsAt w6 xb s (k + n) ov x.rest x.bad ∧ Row w6 (xb + 1) ov x.out ∧ Below xb wr w6) := ⟨HX5.out.1.turn hB6, row_turn HX5.out.2.1 hB6, HX5.out.2.2.trans (hB6.mono (Nat.le_of_lt (h_lt HX5.out.1)))⟩; have g1 : w6.cell? ⟨xb, 1, none⟩ = some (.int .i64 ((k : Int) + n)) := h_cell HX6.out.1 1 rfl; have gz := h_fz HX6.out.1 1; have HX8 : Hid (XsAt (w6.setCell ⟨xb, 1, none⟩ (.int .i64 ((k : Int) + n + 1 + m))) xb s (k + n + 1 + m) ov x.rest x.bad ∧ Row (w6.setCell ⟨xb, 1, none⟩ (.int .i64 ((k : Int) + n + 1 + m))) (xb + 1) ov x.out ∧ Below xb wr (w6.setCell ⟨xb, 1, none⟩ (.int .i64 ((k : Int) + n + 1 + m)))) := ⟨HX6.out.1.setAt (k + n + 1 + m), row_set HX6.out.2.1 1 _, below_set HX6.out.2.2 1 _⟩; clear HX6 HX5 hB6 hsg2 q1 q2 qz)
                generalize w6.setCell ⟨xb, 1, none⟩ (.int .i64 ((k : Int) + n + 1 + m)) = W8 at HX8 ⊢
                clear g1 gz e2 p1 p3 a1
                go_wp2_with fail
                go_loopw [11] (fun iv wq => ∃ (i : Nat) (o2 : Value), c.toNat ≤ i ∧ i ≤ 256 ∧ iv = .int .i64 i ∧ (i ≤ d.toNat + 1 ∨ i = c.toNat) ∧ Hid (XsAt wq xb s (k + n + 1 + m) o2 x.rest x.bad ∧ Row wq (xb + 1) o2 (x.out ++ (List.range (i - c.toNat)).map fun j => UInt8.ofNat (c.toNat + j)) ∧ Below xb wr wq)) (fun iv _ => 256 - (intOf iv).toNat)
                case atStart => exact ⟨c.toNat, _, by omega, by omega, rfl, .inr rfl, (show _ ∧ _ ∧ _ from ⟨HX8.out.1, by simpa using HX8.out.2.1, HX8.out.2.2⟩)⟩
                case round =>
                  obtain ⟨i, o2, hi1, hi2, rfl, hi3, HO⟩ := hrel
                  clear HX8
                  by_cases l1 : i ≤ d.toNat
                  · have hlen : (x.out ++ (List.range (i - c.toNat)).map fun j => UInt8.ofNat (c.toNat + j)).length ≤ 65536 * k + 256 := by rw [List.length_append, List.length_map, List.length_range]; omega
                    have HL := Lib.hid (And.intro hlen hs)
                    have HSn := Lib.hid (show x.out ++ ((List.range (i + 1 - c.toNat)).map fun j => UInt8.ofNat (c.toNat + j)) = (x.out ++ (List.range (i - c.toNat)).map fun j => UInt8.ofNat (c.toNat + j)) ++ [UInt8.ofNat i] by rw [span_snoc c i hi1, List.append_assoc])
                    generalize (x.out ++ (List.range (i - c.toNat)).map fun j => UInt8.ofNat (c.toNat + j)) = L at HO HL HSn hlen
                    obtain ⟨i0, hi, hz0, hz1, hz2⟩ := info_parts2 info_u8
                    have f2 := h_cell HO.out.1 2 rfl
                    have p7 : (i : Int) ≤ (d.toNat : Int) := by omega
                    have i8 : (i : Int) ≤ 255 := by omega
                    have cv8 : IntKind.u8.wrap (i : Int) = (i : Int) := u8_wrap _ (by omega)
                    have hofn : ((UInt8.ofNat i).toNat : Int) = (i : Int) := by simp; omega
                    have hxl := h_lt HO.out.1
                    clear hlen
                    go_wp2_with (at_builtin; refine wpList_append_own _ rfl _ _ 23 rfl (xb + 1) 5 i0 (.int .u8 0) 1 1 Tryz.underlying23 hi hz0 hz1 hz2 rfl (by decide) _ _ _ rfl (row_al HO.out.2.1 _) ⟨wr.heap.size, 0, none⟩ 1 1 [.int .u8 (i : Int)] rfl rfl (cell_one_new _ _ _) (by simp [Value.oneCell']) (by unfold maxLen; have h := HL.out; omega) (by have h := HL.out; omega) (by have h := h_lt HO.out.1; simp; omega) ?_; intro v2 w9 hown2 hgrow2 _; obtain ⟨xa, ca, rfl⟩ := own_slice2 hown2; have hX9 := (HO.out.1.al _).grown (row_al HO.out.2.1 _) hgrow2; have f9 := h_cell hX9 2 rfl; have z9 := h_fz hX9 2)
                    rw [← hofn] at hown2
                    refine ⟨⟨i + 1, .slice xa (L.length + 1) ca, by omega, by omega, by go_num, .inl (by omega), ?_⟩, by simp [intOf]; omega⟩
                    rw [HSn.out]
                    exact x_app (HO.out.1.al _) (row_al HO.out.2.1 _) (below_al HO.out.2.2 hxl _) hgrow2 hown2
                  · have p7 : ¬ (i : Int) ≤ (d.toNat : Int) := by omega
                    have hie : i - c.toNat = d.toNat + 1 - c.toNat := by omega
                    rw [hie] at HO
                    clear hie
                    go_wp2_with fail
                    have hF := HF.out wr ⟨o2, HO.out.1, HO.out.2.1⟩ HO.out.2.2
                    exact ⟨⟨_, _, hF.1⟩, hF.2⟩
            · have HF : Hid (∀ w', XAt w' xb s (k + n) (addS c x) → Below xb wr w' → Rd W w' xb s R (k + n) (addS c x) ∧ s.size - atOf w' xb < s.size - atOf wr xb) := fun w' hx hB => by
                have hq := HRd.out.step (p := plainS (s.data.toList.drop k)) hk HFt.out HSp.out (w' := w')
                have hno : ¬ (s.data.toList[k + n]? = some 45 ∧ 2 ≤ s.size - (k + n)) := fun ⟨h1, h2⟩ => a1 ⟨by omega, by omega, by rw [by_at s (k + n) (by omega)] at h1; exact Option.some.inj h1⟩
                rw [HP.out, if_neg hno] at hq
                exact hq hx hB
              have hw : (k + n + 1 < s.size ∧ ∃ h : k + n < s.size, s[k + n] ≠ 45) ∨ ¬ k + n + 1 < s.size := by
                by_cases h : k + n + 1 < s.size
                · exact .inl ⟨h, by omega, fun e => a1 ⟨h, by omega, e⟩⟩
                · exact .inr h
              have HL := Lib.hid (And.intro hl (And.intro hs hk))
              obtain ⟨i0, hi, hz0, hz1, hz2⟩ := info_parts2 info_u8
              have hxl := h_lt HX5.out.1
              clear HP HFt HSp a1 HRd
              rcases hw with ⟨a1, a0, a2⟩ | a1
              · have e2 : ((s[k + n].toNat : Int) == 45) = false := u8_no 45 (by omega) a2
                have p1 : (k : Int) + n + 1 < (s.size : Int) := by omega
                clear a2
                go_wp2_with (at_builtin; refine wpList_append_own _ rfl _ _ 23 rfl (xb + 1) 5 i0 (.int .u8 0) 1 1 Tryz.underlying23 hi hz0 hz1 hz2 rfl (by decide) _ _ _ rfl (row_al HX5.out.2.1 _) ⟨W5.heap.size, 0, none⟩ 1 1 [.int .u8 (c.toNat : Int)] rfl rfl (cell_one_new _ _ _) (by simp [Value.oneCell']) (by unfold maxLen; have h := HL.out; omega) (by have h := HL.out; omega) (by have h := h_lt HX5.out.1; simp; omega) ?_; intro v2 w9 hown2 hgrow2 _; obtain ⟨xa, ca, rfl⟩ := own_slice2 hown2; have hX9 := (HX5.out.1.al _).grown (row_al HX5.out.2.1 _) hgrow2; have f9 := h_cell hX9 2 rfl; have z9 := h_fz hX9 2)
                have hA := x_app (HX5.out.1.al _) (row_al HX5.out.2.1 _) (below_al HX5.out.2.2 hxl _) hgrow2 hown2
                have hF := HF.out _ ⟨_, hA.1, hA.2.1⟩ hA.2.2
                exact ⟨⟨_, _, hF.1⟩, hF.2⟩
              · have p1 : ¬ (k : Int) + n + 1 < (s.size : Int) := by omega
                go_wp2_with (at_builtin; refine wpList_append_own _ rfl _ _ 23 rfl (xb + 1) 5 i0 (.int .u8 0) 1 1 Tryz.underlying23 hi hz0 hz1 hz2 rfl (by decide) _ _ _ rfl (row_al HX5.out.2.1 _) ⟨W5.heap.size, 0, none⟩ 1 1 [.int .u8 (c.toNat : Int)] rfl rfl (cell_one_new _ _ _) (by simp [Value.oneCell']) (by unfold maxLen; have h := HL.out; omega) (by have h := HL.out; omega) (by have h := h_lt HX5.out.1; simp; omega) ?_; intro v2 w9 hown2 hgrow2 _; obtain ⟨xa, ca, rfl⟩ := own_slice2 hown2; have hX9 := (HX5.out.1.al _).grown (row_al HX5.out.2.1 _) hgrow2; have f9 := h_cell hX9 2 rfl; have z9 := h_fz hX9 2)
                have hA := x_app (HX5.out.1.al _) (row_al HX5.out.2.1 _) (below_al HX5.out.2.2 hxl _) hgrow2 hown2
                have hF := HF.out _ ⟨_, hA.1, hA.2.1⟩ hA.2.2
                exact ⟨⟨_, _, hF.1⟩, hF.2⟩
    · obtain ⟨ov, hx, hO⟩ := HRd.out.at_
      have c1 : wr.cell? ⟨xb, 1, none⟩ = some (.int .i64 (k : Int)) := h_cell hx 1 rfl
      have c2 : wr.cell? ⟨xb, 2, none⟩ = some ov := h_cell hx 2 rfl
      have c3 : wr.cell? ⟨xb, 3, none⟩ = some (.int .i64 x.rest) := h_cell hx 3 rfl
      have c4 : wr.cell? ⟨xb, 4, none⟩ = some (.bool x.bad) := h_cell hx 4 rfl
      have HE : Hid (SS = setE x) := by
        obtain ⟨n, _, hn⟩ := HRd.out.run
        rw [setN_end n s k x (by omega)] at hn
        show SS = _
        rw [HR.out, hn]
      have HO := Lib.hid hO
      have p1 : ¬ (k : Int) < (s.size : Int) := by omega
      clear hx hO
      cases hb : x.bad with
      | true =>
        rw [hb] at c4
        have HE2 : Hid (SS = ([], -1, false)) := by show SS = _; rw [HE.out, setE, if_pos hb]
        clear HE
        go_wp2_with fail
        go_ret3
        rw [HE2.out]
        exact ⟨_, rfl, .inl ⟨rfl, rfl⟩, HB0.out _ HRd.out.below⟩
      | false =>
        rw [hb] at c4
        have HE2 : Hid (SS = (x.out, x.rest, true)) := by show SS = _; rw [HE.out, setE, if_neg (by rw [hb]; simp)]
        clear HE
        go_wp2_with fail
        go_quiet (fail)
        go_wp2_with fail
        go_ret3
        rw [HE2.out]
        exact ⟨_, rfl, row_by HO.out, HB0.out _ (HRd.out.below.trans below_drewN)⟩
end Go.Proofs.YtfkoehfkiommpaaGreatDoor.Tr

namespace Go.Proofs.YtfkoehfkiommpaaGreatDoor.Tr
open Go.Proofs.YtfkoehfkiommpaaGreatDoor.Op
open Go.RowKit

/-- The reader's own cells. -/
abbrev PsAt (w : World) (rb : Nat) (l : List UInt8) (ov : Value) (rest : Int) (cl : Bool) : Prop := w.heap[rb]? = some (.cells #[.string (sb l), ov, .int .i64 rest, .bool cl] 47)
def PAt (w : World) (rb : Nat) (l : List UInt8) (o : List UInt8) (rest : Int) (cl : Bool) : Prop := ∃ ov, PsAt w rb l ov rest cl ∧ Row w (rb + 1) ov o
section
variable {w w1 w2 : World} {rb : Nat} {l o : List UInt8} {ov : Value} {rest : Int} {cl : Bool}
theorem PsAt.grown (h : PsAt w1 rb l ov rest cl) (hO : Row w1 (rb + 1) ov o) (hg : w1.grownBy w2 ov.ownBlock) : PsAt w2 rb l ov rest cl := by
  refine (hg.block rb (h_lt h) fun e => ?_).trans h
  have := own_ge2 hO rb e.symm
  omega
theorem PsAt.turn (h : PsAt w rb l ov rest cl) (hB : Below w.heap.size w w1) : PsAt w1 rb l ov rest cl := (hB.block rb (h_lt h)).trans h
theorem PAt.turn (h : PAt w rb l o rest cl) (hB : Below w.heap.size w w1) : PAt w1 rb l o rest cl := let ⟨ov, h1, h2⟩ := h; ⟨ov, h1.turn hB, row_turn h2 hB⟩
theorem news_by {b off : Nat} {d : List UInt8} (h : ∀ j, j < d.length → w.cell? ⟨b, off + j, none⟩ = some (.int .u8 ((d[j]?.getD 0).toNat : Int))) : ∀ j u, (u8s d)[j]? = some u → w.cell? ((⟨b, off, none⟩ : Addr).add j) = some u := by
  intro j u hu
  have hj : j < d.length := by have := (List.getElem?_eq_some_iff.1 hu).1; simpa [u8s] using this
  rw [Addr.add_lit, h j hj, ← hu]
  simp [u8s, hj]
theorem u8s_one (l : List UInt8) : ∀ u ∈ u8s l, u.oneCell' = true := by
  intro u hu
  simp only [u8s, List.mem_map] at hu
  obtain ⟨s, _, rfl⟩ := hu
  rfl
set_option maxRecDepth 100000 in
set_option maxHeartbeats 2000000 in
theorem take_c (b : List UInt8) (v : Value) (d : List UInt8) (h : PAt w rb l o rest cl) (hv : ByAt w v d) (hd : d ≠ []) (ho : o.length ≤ 1099511627776) (hd2 : d.length ≤ 1099511627776) :
    Calls Tryz.prog 46 #[ptr rb, .string (sb b), v] w fun e w' => e = .returned (.int .i64 1) ∧ PAt w' rb b (o ++ d) rest cl ∧ Below rb w w' := by
  obtain ⟨i0, hi, hz0, hz1, hz2⟩ := info_parts2 info_u8
  obtain ⟨ov, h, hO⟩ := h
  obtain ⟨xa, ca, rfl⟩ := own_slice2 hO
  rcases hv with ⟨_, h0⟩ | ⟨vb, off, cap, rfl, hcap, hvb, hvc⟩
  · exact absurd h0 hd
  have c1 : w.cell? ⟨rb, 1, none⟩ = some (.slice xa o.length ca) := h_cell h 1 rfl
  have hrl := h_lt h
  have hdp := List.length_pos_iff.2 hd
  have HH := Lib.hid (And.intro h (And.intro hO hvc))
  clear h hO hvc hd
  go_enter Tryz.func46, Tryz.ntmps46
  go_wp2_with (at_builtin; refine wpList_append_own _ rfl _ _ 23 rfl (rb + 1) 5 i0 (.int .u8 0) 1 1 Tryz.underlying23 hi hz0 hz1 hz2 rfl (by decide) _ _ _ rfl HH.out.2.1 ⟨vb, off, none⟩ d.length cap (u8s d) rfl (by simp [u8s]) (news_by HH.out.2.2) (u8s_one d) (by unfold maxLen; omega) (by omega) (by omega) ?_; intro v2 w9 hown2 hgrow2 _; obtain ⟨xb, cb, rfl⟩ := own_slice2 hown2; have hX9 := HH.out.1.grown HH.out.2.1 hgrow2; have f9 := h_cell hX9 1 rfl; have z9 := h_fz hX9 1; have z0 := h_fz hX9 0; have f0 := h_cell hX9 0 rfl; have HX := Lib.hid (And.intro hX9 (And.intro hown2 hgrow2)); clear hX9 hown2 hgrow2)
  go_ret
  obtain ⟨hX9, hown2, hgrow2⟩ := HX.out
  have hR9 : Row w9 (rb + 1) (.slice xb (o.length + d.length) cb) (o ++ d) := by
    show w9.ownsRow _ _ _ _ _ _
    rw [List.length_append, show u8s (o ++ d) = u8s o ++ u8s d by simp [u8s]]
    exact hown2
  have hB9 : Below rb w w9 := (Below.refl rb w).grown hgrow2 (by omega) (fun j ej => by have := own_ge2 HH.out.2.1 j ej; omega)
  refine ⟨rfl, ⟨_, ?_, row_set (row_set hR9 1 _) 0 _⟩, below_set (below_set hB9 1 _) 0 _⟩
  simpa using h_set (h_set hX9 1 (.slice xb (o.length + d.length) cb)) 0 (.string (sb b))
/-- Only the reader has turned. -/
def Keep1 (w : World) (rb : Nat) (w' : World) : Prop := ∀ b, b < w.heap.size → b ≠ rb → w'.heap[b]? = w.heap[b]?
theorem keep1_of (h : Below w.heap.size w w1) : Keep1 w rb w1 := fun b hb _ => h.block b hb
theorem keep1_set {v : Value} {i : Nat} (h : Below w.heap.size w w1) : Keep1 w rb (w1.setCell ⟨rb, i, none⟩ v) := fun b hb hne => by
  rw [Below.heap_setCell _ _ _ _ (by simpa using fun e : b = rb => hne e)]
  exact h.block b hb
/-- What a form comes to. -/
def Took2 (w : World) (rb : Nat) (l o : List UInt8) (rest : Int) (r : Option (Nat × (St → St))) (e : Ending) (w' : World) : Prop :=
  Below rb w w' ∧ match r with
  | none => e = .returned (.int .i64 0) ∧ Keep1 w rb w' ∧ ∃ cl, PAt w' rb l o rest cl ∧ (cl = true → shutS (l.drop 2) = none)
  | some p => if (p.2 ⟨o, rest, false⟩).bad = true then e = .returned (.int .i64 2) else e = .returned (.int .i64 1) ∧ ∃ cl, PAt w' rb (l.drop p.1) (p.2 ⟨o, rest, false⟩).out (p.2 ⟨o, rest, false⟩).rest cl ∧ (cl = true → shutS (l.drop 2) = none)
theorem by_one (w : World) (c : UInt8) : ByAt (w.alloc (.cells #[.int .u8 (c.toNat : Int)] 5)) (.slice (some ⟨w.heap.size, 0, none⟩) 1 1) [c] := by
  refine .inr ⟨w.heap.size, 0, 1, rfl, by simp, by simp, fun j hj => ?_⟩
  have hj0 : j = 0 := by simpa using hj
  subst hj0
  have hh : (w.alloc (.cells #[.int .u8 (c.toNat : Int)] 5)).heap[w.heap.size]? = some (.cells #[.int .u8 (c.toNat : Int)] 5) := by show (w.heap.push _)[w.heap.size]? = _; simp
  exact h_cell hh 0 rfl
theorem PAt.al (h : PAt w rb l o rest cl) (o2 : Obj) : PAt (w.alloc o2) rb l o rest cl := h.turn ((Below.refl _ w).alloc (Nat.le_refl _) _)
theorem PAt.lt (h : PAt w rb l o rest cl) : rb < w.heap.size := let ⟨_, h1, _⟩ := h; h_lt h1
/-- One byte is taken. -/
theorem take1_c (b : List UInt8) (c : UInt8) (h : PAt w rb l o rest cl) (ho : o.length ≤ 1099511627776) :
    Calls Tryz.prog 46 #[ptr rb, .string (sb b), .slice (some ⟨w.heap.size, 0, none⟩) 1 1] (w.alloc (.cells #[.int .u8 (c.toNat : Int)] 5)) fun e w' => e = .returned (.int .i64 1) ∧ PAt w' rb b (o ++ [c]) rest cl ∧ Below rb w w' :=
  (take_c b _ [c] (h.al _) (by_one w c) (by simp) ho (by simp)).mono fun e w' ⟨h1, h2, h3⟩ => ⟨h1, h2, ((Below.refl rb w).alloc (Nat.le_of_lt h.lt) _).trans h3⟩
set_option maxRecDepth 100000 in
set_option maxHeartbeats 2000000 in
theorem single_c (h : PAt w rb l o rest cl) (hcl : cl = true → shutS (l.drop 2) = none) (h0 : l ≠ []) (hl : l.length ≤ 2097152) (ho : o.length ≤ 1099511627776) :
    Calls Tryz.prog 27 #[ptr rb] w (Took2 w rb l o rest (some ((signS l).2, addS (signS l).1))) := by
  have hs := cutSign_c l w hl h0
  have c0 : w.cell? ⟨rb, 0, none⟩ = some (.string (sb l)) := by obtain ⟨ov, h1, _⟩ := h; exact h_cell h1 0 rfl
  have HH := Lib.hid (And.intro h hcl)
  have hrl := h.lt
  have HC : Hid (∀ (w' : World) (e : Ending), e = .returned (.int .i64 1) → PAt w' rb (l.drop (signS l).2) (o ++ [(signS l).1]) rest cl → Below rb w w' → Took2 w rb l o rest (some ((signS l).2, addS (signS l).1)) e w') := by
    intro w' e he hp hb
    exact ⟨hb, by simp only [addS]; exact ⟨he, cl, hp, hcl⟩⟩
  clear h hcl
  generalize Took2 w rb l o rest (some ((signS l).2, addS (signS l).1)) = T at HC ⊢
  generalize (signS l).1 = c at *
  generalize l.drop (signS l).2 = b at *
  go_enter Tryz.func27, Tryz.ntmps27
  go_wp2_with (first
    | (go_at_call 48; refine hs.mono ?_; rintro e w1 ⟨rfl, hB1⟩; have htk := take1_c b c (HH.out.1.turn hB1) ho; have HB1 := Lib.hid hB1; clear hB1 hs)
    | (go_at_call 46; refine htk.mono ?_; rintro e w2 ⟨rfl, hp2, hB2⟩))
  exact HC.out _ _ rfl hp2 ((HB1.out.mono (Nat.le_of_lt hrl)).trans hB2)
end
end Go.Proofs.YtfkoehfkiommpaaGreatDoor.Tr
