/- A line's fields without a byte between them, by the reference. -/
import Derived.Test.YtdgnbcbcfgfkmaaDoorQFlds
namespace Go.Proofs.YtdgnbcbcfgfkmaaDoor
open Go.RowKit

theorem skipN_step (d : List UInt8) (k : Nat) (h : k < d.length) (hb : isBl d[k] = false) : k + skipN (d.drop k) = (k + 1) + skipN (d.drop (k + 1)) := by
  rw [List.drop_eq_getElem_cons h]
  unfold skipN
  rw [List.takeWhile_cons, if_pos (by unfold notBl; rw [hb]; rfl), List.length_cons]; omega
theorem skipN_stop (d : List UInt8) (k : Nat) (h : k < d.length) (hb : isBl d[k] = true) : k + skipN (d.drop k) = k := by
  rw [List.drop_eq_getElem_cons h]
  unfold skipN
  rw [List.takeWhile_cons, if_neg (by unfold notBl; rw [hb]; simp)]; simp
theorem fldLen_pos (x : UInt8) (r : List UInt8) : 1 ≤ fldLen (x :: r) := by
  unfold fldLen skipB
  rw [List.takeWhile_cons]
  cases hx : isBl x with
  | true => rw [if_pos rfl]; simp; omega
  | false =>
    rw [if_neg (by simp)]
    unfold skipN
    simp [notBl, hx]
theorem fldLen_at (d : List UInt8) (k : Nat) : k + fldLen (d.drop k) = (k + skipB (d.drop k)) + skipN (d.drop (k + skipB (d.drop k))) := by
  unfold fldLen
  rw [List.drop_drop]
  omega
theorem fldsB_step (d : List UInt8) (k f : Nat) (h : k < d.length) : fldsB (f + 1) (d.drop k) k = (k, k + fldLen (d.drop k)) :: fldsB f (d.drop (k + fldLen (d.drop k))) (k + fldLen (d.drop k)) := by
  have e := List.drop_eq_getElem_cons h
  rw [e, fldsB, ← e, List.drop_drop]
theorem fldsB_len : ∀ (f : Nat) (s : List UInt8) (i : Nat), (fldsB f s i).length ≤ f
  | 0, _, _ => by simp [fldsB]
  | f + 1, [], _ => by simp [fldsB]
  | f + 1, x :: r, i => by
    rw [fldsB, List.length_cons]
    have := fldsB_len f ((x :: r).drop (fldLen (x :: r))) (i + fldLen (x :: r))
    omega
theorem fldsB_nil (f i : Nat) : fldsB f [] i = [] := by cases f <;> rfl

set_option maxHeartbeats 4000000 in
set_option maxRecDepth 100000 in
theorem fields_bl (p b off cap : Nat) (d : List UInt8) (w : World) (hd : d.length ≤ 2097152) (h0 : 0 < d.length) (hb : b < w.heap.size) (hc : ∀ j (hj : j < d.length), w.cell? ⟨b, off + j, none⟩ = some (.int .u8 ((d[j]).toNat : Int))) (hp : w.cell? ⟨p, 7, none⟩ = some (.int .i64 (-1))) :
    Calls Tryd.prog 42 #[.pointer (some ⟨p, 0, none⟩), .slice (some ⟨b, off, none⟩) d.length cap] w fun e w' => ∃ fv, e = .returned fv ∧ FlAt w' w.heap.size fv (fieldsS none d) ∧ Below w.heap.size w w' := by
  obtain ⟨i0, hi, hz0, hz1, hz2⟩ := info_parts2 info_fl
  have hne : d ≠ [] := fun e => by rw [e] at h0; simp at h0
  have HR := Lib.hid (show fieldsS none d = [] ++ fldsB d.length (d.drop 0) 0 from by unfold fieldsS; simp only; rw [if_neg hne]; rfl)
  have hFl := fldsB_len d.length d 0
  rw [show fldsB d.length d 0 = fieldsS none d from by unfold fieldsS; simp only; rw [if_neg hne]] at hFl
  generalize fieldsS none d = R at HR hFl ⊢
  have HC := Lib.hid hc
  clear hc hne
  generalize hn : d.length = n at hd h0 hFl HR ⊢
  have HN := Lib.hid hn
  clear hn
  have en : ((n : Int) == 0) = false := by rw [beq_eq_false_iff_ne]; omega
  go_enter Tryd.func42, Tryd.ntmps42
  go_wp2_with fail
  go_loopw [5, 8] (fun ov iv wr => ∃ (k f : Nat) (L : List (Nat × Nat)), k ≤ n ∧ iv = .int .i64 k ∧ n ≤ k + f ∧ L.length ≤ n ∧ Hid (R = L ++ fldsB f (d.drop k) k) ∧ Hid (FlAt wr w.heap.size ov L) ∧ Below w.heap.size w wr) (fun _ iv _ => n - (intOf iv).toNat)
  case atStart => exact ⟨0, n, [], by omega, rfl, by omega, by simp, HR, World.ownsRow_nil _ _ _ _, Below.refl _ _⟩
  case round =>
    obtain ⟨k, f, L, hk, rfl, hf, hL, HI, HO, hbl⟩ := hrel
    have HCr : Hid (∀ j (hj : j < d.length), wr.cell? ⟨b, off + j, none⟩ = some (.int .u8 ((d[j]).toNat : Int))) := fun j hj => (hbl.cell (p := ⟨b, off + j, none⟩) hb).trans (HC.out j hj)
    by_cases hlt : k < n
    · have hkd : k < d.length := by rw [HN.out]; exact hlt
      obtain ⟨f, rfl⟩ : ∃ g, f = g + 1 := ⟨f - 1, by omega⟩
      have HJ := HI.out
      rw [fldsB_step d k f hkd] at HJ
      have hL2 : L.length + 1 ≤ n := by have := congrArg List.length HJ; simp at this; omega
      have hpos : 1 ≤ fldLen (d.drop k) := by rw [List.drop_eq_getElem_cons hkd]; exact fldLen_pos _ _
      have HJ' : Hid (R = (L ++ [(k, k + fldLen (d.drop k))]) ++ fldsB f (d.drop (k + fldLen (d.drop k))) (k + fldLen (d.drop k))) := by show R = _; rw [HJ, List.append_assoc]; rfl
      have HE := Lib.hid (fldLen_at d k)
      have hEk : k + 1 ≤ k + fldLen (d.drop k) := by omega
      have hEn : k + fldLen (d.drop k) ≤ n := by
        have h1 := takeWhile_le isBl (d.drop k)
        have h2 := takeWhile_le notBl ((d.drop k).drop (skipB (d.drop k)))
        have hn := HN.out
        unfold fldLen skipN
        unfold skipB at *
        simp only [List.length_drop] at h1 h2
        omega
      generalize k + fldLen (d.drop k) = E at HJ' HE hEk hEn
      clear HI HJ hpos
      go_wp2_with fail
      go_loop [8] (fun i => ∃ j : Nat, k ≤ j ∧ j ≤ n ∧ i = .int .i64 j ∧ Hid (k + skipB (d.drop k) = j + skipB (d.drop j))) (fun i => n - (intOf i).toNat)
      case atStart => exact ⟨k, by omega, by omega, rfl, (show _ = _ from rfl)⟩
      case round =>
        obtain ⟨j, hj0, hj, rfl, HB4⟩ := hrel
        have hgo : (j < n ∧ ∃ h : j < d.length, isBl d[j] = true) ∨ (Hid (k + skipB (d.drop k) = j) ∧ (j < n → ∃ h : j < d.length, isBl d[j] = false)) := by
          by_cases hjn : j < n
          · have hjd : j < d.length := by rw [HN.out]; exact hjn
            cases hbj : isBl d[j] with
            | true => exact .inl ⟨hjn, hjd, hbj⟩
            | false => exact .inr ⟨HB4.out.trans (skipB_stop d j hjd hbj), fun _ => ⟨hjd, hbj⟩⟩
          · exact .inr ⟨by show _ = _; rw [HB4.out, List.drop_eq_nil_of_le (by rw [HN.out]; omega)]; rfl, fun h => absurd h hjn⟩
        rcases hgo with ⟨hjn, hjd, hbj⟩ | ⟨HS, hst⟩
        · have hcx := HCr.out j hjd
          have HK : Hid (k + skipB (d.drop k) = (j + 1) + skipB (d.drop (j + 1))) := by show _ = _; rw [HB4.out]; exact skipB_step d j hjd hbj
          have hy := blN_yes hbj
          clear HB4 hbj
          generalize d[j] = y at *
          rcases hy with n1 | ⟨n1, n2⟩
          · have e1 : ((y.toNat : Int) == 32) = true := by rw [n1]; rfl
            go_wp2_with fail
            exact ⟨⟨j + 1, by omega, by omega, by go_num, HK⟩, by simp [intOf]; omega⟩
          · have e1 : ((y.toNat : Int) == 32) = false := by rw [n2]; rfl
            have e2 : ((y.toNat : Int) == 9) = true := by rw [n2]; rfl
            go_wp2_with fail
            exact ⟨⟨j + 1, by omega, by omega, by go_num, HK⟩, by simp [intOf]; omega⟩
        · clear HB4
          have HE2 : Hid (E = j + skipN (d.drop j)) := by show E = _; rw [HE.out, HS.out]
          clear HE HS
          have hw : (j < n ∧ ∃ y : UInt8, (¬ y.toNat = 32 ∧ ¬ y.toNat = 9) ∧ (((y.toNat : Int) == 32) = false ∧ ((y.toNat : Int) == 9) = false) ∧ wr.cell? ⟨b, off + j, none⟩ = some (.int .u8 (y.toNat : Int))) ∨ ¬ j < n := by
            by_cases hjn : j < n
            · obtain ⟨hjd, hbj⟩ := hst hjn
              exact .inl ⟨hjn, d[j], blN_no hbj, isBl_no hbj, HCr.out j hjd⟩
            · exact .inr hjn
          clear hst
          rcases hw with ⟨hjn, y, ⟨n1, n2⟩, ⟨e1, e2⟩, hcx⟩ | hjn
          all_goals
            go_wp2_with fail
            go_loop [8] (fun i => ∃ q : Nat, j ≤ q ∧ q ≤ n ∧ i = .int .i64 q ∧ Hid (E = q + skipN (d.drop q))) (fun i => n - (intOf i).toNat)
            case atStart => exact ⟨j, by omega, by omega, rfl, HE2⟩
            case round =>
              obtain ⟨q, hq0, hq, rfl, HB6⟩ := hrel
              clear HE2
              have hgo : (q < n ∧ ∃ h : q < d.length, isBl d[q] = false) ∨ (Hid (E = q) ∧ (q < n → ∃ h : q < d.length, isBl d[q] = true)) := by
                by_cases hqn : q < n
                · have hqd : q < d.length := by rw [HN.out]; exact hqn
                  cases hbq : isBl d[q] with
                  | false => exact .inl ⟨hqn, hqd, hbq⟩
                  | true => exact .inr ⟨HB6.out.trans (skipN_stop d q hqd hbq), fun _ => ⟨hqd, hbq⟩⟩
                · exact .inr ⟨by show _ = _; rw [HB6.out, List.drop_eq_nil_of_le (by rw [HN.out]; omega)]; rfl, fun h => absurd h hqn⟩
              rcases hgo with ⟨hqn, hqd, hbq⟩ | ⟨HS6, hst6⟩
              · have hcq := HCr.out q hqd
                have HK : Hid (E = (q + 1) + skipN (d.drop (q + 1))) := by show _ = _; rw [HB6.out]; exact skipN_step d q hqd hbq
                obtain ⟨m1, m2⟩ := blN_no hbq
                obtain ⟨g1, g2⟩ := isBl_no hbq
                clear HB6 hbq
                generalize d[q] = z at *
                have q1 : ((z.toNat : Int) != 32) = true := by rw [bne, g1]; rfl
                have q2 : ((z.toNat : Int) != 9) = true := by rw [bne, g2]; rfl
                go_wp2_with fail
                exact ⟨⟨q + 1, by omega, by omega, by go_num, HK⟩, by simp [intOf]; omega⟩
              · clear HB6
                have hEq : E = q := HS6.out
                have hw6 : (q < n ∧ ∃ z : UInt8, (z.toNat = 32 ∨ (¬ z.toNat = 32 ∧ z.toNat = 9)) ∧ wr.cell? ⟨b, off + q, none⟩ = some (.int .u8 (z.toNat : Int))) ∨ ¬ q < n := by
                  by_cases hqn : q < n
                  · obtain ⟨hqd, hbq⟩ := hst6 hqn
                    exact .inl ⟨hqn, d[q], blN_yes hbq, HCr.out q hqd⟩
                  · exact .inr hqn
                subst hEq
                clear hst6 HS6
                rcases hw6 with ⟨hqn, z, m1 | ⟨m1, m2⟩, hcq⟩ | hqn
                · first
                  | (exfalso; omega)
                  | (have g1 : ((z.toNat : Int) != 32) = false := by rw [m1]; rfl
                     go_wp2_with (first | (at_builtin; refine wpList_append_own _ rfl _ _ 88 rfl w.heap.size 90 i0 (.agg #[.int .i64 0, .int .i64 0]) 2 16 Tryd.underlying88 hi hz0 hz1 hz2 rfl (by decide) _ _ _ rfl (HO.out.alloc _) ⟨wr.heap.size, 0, none⟩ 1 1 [.int .i64 (k : Int), .int .i64 (E : Int)] rfl rfl (cell_two_new _ _ _ _) (by simp [Value.oneCell']) (by unfold maxLen; omega) (by omega) (by have := hbl.size; simp; omega) ?_; intro v2 w2 hown2 hgrow2 _))
                     have hbw2 : Below w.heap.size w w2 := (hbl.alloc hbl.size _).grown hgrow2 (by have := hbl.size; simp; omega) (fun j ej => own_ge2 HO.out j ej)
                     exact ⟨⟨E, f, L ++ [(k, E)], by omega, rfl, by omega, by simp; omega, HJ', fl_snoc hown2, hbw2⟩, by simp [intOf]; omega⟩)
                · first
                  | (exfalso; omega)
                  | (have g1 : ((z.toNat : Int) != 32) = true := by rw [m2]; rfl
                     have g2 : ((z.toNat : Int) != 9) = false := by rw [m2]; rfl
                     go_wp2_with (first | (at_builtin; refine wpList_append_own _ rfl _ _ 88 rfl w.heap.size 90 i0 (.agg #[.int .i64 0, .int .i64 0]) 2 16 Tryd.underlying88 hi hz0 hz1 hz2 rfl (by decide) _ _ _ rfl (HO.out.alloc _) ⟨wr.heap.size, 0, none⟩ 1 1 [.int .i64 (k : Int), .int .i64 (E : Int)] rfl rfl (cell_two_new _ _ _ _) (by simp [Value.oneCell']) (by unfold maxLen; omega) (by omega) (by have := hbl.size; simp; omega) ?_; intro v2 w2 hown2 hgrow2 _))
                     have hbw2 : Below w.heap.size w w2 := (hbl.alloc hbl.size _).grown hgrow2 (by have := hbl.size; simp; omega) (fun j ej => own_ge2 HO.out j ej)
                     exact ⟨⟨E, f, L ++ [(k, E)], by omega, rfl, by omega, by simp; omega, HJ', fl_snoc hown2, hbw2⟩, by simp [intOf]; omega⟩)
                · go_wp2_with (first | (at_builtin; refine wpList_append_own _ rfl _ _ 88 rfl w.heap.size 90 i0 (.agg #[.int .i64 0, .int .i64 0]) 2 16 Tryd.underlying88 hi hz0 hz1 hz2 rfl (by decide) _ _ _ rfl (HO.out.alloc _) ⟨wr.heap.size, 0, none⟩ 1 1 [.int .i64 (k : Int), .int .i64 (E : Int)] rfl rfl (cell_two_new _ _ _ _) (by simp [Value.oneCell']) (by unfold maxLen; omega) (by omega) (by have := hbl.size; simp; omega) ?_; intro v2 w2 hown2 hgrow2 _))
                  have hbw2 : Below w.heap.size w w2 := (hbl.alloc hbl.size _).grown hgrow2 (by have := hbl.size; simp; omega) (fun j ej => own_ge2 HO.out j ej)
                  exact ⟨⟨E, f, L ++ [(k, E)], by omega, rfl, by omega, by simp; omega, HJ', fl_snoc hown2, hbw2⟩, by simp [intOf]; omega⟩
    · have hend : Hid (R = L) := by
        show R = L
        rw [HI.out, List.drop_eq_nil_of_le (by rw [HN.out]; omega), fldsB_nil, List.append_nil]
      clear HI
      go_wp2_with fail
      go_ret
      exact ⟨_, rfl, by rw [hend.out]; exact HO.out, hbl⟩
set_option maxHeartbeats 1000000 in
set_option maxRecDepth 100000 in
theorem fields_no (p : Nat) (x : Option Addr) (cap : Nat) (w : World) (hp : w.cell? ⟨p, 7, none⟩ = some (.int .i64 (-1))) :
    Calls Tryd.prog 42 #[.pointer (some ⟨p, 0, none⟩), .slice x 0 cap] w fun e w' => ∃ fv, e = .returned fv ∧ FlAt w' w.heap.size fv [(0, 0)] ∧ Below w.heap.size w w' := by
  go_enter Tryd.func42, Tryd.ntmps42
  go_wp2_with fail
  go_ret
  refine ⟨_, rfl, ⟨rfl, .inr ⟨w.heap.size, 1, #[.int .i64 0, .int .i64 0], rfl, Nat.le_refl _, ?_, by decide, by decide, rfl, rfl⟩⟩, (Below.refl w.heap.size w).alloc (Nat.le_refl _) _⟩
  show (w.heap.push _)[w.heap.size]? = _
  simp
theorem fields_c2 (p : Nat) (sep : Option UInt8) (v : Value) (d : List UInt8) (w : World) (hd : d.length ≤ 2097152) (hp : w.cell? ⟨p, 7, none⟩ = some (.int .i64 (sepI sep))) (hB : ByAt w v d) :
    Calls Tryd.prog 42 #[.pointer (some ⟨p, 0, none⟩), v] w fun e w' => ∃ fv, e = .returned fv ∧ FlAt w' w.heap.size fv (fieldsS sep d) ∧ Below w.heap.size w w' := by
  cases sep with
  | some c => exact fields_sep p c v d w hd hp hB
  | none =>
    rcases hB with ⟨rfl, rfl⟩ | ⟨b, off, cap, rfl, h2, h3, h4⟩
    · exact fields_no p none 0 w hp
    · cases d with
      | nil => exact fields_no p _ cap w hp
      | cons y r => exact fields_bl p b off cap (y :: r) w hd (by simp) h3 (fun j hj => by rw [h4 j hj, List.getElem?_eq_getElem hj]; rfl) hp
theorem fldsC_ok (c : UInt8) : ∀ (s : List UInt8) (b i : Nat), b ≤ i → ∀ f ∈ fldsC c s b i, f.1 ≤ f.2 ∧ f.2 ≤ i + s.length
  | [], b, i, h, f, hf => by simp [fldsC] at hf; subst hf; simp; exact h
  | x :: r, b, i, h, f, hf => by
    rw [fldsC] at hf
    split at hf
    · rcases List.mem_cons.1 hf with rfl | hf
      · simp; exact h
      · have := fldsC_ok c r (i + 1) (i + 1) (Nat.le_refl _) f hf; simp; omega
    · have := fldsC_ok c r b (i + 1) (by omega) f hf; simp; omega
theorem fldLen_le (s : List UInt8) : fldLen s ≤ s.length := by
  have h1 := takeWhile_le isBl s
  have h2 := takeWhile_le notBl (s.drop (skipB s))
  unfold fldLen skipN
  unfold skipB at *
  rw [List.length_drop] at h2
  omega
theorem fldsB_ok : ∀ (n : Nat) (s : List UInt8) (i : Nat), ∀ f ∈ fldsB n s i, f.1 ≤ f.2 ∧ f.2 ≤ i + s.length
  | 0, _, _, f, hf => by simp [fldsB] at hf
  | _ + 1, [], _, f, hf => by simp [fldsB] at hf
  | n + 1, x :: r, i, f, hf => by
    rw [fldsB] at hf
    have hl := fldLen_le (x :: r)
    rcases List.mem_cons.1 hf with rfl | hf
    · exact ⟨Nat.le_add_right _ _, by omega⟩
    · have := fldsB_ok n _ _ f hf
      rw [List.length_drop] at this
      omega
theorem fieldsS_ok (sep : Option UInt8) (d : List UInt8) : ∀ f ∈ fieldsS sep d, f.1 ≤ f.2 ∧ f.2 ≤ d.length := by
  intro f hf
  cases sep with
  | some c => have := fldsC_ok c d 0 0 (Nat.le_refl _) f hf; omega
  | none =>
    simp only [fieldsS] at hf
    split at hf
    · simp at hf; subst hf; simp
    · have := fldsB_ok _ _ _ f hf; omega
theorem fieldsS_len (sep : Option UInt8) (d : List UInt8) : (fieldsS sep d).length ≤ d.length + 1 := by
  cases sep with
  | some c => exact fldsC_len c d 0 0
  | none =>
    simp only [fieldsS]
    split
    · simp
    · have := fldsB_len d.length d 0; omega
end Go.Proofs.YtdgnbcbcfgfkmaaDoor
