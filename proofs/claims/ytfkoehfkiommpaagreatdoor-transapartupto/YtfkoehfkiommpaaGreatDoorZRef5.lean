/- The reference of strings: a sign so many times. -/
import Derived.Test.YtfkoehfkiommpaaGreatDoorZSet2
import Derived.Deep.Cut
namespace Go.Proofs.YtfkoehfkiommpaaGreatDoor.Tr
open Go.Proofs.YtfkoehfkiommpaaGreatDoor.Op
open Go.RowKit

theorem times_not {s : List UInt8} (h : s.length ≤ 1 ∨ s[0]? ≠ some 91) : timesS s = none := by
  rcases s with _ | ⟨a, _ | ⟨b, r⟩⟩
  · rfl
  · rfl
  · rw [timesS, if_neg]
    rintro ⟨rfl, _⟩
    rcases h with h | h
    · simp at h
    · simp at h
theorem times_at {s t : List UInt8} (h : s = 91 :: t) (ht : 0 < t.length) : timesS s = if (t.drop (signS t).2)[0]? = some 42 then
      (if ((t.drop ((signS t).2 + 1)).drop ((t.drop ((signS t).2 + 1)).takeWhile isDec).length)[0]? = some 93 then some ((signS t).2 + ((t.drop ((signS t).2 + 1)).takeWhile isDec).length + 3, timesX (signS t).1 (manyS ((t.drop ((signS t).2 + 1)).takeWhile isDec))) else none) else none := by
  subst h
  rcases t with _ | ⟨d, r⟩
  · simp at ht
  · rw [timesS]
    by_cases hc : ((d :: r).drop (signS (d :: r)).2)[0]? = some 42
    · rw [if_pos hc, if_pos ⟨rfl, hc⟩]
    · rw [if_neg hc, if_neg (fun h => hc h.2)]
/-- How many digits there are from a place on. -/
def digN (l : List UInt8) : Nat := (l.takeWhile isDec).length
theorem digN_go (s : ByteArray) (m : Nat) (h : m < s.size) (hd : isDec s[m] = true) : m + digN (s.data.toList.drop m) = (m + 1) + digN (s.data.toList.drop (m + 1)) := by
  rw [by_drop s m h]
  unfold digN
  rw [List.takeWhile_cons, if_pos hd, List.length_cons]; omega
theorem digN_stop (s : ByteArray) (m : Nat) (h : m < s.size) (hd : isDec s[m] = false) : m + digN (s.data.toList.drop m) = m := by
  rw [by_drop s m h]
  unfold digN
  rw [List.takeWhile_cons, if_neg (by rw [hd]; simp)]; rfl
theorem digN_end (s : ByteArray) (m : Nat) (h : s.size ≤ m) : m + digN (s.data.toList.drop m) = m := by
  rw [by_drop_end s m h]; rfl
theorem isDec_yes {c : UInt8} (h : isDec c = true) : 48 ≤ c.toNat ∧ c.toNat ≤ 57 := of_decide_eq_true h
theorem isDec_no {c : UInt8} (h : isDec c = false) : c.toNat < 48 ∨ (48 ≤ c.toNat ∧ 57 < c.toNat) := by
  have := of_decide_eq_false h
  omega
theorem take_takeWhile (p : UInt8 → Bool) : ∀ (l : List UInt8), l.take (l.takeWhile p).length = l.takeWhile p
  | [] => rfl
  | c :: r => by
    rw [List.takeWhile_cons]
    split
    · rw [List.length_cons, List.take_succ_cons, take_takeWhile p r]
    · rfl
theorem take_dig (s : ByteArray) (a m : Nat) (h : a + digN (s.data.toList.drop a) = m) : (s.extract a m).data.toList = (s.data.toList.drop a).takeWhile isDec := by
  rw [ext_list, ← h, Nat.add_sub_cancel_left]
  exact take_takeWhile _ _

theorem drop_two (L : List UInt8) (k n : Nat) : (L.drop (k + 1)).drop (n + 1) = L.drop (k + n + 2) := by rw [List.drop_drop]; congr 1; omega
theorem rd_nn (b most : Int) (hb : 0 ≤ b) : ∀ (l : List UInt8) (n : Int), 0 ≤ n → 0 ≤ (rd b most l n).1
  | [], n, h => by rw [rd]; exact h
  | c :: r, n, h => by
    rw [rd]
    split
    · simp
    · rename_i hc
      refine rd_nn b most hb r _ ?_
      have : 0 ≤ n * b := Int.mul_nonneg h hb
      omega
theorem many_nn (d : List UInt8) : 0 ≤ (manyS d).1 := by
  unfold manyS
  split
  · simp
  · split <;> (unfold rdAll; split <;> first | exact Int.le_refl 0 | exact rd_nn _ _ (by omega) _ _ (by omega))
theorem many_nil {d : ByteArray} (h : d.size = 0) : manyS d.data.toList = (0, true) := by
  have : d.data.toList = [] := List.length_eq_zero_iff.1 h
  rw [this]; rfl
theorem many_oct {d : ByteArray} (h : 0 < d.size) (h0 : d[0] = 48) : manyS d.data.toList = rdAll 8 2147483647 d.data.toList := by
  have e := by_drop d 0 h
  rw [List.drop_zero] at e
  unfold manyS
  rw [if_neg (by rw [e]; simp), if_pos (by rw [e, h0]; rfl)]
theorem many_dec {d : ByteArray} (h : 0 < d.size) (h0 : d[0] ≠ 48) : manyS d.data.toList = rdAll 10 2147483647 d.data.toList := by
  have e := by_drop d 0 h
  rw [List.drop_zero] at e
  unfold manyS
  rw [if_neg (by rw [e]; simp), if_neg (by rw [e]; simpa using h0)]

set_option maxHeartbeats 8000000 in
set_option maxRecDepth 100000 in
theorem times_m (xb k : Nat) (s : ByteArray) (x : St) (w : World) (hs : s.size ≤ 2097152) (hk : k < s.size) (hl : x.out.length ≤ 65536 * k) (hX : XAt w xb s k x) :
    Calls Tryz.prog 17 #[ptr xb] w (Took w xb s k x (timesS (s.data.toList.drop k))) := by
  obtain ⟨ov, hx, hO⟩ := hX
  obtain ⟨oa, oc, rfl⟩ := own_slice2 hO
  have c0 : w.cell? ⟨xb, 0, none⟩ = some (.string s) := h_cell hx 0 rfl
  have c1 : w.cell? ⟨xb, 1, none⟩ = some (.int .i64 (k : Int)) := h_cell hx 1 rfl
  have HX := Lib.hid (And.intro hx hO)
  clear hx hO
  have w1 : IntKind.i64.wrap ((k : Int) + 1) = (k : Int) + 1 := IntWalk.i64_in _ (by omega)
  by_cases h1 : k + 1 < s.size
  · have n1 : decide ((s.size : Int) ≤ (k : Int) + 1) = false := decide_eq_false (by omega)
    by_cases h2 : s[k] = 91
    · have e2 : ((s[k].toNat : Int) != 91) = false := by have q : ((s[k].toNat : Int) == 91) = true := u8_yes 91 (by omega) h2; rw [bne, q]; rfl
      have HC := Lib.hid (times_at (s := s.data.toList.drop k) (t := s.data.toList.drop (k + 1)) (by rw [by_drop s k hk, h2]) (by rw [List.length_drop]; show 0 < s.size - (k + 1); omega))
      have hsl := sign_len (s := s.data.toList.drop (k + 1)) (by rw [List.length_drop]; show 0 < s.size - (k + 1); omega)
      rw [List.length_drop] at hsl
      have hsl2 : (signS (s.data.toList.drop (k + 1))).2 ≤ s.size - (k + 1) := hsl.2
      have hsl1 := hsl.1
      have hsg := fun u => sign_c s (k + 1) u hs h1
      generalize timesS (s.data.toList.drop k) = C at HC ⊢
      generalize signS (s.data.toList.drop (k + 1)) = P at HC hsl1 hsl2 hsg
      obtain ⟨c, n⟩ := P
      have hsg : ∀ u, Calls Tryz.prog 18 #[.string s, .int .i64 ((k : Int) + 1)] u fun e w' => e = .returned (.tuple #[.int .u8 (c.toNat : Int), .int .i64 (n : Int)]) ∧ Below u.heap.size u w' := hsg
      clear h2 hsl
      simp only at hsl1 hsl2 HC
      go_enter Tryz.func17, Tryz.ntmps17
      go_wp2_with fail
      go_quiet (fail)
      have HX1 : Hid (XsAt (w.drewN nq) xb s k (.slice oa x.out.length oc) x.rest x.bad ∧ Row (w.drewN nq) (xb + 1) (.slice oa x.out.length oc) x.out ∧ Below xb w (w.drewN nq)) := ⟨HX.out.1, HX.out.2, below_drewN⟩
      have c0' : (w.drewN nq).cell? ⟨xb, 0, none⟩ = some (.string s) := c0
      have c1' : (w.drewN nq).cell? ⟨xb, 1, none⟩ = some (.int .i64 (k : Int)) := c1
      clear c0 c1 HX e2 n1
      generalize w.drewN nq = W1 at HX1 c0' c1' ⊢
      go_wp2_with fail
      go_region_with (go_at_call 18; refine (hsg _).mono ?_; rintro e W2 ⟨rfl, hB2'⟩; have hB2 : Below W1.heap.size W1 W2 := below_undrew hB2'; clear hB2'; have HX2 : Hid (XsAt W2 xb s k (.slice oa x.out.length oc) x.rest x.bad ∧ Row W2 (xb + 1) (.slice oa x.out.length oc) x.out ∧ Below xb w W2) := ⟨HX1.out.1.turn hB2, row_turn HX1.out.2.1 hB2, HX1.out.2.2.trans (hB2.mono (Nat.le_of_lt (h_lt HX1.out.1)))⟩; have f0 : W2.cell? ⟨xb, 0, none⟩ = some (.string s) := h_cell HX2.out.1 0 rfl; have f1 : W2.cell? ⟨xb, 1, none⟩ = some (.int .i64 (k : Int)) := h_cell HX2.out.1 1 rfl; have z1 := h_fz HX2.out.1 1; clear HX1 hB2 hsg c0' c1')
      all_goals
        try simp only [Act.put, List.getElem_toArray, List.getElem_cons_succ, List.getElem_cons_zero, List.setIfInBounds_toArray, List.set_cons_succ, List.set_cons_zero]
        rw [at_drop s (k + 1) n (k + 1 + n) rfl, drop_two s.data.toList k n] at HC
        have HE : Hid (∀ w', XsAt w' xb s k (.slice oa x.out.length oc) x.rest x.bad → Row w' (xb + 1) (.slice oa x.out.length oc) x.out → Below xb w w' → C = none → Took w xb s k x C (.returned (.bool false)) w') := fun w' h1 h2 h3 h4 => took_none h4 h1 h2 h3
        by_cases a1 : k + 1 + n < s.size
        · rw [by_at s (k + 1 + n) a1] at HC
          have p1 : (k : Int) + 1 + n < (s.size : Int) := by omega
          by_cases a2 : s[k + 1 + n] = 42
          · have e2 : ((s[k + 1 + n].toNat : Int) != 42) = false := by have q : ((s[k + 1 + n].toNat : Int) == 42) = true := u8_yes 42 (by omega) a2; rw [bne, q]; rfl
            rw [if_pos (by rw [a2]), at_drop s (k + n + 2) _ _ rfl] at HC
            clear a2
            go_wp2_with fail
            go_loop [5] (fun i => ∃ m : Nat, k + n + 2 ≤ m ∧ m ≤ s.size ∧ i = .int .i64 m ∧ Hid (k + n + 2 + digN (s.data.toList.drop (k + n + 2)) = m + digN (s.data.toList.drop m))) (fun i => s.size - (intOf i).toNat)
            case atStart => exact ⟨k + n + 2, by omega, by omega, by go_num, (show _ = _ from rfl)⟩
            case round =>
              obtain ⟨m, hm, hms, rfl, HI⟩ := hrel
              have hgo : (m < s.size ∧ ∃ h : m < s.size, isDec s[m] = true) ∨ (Hid (k + n + 2 + digN (s.data.toList.drop (k + n + 2)) = m) ∧ ((m < s.size ∧ ∃ h : m < s.size, s[m].toNat < 48) ∨ (m < s.size ∧ ∃ h : m < s.size, 48 ≤ s[m].toNat ∧ 57 < s[m].toNat) ∨ ¬ m < s.size)) := by
                by_cases hjn : m < s.size
                · cases hq : isDec s[m] with
                  | true => exact .inl ⟨hjn, hjn, hq⟩
                  | false =>
                    refine .inr ⟨HI.out.trans (digN_stop s m hjn hq), ?_⟩
                    rcases isDec_no hq with h | h
                    · exact .inl ⟨hjn, hjn, h⟩
                    · exact .inr (.inl ⟨hjn, hjn, h⟩)
                · exact .inr ⟨HI.out.trans (digN_end s m (by omega)), .inr (.inr hjn)⟩
              rcases hgo with ⟨hjn, _, ho⟩ | ⟨HD, hst⟩
              · have HJ : Hid (k + n + 2 + digN (s.data.toList.drop (k + n + 2)) = (m + 1) + digN (s.data.toList.drop (m + 1))) := HI.out.trans (digN_go s m hjn ho)
                obtain ⟨o1, o2⟩ := isDec_yes ho
                have q1 : (48 : Int) ≤ (s[m].toNat : Int) := by omega
                have q2 : (s[m].toNat : Int) ≤ 57 := by omega
                clear HI ho HC
                go_wp2_with fail
                exact ⟨⟨m + 1, by omega, by omega, by go_num, HJ⟩, by simp [intOf]; omega⟩
              · clear HI
                rw [show (List.takeWhile isDec (s.data.toList.drop (k + n + 2))).length = digN (s.data.toList.drop (k + n + 2)) from rfl, HD.out, ← take_dig s (k + n + 2) m HD.out] at HC
                have HDn : Hid (digN (s.data.toList.drop (k + n + 2)) = m - (k + n + 2)) := by show _ = _; have := HD.out; omega
                rw [HDn.out] at HC
                clear HD HDn
                rcases hst with ⟨hjn, _, ho⟩ | ⟨hjn, _, ho, ho2⟩ | hjn
                · have q1 : (s[m].toNat : Int) < 48 := by omega
                  have e3 : ((s[m].toNat : Int) != 93) = true := by have q : ((s[m].toNat : Int) == 93) = false := u8_no 93 (by omega) (fun e => by rw [e] at ho; simp at ho); rw [bne, q]; rfl
                  have HF : Hid (C = none) := by show C = _; rw [HC.out, by_at s m hjn, if_neg (fun h => by rw [Option.some.inj h] at ho; simp at ho)]
                  clear HC
                  go_wp2_with fail
                  go_ret
                  exact HE.out _ HX2.out.1 HX2.out.2.1 HX2.out.2.2 HF.out
                · have q1 : (48 : Int) ≤ (s[m].toNat : Int) := by omega
                  have q2 : (57 : Int) < (s[m].toNat : Int) := by omega
                  rw [by_at s m hjn] at HC
                  by_cases a3 : s[m] = 93
                  · have e3 : ((s[m].toNat : Int) != 93) = false := by have q : ((s[m].toNat : Int) == 93) = true := u8_yes 93 (by omega) a3; rw [bne, q]; rfl
                    rw [if_pos (by rw [a3])] at HC
                    clear a3 HE
                    have hds : (s.extract (k + n + 2) m).size ≤ 2097152 := by rw [ByteArray.size_extract]; omega
                    have g1 : (k : Int) + 1 + n + 1 ≤ (m : Int) := by omega
                    have g2 : ((k : Int) + 1 + n + 1).toNat = k + n + 2 := by omega
                    have HX4 : Hid (XsAt (W2.setCell ⟨xb, 1, none⟩ (.int .i64 ((m : Int) + 1))) xb s (m + 1) (.slice oa x.out.length oc) x.rest x.bad ∧ Row (W2.setCell ⟨xb, 1, none⟩ (.int .i64 ((m : Int) + 1))) (xb + 1) (.slice oa x.out.length oc) x.out ∧ Below xb w (W2.setCell ⟨xb, 1, none⟩ (.int .i64 ((m : Int) + 1)))) := ⟨HX2.out.1.setAt (m + 1), row_set HX2.out.2.1 1 _, below_set HX2.out.2.2 1 _⟩
                    have hm2 : k + (n + (m - (k + n + 2)) + 3) = m + 1 := by omega
                    have HFin : Hid (∀ w' y, timesX c (manyS (s.extract (k + n + 2) m).data.toList) x = y → XAt w' xb s (m + 1) y → Below xb w w' → Took w xb s k x C (.returned (.bool true)) w') := fun w' y hy hx hb => by
                      rw [HC.out]
                      refine ⟨⟨rfl, ?_⟩, hb⟩
                      show XAt w' xb s (k + (n + (m - (k + n + 2)) + 3)) (timesX c (manyS (s.extract (k + n + 2) m).data.toList) x)
                      rw [hm2, hy]
                      exact hx
                    have hq0 := many_nn (s.extract (k + n + 2) m).data.toList
                    clear HC hm2
                    go_upto_region 15 with fail
                    generalize W2.setCell ⟨xb, 1, none⟩ (.int .i64 ((m : Int) + 1)) = W3 at HX4 ⊢
                    have r0 : W3.cell? ⟨xb, 0, none⟩ = some (.string s) := h_cell HX4.out.1 0 rfl
                    have r1 : W3.cell? ⟨xb, 1, none⟩ = some (.int .i64 ((m : Int) + 1)) := h_cell HX4.out.1 1 rfl
                    have r2 : W3.cell? ⟨xb, 2, none⟩ = some (.slice oa x.out.length oc) := h_cell HX4.out.1 2 rfl
                    have r3 : W3.cell? ⟨xb, 3, none⟩ = some (.int .i64 x.rest) := h_cell HX4.out.1 3 rfl
                    have r4 : W3.cell? ⟨xb, 4, none⟩ = some (.bool x.bad) := h_cell HX4.out.1 4 rfl
                    have y3 := h_fz HX4.out.1 3
                    have y4 := h_fz HX4.out.1 4
                    clear HX2 f0 f1 z1
                    generalize s.extract (k + n + 2) m = d at HFin hq0 hds ⊢
                    by_cases dz : d.size = 0
                    · have hQ := many_nil dz
                      generalize manyS d.data.toList = Q at HFin hq0 hQ
                      have t1 : ((d.size : Int)) = 0 := by omega
                      obtain ⟨Q1, Q2⟩ := Q
                      obtain ⟨rfl, rfl⟩ := Prod.mk.inj hQ
                      clear hQ
                      by_cases b2 : 0 ≤ x.rest
                      · have HF2 : Hid (timesX c (0, true) x = { x with bad := true }) := by show timesX c (0, true) x = _; rw [timesX, if_pos (.inr ⟨rfl, b2⟩)]
                        go_wp2_with fail
                        go_ret
                        exact HFin.out _ _ HF2.out ⟨_, (HX4.out.1.setBad true), row_set HX4.out.2.1 4 _⟩ (below_set HX4.out.2.2 4 _)
                      · have HF2 : Hid (timesX c (0, true) x = { x with out := x.out ++ [c], rest := x.out.length }) := by show timesX c (0, true) x = _; rw [timesX, if_neg (fun h => by rcases h with h | h; (· cases h); exact b2 h.2), if_pos rfl]
                        have b6 : x.rest < 0 := by omega
                        have HX5 : Hid (XsAt (W3.setCell ⟨xb, 3, none⟩ (.int .i64 (x.out.length : Int))) xb s (m + 1) (.slice oa x.out.length oc) (x.out.length : Int) x.bad ∧ Row (W3.setCell ⟨xb, 3, none⟩ (.int .i64 (x.out.length : Int))) (xb + 1) (.slice oa x.out.length oc) x.out ∧ Below xb w (W3.setCell ⟨xb, 3, none⟩ (.int .i64 (x.out.length : Int)))) := ⟨HX4.out.1.setRest _, row_set HX4.out.2.1 3 _, below_set HX4.out.2.2 3 _⟩
                        go_wp2_with fail
                        clear HX4 r0 r1 r2 r3 r4 y3 y4
                        go_loopw [10] (fun iv wr => ∃ (i : Nat) (o2 : Value), i ≤ 65536 ∧ i ≤ 1 ∧ iv = .int .i64 i ∧ Hid (XsAt wr xb s (m + 1) o2 (x.out.length : Int) x.bad ∧ Row wr (xb + 1) o2 (x.out ++ List.replicate i c) ∧ Below xb w wr)) (fun iv _ => 65536 - (intOf iv).toNat)
                        case atStart => exact ⟨0, _, by omega, by omega, rfl, (show _ ∧ _ ∧ _ from ⟨HX5.out.1, by simpa using HX5.out.2.1, HX5.out.2.2⟩)⟩
                        case round =>
                          obtain ⟨i, o2, hi6, him, rfl, HO⟩ := hrel
                          clear HX5
                          have hxl := h_lt HO.out.1
                          by_cases l1 : i < 1
                          · by_cases l2 : i < 65536
                            · have hlen : (x.out ++ List.replicate i c).length ≤ 65536 * k + 65536 := by simp; omega
                              have HR := Lib.hid (show x.out ++ List.replicate (i + 1) c = x.out ++ List.replicate i c ++ [c] by rw [List.replicate_succ', List.append_assoc])
                              generalize x.out ++ List.replicate i c = L at HO hlen HR
                              obtain ⟨i0, hi, hz0, hz1, hz2⟩ := info_parts2 info_u8
                              have f2 := h_cell HO.out.1 2 rfl
                              have p7 : (i : Int) < 1 := by omega
                              have p8 : (i : Int) < 65536 := by omega
                              have HL := Lib.hid (And.intro hlen (And.intro hxl (And.intro l1 (And.intro l2 (And.intro hl (And.intro hs hk))))))
                              clear hlen hxl l1 l2 hi6 him hl hs
                              go_wp2_with (at_builtin; refine wpList_append_own _ rfl _ _ 23 rfl (xb + 1) 5 i0 (.int .u8 0) 1 1 Tryz.underlying23 hi hz0 hz1 hz2 rfl (by decide) _ _ _ rfl (row_al HO.out.2.1 _) ⟨wr.heap.size, 0, none⟩ 1 1 [.int .u8 (c.toNat : Int)] rfl rfl (cell_one_new _ _ _) (by simp [Value.oneCell']) (by unfold maxLen; have h := HL.out; omega) (by have h := HL.out; omega) (by have h := HL.out; simp; omega) ?_; intro v2 w2 hown2 hgrow2 _; obtain ⟨xa, ca, rfl⟩ := own_slice2 hown2; have hX4 := (HO.out.1.al _).grown (row_al HO.out.2.1 _) hgrow2; have f4 := h_cell hX4 2 rfl; have z4 := h_fz hX4 2)
                              have hxl := HL.out.2.1
                              refine ⟨⟨i + 1, .slice xa (L.length + 1) ca, by have := HL.out.2.2.2.1; omega, by have := HL.out.2.2.1; omega, by go_num, ?_⟩, by have := HL.out.2.2.2.1; simp [intOf]; omega⟩
                              rw [HR.out]
                              exact x_app (HO.out.1.al _) (row_al HO.out.2.1 _) (below_al HO.out.2.2 hxl _) hgrow2 hown2
                            · have HIE : Hid (min 1 65536 = i) := (show _ = _ from by omega)
                              have p7 : (i : Int) < 1 := by omega
                              have p8 : ¬ (i : Int) < 65536 := by omega
                              clear l1 l2 hi6 him hl hs
                              go_wp2_with fail
                              go_ret
                              exact HFin.out _ _ HF2.out ⟨o2, HO.out.1, (show Row _ _ _ (x.out ++ [c]) from by
                              have e : 1 = i := by have := HIE.out; omega
                              have h := HO.out.2.1
                              rw [← e] at h
                              exact h)⟩ HO.out.2.2
                          · have HIE : Hid (min 1 65536 = i) := (show _ = _ from by omega)
                            have p7 : ¬ (i : Int) < 1 := by omega
                            clear l1 hi6 him hl hs
                            go_wp2_with fail
                            go_ret
                            exact HFin.out _ _ HF2.out ⟨o2, HO.out.1, (show Row _ _ _ (x.out ++ [c]) from by
                              have e : 1 = i := by have := HIE.out; omega
                              have h := HO.out.2.1
                              rw [← e] at h
                              exact h)⟩ HO.out.2.2
                    · have dp : 0 < d.size := by omega
                      have t1 : 0 < ((d.size : Int)) := by omega
                      by_cases d0 : d[0] = 48
                      · have t2 : ((d[0].toNat : Int) == 48) = true := u8_yes 48 (by omega) d0
                        have hQ := many_oct dp d0
                        have hcall := refOctal_any d 2147483647 W3 (by unfold maxLen; omega) (by omega) (by omega)
                        rw [← hQ] at hcall
                        generalize manyS d.data.toList = Q at HFin hq0 hcall
                        clear hQ d0
                        obtain ⟨Q1, Q2⟩ := Q
                        by_cases b1 : (Q1, Q2).2 = false ∨ ((Q1, Q2).1 = 0 ∧ 0 ≤ x.rest)
                        · have HF2 : Hid (timesX c (Q1, Q2) x = { x with bad := true }) := by show timesX c (Q1, Q2) x = _; rw [timesX, if_pos b1]
                          rcases b1 with b1 | ⟨b1, b2⟩
                          · simp only at b1
                            subst b1
                            go_wp2_with (go_at_call 30; refine hcall.mono ?_; rintro e wz ⟨rfl, hwz⟩; subst hwz)
                            go_ret
                            exact HFin.out _ _ HF2.out ⟨_, (HX4.out.1.setBad true), row_set HX4.out.2.1 4 _⟩ (below_set HX4.out.2.2 4 _)
                          · simp only at b1
                            subst b1
                            cases Q2 with
                            | false =>
                              go_wp2_with (go_at_call 30; refine hcall.mono ?_; rintro e wz ⟨rfl, hwz⟩; subst hwz)
                              go_ret
                              exact HFin.out _ _ HF2.out ⟨_, (HX4.out.1.setBad true), row_set HX4.out.2.1 4 _⟩ (below_set HX4.out.2.2 4 _)
                            | true =>
                              go_wp2_with (go_at_call 30; refine hcall.mono ?_; rintro e wz ⟨rfl, hwz⟩; subst hwz)
                              go_ret
                              exact HFin.out _ _ HF2.out ⟨_, (HX4.out.1.setBad true), row_set HX4.out.2.1 4 _⟩ (below_set HX4.out.2.2 4 _)
                        · have b4 : Q2 = true := by cases Q2 with | true => rfl | false => exact absurd (.inl rfl) b1
                          subst b4
                          by_cases b3 : Q1 = 0
                          · subst b3
                            have HF2 : Hid (timesX c (0, true) x = { x with out := x.out ++ [c], rest := x.out.length }) := by show timesX c (0, true) x = _; rw [timesX, if_neg b1, if_pos rfl]
                            have b5 : ¬ 0 ≤ x.rest := fun h => b1 (.inr ⟨rfl, h⟩)
                            have b6 : x.rest < 0 := by omega
                            clear b1
                            have HX5 : Hid (XsAt (W3.setCell ⟨xb, 3, none⟩ (.int .i64 (x.out.length : Int))) xb s (m + 1) (.slice oa x.out.length oc) (x.out.length : Int) x.bad ∧ Row (W3.setCell ⟨xb, 3, none⟩ (.int .i64 (x.out.length : Int))) (xb + 1) (.slice oa x.out.length oc) x.out ∧ Below xb w (W3.setCell ⟨xb, 3, none⟩ (.int .i64 (x.out.length : Int)))) := ⟨HX4.out.1.setRest _, row_set HX4.out.2.1 3 _, below_set HX4.out.2.2 3 _⟩
                            go_wp2_with (go_at_call 30; refine hcall.mono ?_; rintro e wz ⟨rfl, hwz⟩; subst hwz)
                            clear HX4 r0 r1 r2 r3 r4 y3 y4
                            go_loopw [10] (fun iv wr => ∃ (i : Nat) (o2 : Value), i ≤ 65536 ∧ i ≤ 1 ∧ iv = .int .i64 i ∧ Hid (XsAt wr xb s (m + 1) o2 (x.out.length : Int) x.bad ∧ Row wr (xb + 1) o2 (x.out ++ List.replicate i c) ∧ Below xb w wr)) (fun iv _ => 65536 - (intOf iv).toNat)
                            case atStart => exact ⟨0, _, by omega, by omega, rfl, (show _ ∧ _ ∧ _ from ⟨HX5.out.1, by simpa using HX5.out.2.1, HX5.out.2.2⟩)⟩
                            case round =>
                              obtain ⟨i, o2, hi6, him, rfl, HO⟩ := hrel
                              clear HX5
                              have hxl := h_lt HO.out.1
                              by_cases l1 : i < 1
                              · by_cases l2 : i < 65536
                                · have hlen : (x.out ++ List.replicate i c).length ≤ 65536 * k + 65536 := by simp; omega
                                  have HR := Lib.hid (show x.out ++ List.replicate (i + 1) c = x.out ++ List.replicate i c ++ [c] by rw [List.replicate_succ', List.append_assoc])
                                  generalize x.out ++ List.replicate i c = L at HO hlen HR
                                  obtain ⟨i0, hi, hz0, hz1, hz2⟩ := info_parts2 info_u8
                                  have f2 := h_cell HO.out.1 2 rfl
                                  have p7 : (i : Int) < 1 := by omega
                                  have p8 : (i : Int) < 65536 := by omega
                                  have HL := Lib.hid (And.intro hlen (And.intro hxl (And.intro l1 (And.intro l2 (And.intro hl (And.intro hs hk))))))
                                  clear hlen hxl l1 l2 hi6 him hl hs
                                  go_wp2_with (at_builtin; refine wpList_append_own _ rfl _ _ 23 rfl (xb + 1) 5 i0 (.int .u8 0) 1 1 Tryz.underlying23 hi hz0 hz1 hz2 rfl (by decide) _ _ _ rfl (row_al HO.out.2.1 _) ⟨wr.heap.size, 0, none⟩ 1 1 [.int .u8 (c.toNat : Int)] rfl rfl (cell_one_new _ _ _) (by simp [Value.oneCell']) (by unfold maxLen; have h := HL.out; omega) (by have h := HL.out; omega) (by have h := HL.out; simp; omega) ?_; intro v2 w2 hown2 hgrow2 _; obtain ⟨xa, ca, rfl⟩ := own_slice2 hown2; have hX4 := (HO.out.1.al _).grown (row_al HO.out.2.1 _) hgrow2; have f4 := h_cell hX4 2 rfl; have z4 := h_fz hX4 2)
                                  have hxl := HL.out.2.1
                                  refine ⟨⟨i + 1, .slice xa (L.length + 1) ca, by have := HL.out.2.2.2.1; omega, by have := HL.out.2.2.1; omega, by go_num, ?_⟩, by have := HL.out.2.2.2.1; simp [intOf]; omega⟩
                                  rw [HR.out]
                                  exact x_app (HO.out.1.al _) (row_al HO.out.2.1 _) (below_al HO.out.2.2 hxl _) hgrow2 hown2
                                · have HIE : Hid (min 1 65536 = i) := (show _ = _ from by omega)
                                  have p7 : (i : Int) < 1 := by omega
                                  have p8 : ¬ (i : Int) < 65536 := by omega
                                  clear l1 l2 hi6 him hl hs
                                  go_wp2_with fail
                                  go_ret
                                  exact HFin.out _ _ HF2.out ⟨o2, HO.out.1, (show Row _ _ _ (x.out ++ [c]) from by
                                  have e : 1 = i := by have := HIE.out; omega
                                  have h := HO.out.2.1
                                  rw [← e] at h
                                  exact h)⟩ HO.out.2.2
                              · have HIE : Hid (min 1 65536 = i) := (show _ = _ from by omega)
                                have p7 : ¬ (i : Int) < 1 := by omega
                                clear l1 hi6 him hl hs
                                go_wp2_with fail
                                go_ret
                                exact HFin.out _ _ HF2.out ⟨o2, HO.out.1, (show Row _ _ _ (x.out ++ [c]) from by
                                  have e : 1 = i := by have := HIE.out; omega
                                  have h := HO.out.2.1
                                  rw [← e] at h
                                  exact h)⟩ HO.out.2.2
                          · have HF2 : Hid (timesX c (Q1, true) x = { x with out := x.out ++ List.replicate (min Q1.toNat 65536) c }) := by show timesX c (Q1, true) x = _; rw [timesX, if_neg b1, if_neg b3]
                            clear b1
                            simp only at hq0
                            obtain ⟨mn, rfl⟩ : ∃ mn : Nat, Q1 = (mn : Int) := ⟨Q1.toNat, by omega⟩
                            have b7 : ((mn : Int) == 0) = false := by rw [beq_eq_false_iff_ne]; exact b3
                            rw [Int.toNat_natCast] at HF2
                            have HX5 := HX4
                            go_wp2_with (go_at_call 30; refine hcall.mono ?_; rintro e wz ⟨rfl, hwz⟩; subst hwz)
                            clear HX4 r0 r1 r2 r3 r4 y3 y4
                            go_loopw [10] (fun iv wr => ∃ (i : Nat) (o2 : Value), i ≤ 65536 ∧ i ≤ mn ∧ iv = .int .i64 i ∧ Hid (XsAt wr xb s (m + 1) o2 x.rest x.bad ∧ Row wr (xb + 1) o2 (x.out ++ List.replicate i c) ∧ Below xb w wr)) (fun iv _ => 65536 - (intOf iv).toNat)
                            case atStart => exact ⟨0, _, by omega, by omega, rfl, (show _ ∧ _ ∧ _ from ⟨HX5.out.1, by simpa using HX5.out.2.1, HX5.out.2.2⟩)⟩
                            case round =>
                              obtain ⟨i, o2, hi6, him, rfl, HO⟩ := hrel
                              clear HX5
                              have hxl := h_lt HO.out.1
                              by_cases l1 : i < mn
                              · by_cases l2 : i < 65536
                                · have hlen : (x.out ++ List.replicate i c).length ≤ 65536 * k + 65536 := by simp; omega
                                  have HR := Lib.hid (show x.out ++ List.replicate (i + 1) c = x.out ++ List.replicate i c ++ [c] by rw [List.replicate_succ', List.append_assoc])
                                  generalize x.out ++ List.replicate i c = L at HO hlen HR
                                  obtain ⟨i0, hi, hz0, hz1, hz2⟩ := info_parts2 info_u8
                                  have f2 := h_cell HO.out.1 2 rfl
                                  have p7 : (i : Int) < (mn : Int) := by omega
                                  have p8 : (i : Int) < 65536 := by omega
                                  have HL := Lib.hid (And.intro hlen (And.intro hxl (And.intro l1 (And.intro l2 (And.intro hl (And.intro hs hk))))))
                                  clear hlen hxl l1 l2 hi6 him hl hs
                                  go_wp2_with (at_builtin; refine wpList_append_own _ rfl _ _ 23 rfl (xb + 1) 5 i0 (.int .u8 0) 1 1 Tryz.underlying23 hi hz0 hz1 hz2 rfl (by decide) _ _ _ rfl (row_al HO.out.2.1 _) ⟨wr.heap.size, 0, none⟩ 1 1 [.int .u8 (c.toNat : Int)] rfl rfl (cell_one_new _ _ _) (by simp [Value.oneCell']) (by unfold maxLen; have h := HL.out; omega) (by have h := HL.out; omega) (by have h := HL.out; simp; omega) ?_; intro v2 w2 hown2 hgrow2 _; obtain ⟨xa, ca, rfl⟩ := own_slice2 hown2; have hX4 := (HO.out.1.al _).grown (row_al HO.out.2.1 _) hgrow2; have f4 := h_cell hX4 2 rfl; have z4 := h_fz hX4 2)
                                  have hxl := HL.out.2.1
                                  refine ⟨⟨i + 1, .slice xa (L.length + 1) ca, by have := HL.out.2.2.2.1; omega, by have := HL.out.2.2.1; omega, by go_num, ?_⟩, by have := HL.out.2.2.2.1; simp [intOf]; omega⟩
                                  rw [HR.out]
                                  exact x_app (HO.out.1.al _) (row_al HO.out.2.1 _) (below_al HO.out.2.2 hxl _) hgrow2 hown2
                                · have HIE : Hid (min mn 65536 = i) := (show _ = _ from by omega)
                                  have p7 : (i : Int) < (mn : Int) := by omega
                                  have p8 : ¬ (i : Int) < 65536 := by omega
                                  clear l1 l2 hi6 him hl hs
                                  go_wp2_with fail
                                  go_ret
                                  exact HFin.out _ _ HF2.out ⟨o2, HO.out.1, (show Row _ _ _ (x.out ++ List.replicate (min mn 65536) c) from by rw [HIE.out]; exact HO.out.2.1)⟩ HO.out.2.2
                              · have HIE : Hid (min mn 65536 = i) := (show _ = _ from by omega)
                                have p7 : ¬ (i : Int) < (mn : Int) := by omega
                                clear l1 hi6 him hl hs
                                go_wp2_with fail
                                go_ret
                                exact HFin.out _ _ HF2.out ⟨o2, HO.out.1, (show Row _ _ _ (x.out ++ List.replicate (min mn 65536) c) from by rw [HIE.out]; exact HO.out.2.1)⟩ HO.out.2.2
                      · have t2 : ((d[0].toNat : Int) == 48) = false := u8_no 48 (by omega) d0
                        have hQ := many_dec dp d0
                        have hcall := refNumber_any d 2147483647 W3 (by unfold maxLen; omega) (by omega) (by omega)
                        rw [← hQ] at hcall
                        generalize manyS d.data.toList = Q at HFin hq0 hcall
                        clear hQ d0
                        obtain ⟨Q1, Q2⟩ := Q
                        by_cases b1 : (Q1, Q2).2 = false ∨ ((Q1, Q2).1 = 0 ∧ 0 ≤ x.rest)
                        · have HF2 : Hid (timesX c (Q1, Q2) x = { x with bad := true }) := by show timesX c (Q1, Q2) x = _; rw [timesX, if_pos b1]
                          rcases b1 with b1 | ⟨b1, b2⟩
                          · simp only at b1
                            subst b1
                            go_wp2_with (go_at_call 31; refine hcall.mono ?_; rintro e wz ⟨rfl, hwz⟩; subst hwz)
                            go_ret
                            exact HFin.out _ _ HF2.out ⟨_, (HX4.out.1.setBad true), row_set HX4.out.2.1 4 _⟩ (below_set HX4.out.2.2 4 _)
                          · simp only at b1
                            subst b1
                            cases Q2 with
                            | false =>
                              go_wp2_with (go_at_call 31; refine hcall.mono ?_; rintro e wz ⟨rfl, hwz⟩; subst hwz)
                              go_ret
                              exact HFin.out _ _ HF2.out ⟨_, (HX4.out.1.setBad true), row_set HX4.out.2.1 4 _⟩ (below_set HX4.out.2.2 4 _)
                            | true =>
                              go_wp2_with (go_at_call 31; refine hcall.mono ?_; rintro e wz ⟨rfl, hwz⟩; subst hwz)
                              go_ret
                              exact HFin.out _ _ HF2.out ⟨_, (HX4.out.1.setBad true), row_set HX4.out.2.1 4 _⟩ (below_set HX4.out.2.2 4 _)
                        · have b4 : Q2 = true := by cases Q2 with | true => rfl | false => exact absurd (.inl rfl) b1
                          subst b4
                          by_cases b3 : Q1 = 0
                          · subst b3
                            have HF2 : Hid (timesX c (0, true) x = { x with out := x.out ++ [c], rest := x.out.length }) := by show timesX c (0, true) x = _; rw [timesX, if_neg b1, if_pos rfl]
                            have b5 : ¬ 0 ≤ x.rest := fun h => b1 (.inr ⟨rfl, h⟩)
                            have b6 : x.rest < 0 := by omega
                            clear b1
                            have HX5 : Hid (XsAt (W3.setCell ⟨xb, 3, none⟩ (.int .i64 (x.out.length : Int))) xb s (m + 1) (.slice oa x.out.length oc) (x.out.length : Int) x.bad ∧ Row (W3.setCell ⟨xb, 3, none⟩ (.int .i64 (x.out.length : Int))) (xb + 1) (.slice oa x.out.length oc) x.out ∧ Below xb w (W3.setCell ⟨xb, 3, none⟩ (.int .i64 (x.out.length : Int)))) := ⟨HX4.out.1.setRest _, row_set HX4.out.2.1 3 _, below_set HX4.out.2.2 3 _⟩
                            go_wp2_with (go_at_call 31; refine hcall.mono ?_; rintro e wz ⟨rfl, hwz⟩; subst hwz)
                            clear HX4 r0 r1 r2 r3 r4 y3 y4
                            go_loopw [10] (fun iv wr => ∃ (i : Nat) (o2 : Value), i ≤ 65536 ∧ i ≤ 1 ∧ iv = .int .i64 i ∧ Hid (XsAt wr xb s (m + 1) o2 (x.out.length : Int) x.bad ∧ Row wr (xb + 1) o2 (x.out ++ List.replicate i c) ∧ Below xb w wr)) (fun iv _ => 65536 - (intOf iv).toNat)
                            case atStart => exact ⟨0, _, by omega, by omega, rfl, (show _ ∧ _ ∧ _ from ⟨HX5.out.1, by simpa using HX5.out.2.1, HX5.out.2.2⟩)⟩
                            case round =>
                              obtain ⟨i, o2, hi6, him, rfl, HO⟩ := hrel
                              clear HX5
                              have hxl := h_lt HO.out.1
                              by_cases l1 : i < 1
                              · by_cases l2 : i < 65536
                                · have hlen : (x.out ++ List.replicate i c).length ≤ 65536 * k + 65536 := by simp; omega
                                  have HR := Lib.hid (show x.out ++ List.replicate (i + 1) c = x.out ++ List.replicate i c ++ [c] by rw [List.replicate_succ', List.append_assoc])
                                  generalize x.out ++ List.replicate i c = L at HO hlen HR
                                  obtain ⟨i0, hi, hz0, hz1, hz2⟩ := info_parts2 info_u8
                                  have f2 := h_cell HO.out.1 2 rfl
                                  have p7 : (i : Int) < 1 := by omega
                                  have p8 : (i : Int) < 65536 := by omega
                                  have HL := Lib.hid (And.intro hlen (And.intro hxl (And.intro l1 (And.intro l2 (And.intro hl (And.intro hs hk))))))
                                  clear hlen hxl l1 l2 hi6 him hl hs
                                  go_wp2_with (at_builtin; refine wpList_append_own _ rfl _ _ 23 rfl (xb + 1) 5 i0 (.int .u8 0) 1 1 Tryz.underlying23 hi hz0 hz1 hz2 rfl (by decide) _ _ _ rfl (row_al HO.out.2.1 _) ⟨wr.heap.size, 0, none⟩ 1 1 [.int .u8 (c.toNat : Int)] rfl rfl (cell_one_new _ _ _) (by simp [Value.oneCell']) (by unfold maxLen; have h := HL.out; omega) (by have h := HL.out; omega) (by have h := HL.out; simp; omega) ?_; intro v2 w2 hown2 hgrow2 _; obtain ⟨xa, ca, rfl⟩ := own_slice2 hown2; have hX4 := (HO.out.1.al _).grown (row_al HO.out.2.1 _) hgrow2; have f4 := h_cell hX4 2 rfl; have z4 := h_fz hX4 2)
                                  have hxl := HL.out.2.1
                                  refine ⟨⟨i + 1, .slice xa (L.length + 1) ca, by have := HL.out.2.2.2.1; omega, by have := HL.out.2.2.1; omega, by go_num, ?_⟩, by have := HL.out.2.2.2.1; simp [intOf]; omega⟩
                                  rw [HR.out]
                                  exact x_app (HO.out.1.al _) (row_al HO.out.2.1 _) (below_al HO.out.2.2 hxl _) hgrow2 hown2
                                · have HIE : Hid (min 1 65536 = i) := (show _ = _ from by omega)
                                  have p7 : (i : Int) < 1 := by omega
                                  have p8 : ¬ (i : Int) < 65536 := by omega
                                  clear l1 l2 hi6 him hl hs
                                  go_wp2_with fail
                                  go_ret
                                  exact HFin.out _ _ HF2.out ⟨o2, HO.out.1, (show Row _ _ _ (x.out ++ [c]) from by
                                  have e : 1 = i := by have := HIE.out; omega
                                  have h := HO.out.2.1
                                  rw [← e] at h
                                  exact h)⟩ HO.out.2.2
                              · have HIE : Hid (min 1 65536 = i) := (show _ = _ from by omega)
                                have p7 : ¬ (i : Int) < 1 := by omega
                                clear l1 hi6 him hl hs
                                go_wp2_with fail
                                go_ret
                                exact HFin.out _ _ HF2.out ⟨o2, HO.out.1, (show Row _ _ _ (x.out ++ [c]) from by
                                  have e : 1 = i := by have := HIE.out; omega
                                  have h := HO.out.2.1
                                  rw [← e] at h
                                  exact h)⟩ HO.out.2.2
                          · have HF2 : Hid (timesX c (Q1, true) x = { x with out := x.out ++ List.replicate (min Q1.toNat 65536) c }) := by show timesX c (Q1, true) x = _; rw [timesX, if_neg b1, if_neg b3]
                            clear b1
                            simp only at hq0
                            obtain ⟨mn, rfl⟩ : ∃ mn : Nat, Q1 = (mn : Int) := ⟨Q1.toNat, by omega⟩
                            have b7 : ((mn : Int) == 0) = false := by rw [beq_eq_false_iff_ne]; exact b3
                            rw [Int.toNat_natCast] at HF2
                            have HX5 := HX4
                            go_wp2_with (go_at_call 31; refine hcall.mono ?_; rintro e wz ⟨rfl, hwz⟩; subst hwz)
                            clear HX4 r0 r1 r2 r3 r4 y3 y4
                            go_loopw [10] (fun iv wr => ∃ (i : Nat) (o2 : Value), i ≤ 65536 ∧ i ≤ mn ∧ iv = .int .i64 i ∧ Hid (XsAt wr xb s (m + 1) o2 x.rest x.bad ∧ Row wr (xb + 1) o2 (x.out ++ List.replicate i c) ∧ Below xb w wr)) (fun iv _ => 65536 - (intOf iv).toNat)
                            case atStart => exact ⟨0, _, by omega, by omega, rfl, (show _ ∧ _ ∧ _ from ⟨HX5.out.1, by simpa using HX5.out.2.1, HX5.out.2.2⟩)⟩
                            case round =>
                              obtain ⟨i, o2, hi6, him, rfl, HO⟩ := hrel
                              clear HX5
                              have hxl := h_lt HO.out.1
                              by_cases l1 : i < mn
                              · by_cases l2 : i < 65536
                                · have hlen : (x.out ++ List.replicate i c).length ≤ 65536 * k + 65536 := by simp; omega
                                  have HR := Lib.hid (show x.out ++ List.replicate (i + 1) c = x.out ++ List.replicate i c ++ [c] by rw [List.replicate_succ', List.append_assoc])
                                  generalize x.out ++ List.replicate i c = L at HO hlen HR
                                  obtain ⟨i0, hi, hz0, hz1, hz2⟩ := info_parts2 info_u8
                                  have f2 := h_cell HO.out.1 2 rfl
                                  have p7 : (i : Int) < (mn : Int) := by omega
                                  have p8 : (i : Int) < 65536 := by omega
                                  have HL := Lib.hid (And.intro hlen (And.intro hxl (And.intro l1 (And.intro l2 (And.intro hl (And.intro hs hk))))))
                                  clear hlen hxl l1 l2 hi6 him hl hs
                                  go_wp2_with (at_builtin; refine wpList_append_own _ rfl _ _ 23 rfl (xb + 1) 5 i0 (.int .u8 0) 1 1 Tryz.underlying23 hi hz0 hz1 hz2 rfl (by decide) _ _ _ rfl (row_al HO.out.2.1 _) ⟨wr.heap.size, 0, none⟩ 1 1 [.int .u8 (c.toNat : Int)] rfl rfl (cell_one_new _ _ _) (by simp [Value.oneCell']) (by unfold maxLen; have h := HL.out; omega) (by have h := HL.out; omega) (by have h := HL.out; simp; omega) ?_; intro v2 w2 hown2 hgrow2 _; obtain ⟨xa, ca, rfl⟩ := own_slice2 hown2; have hX4 := (HO.out.1.al _).grown (row_al HO.out.2.1 _) hgrow2; have f4 := h_cell hX4 2 rfl; have z4 := h_fz hX4 2)
                                  have hxl := HL.out.2.1
                                  refine ⟨⟨i + 1, .slice xa (L.length + 1) ca, by have := HL.out.2.2.2.1; omega, by have := HL.out.2.2.1; omega, by go_num, ?_⟩, by have := HL.out.2.2.2.1; simp [intOf]; omega⟩
                                  rw [HR.out]
                                  exact x_app (HO.out.1.al _) (row_al HO.out.2.1 _) (below_al HO.out.2.2 hxl _) hgrow2 hown2
                                · have HIE : Hid (min mn 65536 = i) := (show _ = _ from by omega)
                                  have p7 : (i : Int) < (mn : Int) := by omega
                                  have p8 : ¬ (i : Int) < 65536 := by omega
                                  clear l1 l2 hi6 him hl hs
                                  go_wp2_with fail
                                  go_ret
                                  exact HFin.out _ _ HF2.out ⟨o2, HO.out.1, (show Row _ _ _ (x.out ++ List.replicate (min mn 65536) c) from by rw [HIE.out]; exact HO.out.2.1)⟩ HO.out.2.2
                              · have HIE : Hid (min mn 65536 = i) := (show _ = _ from by omega)
                                have p7 : ¬ (i : Int) < (mn : Int) := by omega
                                clear l1 hi6 him hl hs
                                go_wp2_with fail
                                go_ret
                                exact HFin.out _ _ HF2.out ⟨o2, HO.out.1, (show Row _ _ _ (x.out ++ List.replicate (min mn 65536) c) from by rw [HIE.out]; exact HO.out.2.1)⟩ HO.out.2.2
                  · have e3 : ((s[m].toNat : Int) != 93) = true := by have q : ((s[m].toNat : Int) == 93) = false := u8_no 93 (by omega) a3; rw [bne, q]; rfl
                    have HF : Hid (C = none) := by show C = _; rw [HC.out, if_neg (fun h => a3 (Option.some.inj h))]
                    clear HC a3
                    go_wp2_with fail
                    go_ret
                    exact HE.out _ HX2.out.1 HX2.out.2.1 HX2.out.2.2 HF.out
                · have q1 : ¬ (m : Int) < (s.size : Int) := by omega
                  have HF : Hid (C = none) := by show C = _; rw [HC.out, none_at s m (by omega), if_neg (by simp)]
                  clear HC
                  go_wp2_with fail
                  go_ret
                  exact HE.out _ HX2.out.1 HX2.out.2.1 HX2.out.2.2 HF.out
          · have e2 : ((s[k + 1 + n].toNat : Int) != 42) = true := by have q : ((s[k + 1 + n].toNat : Int) == 42) = false := u8_no 42 (by omega) a2; rw [bne, q]; rfl
            have HF : Hid (C = none) := by show C = _; rw [HC.out, if_neg (fun h => a2 (Option.some.inj h))]
            clear HC a2
            go_wp2_with fail
            go_ret
            exact HE.out _ HX2.out.1 HX2.out.2.1 HX2.out.2.2 HF.out
        · have p1 : ¬ (k : Int) + 1 + n < (s.size : Int) := by omega
          have HF : Hid (C = none) := by show C = _; rw [HC.out, none_at s (k + 1 + n) (by omega), if_neg (by simp)]
          clear HC
          go_wp2_with fail
          go_ret
          exact HE.out _ HX2.out.1 HX2.out.2.1 HX2.out.2.2 HF.out
    · have e2 : ((s[k].toNat : Int) != 91) = true := by have q : ((s[k].toNat : Int) == 91) = false := u8_no 91 (by omega) h2; rw [bne, q]; rfl
      have HF : Hid (timesS (s.data.toList.drop k) = none) := times_not (.inr (by rw [by_drop s k hk]; simpa using h2))
      generalize timesS (s.data.toList.drop k) = C at HF ⊢
      clear h2
      go_enter Tryz.func17, Tryz.ntmps17
      go_wp2_with fail
      go_quiet (fail)
      go_wp2_with fail
      go_ret
      exact took_none HF.out HX.out.1 HX.out.2 below_drewN
  · have n1 : decide ((s.size : Int) ≤ (k : Int) + 1) = true := decide_eq_true (by omega)
    have HF : Hid (timesS (s.data.toList.drop k) = none) := times_not (.inl (by rw [List.length_drop]; show s.size - k ≤ 1; omega))
    generalize timesS (s.data.toList.drop k) = C at HF ⊢
    go_enter Tryz.func17, Tryz.ntmps17
    go_wp2_with fail
    go_quiet (fail)
    go_wp2_with fail
    go_ret
    exact took_none HF.out HX.out.1 HX.out.2 below_drewN
end Go.Proofs.YtfkoehfkiommpaaGreatDoor.Tr
