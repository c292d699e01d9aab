/- The walk of the law on lines and fields. -/
import Derived.Test.YtcpclpckjheadaaDoorSame
import Derived.Test.YtcpclpckjheadaaDoorRefFields
namespace Go.Proofs.YtcpclpckjheadaaDoor
open Go.RowKit Go.Shelf

theorem cutTo_piece (c : UInt8 → Bool) (l : List UInt8) : ∀ k, ∀ p ∈ (cutTo c l k).2, p.length ≤ l.length
  | 0, p, h => by simp [cutTo] at h
  | k + 1, p, h => by
    have ih := cutTo_piece c l k p
    rw [cutTo] at h
    split at h
    · rcases List.mem_append.1 h with h | h
      · exact ih h
      · obtain rfl : p = (l.take k).drop (cutTo c l k).1 := by simpa using h
        simp; omega
    · exact ih h
theorem pcs_piece (c : UInt8 → Bool) (l : List UInt8) : ∀ p ∈ pcs c l, p.1.length ≤ l.length := by
  intro p hp
  rcases List.mem_append.1 hp with hp | hp
  · obtain ⟨q, hq, rfl⟩ := List.mem_map.1 hp
    exact cutTo_piece c l _ q hq
  · obtain rfl : p = (l.drop (cutTo c l l.length).1, false) := by simpa using hp
    simp
theorem kept_piece (l : List UInt8) : ∀ p ∈ kept (pcs feedB l), p.length ≤ l.length := by
  intro p hp
  obtain ⟨q, hq, rfl⟩ := List.mem_map.1 hp
  exact pcs_piece _ _ q (List.mem_filter.1 hq).1
theorem keptF_piece (l : List UInt8) : ∀ p ∈ keptF (pcs blankB l), p.length ≤ l.length := by
  intro p hp
  obtain ⟨q, hq, rfl⟩ := List.mem_map.1 hp
  exact pcs_piece _ _ q (List.mem_filter.1 hq).1
theorem kept_count (l : List UInt8) : (kept (pcs feedB l)).length ≤ l.length + 1 := by
  have h1 := joined_count (kept (pcs feedB l))
  have h2 := congrArg List.length (lines_join l)
  have h3 := tailL_le l
  rw [List.length_append] at h2
  unfold joined at h1
  omega
theorem keptF_count (l : List UInt8) : (keptF (pcs blankB l)).length ≤ l.length + 1 := by
  rw [keptF_pcs]; exact fieldsTo_length l l.length

/-- A slice that owns its bytes holds them. -/
theorem own_bytes {W : World} {base n : Nat} {v : Value} {l : List UInt8} (h : W.ownsRow base 5 1 v n (u8s l)) (hl : l.length ≤ 140737488355328) : BytesAt W.heap.size W v l := by
  have hn : l.length = n := by have := h.1; rw [u8s_length] at this; omega
  subst hn
  rcases h.2 with ⟨rfl, h0⟩ | ⟨g, cap, cur, rfl, hb, hg, hle, hcap, hsz, htk⟩
  · exact .inl ⟨rfl, List.eq_nil_of_length_eq_zero h0⟩
  · refine .inr ⟨g, 0, cap, rfl, ⟨hle, hl, by unfold maxLen at hcap; omega⟩, (Array.getElem?_eq_some_iff.1 hg).1, fun j hj => ?_⟩
    rw [Nat.zero_add, own_cell h j hj]
    simp [u8s, hj]

theorem rows_below {base : Nat} {A B : World} {vs : List Value} {ls : List (List UInt8)} (h : RowsAt base A vs ls) (hb : Below A.heap.size A B) : RowsAt base B vs ls :=
  ⟨h.1, fun i hi => by
    obtain ⟨v, h1, h2⟩ := h.2 i hi
    exact ⟨v, h1, h2.kept (grown_below hb none) (by cases v.ownBlock <;> simp)⟩⟩
theorem own_below {base e k : Nat} {A B : World} {v : Value} {xs : List Value} (h : A.ownsRow base e 1 v k xs) (hb : Below A.heap.size A B) : B.ownsRow base e 1 v k xs :=
  h.kept (grown_below hb none) (by cases v.ownBlock <;> simp)

theorem u8s_cells_at {W : World} {g off : Nat} {l : List UInt8} (h : ∀ j, j < l.length → W.cell? ⟨g, off + j, none⟩ = some (.int .u8 ((l[j]?.getD 0).toNat : Int))) : ∀ j u, (u8s l)[j]? = some u → W.cell? ((⟨g, off, none⟩ : Addr).add j) = some u := by
  intro j u hu
  have hj : j < l.length := by
    have := (List.getElem?_eq_some_iff.1 hu).1
    rwa [u8s_length] at this
  rw [Lib.add_plain, h j hj]
  rw [u8s, List.getElem?_map, List.getElem?_eq_getElem hj] at hu
  rw [List.getElem?_eq_getElem hj]
  simpa using hu

/-- Fields, whatever the bytes. -/
theorem fields_any (a : Option Addr) (len cap : Nat) (bs : List UInt8) (hlen : bs.length ≤ 1048576) (w : World) (hL : BytesAt w.heap.size w (.slice a len cap) bs) :
    Calls Tryd.prog 11 #[.slice a len cap] w fun e W' => ∃ v vs, e = .returned v ∧ W'.ownsRow (w.heap.size + 3) 22 1 v (keptF (pcs blankB bs)).length vs ∧ RowsAt (w.heap.size + 3) W' vs (keptF (pcs blankB bs)) ∧ Below w.heap.size w W' :=
  (callsIn_wide (n := 9)).1 (Fields_in Fence.wide 9 trivial trivial trivial trivial cloneIn_wide trivial rfl (by omega) a len cap bs hlen w hL)

set_option maxHeartbeats 2000000 in
set_option maxRecDepth 100000 in
theorem textParts_any (a : Option Addr) (len cap : Nat) (bs : List UInt8) (w : World) (hL : Laid w) (hB : BytesAt w.heap.size w (.slice a len cap) bs) (hlen : bs.length ≤ 1048576) :
    Calls Tryd.prog 3 #[.slice a len cap] w fun r w' => r = .returned (.bool true) ∧ Below w.heap.size w w' := by
  have HL := Lib.hid hL
  have HB := Lib.hid hB
  clear hL hB
  obtain ⟨i5, hi5, hz0, hz1, hz2⟩ := info_parts info5
  go_enter Tryd.func3, Tryd.ntmps3
  go_wp2_with fail
  refine (awake_any _ HL.out).mono ?_
  rintro r W1 ⟨rfl, hb1⟩
  have HB1 := Lib.hid (HB.out.below hb1)
  have hs1 : w.heap.size ≤ W1.heap.size := hb1.size
  clear HL HB
  rcases HB1.out with ⟨h, hbs⟩ | ⟨b, off, cap', h, hcp, hbb, hcc⟩
  · cases h
    subst hbs
    go_wp2_with (at_builtin; refine wpList_append_own_none rfl (.const (.slice none 0 0)) (.tmp 8) 22 rfl W1.heap.size 5 i5 1 Tryd.underlying22 hi5 _ _ _ rfl (World.ownsRow_nil _ _ _ _) rfl ?_)
    obtain ⟨W2, hW2⟩ : ∃ W2, W2 = W1 := ⟨_, rfl⟩
    have hown2 : W2.ownsRow W1.heap.size 5 1 (.slice none 0 0) 0 (u8s []) := World.ownsRow_nil _ _ _ _
    have hb2 : Below W1.heap.size W1 W2 := by rw [hW2]; exact Below.refl _ _
    rw [← hW2]
    clear hW2
    have hs2 : W1.heap.size ≤ W2.heap.size := hb2.size
    have hOB := own_bytes hown2 (by simp only [List.length_nil]; omega)
    have hB2 := HB1.out.below (hb2.mono hs1)
    clear HB1
    refine (lines_any _ _ _ ([] : List UInt8) hlen W2 hOB).mono ?_
    rintro r W3 ⟨va, vsA, rfl, hoA, hrA, hb3⟩
    obtain ⟨aa, ac, rfl⟩ := own_slice hoA
    have hs3 := hb3.size
    have hB3 := hB2.below (hb3.mono (Nat.le_trans hs1 hs2))
    go_wp2_with fail
    refine (refLines_any _ _ _ ([] : List UInt8) hlen W3 (hB3.mono (by omega))).mono ?_
    rintro r W4 ⟨vb, vsB, rfl, hoB, hvB, hb4⟩
    obtain ⟨ba, bc, rfl⟩ := own_slice hoB
    have hs4 := hb4.size
    go_wp2_with fail
    refine (same_any (W2.heap.size + 3) W3.heap.size W3.heap.size aa ba ac bc vsA vsB (kept (pcs feedB ([] : List UInt8))) W4 (Nat.le_trans (kept_count _) (by omega)) (fun p hp => Nat.le_trans (kept_piece _ p hp) (by omega)) (own_below hoA hb4) (rows_below hrA hb4) hoB (hvB.below hb4)).mono ?_
    rintro r W5 ⟨rfl, hb5⟩
    have hs5 := hb5.size
    have hb25 : Below W2.heap.size W2 W5 := hb3.trans ((hb4.mono hs3).trans (hb5.mono (by omega)))
    clear hoA hrA hb3 hoB hvB hb4 hb5
    go_wp2_with fail
    have hO5 := hOB.below hb25
    have hB5 := hB2.below (hb25.mono (Nat.le_trans hs1 hs2))
    refine (fields_any _ _ _ ([] : List UInt8) hlen W5 (hO5.mono hb25.size)).mono ?_
    rintro r W6 ⟨vc, vsC, rfl, hoC, hrC, hb6⟩
    obtain ⟨da, dc, rfl⟩ := own_slice hoC
    have hs6 := hb6.size
    have hB6 := hB5.below (hb6.mono (by omega))
    go_wp2_with fail
    refine (refFields_any _ _ _ ([] : List UInt8) hlen W6 (hB6.mono (by omega))).mono ?_
    rintro r W7 ⟨vd, vsD, rfl, hoD, hvD, hb7⟩
    obtain ⟨ea, ec, rfl⟩ := own_slice hoD
    have hs7 := hb7.size
    go_wp2_with fail
    refine (same_any (W5.heap.size + 3) W6.heap.size W6.heap.size da ea dc ec vsC vsD (keptF (pcs blankB ([] : List UInt8))) W7 (Nat.le_trans (keptF_count _) (by omega)) (fun p hp => Nat.le_trans (keptF_piece _ p hp) (by omega)) (own_below hoC hb7) (rows_below hrC hb7) hoD (hvD.below hb7)).mono ?_
    rintro r W8 ⟨rfl, hb8⟩
    have hb58 : Below W5.heap.size W5 W8 := hb6.trans ((hb7.mono hs6).trans (hb8.mono (by omega)))
    have cvO := conv_at (hO5.below (hb58.mono (by omega)))
    have cvB := conv_at (hB5.below (hb58.mono (by omega)))
    have hll : (([] : List UInt8) == ([] : List UInt8)) = true := beq_self_eq_true _
    clear hoC hrC hb6 hoD hvD hb7 hb8 hB6 hB5 hO5 hOB hB2 hB3
    go_wp2
    go_ret
    exact ⟨rfl, hb1.trans ((hb2.mono hs1).trans ((hb25.mono (by omega)).trans (hb58.mono (by omega))))⟩
  · cases h
    go_wp2_with (at_builtin; refine wpList_append_own _ rfl (.const (.slice none 0 0)) (.tmp 8) 22 rfl W1.heap.size 5 i5 (.int .u8 0) 1 1 Tryd.underlying22 hi5 hz0 hz1 hz2 rfl (by decide) _ _ _ rfl (World.ownsRow_nil _ _ _ _) ⟨b, off, none⟩ bs.length cap (u8s bs) rfl (by rw [u8s_length, Nat.mul_one]) (u8s_cells_at hcc) (u8s_one bs) (by unfold maxLen; omega) (by omega) (Nat.le_refl _) ?_; intro v2 W2 hown2 hgrow2 _; obtain ⟨oa, oc, rfl⟩ := own_slice hown2)
    have hb2 : Below W1.heap.size W1 W2 := (Below.refl _ _).grown hgrow2 (Nat.le_refl _) (fun j ej => by cases ej)
    simp only [Nat.zero_add, List.nil_append] at hown2
    clear hcc
    have hs2 : W1.heap.size ≤ W2.heap.size := hb2.size
    have hOB := own_bytes hown2 (by omega)
    have hB2 := HB1.out.below (hb2.mono hs1)
    clear HB1
    refine (lines_any _ _ _ bs hlen W2 hOB).mono ?_
    rintro r W3 ⟨va, vsA, rfl, hoA, hrA, hb3⟩
    obtain ⟨aa, ac, rfl⟩ := own_slice hoA
    have hs3 := hb3.size
    have hB3 := hB2.below (hb3.mono (Nat.le_trans hs1 hs2))
    go_wp2_with fail
    refine (refLines_any _ _ _ bs hlen W3 (hB3.mono (by omega))).mono ?_
    rintro r W4 ⟨vb, vsB, rfl, hoB, hvB, hb4⟩
    obtain ⟨ba, bc, rfl⟩ := own_slice hoB
    have hs4 := hb4.size
    go_wp2_with fail
    refine (same_any (W2.heap.size + 3) W3.heap.size W3.heap.size aa ba ac bc vsA vsB (kept (pcs feedB bs)) W4 (Nat.le_trans (kept_count _) (by omega)) (fun p hp => Nat.le_trans (kept_piece _ p hp) (by omega)) (own_below hoA hb4) (rows_below hrA hb4) hoB (hvB.below hb4)).mono ?_
    rintro r W5 ⟨rfl, hb5⟩
    have hs5 := hb5.size
    have hb25 : Below W2.heap.size W2 W5 := hb3.trans ((hb4.mono hs3).trans (hb5.mono (by omega)))
    clear hoA hrA hb3 hoB hvB hb4 hb5
    go_wp2_with fail
    have hO5 := hOB.below hb25
    have hB5 := hB2.below (hb25.mono (Nat.le_trans hs1 hs2))
    refine (fields_any _ _ _ bs hlen W5 (hO5.mono hb25.size)).mono ?_
    rintro r W6 ⟨vc, vsC, rfl, hoC, hrC, hb6⟩
    obtain ⟨da, dc, rfl⟩ := own_slice hoC
    have hs6 := hb6.size
    have hB6 := hB5.below (hb6.mono (by omega))
    go_wp2_with fail
    refine (refFields_any _ _ _ bs hlen W6 (hB6.mono (by omega))).mono ?_
    rintro r W7 ⟨vd, vsD, rfl, hoD, hvD, hb7⟩
    obtain ⟨ea, ec, rfl⟩ := own_slice hoD
    have hs7 := hb7.size
    go_wp2_with fail
    refine (same_any (W5.heap.size + 3) W6.heap.size W6.heap.size da ea dc ec vsC vsD (keptF (pcs blankB bs)) W7 (Nat.le_trans (keptF_count _) (by omega)) (fun p hp => Nat.le_trans (keptF_piece _ p hp) (by omega)) (own_below hoC hb7) (rows_below hrC hb7) hoD (hvD.below hb7)).mono ?_
    rintro r W8 ⟨rfl, hb8⟩
    have hb58 : Below W5.heap.size W5 W8 := hb6.trans ((hb7.mono hs6).trans (hb8.mono (by omega)))
    have cvO := conv_at (hO5.below (hb58.mono (by omega)))
    have cvB := conv_at (hB5.below (hb58.mono (by omega)))
    have hll : (bs == bs) = true := beq_self_eq_true _
    clear hoC hrC hb6 hoD hvD hb7 hb8 hB6 hB5 hO5 hOB hB2 hB3
    go_wp2
    go_ret
    exact ⟨rfl, hb1.trans ((hb2.mono hs1).trans ((hb25.mono (by omega)).trans (hb58.mono (by omega))))⟩
end Go.Proofs.YtcpclpckjheadaaDoor
