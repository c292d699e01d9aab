/- The contract of the document's Fields. -/
import Derived.Test.YtcpclpckjheadaaDoorRefLines
import Derived.Test.YtcpclpckjheadaaDoorFieldMath
namespace Go.Proofs.YtcpclpckjheadaaDoor
open Go.RowKit

theorem blank_any (x : Int) (w : World) : Calls Tryd.prog 27 #[.int .u8 x] w fun e w' => e = .returned (.bool (x == 32 || x == 9)) ∧ w' = w := by
  by_cases h : (x == 32) = true
  · go_enter Tryd.func27, Tryd.ntmps27
    go_wp2
    go_ret
    exact ⟨by simp [h], rfl⟩
  · have h' : (x == 32) = false := by simpa using h
    clear h
    go_enter Tryd.func27, Tryd.ntmps27
    go_wp2
    go_ret
    exact ⟨by simp [h'], rfl⟩

set_option maxHeartbeats 4000000 in
set_option maxRecDepth 100000 in
theorem refFields_some (b off cap : Nat) (bs : List UInt8) (w : World) (hlen : bs.length ≤ 1048576) (hlc : bs.length ≤ cap) (hcap : cap ≤ 9223372036854775807) (hb : b < w.heap.size) (hc : ∀ j, j < bs.length → w.cell? ⟨b, off + j, none⟩ = some (.int .u8 ((bs[j]?.getD 0).toNat : Int))) :
    Calls Tryd.prog 12 #[.slice (some ⟨b, off, none⟩) bs.length cap] w fun e W' => ∃ v vs, e = .returned v ∧ W'.ownsRow w.heap.size 22 1 v (fieldsTo bs bs.length).length vs ∧ ViewsAt w.heap.size w vs (fieldsTo bs bs.length) ∧ Below w.heap.size w W' := by
  obtain ⟨i0, hi, hz0, hz1, hz2⟩ := info_parts info22
  have HC := Lib.hid hc
  clear hc
  go_enter Tryd.func12, Tryd.ntmps12
  go_wp2
  go_loopw [3, 4] (fun out i wr => ∃ (k : Nat) (vs : List Value), k ≤ bs.length ∧ i = .int .i64 k ∧ Hid (k < bs.length → blankB (bs[k]?.getD 0) = false → (openP bs k).length = 0) ∧ wr.ownsRow w.heap.size 22 1 out (fieldsTo bs k).length vs ∧ ViewsAt w.heap.size w vs (fieldsTo bs k) ∧ Below w.heap.size w wr) (fun _ i _ => bs.length - (intOf i).toNat)
  case atStart => exact ⟨0, [], Nat.zero_le _, rfl, fun _ _ => by simp [openP, cutTo], by rw [fieldsTo_zero]; exact World.ownsRow_nil _ _ _ _, by rw [fieldsTo_zero]; exact ViewsAt.nil _ _, Below.refl _ _⟩
  case round =>
    obtain ⟨k, vs, hk, rfl, HP, hown, hviews, hbl⟩ := hrel
    have hfl := fieldsTo_length bs k
    obtain ⟨oa, oc, rfl⟩ := own_slice hown
    have HV := Lib.hid hviews
    have HO := Lib.hid hown
    clear hviews hown
    by_cases hlt : k < bs.length
    · obtain ⟨x, HX⟩ : ∃ x : UInt8, Hid (bs[k]?.getD 0 = x) := ⟨_, rfl⟩
      have hcx : wr.cell? ⟨b, off + k, none⟩ = some (.int .u8 (x.toNat : Int)) := by rw [← HX.out]; exact (hbl.cell (p := ⟨b, off + k, none⟩) hb).trans (HC.out k hlt)
      by_cases hcut : blankB x = true
      · have hcutx : ((x.toNat : Int) == 32 || (x.toNat : Int) == 9) = true := hcut
        have HF := Lib.hid (fieldsTo_blank (l := bs) (k := k) (by rw [HX.out]; exact hcut))
        have HP' : Hid (k + 1 < bs.length → blankB (bs[k + 1]?.getD 0) = false → (openP bs (k + 1)).length = 0) := fun _ _ => openP_blank_nil (by rw [HX.out]; exact hcut)
        clear hcut
        go_wp2_with (go_at_call 27; refine (blank_any _ _).mono ?_; rintro e w' ⟨rfl, rfl⟩)
        refine ⟨⟨k + 1, vs, by omega, by go_num, HP', ?_, ?_, hbl⟩, by simp [intOf]; omega⟩
        · rw [HF.out]; exact HO.out
        · rw [HF.out]; exact HV.out
      · have hcut' : blankB x = false := by simpa using hcut
        have hcutx : ((x.toNat : Int) == 32 || (x.toNat : Int) == 9) = false := hcut'
        have HP0 := Lib.hid (HP.out hlt (by rw [HX.out]; exact hcut'))
        have HX' : Hid (blankB (bs[k]?.getD 0) = false) := by show _ = _; rw [HX.out]; exact hcut'
        clear hcut hcut' HP
        go_wp2_with (go_at_call 27; refine (blank_any _ _).mono ?_; rintro e wi ⟨rfl, rfl⟩)
        clear hcx hcutx
        go_loop [4] (fun i => ∃ m : Nat, k ≤ m ∧ m ≤ bs.length ∧ i = .int .i64 m ∧ Hid (cutTo blankB bs m = cutTo blankB bs k)) (fun i => bs.length - (intOf i).toNat)
        case atStart => exact ⟨k, Nat.le_refl _, by omega, rfl, rfl⟩
        case round =>
          obtain ⟨m, hkm0, hm, rfl, HCM⟩ := hrel
          by_cases hml : m < bs.length
          · obtain ⟨y, HY⟩ : ∃ y : UInt8, Hid (bs[m]?.getD 0 = y) := ⟨_, rfl⟩
            have hcy : wi.cell? ⟨b, off + m, none⟩ = some (.int .u8 (y.toNat : Int)) := by rw [← HY.out]; exact (hbl.cell (p := ⟨b, off + m, none⟩) hb).trans (HC.out m hml)
            by_cases hbk : blankB y = true
            · have hkm : k < m := by
                rcases Nat.lt_or_ge k m with h | h
                · exact h
                · have e : m = k := by omega
                  subst e
                  have h1 := HX'.out
                  rw [HY.out, hbk] at h1
                  cases h1
              have HPm : Hid (m < bs.length → blankB (bs[m]?.getD 0) = false → (openP bs m).length = 0) := fun _ h => by rw [HY.out, hbk] at h; cases h
              by_cases h32 : ((y.toNat : Int) == 32) = true
              · have h32' : ((y.toNat : Int) != 32) = false := by rw [bne, h32]; rfl
                clear hbk h32
                have HF := Lib.hid (fieldsTo_field (l := bs) hkm hm HP0.out HCM.out)
                have hcs : ¬ cap = k := by omega
                have hbx : Hid (BytesAt w.heap.size w (.slice (some ⟨b, off + k, none⟩) (m - k) (cap - k)) ((bs.take m).drop k)) := by
                  refine .inr ⟨b, off + k, cap - k, by rw [mid_length bs k m hm], by rw [mid_length bs k m hm]; omega, hb, fun j hj => ?_⟩
                  have hj' := hj
                  rw [mid_length bs k m hm] at hj'
                  rw [mid_at bs k m j hm hj, Nat.add_assoc]
                  exact HC.out (k + j) (by omega)
                go_wp2_with (at_builtin; refine wpList_append_own _ rfl (.tmp 40) (.tmp 45) 25 rfl w.heap.size 22 i0 (.slice none 0 0) 1 24 Tryd.underlying25 hi hz0 hz1 hz2 rfl (by decide) _ _ _ rfl (HO.out.alloc _) ⟨wi.heap.size, 0, none⟩ 1 1 [.slice (some ⟨b, off + k, none⟩) (m - k) (cap - k)] rfl rfl (cell_one_new _ _ _) (by simp [Value.oneCell']) (by unfold maxLen; omega) (by omega) (by have := hbl.size; simp; omega) ?_; intro v2 w2 hown2 hgrow2 _; obtain ⟨za, zc, rfl⟩ := own_slice hown2)
                have hbw2 : Below w.heap.size w w2 := (hbl.alloc hbl.size _).grown hgrow2 (by have := hbl.size; simp; omega) (fun j ej => own_ge HO.out j ej)
                refine ⟨⟨m, vs ++ [.slice (some ⟨b, off + k, none⟩) (m - k) (cap - k)], hm, rfl, HPm, ?_, ?_, hbw2⟩, by simp [intOf]; omega⟩
                · rw [HF.out, List.length_append]; exact hown2
                · rw [HF.out]; exact HV.out.snoc hbx.out
              · have h32' : ((y.toNat : Int) != 32) = true := by rw [bne]; simpa using h32
                have h9 : ((y.toNat : Int) == 9) = true := by
                  have h := hbk
                  unfold blankB at h
                  rw [Bool.or_eq_true] at h
                  exact h.resolve_left h32
                have h9' : ((y.toNat : Int) != 9) = false := by rw [bne, h9]; rfl
                clear hbk h32 h9
                have HF := Lib.hid (fieldsTo_field (l := bs) hkm hm HP0.out HCM.out)
                have hcs : ¬ cap = k := by omega
                have hbx : Hid (BytesAt w.heap.size w (.slice (some ⟨b, off + k, none⟩) (m - k) (cap - k)) ((bs.take m).drop k)) := by
                  refine .inr ⟨b, off + k, cap - k, by rw [mid_length bs k m hm], by rw [mid_length bs k m hm]; omega, hb, fun j hj => ?_⟩
                  have hj' := hj
                  rw [mid_length bs k m hm] at hj'
                  rw [mid_at bs k m j hm hj, Nat.add_assoc]
                  exact HC.out (k + j) (by omega)
                go_wp2_with (at_builtin; refine wpList_append_own _ rfl (.tmp 40) (.tmp 45) 25 rfl w.heap.size 22 i0 (.slice none 0 0) 1 24 Tryd.underlying25 hi hz0 hz1 hz2 rfl (by decide) _ _ _ rfl (HO.out.alloc _) ⟨wi.heap.size, 0, none⟩ 1 1 [.slice (some ⟨b, off + k, none⟩) (m - k) (cap - k)] rfl rfl (cell_one_new _ _ _) (by simp [Value.oneCell']) (by unfold maxLen; omega) (by omega) (by have := hbl.size; simp; omega) ?_; intro v2 w2 hown2 hgrow2 _; obtain ⟨za, zc, rfl⟩ := own_slice hown2)
                have hbw2 : Below w.heap.size w w2 := (hbl.alloc hbl.size _).grown hgrow2 (by have := hbl.size; simp; omega) (fun j ej => own_ge HO.out j ej)
                refine ⟨⟨m, vs ++ [.slice (some ⟨b, off + k, none⟩) (m - k) (cap - k)], hm, rfl, HPm, ?_, ?_, hbw2⟩, by simp [intOf]; omega⟩
                · rw [HF.out, List.length_append]; exact hown2
                · rw [HF.out]; exact HV.out.snoc hbx.out
            · have hbk' : blankB y = false := by simpa using hbk
              have h := hbk'
              unfold blankB at h
              rw [Bool.or_eq_false_iff] at h
              have h32' : ((y.toNat : Int) != 32) = true := by rw [bne, h.1]; rfl
              have h9' : ((y.toNat : Int) != 9) = true := by rw [bne, h.2]; rfl
              have HC1 : Hid (cutTo blankB bs (m + 1) = cutTo blankB bs k) := by show _ = _; rw [cutTo_no (by rw [HY.out]; exact hbk')]; exact HCM.out
              clear hbk hbk' h
              go_wp2
              exact ⟨⟨m + 1, by omega, by omega, by go_num, HC1⟩, by simp [intOf]; omega⟩
          · obtain rfl : m = bs.length := by omega
            have hkm : k < bs.length := hlt
            have HPm : Hid (bs.length < bs.length → blankB (bs[bs.length]?.getD 0) = false → (openP bs bs.length).length = 0) := fun h _ => absurd h (Nat.lt_irrefl _)
            have HF := Lib.hid (fieldsTo_field (l := bs) hkm hm HP0.out HCM.out)
            have hcs : ¬ cap = k := by omega
            have hbx : Hid (BytesAt w.heap.size w (.slice (some ⟨b, off + k, none⟩) (bs.length - k) (cap - k)) ((bs.take bs.length).drop k)) := by
              refine .inr ⟨b, off + k, cap - k, by rw [mid_length bs k bs.length hm], by rw [mid_length bs k bs.length hm]; omega, hb, fun j hj => ?_⟩
              have hj' := hj
              rw [mid_length bs k bs.length hm] at hj'
              rw [mid_at bs k bs.length j hm hj, Nat.add_assoc]
              exact HC.out (k + j) (by omega)
            go_wp2_with (at_builtin; refine wpList_append_own _ rfl (.tmp 40) (.tmp 45) 25 rfl w.heap.size 22 i0 (.slice none 0 0) 1 24 Tryd.underlying25 hi hz0 hz1 hz2 rfl (by decide) _ _ _ rfl (HO.out.alloc _) ⟨wi.heap.size, 0, none⟩ 1 1 [.slice (some ⟨b, off + k, none⟩) (bs.length - k) (cap - k)] rfl rfl (cell_one_new _ _ _) (by simp [Value.oneCell']) (by unfold maxLen; omega) (by omega) (by have := hbl.size; simp; omega) ?_; intro v2 w2 hown2 hgrow2 _; obtain ⟨za, zc, rfl⟩ := own_slice hown2)
            have hbw2 : Below w.heap.size w w2 := (hbl.alloc hbl.size _).grown hgrow2 (by have := hbl.size; simp; omega) (fun j ej => own_ge HO.out j ej)
            refine ⟨⟨bs.length, vs ++ [.slice (some ⟨b, off + k, none⟩) (bs.length - k) (cap - k)], hm, rfl, HPm, ?_, ?_, hbw2⟩, by simp [intOf]; omega⟩
            · rw [HF.out, List.length_append]; exact hown2
            · rw [HF.out]; exact HV.out.snoc hbx.out
    · obtain rfl : k = bs.length := by omega
      go_wp2
      go_ret
      exact ⟨_, vs, rfl, HO.out, HV.out, hbl⟩

set_option maxHeartbeats 400000 in
theorem refFields_nil (w : World) :
    Calls Tryd.prog 12 #[.slice none 0 0] w fun e W' => e = .returned (.slice none 0 0) ∧ W' = w := by
  go_enter Tryd.func12, Tryd.ntmps12
  go_wp2
  go_loop [3, 4] (fun out i => i = .int .i64 0 ∧ out = .slice none 0 0) (fun _ _ => 0)
  case atStart => exact ⟨rfl, rfl⟩
  case round =>
    obtain ⟨rfl, rfl⟩ := hrel
    go_wp2
    go_ret
    exact ⟨rfl, rfl⟩

/-- The document's Fields, whatever the bytes: views into them. -/
theorem refFields_any (a : Option Addr) (len cap : Nat) (bs : List UInt8) (hlen : bs.length ≤ 1048576) (w : World) (hB : BytesAt w.heap.size w (.slice a len cap) bs) :
    Calls Tryd.prog 12 #[.slice a len cap] w fun e W' => ∃ v vs, e = .returned v ∧ W'.ownsRow w.heap.size 22 1 v (keptF (pcs blankB bs)).length vs ∧ ViewsAt w.heap.size w vs (keptF (pcs blankB bs)) ∧ Below w.heap.size w W' := by
  rcases hB with ⟨h, rfl⟩ | ⟨b, off, cap', h, ⟨h1, _, h3⟩, hb, hc⟩
  · cases h
    refine (refFields_nil w).mono ?_
    rintro e W' ⟨rfl, rfl⟩
    exact ⟨_, [], rfl, World.ownsRow_nil _ _ _ _, ViewsAt.nil _ _, Below.refl _ _⟩
  · cases h
    rw [keptF_pcs]
    exact refFields_some b off cap bs w hlen h1 h3 hb hc
end Go.Proofs.YtcpclpckjheadaaDoor
