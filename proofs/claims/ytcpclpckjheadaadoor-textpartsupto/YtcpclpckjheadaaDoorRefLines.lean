/- The contract of the document's Lines. -/
import Derived.Test.YtcpclpckjheadaaDoorTextBack
import Derived.Test.YtcpclpckjheadaaDoorBackMath
namespace Go.Proofs.YtcpclpckjheadaaDoor
open Go.RowKit

/-- Slices of bytes that hold these bytes somewhere below n₀. -/
def ViewsAt (n₀ : Nat) (W : World) (vs : List Value) (ls : List (List UInt8)) : Prop :=
  vs.length = ls.length ∧ ∀ i (hi : i < ls.length), ∃ v, vs[i]? = some v ∧ BytesAt n₀ W v ls[i]
theorem ViewsAt.below {n₀ : Nat} {A B : World} (h : Below n₀ A B) {vs : List Value} {ls : List (List UInt8)} (hv : ViewsAt n₀ A vs ls) : ViewsAt n₀ B vs ls :=
  ⟨hv.1, fun i hi => by obtain ⟨v, h1, h2⟩ := hv.2 i hi; exact ⟨v, h1, h2.below h⟩⟩
theorem ViewsAt.snoc {n₀ : Nat} {W : World} {vs : List Value} {ls : List (List UInt8)} (hv : ViewsAt n₀ W vs ls) {v : Value} {l : List UInt8} (h : BytesAt n₀ W v l) : ViewsAt n₀ W (vs ++ [v]) (ls ++ [l]) := by
  refine ⟨by rw [List.length_append, List.length_append, hv.1]; rfl, fun i hi => ?_⟩
  have hl := hv.1
  by_cases hi' : i < ls.length
  · obtain ⟨u, h1, h2⟩ := hv.2 i hi'
    exact ⟨u, by rw [List.getElem?_append_left (by omega)]; exact h1, by rw [List.getElem_append_left hi']; exact h2⟩
  · have hi2 : i = ls.length := by simp at hi; omega
    subst hi2
    exact ⟨v, by rw [List.getElem?_append_right (by omega), hl]; simp, by rw [List.getElem_append_right (Nat.le_refl _)]; simpa using h⟩
theorem ViewsAt.nil (n₀ : Nat) (W : World) : ViewsAt n₀ W [] [] := ⟨rfl, fun i hi => absurd hi (by simp)⟩

set_option maxHeartbeats 2000000 in
set_option maxRecDepth 100000 in
theorem refLines_some (b off cap : Nat) (bs : List UInt8) (w : World) (hlen : bs.length ≤ 1048576) (hlc : bs.length ≤ cap) (hcap : cap ≤ 9223372036854775807) (hb : b < w.heap.size) (hc : ∀ j, j < bs.length → w.cell? ⟨b, off + j, none⟩ = some (.int .u8 ((bs[j]?.getD 0).toNat : Int))) :
    Calls Tryd.prog 10 #[.slice (some ⟨b, off, none⟩) bs.length cap] w fun e W' => ∃ v vs, e = .returned v ∧ W'.ownsRow w.heap.size 22 1 v (kept (pcs feedB bs)).length vs ∧ ViewsAt w.heap.size w vs (kept (pcs feedB bs)) ∧ Below w.heap.size w W' := by
  obtain ⟨i0, hi, hz0, hz1, hz2⟩ := info_parts info22
  have HC := Lib.hid hc
  clear hc
  have HKP := Lib.hid (kept_pcs bs)
  generalize kept (pcs feedB bs) = KL at HKP ⊢
  go_enter Tryd.func10, Tryd.ntmps10
  go_wp2
  go_loopw [3, 4, 5] (fun out fr i wr => ∃ (k s : Nat) (vs : List Value), k ≤ bs.length ∧ s ≤ k ∧ i = .int .i64 k ∧ fr = .int .i64 s ∧ Hid (s = (cutTo feedB bs k).1) ∧ wr.ownsRow w.heap.size 22 1 out (cutTo feedB bs k).2.length vs ∧ ViewsAt w.heap.size w vs (cutTo feedB bs k).2 ∧ Below w.heap.size w wr) (fun _ _ i _ => bs.length - (intOf i).toNat)
  case atStart => exact ⟨0, 0, [], Nat.zero_le _, Nat.le_refl _, rfl, rfl, rfl, World.ownsRow_nil _ _ _ _, ViewsAt.nil _ _, Below.refl _ _⟩
  case round =>
    obtain ⟨k, s, vs, hk, hsk, rfl, rfl, HS, hown, hviews, hbl⟩ := hrel
    have hcl := cutTo_length feedB bs k
    obtain ⟨oa, oc, rfl⟩ := own_slice hown
    have HV := Lib.hid hviews
    have HO := Lib.hid hown
    clear hviews hown
    by_cases hlt : k < bs.length
    · obtain ⟨x, HX⟩ : ∃ x : UInt8, Hid (bs[k]?.getD 0 = x) := ⟨_, rfl⟩
      have hcx : wr.cell? ⟨b, off + k, none⟩ = some (.int .u8 (x.toNat : Int)) := by rw [← HX.out]; exact (hbl.cell (p := ⟨b, off + k, none⟩) hb).trans (HC.out k hlt)
      by_cases hcut : feedB x = true
      · have hcutx : ((x.toNat : Int) == 10) = true := hcut
        have HCT := Lib.hid (show cutTo feedB bs (k + 1) = (k + 1, (cutTo feedB bs k).2 ++ [(bs.take k).drop (cutTo feedB bs k).1]) from cutTo_yes (by rw [HX.out]; exact hcut))
        have hcs : ¬ cap = s := by omega
        have hbx : Hid (BytesAt w.heap.size w (.slice (some ⟨b, off + s, none⟩) (k - s) (cap - s)) ((bs.take k).drop s)) := by
          refine .inr ⟨b, off + s, cap - s, by rw [mid_length bs s k hk], by rw [mid_length bs s k hk]; omega, hb, fun j hj => ?_⟩
          have hj' := hj
          rw [mid_length bs s k hk] at hj'
          rw [mid_at bs s k j hk hj, Nat.add_assoc]
          exact HC.out (s + j) (by omega)
        clear hcut
        go_wp2_with (at_builtin; refine wpList_append_own _ rfl (.tmp 17) (.tmp 22) 25 rfl w.heap.size 22 i0 (.slice none 0 0) 1 24 Tryd.underlying25 hi hz0 hz1 hz2 rfl (by decide) _ _ _ rfl (HO.out.alloc _) ⟨wr.heap.size, 0, none⟩ 1 1 [.slice (some ⟨b, off + s, none⟩) (k - s) (cap - s)] rfl rfl (cell_one_new _ _ _) (by simp [Value.oneCell']) (by unfold maxLen; omega) (by omega) (by have := hbl.size; simp; omega) ?_; intro v2 w2 hown2 hgrow2 _; obtain ⟨za, zc, rfl⟩ := own_slice hown2)
        have hbw2 : Below w.heap.size w w2 := (hbl.alloc hbl.size _).grown hgrow2 (by have := hbl.size; simp; omega) (fun j ej => own_ge HO.out j ej)
        refine ⟨⟨k + 1, k + 1, vs ++ [.slice (some ⟨b, off + s, none⟩) (k - s) (cap - s)], by omega, Nat.le_refl _, by go_num, by go_num, by show _ = _; rw [HCT.out], ?_, ?_, hbw2⟩, by simp [intOf]; omega⟩
        · rw [HCT.out, List.length_append]; exact hown2
        · rw [HCT.out, ← HS.out]; exact HV.out.snoc hbx.out
      · have hcut' : feedB x = false := by simpa using hcut
        have hcutx : ((x.toNat : Int) == 10) = false := hcut'
        have HCT := Lib.hid (show cutTo feedB bs (k + 1) = cutTo feedB bs k from cutTo_no (by rw [HX.out]; exact hcut'))
        clear hcut hcut'
        go_wp2
        refine ⟨⟨k + 1, s, vs, by omega, by omega, by go_num, rfl, by show _ = _; rw [HCT.out]; exact HS.out, ?_, ?_, hbl⟩, by simp [intOf]; omega⟩
        · rw [HCT.out]; exact HO.out
        · rw [HCT.out]; exact HV.out
    · obtain rfl : k = bs.length := by omega
      rw [← HS.out] at HKP
      by_cases hsl : s < bs.length
      · have hcs : ¬ cap = s := by omega
        have hbx : Hid (BytesAt w.heap.size w (.slice (some ⟨b, off + s, none⟩) (bs.length - s) (cap - s)) (bs.drop s)) := by
          refine .inr ⟨b, off + s, cap - s, by rw [List.length_drop], by rw [List.length_drop]; omega, hb, fun j hj => ?_⟩
          rw [List.length_drop] at hj
          rw [end_at bs s j, Nat.add_assoc]
          exact HC.out (s + j) (by omega)
        have HE : Hid (KL = (cutTo feedB bs bs.length).2 ++ [bs.drop s]) := by
          show KL = _
          rw [HKP.out, if_neg (by rw [List.length_drop]; omega)]
        clear HKP
        go_wp2_with (at_builtin; refine wpList_append_own _ rfl (.tmp 30) (.tmp 34) 25 rfl w.heap.size 22 i0 (.slice none 0 0) 1 24 Tryd.underlying25 hi hz0 hz1 hz2 rfl (by decide) _ _ _ rfl (HO.out.alloc _) ⟨wr.heap.size, 0, none⟩ 1 1 [.slice (some ⟨b, off + s, none⟩) (bs.length - s) (cap - s)] rfl rfl (cell_one_new _ _ _) (by simp [Value.oneCell']) (by unfold maxLen; omega) (by omega) (by have := hbl.size; simp; omega) ?_; intro v2 w2 hown2 hgrow2 _; obtain ⟨za, zc, rfl⟩ := own_slice hown2)
        have hbw2 : Below w.heap.size w w2 := (hbl.alloc hbl.size _).grown hgrow2 (by have := hbl.size; simp; omega) (fun j ej => own_ge HO.out j ej)
        go_ret
        refine ⟨_, vs ++ [.slice (some ⟨b, off + s, none⟩) (bs.length - s) (cap - s)], rfl, ?_, ?_, hbw2⟩
        · rw [HE.out, List.length_append]; exact hown2
        · rw [HE.out]; exact HV.out.snoc hbx.out
      · have HE : Hid (KL = (cutTo feedB bs bs.length).2) := by
          show KL = _
          rw [HKP.out, if_pos (by rw [List.length_drop]; omega), List.append_nil]
        clear HKP
        go_wp2
        go_ret
        refine ⟨_, vs, rfl, ?_, ?_, hbl⟩
        · rw [HE.out]; exact HO.out
        · rw [HE.out]; exact HV.out

set_option maxHeartbeats 400000 in
theorem refLines_nil (w : World) :
    Calls Tryd.prog 10 #[.slice none 0 0] w fun e W' => e = .returned (.slice none 0 0) ∧ W' = w := by
  go_enter Tryd.func10, Tryd.ntmps10
  go_wp2
  go_loop [3, 4, 5] (fun out fr i => i = .int .i64 0 ∧ fr = .int .i64 0 ∧ out = .slice none 0 0) (fun _ _ _ => 0)
  case atStart => exact ⟨rfl, rfl, rfl⟩
  case round =>
    obtain ⟨rfl, rfl, rfl⟩ := hrel
    go_wp2
    go_ret
    exact ⟨rfl, rfl⟩

/-- The document's Lines, whatever the bytes: views into them. -/
theorem refLines_any (a : Option Addr) (len cap : Nat) (bs : List UInt8) (hlen : bs.length ≤ 1048576) (w : World) (hB : BytesAt w.heap.size w (.slice a len cap) bs) :
    Calls Tryd.prog 10 #[.slice a len cap] w fun e W' => ∃ v vs, e = .returned v ∧ W'.ownsRow w.heap.size 22 1 v (kept (pcs feedB bs)).length vs ∧ ViewsAt w.heap.size w vs (kept (pcs feedB bs)) ∧ Below w.heap.size w W' := by
  rcases hB with ⟨h, rfl⟩ | ⟨b, off, cap', h, ⟨h1, _, h3⟩, hb, hc⟩
  · cases h
    refine (refLines_nil w).mono ?_
    rintro e W' ⟨rfl, rfl⟩
    exact ⟨_, [], rfl, World.ownsRow_nil _ _ _ _, ViewsAt.nil _ _, Below.refl _ _⟩
  · cases h
    exact refLines_some b off cap bs w hlen h1 h3 hb hc
end Go.Proofs.YtcpclpckjheadaaDoor
