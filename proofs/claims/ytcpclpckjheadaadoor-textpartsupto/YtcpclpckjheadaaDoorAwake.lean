/- The contract of the chapter's examples: they come out true. -/
import Derived.Test.YtcpclpckjheadaaDoorLaid
import Derived.Test.YtcpclpckjheadaaDoorRead
import Derived.Test.YtcpclpckjheadaaDoorDigits
import Derived.Test.YtcpclpckjheadaaDoorWords
import Derived.Test.YtcpclpckjheadaaDoorLines
namespace Go.Proofs.YtcpclpckjheadaaDoor
open Go.RowKit Go.Shelf

theorem cloneIn_wide : CloneIn Fence.wide := fun m n₀ v xs W h => by
  refine callsIn_wide.2 ?_
  rcases h with ⟨rfl, rfl⟩ | ⟨b, off, cap, rfl, ⟨h1, h2, h3⟩, hb, hc⟩
  · refine (Tryd.bytes_Clone_nil 0 0 W).mono ?_
    rintro e w' ⟨rfl, rfl⟩
    exact ⟨_, rfl, World.ownsRow_nil _ _ _ _, Below.refl _ _⟩
  · refine (Tryd.bytes_Clone_at ⟨b, off, none⟩ xs.length cap (xs.map fun x => (x.toNat : Int)) W (by simp) h2 (fun i hi => ?_)).mono ?_
    · rw [Lib.add_plain, hc i hi]
      simp [List.getD, hi]
    · rintro e w' ⟨v', rfl, ho, _, hb'⟩
      refine ⟨v', rfl, ?_, hb'⟩
      rw [List.map_map] at ho
      exact ho

/-- Lines, whatever the bytes. -/
theorem lines_any (a : Option Addr) (len cap : Nat) (bs : List UInt8) (hlen : bs.length ≤ 1048576) (w : World) (hL : BytesAt w.heap.size w (.slice a len cap) bs) :
    Calls Tryd.prog 9 #[.slice a len cap] w fun e W' => ∃ v vs, e = .returned v ∧ W'.ownsRow (w.heap.size + 3) 22 1 v (kept (pcs feedB bs)).length vs ∧ RowsAt (w.heap.size + 3) W' vs (kept (pcs feedB bs)) ∧ Below w.heap.size w W' :=
  (callsIn_wide (n := 9)).1 (Lines_in Fence.wide 9 trivial trivial trivial trivial cloneIn_wide trivial rfl (by omega) a len cap bs hlen w hL)

theorem dig_ff : digAt 16 255 = [102, 102] := by
  rw [digAt, if_neg (by decide), if_neg (by decide), if_pos rfl, show (255 : Int) = ((255 : Nat) : Int) from rfl, digL_nonneg, dgB_step (by decide) (by decide), dgB_small (by decide)]
  decide
theorem dig_m8 : digAt 8 (-8) = [45, 49, 48] := by
  rw [digAt, if_pos rfl, show (-8 : Int) = -((8 : Nat) : Int) from rfl, digL_neg 8 8 (by decide), dgB_step (by decide) (by decide), dgB_small (by decide)]
  decide
theorem num_007 : rdAll 10 9 [48, 48, 55] = (7, true) := by decide
theorem num_10 : rdAll 10 9 [49, 48] = (0, false) := by decide
theorem pcs_ab : kept (pcs feedB [97, 10, 10, 98]) = [[97], [], [98]] := by decide

/-- What of an error's number is said. -/
def wordOf (e : Int) : ByteArray := if 0 ≤ e ∧ e < 27 then wdB e.toNat else wdB 0
theorem word_any (e : Int) (w : World) (hL : ∀ i, i < 27 → w.cell? ⟨0, i, none⟩ = some (.string (wdB i))) :
    Calls Tryd.prog 19 #[.int .i64 e] w fun r w' => r = .returned (.string (wordOf e)) ∧ w' = w := by
  by_cases h : 0 ≤ e ∧ e < 27
  · obtain ⟨u, rfl⟩ : ∃ u : Nat, e = u := ⟨e.toNat, by omega⟩
    have := word_in wdB u w hL (by omega)
    rw [wordOf, if_pos h, Int.toNat_natCast]
    exact this
  · rw [wordOf, if_neg h]
    exact word_out wdB e w hL (by omega)
theorem wordOf_size (e : Int) : (wordOf e).size ≤ 32 := by
  unfold wordOf; split <;> exact wdB_size _
theorem diag_cat : diagL [99, 97, 116] [120] (wordOf 1).data.toList = [99, 97, 116, 58, 32, 120, 58, 32, 110, 111, 32, 115, 117, 99, 104, 32, 102, 105, 108, 101, 10] := by decide +kernel

theorem own_cell {W : World} {base e n cap g : Nat} {xs : List Value} (h : W.ownsRow base e 1 (.slice (some ⟨g, 0, none⟩) n cap) n xs) (i : Nat) (hi : i < n) : W.cell? ⟨g, i, none⟩ = xs[i]? := by
  rcases h.2 with ⟨h1, _⟩ | ⟨g', cap', cur, h1, _, hg, hn, _, hs, hx⟩
  · cases h1
  · cases h1
    rw [← hx, List.getElem?_take, if_pos (by omega)]
    simp [World.cell?, hg]
theorem own_frozen {W : World} {base e n cap g : Nat} {xs : List Value} (h : W.ownsRow base e 1 (.slice (some ⟨g, 0, none⟩) n cap) n xs) (i : Nat) : W.frozen? ⟨g, i, none⟩ = false := by
  rcases h.2 with ⟨h1, _⟩ | ⟨g', cap', cur, h1, _, hg, hn, _, hs, hx⟩
  · cases h1
  · cases h1
    simp [World.frozen?, hg]

/-- 'string(b)' of a slice that owns its bytes. -/
theorem conv_own {W : World} {base n : Nat} {v : Value} {l : List UInt8} (h : W.ownsRow base 5 1 v n (u8s l)) (hn : l.length = n) : (convert 22 9 v).run Tryd.prog W = .ok (.string ⟨l.toArray⟩) W := by
  subst hn
  rcases h.2 with ⟨rfl, h0⟩ | ⟨g, cap, cur, rfl, _⟩
  · obtain rfl := List.eq_nil_of_length_eq_zero h0
    exact run_convert_bytes_nil W 22 5 Tryd.underlying22 Tryd.underlying5 0 0 9 Tryd.underlying9
  · refine run_convert_bytes_back (P := Tryd.prog) _ 22 9 5 ⟨g, 0, none⟩ cap l Tryd.underlying22 Tryd.underlying5 Tryd.underlying9 (fun j hj => ?_)
    rw [Lib.add_plain, Nat.zero_add, own_cell h j hj]
    simp [u8s, hj]
/-- 'string(b)' of a slice that holds its bytes somewhere. -/
theorem conv_at {W : World} {n₀ : Nat} {v : Value} {l : List UInt8} (h : BytesAt n₀ W v l) : (convert 22 9 v).run Tryd.prog W = .ok (.string ⟨l.toArray⟩) W := by
  rcases h with ⟨rfl, rfl⟩ | ⟨b, off, cap, rfl, _, _, hc⟩
  · exact run_convert_bytes_nil W 22 5 Tryd.underlying22 Tryd.underlying5 0 0 9 Tryd.underlying9
  · refine run_convert_bytes_back (P := Tryd.prog) _ 22 9 5 ⟨b, off, none⟩ cap l Tryd.underlying22 Tryd.underlying5 Tryd.underlying9 (fun j hj => ?_)
    rw [Lib.add_plain, hc j hj]
    simp [hj]
/-- 'string(b)' behind []byte(s). -/
theorem conv_bytesWorld (w : World) (s : ByteArray) (cap : Nat) : (convert 22 9 (.slice (some ⟨w.heap.size, 0, none⟩) s.size cap)).run Tryd.prog (Lib.bytesWorld w 5 s) = .ok (.string s) (Lib.bytesWorld w 5 s) := by
  have h := run_convert_bytes_back (P := Tryd.prog) (Lib.bytesWorld w 5 s) 22 9 5 ⟨w.heap.size, 0, none⟩ cap s.data.toList Tryd.underlying22 Tryd.underlying5 Tryd.underlying9 (fun j hj => by
    have hj' : j < s.size := hj
    rw [Lib.add_plain, Nat.zero_add, Lib.bytesWorld_cell w 5 s j hj']
    simp [List.getD, hj'])
  exact h

theorem num1 (w : World) : Calls Tryd.prog 13 #[.string ⟨#[48, 48, 55]⟩, .int .i64 9] w fun e w' => e = .returned (.tuple #[.int .i64 7, .bool true]) ∧ w' = w := by
  have h := number_any ⟨#[48, 48, 55]⟩ 9 w (by decide) (by omega) (by omega)
  rw [show (⟨#[48, 48, 55]⟩ : ByteArray).data.toList = [48, 48, 55] from rfl, num_007] at h
  exact h
theorem num2 (w : World) : Calls Tryd.prog 13 #[.string ⟨#[49, 48]⟩, .int .i64 9] w fun e w' => e = .returned (.tuple #[.int .i64 0, .bool false]) ∧ w' = w := by
  have h := number_any ⟨#[49, 48]⟩ 9 w (by decide) (by omega) (by omega)
  rw [show (⟨#[49, 48]⟩ : ByteArray).data.toList = [49, 48] from rfl, num_10] at h
  exact h
theorem dig1 (w : World) (hL : Laid w) : Calls Tryd.prog 17 #[.int .i64 255, .int .i64 16] w fun e w' => e = .returned (.string ⟨#[102, 102]⟩) ∧ Below w.heap.size w w' := by
  have h := digits_any 255 16 (by omega) (by omega) w hL.t7 hL.t15 hL.size hL.p10
  rw [dig_ff] at h
  exact h
theorem dig2 (w : World) (hL : Laid w) : Calls Tryd.prog 17 #[.int .i64 (-8), .int .i64 8] w fun e w' => e = .returned (.string ⟨#[45, 49, 48]⟩) ∧ Below w.heap.size w w' := by
  have h := digits_any (-8) 8 (by omega) (by omega) w hL.t7 hL.t15 hL.size hL.p10
  rw [dig_m8] at h
  exact h
theorem diag1 (w : World) (hL : Laid w) : Calls Tryd.prog 21 #[.string ⟨#[99, 97, 116]⟩, .string ⟨#[120]⟩, .int .i64 1] w fun r w' => ∃ cap, r = .returned (.slice (some ⟨w.heap.size, 0, none⟩) 21 cap) ∧ w' = Lib.bytesWorld w 5 ⟨#[99, 97, 116, 58, 32, 120, 58, 32, 110, 111, 32, 115, 117, 99, 104, 32, 102, 105, 108, 101, 10]⟩ := by
  refine (diag_any (wordOf 1) ⟨#[99, 97, 116]⟩ ⟨#[120]⟩ 1 w (word_any 1 w hL.wd) (by decide) (by decide) (wordOf_size 1)).mono ?_
  rintro r w' ⟨s, cap, rfl, rfl, hs⟩
  rw [show (⟨#[99, 97, 116]⟩ : ByteArray).data.toList = [99, 97, 116] from rfl, show (⟨#[120]⟩ : ByteArray).data.toList = [120] from rfl, diag_cat] at hs
  obtain rfl : s = ⟨#[99, 97, 116, 58, 32, 120, 58, 32, 110, 111, 32, 115, 117, 99, 104, 32, 102, 105, 108, 101, 10]⟩ := by
    cases s with | mk d => cases d with | mk l => cases hs; rfl
  exact ⟨cap, rfl, rfl⟩

set_option maxHeartbeats 1000000 in
set_option maxRecDepth 100000 in
theorem awake_any (w : World) (hL : Laid w) :
    Calls Tryd.prog 7 #[] w fun e w' => e = .returned (.bool true) ∧ Below w.heap.size w w' := by
  have HL := Lib.hid hL
  clear hL
  have hcv := Joins.run_convert_bytes_const_at (P := Tryd.prog) w 22 5 #[.int .u8 97, .int .u8 10, .int .u8 10, .int .u8 98] 4 4 w.heap.size rfl Tryd.underlying22 Tryd.underlying5
  go_enter Tryd.func7, Tryd.ntmps7
  go_wp2_with fail
  clear hcv
  have hba : Below w.heap.size w (w.alloc (.cells #[.int .u8 97, .int .u8 10, .int .u8 10, .int .u8 98] 5 (4, 5))) := (Below.refl _ _).alloc (Nat.le_refl _) _
  have hBA : BytesAt (w.alloc (.cells #[.int .u8 97, .int .u8 10, .int .u8 10, .int .u8 98] 5 (4, 5))).heap.size (w.alloc (.cells #[.int .u8 97, .int .u8 10, .int .u8 10, .int .u8 98] 5 (4, 5))) (.slice (some ⟨w.heap.size, 0, none⟩) 4 4) [97, 10, 10, 98] := by
    refine .inr ⟨w.heap.size, 0, 4, rfl, by decide, by simp, fun j hj => ?_⟩
    have hj' : j = 0 ∨ j = 1 ∨ j = 2 ∨ j = 3 := by simp at hj; omega
    rw [World.cell?_alloc_mark]
    rcases hj' with rfl | rfl | rfl | rfl <;> rfl
  refine (lines_any _ 4 4 [97, 10, 10, 98] (by simp) _ hBA).mono ?_
  rintro e W2 ⟨v, vs, rfl, hown, hrows, hb2⟩
  rw [pcs_ab] at hown hrows
  have hb : Below w.heap.size w W2 := hba.trans (hb2.mono (by simp))
  clear hba hBA hb2
  obtain ⟨g, cap, rfl⟩ := ownsRow_succ (k := 2) hown
  obtain ⟨v0, e0, r0⟩ := hrows.2 0 (by decide)
  obtain ⟨v2, e2, r2⟩ := hrows.2 2 (by decide)
  have hc0 : W2.cell? ⟨g, 0, none⟩ = some v0 := (own_cell hown 0 (by decide)).trans e0
  have hc2 : W2.cell? ⟨g, 2, none⟩ = some v2 := (own_cell hown 2 (by decide)).trans e2
  obtain ⟨a0, c0, rfl⟩ := own_slice r0
  obtain ⟨a2, c2, rfl⟩ := own_slice r2
  have cv0 := conv_own r0 rfl
  have cv2 := conv_own r2 rfl
  simp only [List.getElem_cons_zero, List.getElem_cons_succ, List.length_cons, List.length_nil, Nat.zero_add] at hc0 hc2 cv0 cv2
  have HL2 := Lib.hid (HL.out.below hb HL.out.size)
  clear hown hrows e0 e2 r0 r2
  go_wp2_with fail
  refine (num1 _).mono ?_
  rintro e W2' ⟨rfl, rfl⟩
  go_wp2_with fail
  refine (num2 _).mono ?_
  rintro e W2' ⟨rfl, rfl⟩
  go_wp2_with fail
  have hz := HL2.out.size
  refine (dig1 _ HL2.out).mono ?_
  rintro e W3 ⟨rfl, hb3⟩
  have HL3 := Lib.hid (HL2.out.below hb3 hz)
  have hbb : Below w.heap.size w W3 := hb.trans (hb3.mono hb.size)
  clear hb hb3 hc0 hc2 cv0 cv2 HL2 hz
  go_wp2_with fail
  have hz := HL3.out.size
  refine (dig2 _ HL3.out).mono ?_
  rintro e W4 ⟨rfl, hb4⟩
  have HL4 := Lib.hid (HL3.out.below hb4 hz)
  have hb : Below w.heap.size w W4 := hbb.trans (hb4.mono hbb.size)
  clear hbb hb4 HL3 hz
  go_wp2_with fail
  refine (diag1 _ HL4.out).mono ?_
  rintro e W5 ⟨cap5, rfl, rfl⟩
  have hcv := conv_bytesWorld W4 ⟨#[99, 97, 116, 58, 32, 120, 58, 32, 110, 111, 32, 115, 117, 99, 104, 32, 102, 105, 108, 101, 10]⟩ cap5
  have hbe := Lib.hid (Joins.below_bytesWorld w.heap.size W4 5 ⟨#[99, 97, 116, 58, 32, 120, 58, 32, 110, 111, 32, 115, 117, 99, 104, 32, 102, 105, 108, 101, 10]⟩ hb.size)
  rw [show (⟨#[99, 97, 116, 58, 32, 120, 58, 32, 110, 111, 32, 115, 117, 99, 104, 32, 102, 105, 108, 101, 10]⟩ : ByteArray).size = 21 from rfl] at hcv
  go_wp2
  go_ret
  exact ⟨rfl, hb.trans hbe.out⟩
end Go.Proofs.YtcpclpckjheadaaDoor
