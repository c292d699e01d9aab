/- names.readNumber: of what the laws hand over. -/
import Derived.Test.YteimilnecahifaaGreatDoorShelf6
import Derived.Test.YteimilnecahifaaGreatDoorFCv
import Derived.Test.YteimilnecahifaaGreatDoorFTxt
import Derived.Test.YteimilnecahifaaGreatDoorNRef2
namespace Go.Proofs.YteimilnecahifaaGreatDoor.Nm
open Go.Proofs.YteimilnecahifaaGreatDoor Go.Proofs.YteimilnecahifaaGreatDoor.Op
open Go.RowKit

def Low (L : List UInt8) : Prop := ∀ c ∈ L, ¬ (65 ≤ c.toNat ∧ c.toNat ≤ 70)
theorem pub_c (b : Nat) (hb : b = 8 ∨ b = 10 ∨ b = 16) (L : List UInt8) (n : Nat) (h0 : L ≠ []) (hv : natB b 0 L = some n) (hn : n ≤ 9223372036854775807) (hc : Low L) (hz : L.length ≤ 2097152) (w : World) : Calls Tryz.prog 251 #[.string (bz L), .int .i64 (b : Int), .int .i64 64] w fun e w' => e = .returned (.tuple #[.int .u64 (n : Int), .nilIface]) ∧ Below w.heap.size w w' := by
  have h : Calls Tryz.prog 265 #[.string (bz L), .int .i64 (b : Int), .int .i64 64] w fun e w' => e = .returned (.tuple #[.int .u64 (n : Int), .nilIface]) ∧ Below w.heap.size w w' := by
    rcases hb with rfl | rfl | rfl
    · exact pu_8 L n h0 hv hn hc hz w
    · exact pu_10 L n h0 hv hn hc hz w
    · exact pu_16 L n h0 hv hn hc hz w
  clear hb h0 hv hc hz
  go_enter Tryz.func251, Tryz.ntmps251
  go_wp2_with (go_at_call 265; refine h.mono ?_; rintro e w' ⟨rfl, hB⟩; have HB := Lib.hid hB; clear h hB)
  go_ret2
  exact ⟨rfl, HB.out⟩
/-- The error that a text is no number. -/
def ErS (w : World) : Prop := ∃ ev, w.cell? ⟨8, 0, none⟩ = some ev ∧ (ev = .nilIface ∨ ∃ te pe, ev = .iface te pe)
theorem ErS.keep {w w' : World} (h : ErS w) (hB : Below w.heap.size w w') : ErS w' := let ⟨ev, h1, h2⟩ := h; ⟨ev, (hB.cell (p := ⟨8, 0, none⟩) (World.block_lt_of_cell? _ _ h1)).trans h1, h2⟩
theorem pux_c (w : World) (hE : ErS w) : Calls Tryz.prog 251 #[.string (bz [120]), .int .i64 10, .int .i64 64] w fun e w' => (∃ t v, e = .returned (.tuple #[.int .u64 0, .iface t v])) ∧ Below w.heap.size w w' := by
  obtain ⟨ev, h1, h2⟩ := hE
  refine (Tryz.strconv_ParseUint_10_at64_syntax (bz [120]) (by decide) (by decide) ev w h1 h2).mono ?_
  rintro e w' ⟨N, rfl, _, _, hB⟩
  exact ⟨⟨_, _, rfl⟩, hB⟩
/-- An argument that is a number from 0 on, as the laws tell it. -/
def NumArg (s : List UInt8) (n : Nat) : Prop := (s = [] ∧ n = 0) ∨ s = dgB 10 n ∨ s = 48 :: 120 :: dgB 16 n ∨ s = 48 :: dgB 8 n
theorem NumArg.nil : NumArg [] 0 := .inl ⟨rfl, rfl⟩
theorem NumArg.ten (n : Nat) : NumArg (dgB 10 n) n := .inr (.inl rfl)
theorem NumArg.hex (n : Nat) : NumArg (48 :: 120 :: dgB 16 n) n := .inr (.inr (.inl rfl))
theorem NumArg.oct (n : Nat) : NumArg (48 :: dgB 8 n) n := .inr (.inr (.inr rfl))
theorem NumArg.byForm {motive : ∀ (s : List UInt8) (n : Nat), NumArg s n → Prop} (nil : motive [] 0 NumArg.nil) (ten : ∀ n, motive (dgB 10 n) n (NumArg.ten n)) (hex : ∀ n, motive (48 :: 120 :: dgB 16 n) n (NumArg.hex n)) (oct : ∀ n, motive (48 :: dgB 8 n) n (NumArg.oct n)) {s : List UInt8} {n : Nat} (h : NumArg s n) : motive s n h := by
  rcases h with ⟨rfl, rfl⟩ | rfl | rfl | rfl
  · exact nil
  · exact ten n
  · exact hex n
  · exact oct n
theorem low_sgn : ∀ d : Fin 16, ¬ (65 ≤ (sgn d.val).toNat ∧ (sgn d.val).toNat ≤ 70) := by decide
theorem low_dgB (B : Nat) (h2 : 2 ≤ B) (h16 : B ≤ 16) : ∀ n, Low (dgB B n) := by
  intro n
  induction n using Nat.strongRecOn with
  | ind n ih =>
    by_cases h : n < B
    · rw [dgB_small h]
      intro c hc
      simp only [List.mem_singleton] at hc
      subst hc
      exact low_sgn ⟨n, by omega⟩
    · rw [dgB_step h2 (by omega)]
      intro c hc
      rcases List.mem_append.1 hc with hc | hc
      · exact ih (n / B) (Nat.div_lt_self (by omega) (by omega)) c hc
      · simp only [List.mem_singleton] at hc
        subst hc
        exact low_sgn ⟨n % B, by have := Nat.mod_lt n (show 0 < B by omega); omega⟩
theorem low_cons {c : UInt8} {L : List UInt8} (hc : ¬ (65 ≤ c.toNat ∧ c.toNat ≤ 70)) (h : Low L) : Low (c :: L) := by
  intro d hd
  rcases List.mem_cons.1 hd with rfl | hd
  · exact hc
  · exact h d hd
/-- What a text is to cutBase. -/
structure BaseOut (s : List UInt8) (L : List UInt8) (b : Nat) : Prop where
  c1 : Lib.hasPrefix s [48, 120] = true ∧ L = s.drop 2 ∧ b = 16 ∧ 2 ≤ s.length ∨ Lib.hasPrefix s [48, 120] = false ∧ Lib.hasPrefix s [48, 88] = false ∧ L = s ∧ (Lib.hasPrefix s [48] = true ∧ b = 8 ∨ Lib.hasPrefix s [48] = false ∧ b = 10)
set_option maxRecDepth 100000 in
set_option maxHeartbeats 2000000 in
theorem cutBase_c {s L : List UInt8} {b : Nat} (h : BaseOut s L b) (hz : s.length ≤ 2097152) (w : World) : Calls Tryz.prog 250 #[.string (bz s)] w fun e w' => e = .returned (.tuple #[.string (bz L), .int .i64 (b : Int)]) ∧ w' = w := by
  have p1 := Tryz.strings_HasPrefix (bz s) ⟨#[48, 120]⟩ w
  have p2 := Tryz.strings_HasPrefix (bz s) ⟨#[48, 88]⟩ w
  have p3 := Tryz.strings_HasPrefix (bz s) ⟨#[48]⟩ w
  rw [bz_list] at p1 p2 p3
  rw [show (⟨#[48, 120]⟩ : ByteArray).data.toList = [48, 120] from rfl] at p1
  rw [show (⟨#[48, 88]⟩ : ByteArray).data.toList = [48, 88] from rfl] at p2
  rw [show (⟨#[48]⟩ : ByteArray).data.toList = [48] from rfl] at p3
  have hsz := bz_size s
  rcases h.c1 with ⟨h1, h2, rfl, h4⟩ | ⟨h1, h2, h3, ⟨h4, rfl⟩ | ⟨h4, rfl⟩⟩
  · rw [h1] at p1
    have hd := bz_drop s 2
    rw [hsz, ← h2] at hd
    clear h h1 h2 p2 p3
    go_enter Tryz.func250, Tryz.ntmps250
    go_wp2_with (go_at_call 152; refine p1.mono ?_; rintro e w' ⟨rfl, hw'⟩; rw [hw']; clear hw' p1)
    go_ret2
    exact ⟨rfl, rfl⟩
  · rw [h1] at p1
    rw [h2] at p2
    rw [h4] at p3
    rw [h3]
    clear h h1 h2 h3 h4
    go_enter Tryz.func250, Tryz.ntmps250
    go_wp2_with (go_at_call 152; first | (refine p1.mono ?_; rintro e w' ⟨rfl, hw'⟩; rw [hw']; clear hw' p1) | (refine p2.mono ?_; rintro e w' ⟨rfl, hw'⟩; rw [hw']; clear hw' p2) | (refine p3.mono ?_; rintro e w' ⟨rfl, hw'⟩; rw [hw']; clear hw' p3))
    go_ret2
    exact ⟨rfl, rfl⟩
  · rw [h1] at p1
    rw [h2] at p2
    rw [h4] at p3
    rw [h3]
    clear h h1 h2 h3 h4
    go_enter Tryz.func250, Tryz.ntmps250
    go_wp2_with (go_at_call 152; first | (refine p1.mono ?_; rintro e w' ⟨rfl, hw'⟩; rw [hw']; clear hw' p1) | (refine p2.mono ?_; rintro e w' ⟨rfl, hw'⟩; rw [hw']; clear hw' p2) | (refine p3.mono ?_; rintro e w' ⟨rfl, hw'⟩; rw [hw']; clear hw' p3))
    go_ret2
    exact ⟨rfl, rfl⟩
theorem has_one (c k : UInt8) (r : List UInt8) : Lib.hasPrefix (c :: r) [k] = (k == c) := by
  simp [Lib.hasPrefix, List.isPrefixOf]
theorem has_two (c d k m : UInt8) (r : List UInt8) : Lib.hasPrefix (c :: d :: r) [k, m] = (k == c && m == d) := by
  simp [Lib.hasPrefix, List.isPrefixOf]
theorem has_two1 (c k m : UInt8) (r : List UInt8) (h : k ≠ c) : Lib.hasPrefix (c :: r) [k, m] = false := by
  simp [Lib.hasPrefix, List.isPrefixOf, h]
/-- What a number's text is. -/
structure NumHd (s : List UInt8) (n : Nat) : Prop where
  hd : ∃ c r, s = c :: r ∧ c ≠ 39 ∧ c ≠ 34 ∧ c ≠ 45 ∧ c ≠ 43
  ba : ∃ L b, BaseOut s L b ∧ natB b 0 L = some n ∧ L ≠ [] ∧ Low L ∧ (b = 8 ∨ b = 10 ∨ b = 16) ∧ L.length ≤ s.length
theorem sgn10 : ∀ d : Fin 10, sgn d.val ≠ 39 ∧ sgn d.val ≠ 34 ∧ sgn d.val ≠ 45 ∧ sgn d.val ≠ 43 ∧ (0 < d.val → sgn d.val ≠ 48) ∧ sgn d.val ≠ 120 ∧ sgn d.val ≠ 88 := by decide
theorem num_hd {s : List UInt8} {n : Nat} (h : NumArg s n) (h0 : s ≠ []) : NumHd s n := by
  cases h using NumArg.byForm with
  | nil => exact absurd rfl h0
  | ten n =>
    have hv := natB_dgB 10 (by omega) (by omega) n
    by_cases hn : n = 0
    · subst hn
      exact ⟨⟨48, [], rfl, by decide, by decide, by decide, by decide⟩, [48], 8, ⟨.inr ⟨by decide, by decide, rfl, .inl ⟨by decide, rfl⟩⟩⟩, by decide, by simp, low_cons (by decide) (fun _ h => absurd h (by simp)), .inl rfl, by decide⟩
    · obtain ⟨d, r, e, hd, hd2⟩ := dgB_head 10 (by omega) (by omega) n (by omega)
      obtain ⟨a1, a2, a3, a4, a5, _, _⟩ := sgn10 ⟨d, hd2⟩
      have a5 := a5 hd
      simp only at a1 a2 a3 a4 a5
      refine ⟨⟨sgn d, r, e, a1, a2, a3, a4⟩, dgB 10 n, 10, ⟨.inr ⟨?_, ?_, rfl, .inr ⟨?_, rfl⟩⟩⟩, hv, dgB_ne 10 n (by omega), low_dgB 10 (by omega) (by omega) n, .inr (.inl rfl), Nat.le_refl _⟩
      · rw [e]; exact has_two1 _ _ _ _ (Ne.symm a5)
      · rw [e]; exact has_two1 _ _ _ _ (Ne.symm a5)
      · rw [e, has_one, beq_eq_false_iff_ne]; exact Ne.symm a5
  | hex n =>
    have hv := natB_dgB 16 (by omega) (by omega) n
    exact ⟨⟨48, _, rfl, by decide, by decide, by decide, by decide⟩, dgB 16 n, 16, ⟨.inl ⟨by rw [has_two]; decide, rfl, rfl, by simp⟩⟩, hv, dgB_ne 16 n (by omega), low_dgB 16 (by omega) (by omega) n, .inr (.inr rfl), by simp; omega⟩
  | oct n =>
    have hv := natB_dgB 8 (by omega) (by omega) n
    have hne := dgB_ne 8 n (by omega)
    obtain ⟨d, r, e, hd2⟩ : ∃ d r, dgB 8 n = sgn d :: r ∧ d < 8 := by
      by_cases hn : n = 0
      · subst hn; exact ⟨0, [], rfl, by omega⟩
      · obtain ⟨d, r, e, _, h⟩ := dgB_head 8 (by omega) (by omega) n (by omega)
        exact ⟨d, r, e, h⟩
    obtain ⟨_, _, _, _, _, a6, a7⟩ := sgn10 ⟨d, by omega⟩
    simp only at a6 a7
    refine ⟨⟨48, _, rfl, by decide, by decide, by decide, by decide⟩, 48 :: dgB 8 n, 8, ⟨.inr ⟨?_, ?_, rfl, .inl ⟨by rw [has_one]; decide, rfl⟩⟩⟩, ?_, by simp, low_cons (by decide) (low_dgB 8 (by omega) (by omega) n), .inl rfl, Nat.le_refl _⟩
    · rw [e, has_two]; simp [Ne.symm a6]
    · rw [e, has_two]; simp [Ne.symm a7]
    · rw [natB, show digV 48 = some 0 from by decide]
      exact hv
theorem trim_no {s p : List UInt8} (h : Lib.hasPrefix s p = false) : (⟨(Lib.trimPrefix s p).toArray⟩ : ByteArray) = bz s := by
  unfold Lib.trimPrefix
  rw [h]
  rfl
theorem cutp_no {s : List UInt8} {k : UInt8} (h : Lib.hasPrefix s [k] = false) (w : World) : Calls Tryz.prog 158 #[.string (bz s), .string ⟨#[k]⟩] w fun e w' => e = .returned (.tuple #[.string (bz s), .bool false]) ∧ w' = w := by
  have := Tryz.strings_CutPrefix (bz s) ⟨#[k]⟩ w
  rw [bz_list, show (⟨#[k]⟩ : ByteArray).data.toList = [k] from rfl, trim_no h, h] at this
  exact this
theorem trimp_no {s : List UInt8} {k : UInt8} (h : Lib.hasPrefix s [k] = false) (w : World) : Calls Tryz.prog 249 #[.string (bz s), .string ⟨#[k]⟩] w fun e w' => e = .returned (.string (bz s)) ∧ w' = w := by
  have := Tryz.strings_TrimPrefix (bz s) ⟨#[k]⟩ w
  rw [bz_list, show (⟨#[k]⟩ : ByteArray).data.toList = [k] from rfl, trim_no h] at this
  exact this
set_option maxRecDepth 100000 in
set_option maxHeartbeats 2000000 in
theorem readNum_nil (w : World) : Calls Tryz.prog 233 #[.string ⟨#[]⟩] w fun e w' => e = .returned (.tuple #[.int .i64 0, .bool true]) ∧ Below w.heap.size w w' := by
  go_enter Tryz.func233, Tryz.ntmps233
  go_wp2
  go_ret2
  exact ⟨rfl, Below.refl _ _⟩
set_option maxRecDepth 100000 in
set_option maxHeartbeats 2000000 in
theorem readNum_c {s : List UInt8} {n : Nat} (h : NumHd s n) (hn : n ≤ 9223372036854775807) (hz : s.length ≤ 2097152) (w : World) : Calls Tryz.prog 233 #[.string (bz s)] w fun e w' => e = .returned (.tuple #[.int .i64 (n : Int), .bool true]) ∧ Below w.heap.size w w' := by
  obtain ⟨⟨c, r, e, a1, a2, a3, a4⟩, L, b, hbo, hv, hL0, hlow, hb, hlen⟩ := h
  have hem : (bz s).toList.isEmpty = false := by rw [ByteArray.toList_eq, List.isEmpty_eq_false_iff, bz_list, e]; simp
  have hix : ∀ u : World, (Instr.index 9 (.string (bz s)) (.int .i64 0)).run Tryz.prog u = .ok (.int .u8 (c.toNat : Int)) u := fun u => ix_bz s 0 c (by rw [e]; rfl) u
  have b1 : ((c.toNat : Int) == 39) = false := toNat_ne a1
  have b2 : ((c.toNat : Int) == 34) = false := toNat_ne a2
  have hcp := cutp_no (s := s) (k := 45) (by rw [e, has_one, beq_eq_false_iff_ne]; exact Ne.symm a3) w
  have htp := trimp_no (s := s) (k := 43) (by rw [e, has_one, beq_eq_false_iff_ne]; exact Ne.symm a4) w
  have hcb := cutBase_c hbo hz w
  have hpu := pub_c b hb L n hL0 hv hn hlow (by omega) w
  have hge : decide ((9223372036854775807 : Int) < (n : Int)) = false := decide_eq_false (by omega)
  clear hbo hv hL0 hlow hb hlen a1 a2 a3 a4 e
  go_enter Tryz.func233, Tryz.ntmps233
  go_wp2_with (first
    | (go_at_call 158; refine hcp.mono ?_; rintro e w' ⟨rfl, hw'⟩; rw [hw']; clear hw' hcp)
    | (go_at_call 249; refine htp.mono ?_; rintro e w' ⟨rfl, hw'⟩; rw [hw']; clear hw' htp)
    | (go_at_call 250; refine hcb.mono ?_; rintro e w' ⟨rfl, hw'⟩; rw [hw']; clear hw' hcb)
    | (go_at_call 251; refine hpu.mono ?_; rintro e w2 ⟨rfl, hB2⟩; have HB := Lib.hid hB2; clear hB2 hpu))
  go_ret2
  exact ⟨rfl, HB.out⟩
set_option maxRecDepth 100000 in
set_option maxHeartbeats 2000000 in
theorem readNum_x (w : World) (hE : ErS w) : Calls Tryz.prog 233 #[.string (bz [120])] w fun e w' => e = .returned (.tuple #[.int .i64 0, .bool false]) ∧ Below w.heap.size w w' := by
  have hem : (bz [120]).toList.isEmpty = false := by rw [ByteArray.toList_eq, List.isEmpty_eq_false_iff, bz_list]; simp
  have hix : ∀ u : World, (Instr.index 9 (.string (bz [120])) (.int .i64 0)).run Tryz.prog u = .ok (.int .u8 120) u := fun u => ix_bz [120] 0 120 rfl u
  have hcp := cutp_no (s := [120]) (k := 45) (by decide) w
  have htp := trimp_no (s := [120]) (k := 43) (by decide) w
  have hcb := cutBase_c (s := [120]) (L := [120]) (b := 10) ⟨.inr ⟨by decide, by decide, rfl, .inr ⟨by decide, rfl⟩⟩⟩ (by decide) w
  have hpu := pux_c w hE
  clear hE
  generalize bz [120] = S at *
  go_enter Tryz.func233, Tryz.ntmps233
  go_wp2_with (first
    | (go_at_call 158; refine hcp.mono ?_; rintro e w' ⟨rfl, hw'⟩; rw [hw']; clear hw' hcp)
    | (go_at_call 249; refine htp.mono ?_; rintro e w' ⟨rfl, hw'⟩; rw [hw']; clear hw' htp)
    | (go_at_call 250; refine hcb.mono ?_; rintro e w' ⟨rfl, hw'⟩; rw [hw']; clear hw' hcb)
    | (go_at_call 251; refine hpu.mono ?_; rintro e w2 ⟨⟨t, v, rfl⟩, hB2⟩; have HB := Lib.hid hB2; clear hB2 hpu))
  go_ret2
  exact ⟨rfl, HB.out⟩
end Go.Proofs.YteimilnecahifaaGreatDoor.Nm

namespace Go.Proofs.YteimilnecahifaaGreatDoor.Nm
open Go.Proofs.YteimilnecahifaaGreatDoor Go.Proofs.YteimilnecahifaaGreatDoor.Op
open Go.RowKit Go.Proofs.YteimilnecahifaaGreatDoor.Re

theorem args_at {w : World} {g : Nat} {v : Value} {a : ByteArray} {r : List ByteArray} (h : ArgsIn w g v (a :: r)) : ∃ off cap, v = .slice (some ⟨g, off, none⟩) (r.length + 1) cap ∧ r.length + 1 ≤ cap ∧ cap ≤ 9223372036854775807 ∧ w.cell? ⟨g, off, none⟩ = some (.string a) := by
  obtain ⟨h, hg⟩ := h
  rcases h with ⟨_, h⟩ | ⟨b, off, cap, rfl, hcap, hb, hc⟩
  · cases h
  · have e := hg _ _ _ _ rfl
    subst e
    exact ⟨off, cap, rfl, hcap.1, hcap.2, by simpa [nth] using hc 0 (by simp)⟩
set_option maxRecDepth 100000 in
set_option maxHeartbeats 2000000 in
theorem next_nil {w : World} {pr tb g : Nat} {av tv : Value} {en : Bool} (h : PrtAt w pr tb av tv en) (ha : ArgsIn w g av []) : Calls Tryz.prog 208 #[ptr pr] w fun e w' => e = .returned (.string ⟨#[]⟩) ∧ w' = w := by
  obtain ⟨x, c, rfl⟩ : ∃ x c, av = .slice x 0 c := by
    rcases ha.1 with ⟨rfl, _⟩ | ⟨b, off, cap, rfl, _⟩ <;> exact ⟨_, _, rfl⟩
  have c0 : w.cell? ⟨pr, 0, none⟩ = some (.slice x 0 c) := h_cell h 0 rfl
  have hlt := h_lt h
  clear h ha
  go_enter Tryz.func208, Tryz.ntmps208
  go_wp2
  go_ret
  exact ⟨rfl, rfl⟩
set_option maxRecDepth 100000 in
set_option maxHeartbeats 2000000 in
theorem next_some {w : World} {pr tb g : Nat} {av tv : Value} {en : Bool} {a : ByteArray} {r : List ByteArray} (h : PrtAt w pr tb av tv en) (ha : ArgsIn w g av (a :: r)) (hg : g ≠ pr) (hz : r.length ≤ 2097152) : Calls Tryz.prog 208 #[ptr pr] w fun e w' => e = .returned (.string a) ∧ ∃ av', PrtAt w' pr tb av' tv en ∧ ArgsIn w' g av' r ∧ Turn [pr] w w' := by
  obtain ⟨off, cap, rfl, hc1, hc2, hc3⟩ := args_at ha
  obtain ⟨y, c, hsl, ha2⟩ := slice_from_g (k := 1) (by simp) ha (by omega)
  have c0 : w.cell? ⟨pr, 0, none⟩ = some (.slice (some ⟨g, off, none⟩) (r.length + 1) cap) := h_cell h 0 rfl
  have z0 := h_fz h 0
  have hlt := h_lt h
  have H := Lib.hid (And.intro h ha2)
  have hgt := World.block_lt_of_cell? _ _ hc3
  clear h ha ha2
  have e1 : r.length + 1 - 1 = r.length := by omega
  rw [e1] at hsl
  have hsl1 : ∀ u : World, (Instr.sliceAt 32 (.slice (some ⟨g, off, none⟩) (r.length + 1) cap) (some (.int .i64 1)) none none).run Tryz.prog u = .ok (.slice y r.length c) u := hsl
  clear hsl
  go_enter Tryz.func208, Tryz.ntmps208
  go_wp2
  go_ret
  have h1 : PrtAt (w.setCell ⟨pr, 0, none⟩ (.slice y r.length c)) pr tb (.slice y r.length c) tv en := by
    have := h_set H.out.1 0 (.slice y r.length c)
    unfold PrtAt
    simpa using this
  have hT : Turn [pr] w (w.setCell ⟨pr, 0, none⟩ (.slice y r.length c)) := Turn.set w pr 0 _ (by simp)
  have h2 := H.out.2
  rw [e1] at h2
  exact ⟨rfl, _, h1, h2.turn hT (by simpa using hg), hT⟩
theorem next_c {w : World} {pr tb g : Nat} {av tv : Value} {en : Bool} {args : List ByteArray} (h : PrtAt w pr tb av tv en) (ha : ArgsIn w g av args) (hg : g ≠ pr) (hz : args.length ≤ 2097152) : Calls Tryz.prog 208 #[ptr pr] w fun e w' => e = .returned (.string (args.headD nothingS)) ∧ ∃ av', PrtAt w' pr tb av' tv en ∧ ArgsIn w' g av' (args.drop 1) ∧ Turn [pr] w w' := by
  cases args with
  | nil =>
    refine (next_nil h ha).mono ?_
    rintro e w' ⟨rfl, rfl⟩
    exact ⟨rfl, av, h, ha, Turn.refl _ _⟩
  | cons a r =>
    refine (next_some h ha hg (by simp at hz; omega)).mono ?_
    rintro e w' ⟨rfl, h2⟩
    exact ⟨rfl, h2⟩
theorem row_sl {w : World} {B : Nat} {v : Value} {l : List UInt8} (h : Row w B v l) : ∃ a n c, v = .slice a n c := by
  rcases h.2 with ⟨rfl, _⟩ | ⟨g, cap, cur, rfl, _⟩ <;> exact ⟨_, _, _, rfl⟩
set_option maxRecDepth 100000 in
set_option maxHeartbeats 2000000 in
theorem put_c {w : World} {pr tb B : Nat} {av tv : Value} {en : Bool} {out : List UInt8} (h : PrtAt w pr tb av tv en) (hr : Row w B tv out) (hne : ∀ b, tv.ownBlock = some b → b ≠ pr) (hB : B ≤ w.heap.size) (s : List UInt8) (hz : out.length + s.length ≤ 4194304) : Calls Tryz.prog 209 #[ptr pr, .string (bz s)] w fun e w' => (∃ v, e = .returned v) ∧ ∃ tv', PrtAt w' pr tb av tv' en ∧ Row w' B tv' (out ++ s) ∧ SameNew w tv tv' ∧ Turn (pr :: tv.ownBlock.toList) w w' := by
  obtain ⟨x, n, c, rfl⟩ := row_sl hr
  have c1 : w.cell? ⟨pr, 1, none⟩ = some (.slice x n c) := h_cell h 1 rfl
  have hlt := h_lt h
  have H := Lib.hid (And.intro h (And.intro hne hr))
  clear h hne
  go_enter Tryz.func209, Tryz.ntmps209
  go_wp2_with (at_builtin; refine wpList_str rfl _ _ rfl B _ out rfl hr s rfl hz hB ?_)
  intro v' w2 hr2 hgr hsn
  have hp2 : PrtAt w2 pr tb av (.slice x n c) en := (hgr.block pr hlt (fun e => H.out.2.1 pr e.symm rfl)).trans H.out.1
  have d1 : w2.cell? ⟨pr, 1, none⟩ = some (.slice x n c) := h_cell hp2 1 rfl
  have z1 := h_fz hp2 1
  have hlt2 := h_lt hp2
  obtain ⟨y, m, c2, rfl⟩ := row_sl hr2
  have hT : Turn (pr :: (Value.slice x n c).ownBlock.toList) w w2 := ⟨hgr.os, hgr.tape, hgr.output, hgr.size, fun k hk hn => hgr.block k hk (fun e => hn (by rw [← e]; simp))⟩
  have HZ := Lib.hid (And.intro hp2 (And.intro hr2 (And.intro hsn hT)))
  clear hr hr2 hgr hsn hT hp2
  go_wp2_with fail
  go_end0
  have hne2 : ∀ b, (Value.slice y m c2).ownBlock = some b → b ∉ [pr] := fun b e hb => by
    simp only [List.mem_singleton] at hb
    subst hb
    rcases HZ.out.2.2.1 _ e with h | h
    · exact H.out.2.1 _ h rfl
    · omega
  have hS : Turn [pr] w2 (w2.setCell ⟨pr, 1, none⟩ (.slice y m c2)) := Turn.set w2 pr 1 _ (by simp)
  refine ⟨⟨_, rfl⟩, .slice y m c2, ?_, row_keep HZ.out.2.1 hS hne2, HZ.out.2.2.1, HZ.out.2.2.2.trans (hS.mono (by simp))⟩
  have := h_set HZ.out.1 1 (.slice y m c2)
  unfold PrtAt
  simpa using this
theorem run_row {w : World} (ty : TypeId) {B : Nat} {v : Value} {l : List UInt8} (hown : Row w B v l) {bv : Value} {s : List UInt8} (hbv : Row w 0 bv s) (hb : l.length + s.length ≤ 4194304) (hB : B ≤ w.heap.size) : ∃ v' w', (Builtin.append_ #[27, 27] ty #[v, bv]).run Tryz.prog w = .ok v' w' ∧ Row w' B v' (l ++ s) ∧ w.grownBy w' v.ownBlock ∧ SameNew w v v' := by
  obtain ⟨i, hi, hz, hsize, hby⟩ := byte_parts
  have hus : u8s (l ++ s) = u8s l ++ u8s s := by simp [u8s]
  rcases hbv.2 with ⟨rfl, h0⟩ | ⟨g, cap, cur, rfl, _, hg, hle, hcm, _⟩
  · have hs0 : s = [] := List.length_eq_zero_iff.1 h0
    subst hs0
    obtain ⟨b, cp, rfl, hcp⟩ : ∃ b cp, v = .slice b l.length cp ∧ l.length ≤ cp := by
      rcases hown.2 with ⟨rfl, h1⟩ | ⟨g, cap, cur, rfl, _, _, hle, _⟩
      · exact ⟨none, 0, by rw [h1], by omega⟩
      · exact ⟨_, cap, rfl, hle⟩
    refine ⟨.slice b l.length cp, w, ?_, by simpa using hown, ⟨rfl, rfl, rfl, Nat.le_refl _, fun _ _ _ => rfl⟩, fun _ e => .inl e⟩
    have z := Tryz.sizeOf5
    cases b with
    | none => simp [Builtin.append_, go_sem, z, Builtin.lenOf, Builtin.firstCells, hcp]
    | some ad => simp [Builtin.append_, go_sem, z, Builtin.lenOf, Builtin.firstCells, hcp, storeCells]
  · have hnews : ∀ j u, (u8s s)[j]? = some u → w.cell? ((⟨g, 0, none⟩ : Addr).add j) = some u := hbv.cells (g := g) rfl
    obtain ⟨v', w', hr, h2, h3, _⟩ := run_append_own (P := Tryz.prog) w B 27 ty 5 i (.int .u8 0) 1 1 Tryz.underlying27 hi hz hsize hby rfl (by decide) v l.length (u8s l) hown ⟨g, 0, none⟩ s.length cap (u8s s) (by rw [u8s_length, Nat.mul_one]) hnews (u8s_one s) (by unfold maxLen; omega) (by omega) hB
    have h5 := app_row hown ⟨g, 0, none⟩ s.length cap (u8s s) (u8s_length s) hnews (u8s_one s) ty (by omega) hr
    refine ⟨v', w', hr, ?_, h3, h5⟩
    unfold Row
    rw [List.length_append, hus]
    exact h2
theorem step_row {ops : Array Oper} {o : Oper} {a : Act} {w : World} {K : Act → World → Prop} {Q : Exit → Act → World → Prop} {E : Prop} (hgd : o.guard = none) (sl x : Operand) (ho : o.op = .call { callee := .builtin .append, args := #[sl, x], argTypes := #[27, 27] }) (B : Nat) (v : Value) (l : List UInt8) (hs : a.eval sl = v) (hown : Row w B v l) (bv : Value) (s : List UInt8) (hx : a.eval x = bv) (hbv : Row w 0 bv s) (hb : l.length + s.length ≤ 4194304) (hB : B ≤ w.heap.size)
    (h : ∀ v' w', Row w' B v' (l ++ s) → w.grownBy w' v.ownBlock → SameNew w v v' → K (a.put o.dst v') w') : if Region.wanted o (yielded ops a.tmps) = true then Oper.wp Tryz.prog o a w K Q else E := by
  rw [if_pos (by simp [Region.wanted, hgd])]
  obtain ⟨v', w', hr, h2, h3, h5⟩ := run_row o.type hown hbv hb hB
  unfold Oper.wp execOp
  simp only [ho, resolve, invoke, builtin, Sem.run_bind, Sem.run_pure, Result.andThen_ok, List.map_toArray, List.map_cons, List.map_nil, hs, hx, hr]
  exact h v' w' h2 h3 h5
set_option maxRecDepth 100000 in
set_option maxHeartbeats 2000000 in
/-- Bytes as they are. -/
theorem bytes_c {w : World} {pr tb B bb : Nat} {av tv bv : Value} {en : Bool} {out s : List UInt8} (h : PrtAt w pr tb av tv en) (hr : Row w B tv out) (hne : ∀ b, tv.ownBlock = some b → b ≠ pr ∧ b ≠ bb) (hB : B ≤ w.heap.size) (hbb : w.heap[bb]? = some (.cells #[bv] 27)) (hbv : Row w 0 bv s) (hz : out.length + s.length ≤ 4194304) : Calls Tryz.prog 188 #[ptr pr, ptr bb] w fun e w' => (∃ v, e = .returned v) ∧ ∃ tv', PrtAt w' pr tb av tv' en ∧ Row w' B tv' (out ++ s) ∧ SameNew w tv tv' ∧ Turn (pr :: tv.ownBlock.toList) w w' := by
  obtain ⟨x, n, c, rfl⟩ := row_sl hr
  obtain ⟨x2, n2, c2, rfl⟩ := row_sl hbv
  have h0 : PrtAt w.drew pr tb av (.slice x n c) en := h
  have c1 : w.drew.cell? ⟨pr, 1, none⟩ = some (.slice x n c) := h_cell h0 1 rfl
  have hbb0 : w.drew.heap[bb]? = some (.cells #[.slice x2 n2 c2] 27) := hbb
  have d0 : w.drew.cell? ⟨bb, 0, none⟩ = some (.slice x2 n2 c2) := h_cell hbb0 0 rfl
  have hr0 : Row w.drew B (.slice x n c) out := hr
  have hbv0 : Row w.drew 0 (.slice x2 n2 c2) s := hbv
  have H := Lib.hid (And.intro h0 (And.intro hne hbb0))
  clear h hne hbb hbb0 h0 hr hbv
  go_enter Tryz.func188, Tryz.ntmps188
  refine wp_region_tail 9 (fun u => u.cell? ⟨pr, 1, none⟩ = some (.slice x n c) ∧ u.cell? ⟨bb, 0, none⟩ = some (.slice x2 n2 c2)) (by kernel_rfl) ⟨c1, d0⟩ (fun hHeld => ?_)
  repeat
    first
      | (refine wpAnyT_take (i := 0) (v := ?_) 9 rfl (by decide +kernel) (fun _ _ _ h => h) (Or.inl ⟨by rfl, fun u hu => ?_⟩) (by assumption) ?_; rotate_left; focus ((try dsimp only at hu); go_simp; try with_reducible rfl))
      | (refine wpAnyT_take (i := 1) (v := ?_) 9 rfl (by decide +kernel) (fun _ _ _ h => h) (Or.inl ⟨by rfl, fun u hu => ?_⟩) (by assumption) ?_; rotate_left; focus ((try dsimp only at hu); go_simp; try with_reducible rfl))
      | (refine wpAnyT_take (i := 2) (v := ?_) 9 rfl (by decide +kernel) (fun _ _ _ h => h) (Or.inl ⟨by rfl, fun u hu => ?_⟩) (by assumption) ?_; rotate_left; focus ((try dsimp only at hu); go_simp; try with_reducible rfl))
      | (refine wpAnyT_take (i := 3) (v := ?_) 9 rfl (by decide +kernel) (fun _ _ _ h => h) (Or.inl ⟨by rfl, fun u hu => ?_⟩) (by assumption) ?_; rotate_left; focus ((try dsimp only at hu); go_simp; try with_reducible rfl))
      | (refine wpAnyT_take (i := 4) (v := ?_) 9 rfl (by decide +kernel) (fun _ _ _ h => h) (Or.inl ⟨by rfl, fun u hu => ?_⟩) (by assumption) ?_; rotate_left; focus ((try dsimp only at hu); go_simp; try with_reducible rfl))
      | (refine wpAnyT_take (i := 5) (v := ?_) 9 rfl (by decide +kernel) (fun _ _ _ h => h) (Or.inl ⟨by rfl, fun u hu => ?_⟩) (by assumption) ?_; rotate_left; focus ((try dsimp only at hu); go_simp; try with_reducible rfl))
    simp only [Act.put, List.setIfInBounds_toArray, List.set_cons_zero, List.set_cons_succ]
  refine wpAnyT_one (i := 6) rfl (by kernel_rfl) (fun K hK => ?_)
  refine step_row rfl _ _ rfl B (.slice x n c) out (by simp [Act.eval]) hr0 (.slice x2 n2 c2) s (by simp [Act.eval]) hbv0 hz hB ?_
  intro v' w2 hr2 hgr hsn
  have hp2 : PrtAt w2 pr tb av (.slice x n c) en := (hgr.block pr (h_lt H.out.1) (fun e => (H.out.2.1 pr e.symm).1 rfl)).trans H.out.1
  have hb2 : w2.heap[bb]? = some (.cells #[.slice x2 n2 c2] 27) := (hgr.block bb (h_lt H.out.2.2) (fun e => (H.out.2.1 bb e.symm).2 rfl)).trans H.out.2.2
  have d1 : w2.cell? ⟨pr, 1, none⟩ = some (.slice x n c) := h_cell hp2 1 rfl
  have d2 : w2.cell? ⟨bb, 0, none⟩ = some (.slice x2 n2 c2) := h_cell hb2 0 rfl
  have z1 := h_fz hp2 1
  have hlt2 := h_lt hp2
  obtain ⟨y, m, c3, rfl⟩ := row_sl hr2
  have hT : Turn (pr :: (Value.slice x n c).ownBlock.toList) w.drew w2 := ⟨hgr.os, hgr.tape, hgr.output, hgr.size, fun k hk hn => hgr.block k hk (fun e => hn (by rw [← e]; simp))⟩
  have HZ := Lib.hid (And.intro hp2 (And.intro hr2 (And.intro hsn hT)))
  clear hr2 hgr hsn hT hp2 hb2
  refine hK.out _ _ (fun _ => ⟨d1, d2⟩) ?_
  clear hK K
  simp only [Act.put, List.setIfInBounds_toArray, List.set_cons_zero, List.set_cons_succ]
  refine wpAnyT_one (i := 7) rfl (by kernel_rfl) (fun K hK => ?_)
  go_simp
  refine hK.out _ _ (fun _ => ⟨d1, d2⟩) ?_
  clear hK K
  refine wpAnyT_one (i := 8) rfl (by kernel_rfl) (fun K hK => ?_)
  go_simp
  refine hK.out _ _ (fun _ => ⟨d1, d2⟩) ?_
  clear hK K
  refine wpAnyT_one (i := 9) rfl (by kernel_rfl) (fun K hK => ?_)
  go_simp
  refine hK.out _ _ (fun hne => absurd rfl hne) ?_
  clear hK K
  refine wpAnyT_done (by kernel_rfl) ?_ _
  go_end0
  have hne2 : ∀ b, (Value.slice y m c3).ownBlock = some b → b ∉ [pr] := fun b e hb => by
    simp only [List.mem_singleton] at hb
    subst hb
    rcases HZ.out.2.2.1 _ e with h | h
    · exact (H.out.2.1 _ h).1 rfl
    · have := h_lt H.out.1
      omega
  have hS : Turn [pr] w2 (w2.setCell ⟨pr, 1, none⟩ (.slice y m c3)) := Turn.set w2 pr 1 _ (by simp)
  have hD : Turn (pr :: (Value.slice x n c).ownBlock.toList) w w2 := (Turn.below (show Below w.heap.size w w.drew from ⟨rfl, rfl, rfl, Nat.le_refl _, fun _ _ => rfl⟩)).trans HZ.out.2.2.2
  refine ⟨⟨_, rfl⟩, .slice y m c3, ?_, row_keep HZ.out.2.1 hS hne2, HZ.out.2.2.1, hD.trans (hS.mono (by simp))⟩
  have := h_set HZ.out.1 1 (.slice y m c3)
  unfold PrtAt
  simpa using this
end Go.Proofs.YteimilnecahifaaGreatDoor.Nm
