/- The contract of the library's search for a stroke or a nought, and of the program's isName. -/
import Derived.Laws.RangeAny
import Derived.Laws.RangeString
import Derived.Deep.LoopGhost
import Derived.Lib.OthersKept
import Derived.Deep.RegionWith
import Derived.Deep.QuietTactic
import Derived.BigQuiet
import Derived.BigRegion
import Derived.Test.YtbbmihlabllliaaGreatDoorLead
namespace Go.Proofs.YtbbmihlabllliaaGreatDoor
open Go.RowKit Go.Shelf

def sn : ByteArray := ⟨#[47, 0]⟩

theorem iter_below (w : World) (s : ByteArray) (p : Nat) : Below w.heap.size w (w.iter s p) :=
  (Below.refl _ w).alloc (Nat.le_refl _) _
theorem enc_cases (r : Int) (h1 : 128 ≤ r) : (∃ a b, Utf8.encode r = ⟨#[a, b]⟩ ∧ 128 ≤ b.toNat) ∨ (∃ a b c, Utf8.encode r = ⟨#[a, b, c]⟩) ∨ (∃ a b c d, Utf8.encode r = ⟨#[a, b, c, d]⟩) := by
  unfold Utf8.encode
  simp only
  have h0 : ¬ (if Utf8.valid r = true then r.toNat else Utf8.runeError) < 128 := by
    split
    · omega
    · decide
  revert h0
  generalize (if Utf8.valid r = true then r.toNat else Utf8.runeError) = c
  intro h0
  rw [if_neg h0]
  split
  · refine .inl ⟨_, _, rfl, ?_⟩
    have : c % 64 < 64 := Nat.mod_lt _ (by decide)
    simp only [UInt8.toNat_ofNat']
    omega
  · split
    · exact .inr (.inl ⟨_, _, _, rfl⟩)
    · exact .inr (.inr ⟨_, _, _, _, rfl⟩)

set_option maxRecDepth 1000000 in
set_option maxHeartbeats 4000000 in
theorem rune_bad (w : World) : Calls Tryz.prog 204 #[.string ⟨#[47, 0]⟩, .int .i32 65533] w fun e w' => e = .returned (.int .i64 (-1)) ∧ Below w.heap.size w w' := by
  go_enter Tryz.func204, Tryz.ntmps204
  go_wp2_with fail
  go_loopg [5, 6] 2 (fun g _ _ wx => ∃ i : Nat, i + g = 2 ∧ wx = w.iter ⟨#[47, 0]⟩ i)
  case atStart => exact ⟨0, rfl, rfl⟩
  case round =>
    obtain ⟨i, hig, rfl⟩ := hrel
    cases gk with
    | zero =>
      obtain rfl : i = 2 := by omega
      have hnx := run_next_end (P := Tryz.prog) w ⟨#[47, 0]⟩ 2
      go_wp2
      go_ret
      exact ⟨rfl, iter_below w _ _⟩
    | succ g =>
      have hi : i < 2 := by omega
      obtain rfl | rfl : i = 0 ∨ i = 1 := by omega
      · have hnx := fun ty => run_next_ascii (P := Tryz.prog) w ⟨#[47, 0]⟩ 0 ty (by decide) (by decide)
        go_wp2
        go_roundg g
        case measure => omega
        case rel => exact ⟨1, by omega, rfl⟩
      · have hnx := fun ty => run_next_ascii (P := Tryz.prog) w ⟨#[47, 0]⟩ 1 ty (by decide) (by decide)
        go_wp2
        go_roundg g
        case measure => omega
        case rel => exact ⟨2, by omega, rfl⟩

set_option maxRecDepth 1000000 in
set_option maxHeartbeats 4000000 in
theorem rune_high (r : Int) (h1 : 128 ≤ r) (h2 : r ≠ 65533) (h3 : r ≤ 2147483647) (w : World) : Calls Tryz.prog 204 #[.string ⟨#[47, 0]⟩, .int .i32 r] w fun e w' => e = .returned (.int .i64 (-1)) ∧ Below w.heap.size w w' := by
  have n1 : ¬ r < 128 := by omega
  have n2 : 0 ≤ r := by omega
  rcases enc_cases r h1 with ⟨a, b, he, hb⟩ | ⟨a, b, c, he⟩ | ⟨a, b, c, d, he⟩
  · have hne : ¬ (0 : Int) = (b.toNat : Int) := by omega
    go_enter Tryz.func204, Tryz.ntmps204
    go_wp2_with (go_at_call 215; refine (Tryz.utf8_ValidRune _ _).mono ?_; rintro e w' ⟨rfl, hw⟩; rw [hw])
    · go_ret; exact ⟨rfl, Below.refl _ _⟩
    · go_step3
      go_wp2_with fail
      go_loopw [9] (fun i wr => i = .int .i64 1 ∧ wr = w) (fun _ _ => 0)
      case atStart => exact ⟨rfl, rfl⟩
      case round =>
        obtain ⟨rfl, rfl⟩ := hrel
        go_wp2_with fail
        go_step3
        go_wp2_with fail
        go_region
        all_goals go_wp2_with fail
        · go_region_with (go_at_call 214; refine (Tryz.strings_IndexByte _ _ _).mono ?_; rintro e w' ⟨rfl, hw⟩; rw [hw])
          all_goals go_wp2_with fail
          all_goals (rw [Exit.noGoto_ret]; change bodyPost Tryz.prog Tryz.f204 (fun e w' => e = .returned (.int .i64 (-1)) ∧ Below wr.heap.size wr w') .ret _ _; go_ret; exact ⟨rfl, ((Below.refl _ _).drew).drew⟩)
        · exfalso
          have hx : ((0 : Int) != (b.toNat : Int)) = false := by assumption
          simp at hx
          omega
  · go_enter Tryz.func204, Tryz.ntmps204
    go_wp2_with (go_at_call 215; refine (Tryz.utf8_ValidRune _ _).mono ?_; rintro e w' ⟨rfl, hw⟩; rw [hw])
    · go_ret; exact ⟨rfl, Below.refl _ _⟩
    · go_step3
      go_wp2_with fail
      go_loopw [9] (fun i wr => i = .int .i64 2 ∧ wr = w) (fun _ _ => 0)
      case atStart => exact ⟨rfl, rfl⟩
      case round =>
        obtain ⟨rfl, rfl⟩ := hrel
        go_wp2_with fail
        rw [Exit.noGoto_ret]
        go_ret
        exact ⟨rfl, Below.refl _ _⟩
  · go_enter Tryz.func204, Tryz.ntmps204
    go_wp2_with (go_at_call 215; refine (Tryz.utf8_ValidRune _ _).mono ?_; rintro e w' ⟨rfl, hw⟩; rw [hw])
    · go_ret; exact ⟨rfl, Below.refl _ _⟩
    · go_step3
      go_wp2_with fail
      go_loopw [9] (fun i wr => i = .int .i64 3 ∧ wr = w) (fun _ _ => 0)
      case atStart => exact ⟨rfl, rfl⟩
      case round =>
        obtain ⟨rfl, rfl⟩ := hrel
        go_wp2_with fail
        rw [Exit.noGoto_ret]
        go_ret
        exact ⟨rfl, Below.refl _ _⟩
/-- No stroke and no nought ahead of a place. -/
def Free (s : ByteArray) (i : Nat) : Prop := ∀ j, j < i → ∀ c, s.data.toList[j]? = some c → c ≠ 47 ∧ c ≠ 0
theorem plainB_of_free {s : ByteArray} {i : Nat} (h : Free s i) (hi : s.size ≤ i) : plainB s = true := by
  unfold plainB
  rw [List.all_eq_true]
  intro c hc
  obtain ⟨j, hj⟩ := List.mem_iff_getElem?.1 hc
  have hlt : j < s.data.toList.length := (List.getElem?_eq_some_iff.1 hj).1
  have := h j (by rw [← Lib.size_eq] at hlt; omega) c hj
  simp [this.1, this.2]
theorem plainB_hit {s : ByteArray} {i : Nat} {c : UInt8} (hc : s.data.toList[i]? = some c) (h : c = 47 ∨ c = 0) : plainB s = false := by
  unfold plainB
  rw [List.all_eq_false]
  refine ⟨c, List.mem_of_getElem? hc, ?_⟩
  rcases h with rfl | rfl <;> decide
theorem decode_cont (s : ByteArray) (pos : Nat) (h : pos < s.size) (ha : 128 ≤ (s[pos]'h).toNat) : ∀ j, j < (Utf8.decode s pos).2 → 128 ≤ (s.get! (pos + j)).toNat := by
  have hn : ¬ (s[pos]'h).toNat < 128 := by omega
  have h0 : 128 ≤ (s.get! (pos + 0)).toNat := by rw [get_at s pos h]; exact ha
  simp only [Utf8.decode, get_at s pos h, hn, if_false]
  repeat' split
  all_goals intro j hj
  all_goals try simp only [Bool.and_eq_true, beq_iff_eq, decide_eq_true_eq] at *
  all_goals (obtain rfl | rfl | rfl | rfl : j = 0 ∨ j = 1 ∨ j = 2 ∨ j = 3 := by omega)
  all_goals first | exact h0 | omega
theorem free_past {s : ByteArray} {i : Nat} (h : Free s i) (hi : i < s.size) (ha : 128 ≤ (s[i]'hi).toNat) : Free s (i + (Utf8.decode s i).2) := by
  intro j hj c hc
  by_cases hlt : j < i
  · exact h j hlt c hc
  · have hjs : j < s.size := by rw [Lib.size_eq]; exact (List.getElem?_eq_some_iff.1 hc).1
    have := decode_cont s i hi ha (j - i) (by omega)
    rw [show i + (j - i) = j by omega] at this
    have e : s.get! j = c := by
      have := Lib.data_getElem? s j hjs
      rw [hc] at this
      have h2 := get_at s j hjs
      rw [Nat.add_zero] at h2
      rw [h2]
      exact (Option.some.inj this).symm
    rw [e] at this
    constructor
    · rintro rfl; revert this; decide
    · rintro rfl; revert this; decide
theorem free_succ {s : ByteArray} {i : Nat} (h : Free s i) {c : UInt8} (hc : s.data.toList[i]? = some c) (h1 : c ≠ 47) (h2 : c ≠ 0) : Free s (i + 1) := by
  intro j hj d hd
  by_cases hlt : j < i
  · exact h j hlt d hd
  · obtain rfl : j = i := by omega
    rw [hc] at hd; cases hd; exact ⟨h1, h2⟩

set_option maxRecDepth 1000000 in
set_option maxHeartbeats 8000000 in
theorem any_short (s : ByteArray) (w : World) (h8 : s.size ≤ 8) :
    Calls Tryz.prog 192 #[.string s, .string ⟨#[47, 0]⟩] w fun e w' => (∃ r, e = .returned (.int .i64 r) ∧ decide (0 ≤ r) = !plainB s) ∧ Below w.heap.size w w' := by
  have h8z : decide ((8 : Int) < (s.size : Int)) = false := decide_eq_false (by omega)
  go_enter Tryz.func192, Tryz.ntmps192
  go_wp2_with (go_at_call 205; refine (Tryz.strings_shouldUseASCIISet _ _).mono ?_; rintro e w' ⟨rfl, hw⟩; rw [hw, h8z])
  go_loopg [9, 10] s.size (fun g _ _ wx => ∃ i : Nat, Hid (g = s.size - i) ∧ wx.heap[w.heap.size]? = some (.stringIter s i) ∧ Below w.heap.size w wx ∧ Hid (Free s i))
  case atStart => exact ⟨0, rfl, World.iter_heap w s 0, iter_below w s 0, fun j hj => by omega⟩
  case round =>
    obtain ⟨i, HG, hk, hB, HF⟩ := hrel
    by_cases hi : i < s.size
    · have HI := Lib.hid hi
      have hnx := fun ty => Lib.run_next_any_at (P := Tryz.prog) wr w.heap.size s i ty hk hi
      have hk2 := Lib.iterAt_heap wr w.heap.size s i (i + (Utf8.decode s i).2) hk
      have hB2 : Below w.heap.size w (wr.iterAt w.heap.size s (i + (Utf8.decode s i).2)) := Lib.below_iterAt hB (Nat.le_refl _) _ _
      by_cases ha : (s[i]'hi).toNat < 128
      · obtain ⟨c, hc⟩ : ∃ c : UInt8, s[i]'hi = c := ⟨_, rfl⟩
        have HC : Hid (s.data.toList[i]? = some c) := by show _ = _; rw [← hc]; exact Lib.data_getElem? s i hi
        have hdec : Utf8.decode s i = (c.toNat, 1) := by rw [← hc]; exact decode_ascii s i hi ha
        rw [hc] at ha
        rw [hdec] at hnx hk2 hB2
        simp only at hnx hk2 hB2
        generalize wr.iterAt w.heap.size s (i + 1) = w2 at hnx hk2 hB2
        clear hdec hc hi
        have hcall := Tryz.strings_IndexRune_ascii ⟨#[47, 0]⟩ (c.toNat : Int) w2 (by omega) (by omega)
        have hcc : ((c.toNat : Int)).toNat.toUInt8 = c := by simp
        rw [hcc] at hcall
        by_cases hit : c = 47 ∨ c = 0
        · have HP : Hid (plainB s = false) := plainB_hit HC.out hit
          obtain ⟨r, hr, hr0⟩ : ∃ r : Int, Lib.indexByte (⟨#[47, 0]⟩ : ByteArray).data.toList c = r ∧ 0 ≤ r := by
            rcases hit with rfl | rfl
            · exact ⟨_, rfl, by decide⟩
            · exact ⟨_, rfl, by decide⟩
          rw [hr] at hcall
          clear hr hcc hit
          go_wp2_with (go_at_call 204; refine hcall.mono ?_; rintro e w3 ⟨rfl, hw3⟩; rw [hw3])
          go_ret
          exact ⟨⟨_, rfl, by rw [HP.out]; simp⟩, hB2⟩
        · have HF2 : Hid (Free s (i + 1)) := free_succ HF.out HC.out (fun h => hit (.inl h)) (fun h => hit (.inr h))
          have hr : Lib.indexByte (⟨#[47, 0]⟩ : ByteArray).data.toList c = -1 := by
            have h1 : (47 : UInt8) ≠ c := fun h => hit (.inl h.symm)
            have h2 : (0 : UInt8) ≠ c := fun h => hit (.inr h.symm)
            simp [Lib.indexByte, h1, h2]
          rw [hr] at hcall
          clear hr hcc hit
          go_wp2_with (go_at_call 204; refine hcall.mono ?_; rintro e w3 ⟨rfl, hw3⟩; rw [hw3])
          go_roundg (s.size - (i + 1))
          case measure => rw [HG.out]; have := HI.out; omega
          case rel => exact ⟨i + 1, rfl, hk2, hB2, HF2⟩
      · have hd := decode_high s i hi (by omega)
        have hdl := decode_le s i
        have HF2 : Hid (Free s (i + (Utf8.decode s i).2)) := free_past HF.out hi (by omega)
        generalize (Utf8.decode s i).1 = c at hnx hd hdl
        generalize hkk : (Utf8.decode s i).2 = kk at hnx hd HF2 hk2 hB2
        generalize wr.iterAt w.heap.size s (i + kk) = w2 at hnx hk2 hB2
        have hcall : Calls Tryz.prog 204 #[.string ⟨#[47, 0]⟩, .int .i32 (c : Int)] w2 fun e w' => e = .returned (.int .i64 (-1)) ∧ Below w2.heap.size w2 w' := by
          by_cases h : (c : Int) = 65533
          · rw [h]; exact rune_bad w2
          · exact rune_high c (by omega) h (by omega) w2
        clear ha hi hkk
        go_wp2_with (go_at_call 204; refine hcall.mono ?_; rintro e w3 ⟨rfl, hB3⟩)
        go_roundg (s.size - (i + kk))
        case measure => rw [HG.out]; have := HI.out; omega
        case rel => exact ⟨i + kk, rfl, (hB3.block _ (Array.getElem?_eq_some_iff.1 hk2).1).trans hk2, hB2.trans (hB3.mono hB2.size), HF2⟩
    · have hnx := fun ty => Lib.run_next_end_at (P := Tryz.prog) wr w.heap.size s i ty hk hi
      have HP : Hid (plainB s = true) := plainB_of_free HF.out (by omega)
      clear hi
      go_wp2
      go_ret
      exact ⟨⟨_, rfl, by rw [HP.out]; rfl⟩, hB⟩
theorem hv166 (w : World) : (zeroValue 269).run Tryz.prog w = .ok (.agg (Array.replicate 256 (.bool false))) w := by kernel_rfl

theorem indexAny_plain (l : List UInt8) : decide (0 ≤ Lib.indexAny l [47, 0]) = !(l.all fun c => c != 47 && c != 0) := by
  induction l with
  | nil => rfl
  | cons a t ih =>
    have hge := Lib.indexAny_ge [47, 0] t
    simp only [Lib.indexAny, List.all_cons]
    by_cases h1 : a = 47
    · subst h1; rfl
    · by_cases h2 : a = 0
      · subst h2; rfl
      · have hc : ([47, 0] : List UInt8).contains a = false := by simp [h1, h2]
        have hb : (a != 47 && a != 0) = true := by simp [h1, h2]
        simp only [hc, hb, Bool.true_and, ← ih, Bool.false_eq_true, if_false]
        split
        · rename_i h; have := beq_iff_eq.1 h; rw [this]
        · rename_i h
          have : Lib.indexAny t [47, 0] ≠ -1 := fun e => h (by rw [e]; rfl)
          rw [decide_eq_decide]; omega

theorem any_c (s : ByteArray) (w : World) (hs : s.size < 4294967281) :
    Calls Tryz.prog 192 #[.string s, .string ⟨#[47, 0]⟩] w fun e w' => (∃ r, e = .returned (.int .i64 r) ∧ decide (0 ≤ r) = !plainB s) ∧ Below w.heap.size w w' := by
  by_cases h8 : s.size ≤ 8
  · exact any_short s w h8
  · refine (Tryz.strings_IndexAny_long hv166 s ⟨#[47, 0]⟩ w (by decide) (by omega) hs (by decide) ?_).mono ?_
    · intro j b hj
      match j with
      | 0 => cases hj; decide
      | 1 => cases hj; decide
      | j + 2 => simp at hj
    · rintro e w' ⟨rfl, rfl⟩
      exact ⟨⟨_, rfl, indexAny_plain _⟩, ((Below.refl _ w).alloc (Nat.le_refl _) _).alloc (by simp) _⟩

set_option maxHeartbeats 1000000 in
theorem contains_c (s : ByteArray) (w : World) (hs : s.size < 4294967281) :
    Calls Tryz.prog 176 #[.string s, .string ⟨#[47, 0]⟩] w fun e w' => e = .returned (.bool (!plainB s)) ∧ Below w.heap.size w w' := by
  go_enter Tryz.func176, Tryz.ntmps176
  go_wp2_with (go_at_call 192; refine (any_c s _ hs).mono ?_; rintro e w2 ⟨⟨r, rfl, hr⟩, hB⟩)
  go_ret
  exact ⟨by rw [← hr]; rfl, hB⟩

set_option maxHeartbeats 1000000 in
theorem dots_c (s : ByteArray) (w : World) :
    Calls Tryz.prog 156 #[.string s] w fun e w' => e = .returned (.bool (isDot s)) ∧ w' = w := by
  go_enter Tryz.func156, Tryz.ntmps156
  go_wp2
  · rename_i h
    go_ret
    exact ⟨by rw [isDot, h]; rfl, rfl⟩
  · go_ret
    exact ⟨rfl, rfl⟩

set_option maxHeartbeats 2000000 in
theorem name_says : NameSays := fun s w hs => by
  go_enter Tryz.func152, Tryz.ntmps152
  go_wp2_with (first
    | (go_at_call 156; refine (dots_c s _).mono ?_; rintro e w2 ⟨rfl, hw2⟩; rw [hw2])
    | (go_at_call 176; refine (contains_c s _ (by omega)).mono ?_; rintro e w3 ⟨rfl, hB3⟩))
  · go_ret; refine ⟨?_, Below.refl _ _⟩; show Ending.returned (.bool false) = .returned (.bool (isNm s)); simp_all [isNm]
  · go_ret; refine ⟨?_, Below.refl _ _⟩; show Ending.returned (.bool false) = .returned (.bool (isNm s)); simp_all [isNm]
  · have h32 : s.size ≤ 32 := by omega
    go_ret; refine ⟨?_, hB3⟩; show Ending.returned (.bool (!s.toList.isEmpty && plainB s)) = .returned (.bool (isNm s)); simp_all [isNm]
  · have h32 : ¬ s.size ≤ 32 := by omega
    go_ret; refine ⟨?_, Below.refl _ _⟩; show Ending.returned (.bool false) = .returned (.bool (isNm s)); rw [isNm, decide_eq_false h32]; simp
end Go.Proofs.YtbbmihlabllliaaGreatDoor
