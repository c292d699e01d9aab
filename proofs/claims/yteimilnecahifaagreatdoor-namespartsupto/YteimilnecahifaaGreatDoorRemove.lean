/- The contract of the library's search for a stroke or a nought, and of the program's isName. -/
import Derived.Laws.RangeAny
import Derived.Laws.RangeString
import Derived.Deep.LoopGhost
import Derived.Lib.OthersKept
import Derived.Deep.RegionWith
import Derived.Deep.QuietTactic
import Derived.BigQuiet
import Derived.BigRegion
import Derived.Test.YteimilnecahifaaGreatDoorShelf3
import Derived.Test.YteimilnecahifaaGreatDoorFile
import Derived.Deep.CutRange
import Derived.Deep.CutBlock
import Derived.Test.YteimilnecahifaaGreatDoorBoxLaw
namespace Go.Proofs.YteimilnecahifaaGreatDoor
open Go.RowKit Go.Shelf

theorem iter_below (w : World) (s : ByteArray) (p : Nat) : Below w.heap.size w (w.iter s p) :=
  (Below.refl _ w).alloc (Nat.le_refl _) _
theorem enc_cases (r : Int) (h1 : 128 ≤ r) : (∃ a b, Utf8.encode r = ⟨#[a, b]⟩ ∧ 128 ≤ b.toNat) ∨ (∃ a b c, Utf8.encode r = ⟨#[a, b, c]⟩) ∨ (∃ a b c d, Utf8.encode r = ⟨#[a, b, c, d]⟩) := by
  unfold Utf8.encode
  simp only
  have h0 : ¬ (if Utf8.valid r = true then r.toNat else Utf8.runeError) < 128 := by
    split
    · omega
    · decide
  revert h0
  generalize (if Utf8.valid r = true then r.toNat else Utf8.runeError) = c
  intro h0
  rw [if_neg h0]
  split
  · refine .inl ⟨_, _, rfl, ?_⟩
    have : c % 64 < 64 := Nat.mod_lt _ (by decide)
    simp only [UInt8.toNat_ofNat']
    omega
  · split
    · exact .inr (.inl ⟨_, _, _, rfl⟩)
    · exact .inr (.inr ⟨_, _, _, _, rfl⟩)

set_option maxRecDepth 1000000 in
set_option maxHeartbeats 4000000 in
theorem rune_bad (w : World) : Calls Tryz.prog 58 #[.string ⟨#[47, 0]⟩, .int .i32 65533] w fun e w' => e = .returned (.int .i64 (-1)) ∧ Below w.heap.size w w' := by
  go_enter Tryz.func58, Tryz.ntmps58
  go_wp2_with fail
  go_loopg [5, 6] 2 (fun g _ _ wx => ∃ i : Nat, i + g = 2 ∧ wx = w.iter ⟨#[47, 0]⟩ i)
  case atStart => exact ⟨0, rfl, rfl⟩
  case round =>
    obtain ⟨i, hig, rfl⟩ := hrel
    cases gk with
    | zero =>
      obtain rfl : i = 2 := by omega
      have hnx := run_next_end (P := Tryz.prog) w ⟨#[47, 0]⟩ 2
      go_wp2
      go_ret
      exact ⟨rfl, iter_below w _ _⟩
    | succ g =>
      have hi : i < 2 := by omega
      obtain rfl | rfl : i = 0 ∨ i = 1 := by omega
      · have hnx := fun ty => run_next_ascii (P := Tryz.prog) w ⟨#[47, 0]⟩ 0 ty (by decide) (by decide)
        go_wp2
        go_roundg g
        case measure => omega
        case rel => exact ⟨1, by omega, rfl⟩
      · have hnx := fun ty => run_next_ascii (P := Tryz.prog) w ⟨#[47, 0]⟩ 1 ty (by decide) (by decide)
        go_wp2
        go_roundg g
        case measure => omega
        case rel => exact ⟨2, by omega, rfl⟩

set_option maxRecDepth 1000000 in
set_option maxHeartbeats 4000000 in
theorem rune_high (r : Int) (h1 : 128 ≤ r) (h2 : r ≠ 65533) (h3 : r ≤ 2147483647) (w : World) : Calls Tryz.prog 58 #[.string ⟨#[47, 0]⟩, .int .i32 r] w fun e w' => e = .returned (.int .i64 (-1)) ∧ Below w.heap.size w w' := by
  have n1 : ¬ r < 128 := by omega
  have n2 : 0 ≤ r := by omega
  rcases enc_cases r h1 with ⟨a, b, he, hb⟩ | ⟨a, b, c, he⟩ | ⟨a, b, c, d, he⟩
  · have hne : ¬ (0 : Int) = (b.toNat : Int) := by omega
    go_enter Tryz.func58, Tryz.ntmps58
    go_wp2_with (go_at_call 92; refine (Tryz.utf8_ValidRune _ _).mono ?_; rintro e w' ⟨rfl, hw⟩; rw [hw])
    · go_ret; exact ⟨rfl, Below.refl _ _⟩
    · go_step3
      go_wp2_with fail
      go_loopw [9] (fun i wr => i = .int .i64 1 ∧ wr = w) (fun _ _ => 0)
      case atStart => exact ⟨rfl, rfl⟩
      case round =>
        obtain ⟨rfl, rfl⟩ := hrel
        go_wp2_with fail
        go_step3
        go_wp2_with fail
        go_region
        all_goals go_wp2_with fail
        · go_region_with (go_at_call 91; refine (Tryz.strings_IndexByte _ _ _).mono ?_; rintro e w' ⟨rfl, hw⟩; rw [hw])
          all_goals go_wp2_with fail
          all_goals (rw [Exit.noGoto_ret]; change bodyPost Tryz.prog Tryz.f58 (fun e w' => e = .returned (.int .i64 (-1)) ∧ Below wr.heap.size wr w') .ret _ _; go_ret; exact ⟨rfl, ((Below.refl _ _).drew).drew⟩)
        · exfalso
          have hx : ((0 : Int) != (b.toNat : Int)) = false := by assumption
          simp at hx
          omega
  · go_enter Tryz.func58, Tryz.ntmps58
    go_wp2_with (go_at_call 92; refine (Tryz.utf8_ValidRune _ _).mono ?_; rintro e w' ⟨rfl, hw⟩; rw [hw])
    · go_ret; exact ⟨rfl, Below.refl _ _⟩
    · go_step3
      go_wp2_with fail
      go_loopw [9] (fun i wr => i = .int .i64 2 ∧ wr = w) (fun _ _ => 0)
      case atStart => exact ⟨rfl, rfl⟩
      case round =>
        obtain ⟨rfl, rfl⟩ := hrel
        go_wp2_with fail
        rw [Exit.noGoto_ret]
        go_ret
        exact ⟨rfl, Below.refl _ _⟩
  · go_enter Tryz.func58, Tryz.ntmps58
    go_wp2_with (go_at_call 92; refine (Tryz.utf8_ValidRune _ _).mono ?_; rintro e w' ⟨rfl, hw⟩; rw [hw])
    · go_ret; exact ⟨rfl, Below.refl _ _⟩
    · go_step3
      go_wp2_with fail
      go_loopw [9] (fun i wr => i = .int .i64 3 ∧ wr = w) (fun _ _ => 0)
      case atStart => exact ⟨rfl, rfl⟩
      case round =>
        obtain ⟨rfl, rfl⟩ := hrel
        go_wp2_with fail
        rw [Exit.noGoto_ret]
        go_ret
        exact ⟨rfl, Below.refl _ _⟩
/-- No stroke and no nought ahead of a place. -/
def Free (s : ByteArray) (i : Nat) : Prop := ∀ j, j < i → ∀ c, s.data.toList[j]? = some c → c ≠ 47 ∧ c ≠ 0
theorem plainB_of_free {s : ByteArray} {i : Nat} (h : Free s i) (hi : s.size ≤ i) : plainB s = true := by
  unfold plainB
  rw [List.all_eq_true]
  intro c hc
  obtain ⟨j, hj⟩ := List.mem_iff_getElem?.1 hc
  have hlt : j < s.data.toList.length := (List.getElem?_eq_some_iff.1 hj).1
  have := h j (by rw [← Lib.size_eq] at hlt; omega) c hj
  simp [this.1, this.2]
theorem plainB_hit {s : ByteArray} {i : Nat} {c : UInt8} (hc : s.data.toList[i]? = some c) (h : c = 47 ∨ c = 0) : plainB s = false := by
  unfold plainB
  rw [List.all_eq_false]
  refine ⟨c, List.mem_of_getElem? hc, ?_⟩
  rcases h with rfl | rfl <;> decide
theorem decode_cont (s : ByteArray) (pos : Nat) (h : pos < s.size) (ha : 128 ≤ (s[pos]'h).toNat) : ∀ j, j < (Utf8.decode s pos).2 → 128 ≤ (s.get! (pos + j)).toNat := by
  have hn : ¬ (s[pos]'h).toNat < 128 := by omega
  have h0 : 128 ≤ (s.get! (pos + 0)).toNat := by rw [get_at s pos h]; exact ha
  simp only [Utf8.decode, get_at s pos h, hn, if_false]
  repeat' split
  all_goals intro j hj
  all_goals try simp only [Bool.and_eq_true, beq_iff_eq, decide_eq_true_eq] at *
  all_goals (obtain rfl | rfl | rfl | rfl : j = 0 ∨ j = 1 ∨ j = 2 ∨ j = 3 := by omega)
  all_goals first | exact h0 | omega
theorem free_past {s : ByteArray} {i : Nat} (h : Free s i) (hi : i < s.size) (ha : 128 ≤ (s[i]'hi).toNat) : Free s (i + (Utf8.decode s i).2) := by
  intro j hj c hc
  by_cases hlt : j < i
  · exact h j hlt c hc
  · have hjs : j < s.size := by rw [Lib.size_eq]; exact (List.getElem?_eq_some_iff.1 hc).1
    have := decode_cont s i hi ha (j - i) (by omega)
    rw [show i + (j - i) = j by omega] at this
    have e : s.get! j = c := by
      have := Lib.data_getElem? s j hjs
      rw [hc] at this
      have h2 := get_at s j hjs
      rw [Nat.add_zero] at h2
      rw [h2]
      exact (Option.some.inj this).symm
    rw [e] at this
    constructor
    · rintro rfl; revert this; decide
    · rintro rfl; revert this; decide
theorem free_succ {s : ByteArray} {i : Nat} (h : Free s i) {c : UInt8} (hc : s.data.toList[i]? = some c) (h1 : c ≠ 47) (h2 : c ≠ 0) : Free s (i + 1) := by
  intro j hj d hd
  by_cases hlt : j < i
  · exact h j hlt d hd
  · obtain rfl : j = i := by omega
    rw [hc] at hd; cases hd; exact ⟨h1, h2⟩

set_option maxRecDepth 1000000 in
set_option maxHeartbeats 8000000 in
theorem any_short (s : ByteArray) (w : World) (h8 : s.size ≤ 8) :
    Calls Tryz.prog 223 #[.string s, .string ⟨#[47, 0]⟩] w fun e w' => (∃ r, e = .returned (.int .i64 r) ∧ decide (0 ≤ r) = !plainB s) ∧ Below w.heap.size w w' := by
  have h8z : decide ((8 : Int) < (s.size : Int)) = false := decide_eq_false (by omega)
  go_enter Tryz.func223, Tryz.ntmps223
  go_wp2_with (go_at_call 244; refine (Tryz.strings_shouldUseASCIISet _ _).mono ?_; rintro e w' ⟨rfl, hw⟩; rw [hw, h8z])
  go_loopg [9, 10] s.size (fun g _ _ wx => ∃ i : Nat, Hid (g = s.size - i) ∧ wx.heap[w.heap.size]? = some (.stringIter s i) ∧ Below w.heap.size w wx ∧ Hid (Free s i))
  case atStart => exact ⟨0, rfl, World.iter_heap w s 0, iter_below w s 0, fun j hj => by omega⟩
  case round =>
    obtain ⟨i, HG, hk, hB, HF⟩ := hrel
    by_cases hi : i < s.size
    · have HI := Lib.hid hi
      have hnx := fun ty => Lib.run_next_any_at (P := Tryz.prog) wr w.heap.size s i ty hk hi
      have hk2 := Lib.iterAt_heap wr w.heap.size s i (i + (Utf8.decode s i).2) hk
      have hB2 : Below w.heap.size w (wr.iterAt w.heap.size s (i + (Utf8.decode s i).2)) := Lib.below_iterAt hB (Nat.le_refl _) _ _
      by_cases ha : (s[i]'hi).toNat < 128
      · obtain ⟨c, hc⟩ : ∃ c : UInt8, s[i]'hi = c := ⟨_, rfl⟩
        have HC : Hid (s.data.toList[i]? = some c) := by show _ = _; rw [← hc]; exact Lib.data_getElem? s i hi
        have hdec : Utf8.decode s i = (c.toNat, 1) := by rw [← hc]; exact decode_ascii s i hi ha
        rw [hc] at ha
        rw [hdec] at hnx hk2 hB2
        simp only at hnx hk2 hB2
        generalize wr.iterAt w.heap.size s (i + 1) = w2 at hnx hk2 hB2
        clear hdec hc hi
        have hcall := Tryz.strings_IndexRune_ascii ⟨#[47, 0]⟩ (c.toNat : Int) w2 (by omega) (by omega)
        have hcc : ((c.toNat : Int)).toNat.toUInt8 = c := by simp
        rw [hcc] at hcall
        by_cases hit : c = 47 ∨ c = 0
        · have HP : Hid (plainB s = false) := plainB_hit HC.out hit
          obtain ⟨r, hr, hr0⟩ : ∃ r : Int, Lib.indexByte (⟨#[47, 0]⟩ : ByteArray).data.toList c = r ∧ 0 ≤ r := by
            rcases hit with rfl | rfl
            · exact ⟨_, rfl, by decide⟩
            · exact ⟨_, rfl, by decide⟩
          rw [hr] at hcall
          clear hr hcc hit
          go_wp2_with (go_at_call 58; refine hcall.mono ?_; rintro e w3 ⟨rfl, hw3⟩; rw [hw3])
          go_ret
          exact ⟨⟨_, rfl, by rw [HP.out]; simp⟩, hB2⟩
        · have HF2 : Hid (Free s (i + 1)) := free_succ HF.out HC.out (fun h => hit (.inl h)) (fun h => hit (.inr h))
          have hr : Lib.indexByte (⟨#[47, 0]⟩ : ByteArray).data.toList c = -1 := by
            have h1 : (47 : UInt8) ≠ c := fun h => hit (.inl h.symm)
            have h2 : (0 : UInt8) ≠ c := fun h => hit (.inr h.symm)
            simp [Lib.indexByte, h1, h2]
          rw [hr] at hcall
          clear hr hcc hit
          go_wp2_with (go_at_call 58; refine hcall.mono ?_; rintro e w3 ⟨rfl, hw3⟩; rw [hw3])
          go_roundg (s.size - (i + 1))
          case measure => rw [HG.out]; have := HI.out; omega
          case rel => exact ⟨i + 1, rfl, hk2, hB2, HF2⟩
      · have hd := decode_high s i hi (by omega)
        have hdl := decode_le s i
        have HF2 : Hid (Free s (i + (Utf8.decode s i).2)) := free_past HF.out hi (by omega)
        generalize (Utf8.decode s i).1 = c at hnx hd hdl
        generalize hkk : (Utf8.decode s i).2 = kk at hnx hd HF2 hk2 hB2
        generalize wr.iterAt w.heap.size s (i + kk) = w2 at hnx hk2 hB2
        have hcall : Calls Tryz.prog 58 #[.string ⟨#[47, 0]⟩, .int .i32 (c : Int)] w2 fun e w' => e = .returned (.int .i64 (-1)) ∧ Below w2.heap.size w2 w' := by
          by_cases h : (c : Int) = 65533
          · rw [h]; exact rune_bad w2
          · exact rune_high c (by omega) h (by omega) w2
        clear ha hi hkk
        go_wp2_with (go_at_call 58; refine hcall.mono ?_; rintro e w3 ⟨rfl, hB3⟩)
        go_roundg (s.size - (i + kk))
        case measure => rw [HG.out]; have := HI.out; omega
        case rel => exact ⟨i + kk, rfl, (hB3.block _ (Array.getElem?_eq_some_iff.1 hk2).1).trans hk2, hB2.trans (hB3.mono hB2.size), HF2⟩
    · have hnx := fun ty => Lib.run_next_end_at (P := Tryz.prog) wr w.heap.size s i ty hk hi
      have HP : Hid (plainB s = true) := plainB_of_free HF.out (by omega)
      clear hi
      go_wp2
      go_ret
      exact ⟨⟨_, rfl, by rw [HP.out]; rfl⟩, hB⟩
theorem hv166 (w : World) : (zeroValue 49).run Tryz.prog w = .ok (.agg (Array.replicate 256 (.bool false))) w := by kernel_rfl

theorem indexAny_plain (l : List UInt8) : decide (0 ≤ Lib.indexAny l [47, 0]) = !(l.all fun c => c != 47 && c != 0) := by
  induction l with
  | nil => rfl
  | cons a t ih =>
    have hge := Lib.indexAny_ge [47, 0] t
    simp only [Lib.indexAny, List.all_cons]
    by_cases h1 : a = 47
    · subst h1; rfl
    · by_cases h2 : a = 0
      · subst h2; rfl
      · have hc : ([47, 0] : List UInt8).contains a = false := by simp [h1, h2]
        have hb : (a != 47 && a != 0) = true := by simp [h1, h2]
        simp only [hc, hb, Bool.true_and, ← ih, Bool.false_eq_true, if_false]
        split
        · rename_i h; have := beq_iff_eq.1 h; rw [this]
        · rename_i h
          have : Lib.indexAny t [47, 0] ≠ -1 := fun e => h (by rw [e]; rfl)
          rw [decide_eq_decide]; omega

theorem any_c (s : ByteArray) (w : World) (hs : s.size < 4294967281) :
    Calls Tryz.prog 223 #[.string s, .string ⟨#[47, 0]⟩] w fun e w' => (∃ r, e = .returned (.int .i64 r) ∧ decide (0 ≤ r) = !plainB s) ∧ Below w.heap.size w w' := by
  by_cases h8 : s.size ≤ 8
  · exact any_short s w h8
  · refine (Tryz.strings_IndexAny_long hv166 s ⟨#[47, 0]⟩ w (by decide) (by omega) hs (by decide) ?_).mono ?_
    · intro j b hj
      match j with
      | 0 => cases hj; decide
      | 1 => cases hj; decide
      | j + 2 => simp at hj
    · rintro e w' ⟨rfl, rfl⟩
      exact ⟨⟨_, rfl, indexAny_plain _⟩, ((Below.refl _ w).alloc (Nat.le_refl _) _).alloc (by simp) _⟩

set_option maxHeartbeats 1000000 in
theorem contains_c (s : ByteArray) (w : World) (hs : s.size < 4294967281) :
    Calls Tryz.prog 195 #[.string s, .string ⟨#[47, 0]⟩] w fun e w' => e = .returned (.bool (!plainB s)) ∧ Below w.heap.size w w' := by
  go_enter Tryz.func195, Tryz.ntmps195
  go_wp2_with (go_at_call 223; refine (any_c s _ hs).mono ?_; rintro e w2 ⟨⟨r, rfl, hr⟩, hB⟩)
  go_ret
  exact ⟨by rw [← hr]; rfl, hB⟩

set_option maxHeartbeats 1000000 in
theorem dots_c (s : ByteArray) (w : World) :
    Calls Tryz.prog 194 #[.string s] w fun e w' => e = .returned (.bool (isDot s)) ∧ w' = w := by
  go_enter Tryz.func194, Tryz.ntmps194
  go_wp2
  · rename_i h
    go_ret
    exact ⟨by rw [isDot, h]; rfl, rfl⟩
  · go_ret
    exact ⟨rfl, rfl⟩

set_option maxHeartbeats 2000000 in
theorem name_says : NameSays := fun s w hs => by
  go_enter Tryz.func160, Tryz.ntmps160
  go_wp2_with (first
    | (go_at_call 194; refine (dots_c s _).mono ?_; rintro e w2 ⟨rfl, hw2⟩; rw [hw2])
    | (go_at_call 195; refine (contains_c s _ (by omega)).mono ?_; rintro e w3 ⟨rfl, hB3⟩))
  · go_ret; refine ⟨?_, Below.refl _ _⟩; show Ending.returned (.bool false) = .returned (.bool (isNm s)); simp_all [isNm]
  · go_ret; refine ⟨?_, Below.refl _ _⟩; show Ending.returned (.bool false) = .returned (.bool (isNm s)); simp_all [isNm]
  · have h32 : s.size ≤ 32 := by omega
    go_ret; refine ⟨?_, hB3⟩; show Ending.returned (.bool (!s.toList.isEmpty && plainB s)) = .returned (.bool (isNm s)); simp_all [isNm]
  · have h32 : ¬ s.size ≤ 32 := by omega
    go_ret; refine ⟨?_, Below.refl _ _⟩; show Ending.returned (.bool false) = .returned (.bool (isNm s)); rw [isNm, decide_eq_false h32]; simp
end Go.Proofs.YteimilnecahifaaGreatDoor

namespace Go.Proofs.YteimilnecahifaaGreatDoor
open Go.RowKit Go.Shelf

theorem stepF_err {g : Graph} {a : Nat} {p : ByteArray} {e : Int} (ha : (g a).isSome = true) (h : stepF g a p = .error e) : e ≠ 0 := by
  unfold stepF at h
  cases hg : g a with
  | none => rw [hg] at ha; cases ha
  | some y =>
    obtain ⟨x, D⟩ := y
    rw [hg] at h
    simp only at h
    repeat' split at h
    all_goals cases h
    all_goals decide
theorem leadF_err {g : Graph} (hc : Closed g) : ∀ (l : List ByteArray) {a : Nat} {e : Int}, (g a).isSome = true → leadF g a l = .error e → e ≠ 0
  | [], a, e, _, h => by cases h
  | p :: r, a, e, ha, h => by
    simp only [leadF] at h
    cases hs : stepF g a p with
    | error e' => rw [hs] at h; cases h; exact stepF_err ha hs
    | ok c => rw [hs] at h; exact leadF_err hc r (stepF_some hc ha hs) h

def dirF (g : Graph) : Except Int Nat → Except Int Nat
  | .ok b => match g b with | some (x, _) => if x.dir = true then .ok b else .error 3 | none => .error 0
  | .error e => .error e
def toDir (g : Graph) (b0 : Nat) (s : ByteArray) : Except Int Nat := dirF g (leadF g b0 (ptsOf s))

/-- A tree in memory, as the ways through it see it. -/
structure Amb (g : Graph) (m : Int) (w : World) : Prop where
  m : w.cell? ⟨0, 0, none⟩ = some (.int .i64 m)
  gr : Gr w g
theorem Amb.below {g : Graph} {m : Int} {w w' : World} (h : Amb g m w) (hb : Below w.heap.size w w') : Amb g m w' :=
  ⟨(hb.cell (p := ⟨0, 0, none⟩) (World.block_lt_of_cell? w _ h.m)).trans h.m, h.gr.below hb⟩

set_option maxHeartbeats 1000000 in
theorem toDir_c (g : Graph) (hcl : Closed g) (b0 : Nat) (s : ByteArray) (m : Int) (w : World) (hs : s.size ≤ 2147483648) (hA : Amb g m w) (h0 : (g b0).isSome = true) :
    Calls Tryz.prog 164 #[.pointer (some ⟨b0, 0, none⟩), .string s] w fun e w' => e = .returned (leadV (toDir g b0 s)) ∧ Below w.heap.size w w' := by
  have hl := lead_c name_says g hcl b0 s m w hs hA.m hA.gr h0
  have HL := Lib.hid hA
  clear hA
  unfold toDir
  cases hr : leadF g b0 (ptsOf s) with
  | error e =>
    have hne := leadF_err hcl _ h0 hr
    have hne' : (e == 0) = false := by simpa using hne
    rw [hr] at hl
    simp only [leadV] at hl
    go_enter Tryz.func164, Tryz.ntmps164
    go_wp2_with (go_at_call 167; refine hl.mono ?_; rintro e w2 ⟨rfl, hB⟩)
    refine bodyPost_ret (results_tmp2 rfl _ _ _) rfl ?_
    exact ⟨rfl, hB⟩
  | ok b =>
    have hsb := leadF_some hcl _ h0 hr
    obtain ⟨⟨x, D⟩, hg⟩ := Option.isSome_iff_exists.1 hsb
    rw [hr] at hl
    simp only [leadV] at hl
    cases hd : x.dir with
    | true =>
      have hv : dirF g (.ok b) = .ok b := by simp [dirF, hg, hd]
      rw [hv]
      go_enter Tryz.func164, Tryz.ntmps164
      go_wp2_with (go_at_call 167; refine hl.mono ?_; rintro e w2 ⟨rfl, hB⟩; have hx := ((HL.out.below hB).gr b x D hg).1.c3; rw [hd] at hx)
      refine bodyPost_ret (results_tmp2 rfl _ _ _) rfl ?_
      exact ⟨rfl, hB⟩
    | false =>
      have hv : dirF g (.ok b) = .error 3 := by simp [dirF, hg, hd]
      rw [hv]
      go_enter Tryz.func164, Tryz.ntmps164
      go_wp2_with (go_at_call 167; refine hl.mono ?_; rintro e w2 ⟨rfl, hB⟩; have hx := ((HL.out.below hB).gr b x D hg).1.c3; rw [hd] at hx)
      refine bodyPost_ret (results_tmp2 rfl _ _ _) rfl ?_
      exact ⟨rfl, hB⟩

set_option maxHeartbeats 1000000 in
theorem home_c (g : Graph) (hcl : Closed g) (t root : Nat) (fm nm la : Value) (s : ByteArray) (m : Int) (w : World) (hs : s.size ≤ 2147483648) (hA : Amb g m w) (hT : TrAt w t (ptr root) fm nm la) (h0 : (g root).isSome = true) :
    Calls Tryz.prog 128 #[.pointer (some ⟨t, 0, none⟩), .string s] w fun e w' => e = .returned (leadV (toDir g root s)) ∧ Below w.heap.size w w' := by
  have hl := toDir_c g hcl root s m w hs hA h0
  have hc := hT.c0
  simp only [ptr] at hc
  clear hA
  cases hr : toDir g root s with
  | error e =>
    rw [hr] at hl
    simp only [leadV] at hl
    go_enter Tryz.func128, Tryz.ntmps128
    go_wp2_with (go_at_call 164; refine hl.mono ?_; rintro e w2 ⟨rfl, hB⟩)
    refine bodyPost_ret (results_tmp2 rfl _ _ _) rfl ?_
    exact ⟨rfl, hB⟩
  | ok b =>
    rw [hr] at hl
    simp only [leadV] at hl
    go_enter Tryz.func128, Tryz.ntmps128
    go_wp2_with (go_at_call 164; refine hl.mono ?_; rintro e w2 ⟨rfl, hB⟩)
    refine bodyPost_ret (results_tmp2 rfl _ _ _) rfl ?_
    exact ⟨rfl, hB⟩

def isAbs (s : ByteArray) : Bool := Lib.hasPrefix s.data.toList [47]
def isEnd (s : ByteArray) : Bool := Lib.hasSuffix s.data.toList [47]
set_option maxHeartbeats 1000000 in
theorem start_c (t root home : Nat) (fm nm la : Value) (s : ByteArray) (w : World) (hT : TrAt w t (ptr root) fm nm la) :
    Calls Tryz.prog 165 #[.pointer (some ⟨t, 0, none⟩), .pointer (some ⟨home, 0, none⟩), .string s] w fun e w' => e = .returned (ptr (if isAbs s = true then root else home)) ∧ w' = w := by
  have hc := hT.c0
  simp only [ptr] at hc
  have hp := Tryz.strings_HasPrefix s ⟨#[47]⟩ w
  cases hr : isAbs s with
  | true =>
    rw [show Lib.hasPrefix s.data.toList (⟨#[47]⟩ : ByteArray).data.toList = true from hr] at hp
    go_enter Tryz.func165, Tryz.ntmps165
    go_wp2_with (go_at_call 152; refine hp.mono ?_; rintro e w2 ⟨rfl, hw⟩; rw [hw])
    go_ret
    exact ⟨rfl, rfl⟩
  | false =>
    rw [show Lib.hasPrefix s.data.toList (⟨#[47]⟩ : ByteArray).data.toList = false from hr] at hp
    go_enter Tryz.func165, Tryz.ntmps165
    go_wp2_with (go_at_call 152; refine hp.mono ?_; rintro e w2 ⟨rfl, hw⟩; rw [hw])
    go_ret
    exact ⟨rfl, rfl⟩
set_option maxHeartbeats 1000000 in
theorem ends_c (s : ByteArray) (w : World) (hs : s.size ≤ 9223372036854775807) : Calls Tryz.prog 166 #[.string s] w fun e w' => e = .returned (.bool (isEnd s)) ∧ w' = w := by
  go_enter Tryz.func166, Tryz.ntmps166
  go_wp2_with (go_at_call 198; refine (Tryz.strings_HasSuffix s ⟨#[47]⟩ w hs).mono ?_; rintro e w2 ⟨rfl, hw⟩; rw [hw])
  go_ret
  exact ⟨rfl, rfl⟩
/-- A place's four cells. -/
def PlAt (w : World) (b : Nat) (x0 x1 x2 x3 : Value) : Prop := w.heap[b]? = some (.cells #[x0, x1, x2, x3] 215)
section
variable {w : World} {b : Nat} {x0 x1 x2 x3 : Value}
theorem PlAt.c0 (h : PlAt w b x0 x1 x2 x3) : w.cell? ⟨b, 0, none⟩ = some x0 := by simp [World.cell?, show w.heap[b]? = _ from h]
theorem PlAt.c1 (h : PlAt w b x0 x1 x2 x3) : w.cell? ⟨b, 1, none⟩ = some x1 := by simp [World.cell?, show w.heap[b]? = _ from h]
theorem PlAt.c2 (h : PlAt w b x0 x1 x2 x3) : w.cell? ⟨b, 2, none⟩ = some x2 := by simp [World.cell?, show w.heap[b]? = _ from h]
theorem PlAt.c3 (h : PlAt w b x0 x1 x2 x3) : w.cell? ⟨b, 3, none⟩ = some x3 := by simp [World.cell?, show w.heap[b]? = _ from h]
theorem PlAt.fz (h : PlAt w b x0 x1 x2 x3) (i : Nat) : w.frozen? ⟨b, i, none⟩ = false := by simp [World.frozen?, show w.heap[b]? = _ from h]
theorem PlAt.lt (h : PlAt w b x0 x1 x2 x3) : b < w.heap.size := (Array.getElem?_eq_some_iff.1 (show w.heap[b]? = _ from h)).1
theorem PlAt.below (h : PlAt w b x0 x1 x2 x3) {w' : World} {B : Nat} (hb : Below B w w') (hB : b < B) : PlAt w' b x0 x1 x2 x3 := (hb.block b hB).trans h
theorem PlAt.set (h : PlAt w b x0 x1 x2 x3) (y0 y1 y2 y3 : Value) : PlAt ((((w.setCell ⟨b, 0, none⟩ y0).setCell ⟨b, 1, none⟩ y1).setCell ⟨b, 2, none⟩ y2).setCell ⟨b, 3, none⟩ y3) b y0 y1 y2 y3 := by
  show (World.heap _)[b]? = _
  simp [World.setCell, Array.getElem?_modify, show w.heap[b]? = _ from h]
end
end Go.Proofs.YteimilnecahifaaGreatDoor

namespace Go.Proofs.YteimilnecahifaaGreatDoor
open Go.RowKit Go.Shelf Go.Maps

end Go.Proofs.YteimilnecahifaaGreatDoor

namespace Go.Proofs.YteimilnecahifaaGreatDoor
open Go.RowKit Go.Shelf Go.Maps

/-- A graph that is told node by node. -/
def gOf (l : List (Nat × Nd × DataW Value)) : Graph := fun k => (l.find? fun p => p.1 == k).map (·.2)

/- The paths of the examples. -/
abbrev sE : ByteArray := ⟨#[]⟩
theorem pts_E : ptsOf sE = [] := by kernel_rfl
end Go.Proofs.YteimilnecahifaaGreatDoor

namespace Go.Proofs.YteimilnecahifaaGreatDoor
open Go.RowKit Go.Shelf Go.Maps

abbrev xr (rt rm : Nat) : Nd := ⟨1, 493, 0, true, ptr rt, .map (some rm), .slice none 0 0, 0, 0⟩
abbrev mE : DataW Value := .map []
section
variable (rt rm : Nat)
def g0 : Graph := gOf [(rt, xr rt rm, mE)]
theorem g0_rt : g0 rt rm rt = some (xr rt rm, mE) := by simp [g0, gOf]
theorem g0_inv {b : Nat} {x : Nd} {D : DataW Value} (h : g0 rt rm b = some (x, D)) : b = rt ∧ x = xr rt rm ∧ D = mE := by
  by_cases hb : rt = b
  · subst hb; rw [g0_rt] at h; cases h; exact ⟨rfl, rfl, rfl⟩
  · simp [g0, gOf, hb] at h
theorem closed0 : Closed (g0 rt rm) := fun b x D h hd => by
  obtain ⟨rfl, rfl, rfl⟩ := g0_inv rt rm h
  exact ⟨⟨b, rfl, by rw [g0_rt]; rfl⟩, fun s => .inl (look_empty _)⟩
theorem gr0 {w : World} {N : Nat} (hn : NdAt w rt (xr rt rm)) (hm : w.ownsMap Tryz.prog 9 R rm N mE) : Gr w (g0 rt rm) := fun b x D h => by
  obtain ⟨rfl, rfl, rfl⟩ := g0_inv rt rm h
  exact ⟨hn, fun _ => ⟨rm, N, rfl, hm⟩⟩
theorem toDir_empty {g : Graph} {b : Nat} {x : Nd} {D : DataW Value} (hg : g b = some (x, D)) (hd : x.dir = true) {s : ByteArray} (hs : ptsOf s = []) : toDir g b s = .ok b := by
  simp [toDir, hs, leadF, dirF, hg, hd]

/-- One file in the root. -/
def g1 (n : Nat) (xf : Nd) (nme : ByteArray) : Graph := gOf [(rt, xr rt rm, mE.put (sk nme) (.held (ptr n))), (n, xf, mE)]
variable {n : Nat} {xf : Nd} {nme : ByteArray}
end
end Go.Proofs.YteimilnecahifaaGreatDoor

namespace Go.Proofs.YteimilnecahifaaGreatDoor
open Go.RowKit Go.Shelf Go.Maps

/-- A tree with the root alone. -/
structure Tr0 (w0 : Nat) (w : World) (t rt rm fm : Nat) : Prop where
  ht : w0 ≤ t
  hrt : w0 ≤ rt
  hrm : w0 ≤ rm
  hfm : w0 ≤ fm
  hmf : rm ≠ fm
  hN : NdAt w rt (xr rt rm)
  hM : w.ownsMap Tryz.prog 9 R rm 0 mE
  hF : w.ownsMap Tryz.prog 3 R fm 0 mE
  hT : TrAt w t (ptr rt) (.map (some fm)) (.int .i64 0) (.int .i64 1)
theorem Tr0.turn {S : List Nat} {w0 : Nat} {w w' : World} {t rt rm fm : Nat} (h : Tr0 w0 w t rt rm fm) (hU : Turn S w w') (hs : t ∉ S ∧ rt ∉ S ∧ rm ∉ S ∧ fm ∉ S) : Tr0 w0 w' t rt rm fm :=
  ⟨h.ht, h.hrt, h.hrm, h.hfm, h.hmf, hU.nd h.hN hs.2.1, hU.map h.hM hs.2.2.1, hU.map h.hF hs.2.2.2, hU.tr h.hT hs.1⟩

set_option maxRecDepth 100000 in
set_option maxHeartbeats 2000000 in
theorem load_c (w : World) : Calls Tryz.prog 65 #[.slice none 0 0] w fun e w' => ∃ t rt rm fm, e = .returned (.tuple #[ptr t, .int .i64 0]) ∧ Tr0 w.heap.size w' t rt rm fm ∧ Below w.heap.size w w' := by
  have hmm := @run_makeMap Tryz.prog
  go_enter Tryz.func65, Tryz.ntmps65
  go_wp2_with (go_at_call 97; refine (new_c _).mono ?_; rintro e w1 ⟨t, rt, rm, fm, rfl, ht, hrt, hrm, hfm, hmf, hN1, hM1, hF1, hT1, hB1⟩)
  have HT : Hid (Tr0 w.heap.size (w1.alloc (.map #[] 0)) t rt rm fm) := ⟨ht, hrt, hrm, hfm, hmf, nd_alloc hN1 _, hM1.alloc _, hF1.alloc _, tr_alloc hT1 _⟩
  have HB : Hid (Below w.heap.size w (w1.alloc (.map #[] 0))) := hB1.alloc hB1.size _
  clear hN1 hM1 hF1 hT1 hB1
  go_loopw [12] (fun i wr => i = .int .i64 0 ∧ wr = w1.alloc (.map #[] 0)) (fun _ _ => 0)
  case atStart => exact ⟨rfl, rfl⟩
  case round =>
    obtain ⟨rfl, rfl⟩ := hrel
    go_wp2_with fail
    refine bodyPost_ret (results_tmp2 rfl _ _ _) rfl ?_
    exact ⟨t, rt, rm, fm, rfl, HT.out, HB.out⟩

/-- The faults' cells in a row. -/
def flat : List (Int × Int) → List Value
  | [] => []
  | x :: r => .int .i64 x.1 :: .int .i64 x.2 :: flat r
theorem flat_length : ∀ l : List (Int × Int), (flat l).length = l.length * 2
  | [] => rfl
  | x :: r => by simp only [flat, List.length_cons, flat_length r]; omega
theorem flat_one : ∀ (l : List (Int × Int)) (u : Value), u ∈ flat l → u.oneCell' = true
  | [], u, h => by cases h
  | x :: r, u, h => by
    simp only [flat, List.mem_cons] at h
    rcases h with rfl | rfl | h
    · rfl
    · rfl
    · exact flat_one r u h
theorem flat_get : ∀ (l : List (Int × Int)) (i : Nat), i < l.length → (flat l)[i * 2]? = some (.int .i64 (l[i]?.getD (0, 0)).1) ∧ (flat l)[i * 2 + 1]? = some (.int .i64 (l[i]?.getD (0, 0)).2)
  | [], i, h => by simp at h
  | x :: r, 0, h => by simp [flat]
  | x :: r, i + 1, h => by
    have := flat_get r i (by simpa using h)
    rw [show (i + 1) * 2 = i * 2 + 1 + 1 by omega]
    simpa [flat] using this

theorem infoF : (Tryz.prog.info? 121).map (fun i => (i.zero, i.size, i.bytes)) = some (some (.agg #[.int .i64 0, .int .i64 0]), 2, 16) := by kernel_rfl

/-- What Clone makes of the faults. -/
theorem faults_clone (fv : Value) (fb : Nat) (l : List (Int × Int)) (w : World) (hF : Fl w fv fb l) (hl : l.length ≤ 1048576) :
    Calls Tryz.prog 67 #[fv] w fun e w' => ∃ fv' fb', e = .returned fv' ∧ Fl w' fv' fb' l ∧ ((fb' = 0 ∧ w' = w) ∨ (w.heap.size ≤ fb' ∧ ∃ cs, w'.heap[fb']? = some (.cells cs 121))) ∧ Below w.heap.size w w' := by
  obtain ⟨i0, hi0, hz0, hz1, hz2⟩ := info_parts infoF
  obtain ⟨a, cap, rfl, hcap, hbig, ⟨h0, rfl, rfl⟩ | ⟨o, rfl, hcell⟩⟩ := hF
  · obtain rfl : l = [] := List.eq_nil_of_length_eq_zero h0
    refine (AnyE.slices_Clone_nil Tryz.cloneF 0 0 w).mono ?_
    rintro e w' ⟨rfl, rfl⟩
    exact ⟨.slice none 0 0, 0, rfl, ⟨none, 0, rfl, Nat.le_refl _, by simp, .inl ⟨rfl, rfl, rfl⟩⟩, .inl ⟨rfl, rfl⟩, Below.refl _ _⟩
  · refine (AnyE.slices_Clone Tryz.cloneF i0 (.agg #[.int .i64 0, .int .i64 0]) 2 16 hi0 hz0 hz1 hz2 rfl (by decide) Tryz.sizeOf121 fb o l.length cap (flat l) w (flat_length l) (by unfold maxLen; omega) (by omega) (fun j u hu => ?_) (flat_one l)).mono ?_
    · have hj : j < l.length * 2 := by have := (List.getElem?_eq_some_iff.1 hu).1; rw [flat_length] at this; exact this
      obtain ⟨i, hi⟩ : ∃ i, j = i * 2 ∨ j = i * 2 + 1 := ⟨j / 2, by omega⟩
      obtain ⟨f1, f2⟩ := flat_get l i (by omega)
      obtain ⟨g1, g2⟩ := hcell i (by omega)
      rcases hi with rfl | rfl
      · rw [f1] at hu; rw [g1, hu]
      · rw [f2] at hu; rw [← Nat.add_assoc, g2, hu]
    · rintro e w' ⟨v', rfl, ho, hne, hB⟩
      rcases ho.2 with ⟨e0, _⟩ | ⟨g, cap', cur, rfl, hb, hg, hn, hm, hs, ht⟩
      · exact absurd e0 hne
      · refine ⟨_, g, rfl, ⟨_, cap', rfl, hn, by omega, .inr ⟨0, rfl, fun j hj => ?_⟩⟩, .inr ⟨hb, cur, hg⟩, hB⟩
        obtain ⟨f1, f2⟩ := flat_get l j hj
        refine ⟨h_cell hg _ ?_, h_cell hg _ ?_⟩
        · rw [← ht, List.getElem?_take, if_pos (by omega)] at f1
          rw [Nat.zero_add, ← Array.getElem?_toList]; exact f1
        · rw [← ht, List.getElem?_take, if_pos (by omega)] at f2
          rw [Nat.zero_add, ← Array.getElem?_toList]; exact f2

set_option maxRecDepth 100000 in
set_option maxHeartbeats 2000000 in
theorem knew_c (t fb : Nat) (fv : Value) (l : List (Int × Int)) (now : Int) (w : World) (hF : Fl w fv fb l) (hl : l.length ≤ 1048576) (h0 : 0 < w.heap.size) :
    Calls Tryz.prog 41 #[ptr t, fv, .int .i64 now] w fun e w' => ∃ k fb' th fv', e = .returned (ptr k) ∧ w.heap.size ≤ k ∧ w.heap.size ≤ th ∧ fb' < w'.heap.size ∧ fb' ≠ k ∧ fb' ≠ th ∧ KnAt w' k (ptr t) fv' 0 now th 0 ∧ Fl w' fv' fb' l ∧ w'.ownsMap Tryz.prog 3 R th 0 mE ∧ Below w.heap.size w w' := by
  have hmm := @run_makeMap Tryz.prog
  have hcl := faults_clone fv fb l w hF hl
  clear hF
  go_enter Tryz.func41, Tryz.ntmps41
  go_wp2_with (go_at_call 67; refine hcl.mono ?_; rintro e w1 ⟨fv', fb', rfl, hF1, hor, hB1⟩; have HF1 := Lib.hid hF1; obtain ⟨a', cap', rfl, _⟩ := hF1)
  go_ret
  have hz := hB1.size
  have hU : Turn [] w1 ((w1.alloc (.map #[] 0)).alloc (.cells #[ptr t, .slice a' l.length cap', .int .i64 0, .int .i64 now, .map (some w1.heap.size), .int .i64 0] 129)) := (Turn.alloc _ _).trans (Turn.alloc _ _)
  have hlt : fb' < w1.heap.size := by
    rcases hor with ⟨h1, h2⟩ | ⟨h1, cs, h2⟩
    · rw [h2]; omega
    · exact h_lt h2
  refine ⟨w1.heap.size + 1, fb', w1.heap.size, _, rfl, by omega, by omega, by simp; omega, by omega, by omega, al_new _ _ (by simp), HF1.out.turn hU (by simp), (World.ownsMap_made w1 Tryz.prog 3 R).alloc _, (hB1.alloc hz _).alloc (by simp; omega) _⟩

set_option maxRecDepth 100000 in
set_option maxHeartbeats 2000000 in
theorem ktable_c (k : Nat) (w : World) : Calls Tryz.prog 68 #[ptr k] w fun e w' => e = .returned (ptr w.heap.size) ∧ w' = w.alloc (.cells #[ptr k, .nilIface, .nilIface, .nilIface, .nilIface, .nilIface, .nilIface, .nilIface, .nilIface, .nilIface, .nilIface, .nilIface, .nilIface, .nilIface, .nilIface, .nilIface, .nilIface] 146) := by
  go_enter Tryz.func68, Tryz.ntmps68
  go_wp2
  go_ret
  exact ⟨rfl, rfl⟩

end Go.Proofs.YteimilnecahifaaGreatDoor

namespace Go.Proofs.YteimilnecahifaaGreatDoor
open Go.RowKit Go.Shelf Go.Maps

end Go.Proofs.YteimilnecahifaaGreatDoor

namespace Go.Proofs.YteimilnecahifaaGreatDoor
open Go.RowKit Go.Shelf Go.Maps

end Go.Proofs.YteimilnecahifaaGreatDoor
