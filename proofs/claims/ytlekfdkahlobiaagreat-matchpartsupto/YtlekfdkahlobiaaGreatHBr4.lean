/- Brackets: a class. -/
import Derived.Test.YtlekfdkahlobiaaGreatHSt2
import Derived.Test.YtlekfdkahlobiaaGreatHSt5
import Derived.Test.YtlekfdkahlobiaaGreatHShelf
import Derived.Test.YtlekfdkahlobiaaGreatHSet3
import Derived.Deep.RegionHeld3
import Derived.BigRegion
import Derived.Deep.DeepCutAuto
import Derived.Deep.CutBlock
namespace Go.Proofs.YtlekfdkahlobiaaGreat.Re
open Go.Proofs.YtlekfdkahlobiaaGreat.Tr
open Go.RowKit

theorem index_shut : ∀ t : List UInt8, Lib.index t [58, 93] = match shutS t with | none => -1 | some k => (k : Int)
  | [] => rfl
  | [a] => by
    rw [Lib.index]
    have : [58, 93].isPrefixOf [a] = false := by simp [List.isPrefixOf]
    rw [this]
    rfl
  | a :: b :: r => by
    rw [Lib.index, index_shut (b :: r), shutS]
    by_cases h : a = 58 ∧ b = 93
    · obtain ⟨rfl, rfl⟩ := h
      rfl
    · have : [58, 93].isPrefixOf (a :: b :: r) = false := by
        rw [Bool.eq_false_iff]
        intro e
        simp only [List.isPrefixOf_cons_cons, Bool.and_eq_true, beq_iff_eq] at e
        exact h ⟨e.1.symm, e.2.1.symm⟩
      rw [this, if_neg h]
      cases shutS (b :: r) with
      | none => rfl
      | some k =>
        simp only [Option.map_some]
        rw [if_neg (by simp), if_neg (by simp)]
        simp
theorem shut_drop : ∀ (t : List UInt8) (j : Nat), shutS t = none → shutS (t.drop j) = none
  | [], j, _ => by simp; rfl
  | [a], j, _ => by
    rcases j with _ | j
    · rfl
    · simp; rfl
  | a :: b :: r, j, h => by
    rw [shutS] at h
    split at h
    · cases h
    · have h2 : shutS (b :: r) = none := by
        cases hs : shutS (b :: r) with
        | none => rfl
        | some k => rw [hs] at h; cases h
      rcases j with _ | j
      · rename_i hne
        rw [List.drop_zero, shutS, if_neg hne, h2]; rfl
      · rw [List.drop_succ_cons]
        exact shut_drop (b :: r) j h2
theorem clsN_of {t : List UInt8} (h : shutS t = none) : ClsN (91 :: 58 :: t) := by
  intro k
  rcases k with _ | _ | k
  · show clsS (91 :: 58 :: t) = none
    unfold clsS
    rw [if_pos ⟨rfl, rfl⟩]
    show (shutS t).map _ = none
    rw [h]; rfl
  · show clsS (58 :: t) = none
    unfold clsS
    rw [if_neg (by rintro ⟨e, _⟩; cases e)]
  · show clsS (t.drop k) = none
    unfold clsS
    split
    · rw [List.drop_drop, shut_drop t _ h]; rfl
    · rfl
theorem zeroFn (w : World) : (zeroValue 109).run Tryz.prog w = .ok .nilFunc w := by kernel_rfl
/-- A kind of bytes, as a function value. -/
def KindV (fn : Nat) (p : UInt8 → Bool) : Prop := (∀ (c : Nat) (W : World), c < 256 → Calls Tryz.prog fn #[.int .u8 (c : Int)] W fun e w' => e = .returned (.bool (p (UInt8.ofNat c))) ∧ w' = W) ∧ ∀ (z : Array Value) (u : World), (callFunc fn z).run Tryz.prog u = .ok (.enter fn z) u
section
variable {w : World} {rb : Nat} {l : List UInt8} {ext fold cl : Bool} {last depth made : Int} {pv ov : Value}
/-- What class answers. -/
def ClO (rb : Nat) (l : List UInt8) (ext fold : Bool) (last depth : Int) (pv ov : Value) (made : Int) (w : World) (e : Ending) (w' : World) : Prop :=
  Bar rb w w' ∧ match clsS l with
    | none => e = .returned .nilFunc ∧ ∃ cl, Rd w' rb l ext fold last depth cl pv ov made ∧ (cl = true → ClsN l)
    | some q => match classP q.1 with
      | none => e = .panicked gaveUp
      | some p => ∃ fn, e = .returned (.func (.func fn) #[] #[]) ∧ KindV fn (fun c => p c.toNat) ∧ ∃ cl, Rd w' rb q.2 ext fold last depth cl pv ov made ∧ (cl = true → ClsN q.2)
theorem Rd.setCl (h : Rd w rb l ext fold last depth cl pv ov made) (b : Bool) : Rd (w.setCell ⟨rb, 5, none⟩ (.bool b)) rb l ext fold last depth b pv ov made := by simpa using h_set h 5 (.bool b)
set_option maxHeartbeats 1000000 in
set_option maxRecDepth 100000 in
theorem class_c {m : Int} (h : Rd w rb l ext fold last depth cl pv ov made) (hcl : cl = true → ClsN l) (hm : w.cell? ⟨0, 0, none⟩ = some (.int .i64 m)) (hl : l.length ≤ 2097152) : Calls Tryz.prog 81 #[ptr rb] w (ClO rb l ext fold last depth pv ov made w) := by
  have c0 := h_cell h 0 rfl
  have c5 := h_cell h 5 rfl
  have hp0 := cut_c l [91, 58] w
  cases hb : begins [91, 58] l with
  | false =>
    rw [hb] at hp0
    have HE : Hid (clsS l = none) := by
      show _ = _
      unfold clsS
      rw [if_neg]
      rintro ⟨e0, e1⟩
      rw [begins_two.2 ⟨e0, e1⟩] at hb
      cases hb
    have HR := Lib.hid (And.intro h hcl)
    clear h hcl hb
    go_enter Tryz.func81, Tryz.ntmps81
    go_wp2_with (go_at_call 77; refine hp0.mono ?_; rintro e w1 ⟨rfl, hw⟩; rw [hw]; clear hw w1)
    go_ret
    exact ⟨Bar.refl _ _, by rw [HE.out]; exact ⟨rfl, cl, HR.out.1, HR.out.2⟩⟩
  | true =>
    obtain ⟨t, rfl⟩ := two_is hb
    have hp : Calls Tryz.prog 77 #[.string (bs (91 :: 58 :: t)), .string (bs [91, 58])] w fun e w' => e = .returned (.tuple #[.string (bs t), .bool true]) ∧ w' = w := by
      have := hp0
      unfold cutL at this
      rw [if_pos hb, hb] at this
      exact this
    clear hb hp0
    cases cl with
    | true =>
      have HE : Hid (clsS (91 :: 58 :: t) = none) := hcl rfl 0
      have HR := Lib.hid (And.intro h hcl)
      clear h hcl
      go_enter Tryz.func81, Tryz.ntmps81
      go_wp2_with (go_at_call 77; refine hp.mono ?_; rintro e w1 ⟨rfl, hw⟩; rw [hw]; clear hw w1)
      go_ret
      exact ⟨Bar.refl _ _, by rw [HE.out]; exact ⟨rfl, true, HR.out.1, fun _ => HR.out.2 trivial⟩⟩
    | false =>
      have hcut := Tryz.strings_Cut (bs t) (bs [58, 93]) m w (by rw [bs_size]; simp only [List.length_cons] at hl; omega) hm
      have hix := index_shut t
      cases hs : shutS t with
      | none =>
        rw [hs] at hix
        have e1 : Lib.cut (bs t).data.toList (bs [58, 93]).data.toList = (t, [], false) := by
          show Lib.cut t [58, 93] = _
          unfold Lib.cut
          rw [hix, if_neg (by simp)]
        rw [e1] at hcut
        have HE : Hid (clsS (91 :: 58 :: t) = none) := clsN_of hs 0
        have HC := Lib.hid (clsN_of hs)
        have z5 := h_fz h 5
        have HR := Lib.hid h
        clear h hcl e1 hix hs
        go_enter Tryz.func81, Tryz.ntmps81
        go_wp2_with (first
          | (go_at_call 77; refine hp.mono ?_; rintro e w1 ⟨rfl, hw⟩; rw [hw]; clear hw w1)
          | (go_at_call 88; refine hcut.mono ?_; rintro e w1 ⟨rfl, nq, hw⟩; rw [hw]; clear hw w1; have c5' : (w.drewN nq).cell? ⟨rb, 5, none⟩ = _ := c5; have z5' : (w.drewN nq).frozen? ⟨rb, 5, none⟩ = _ := z5))
        go_ret
        have hR1 : Rd (w.drewN nq) rb (91 :: 58 :: t) ext fold last depth false pv ov made := HR.out
        exact ⟨((Bar.refl rb w).drewN).trans (Bar.set _ _ _ _), by rw [HE.out]; exact ⟨rfl, true, hR1.setCl true, fun _ => HC.out⟩⟩
      | some k =>
        rw [hs] at hix
        have e1 : Lib.cut (bs t).data.toList (bs [58, 93]).data.toList = (t.take k, t.drop (k + 2), true) := by
          show Lib.cut t [58, 93] = _
          unfold Lib.cut
          rw [hix, if_pos (by simp)]
          simp
        rw [e1] at hcut
        have HE : Hid (clsS (91 :: 58 :: t) = some (t.take k, t.drop (k + 2))) := by
          show _ = _
          unfold clsS
          rw [if_pos ⟨rfl, rfl⟩]
          show (shutS t).map _ = _
          rw [hs]
          simp
        have hz0 := h_fz h 0
        have HR := Lib.hid h
        have hnm : (Kd.sb (t.take k)).size ≤ maxLen := by
          show (t.take k).toArray.size ≤ maxLen
          simp only [List.size_toArray, List.length_take, List.length_cons] at hl ⊢
          unfold maxLen
          omega
        have hcls := fun u => Kd.classes_p u
        clear h hcl e1 hix hs
        rcases Kd.cls_ok (t.take k) with ⟨g1, g2⟩ | ⟨fn, p, g1, g2, g3, g4, _⟩
        · have HP := Lib.hid g2
          have hg := fun u => giveUp_c u
          go_enter Tryz.func81, Tryz.ntmps81
          go_wp2_with (first
            | (go_at_call 77; refine hp.mono ?_; rintro e w1 ⟨rfl, hw⟩; rw [hw]; clear hw w1)
            | (go_at_call 88; refine hcut.mono ?_; rintro e w1 ⟨rfl, nq, hw⟩; rw [hw]; clear hw w1)
            | (go_at_call 89; refine (hcls _).mono ?_; rintro e w3 ⟨rfl, hM3, hB3⟩; have hlk : (Instr.lookup 124 (.map (some w.heap.size)) (.string ⟨(t.take k).toArray⟩) true).run Tryz.prog w3 = .ok (.tuple #[.nilFunc, .bool false]) w3 := (by have hq := hM3.look Tryz.underlying124 (zeroFn w3) (Kd.sb (t.take k)) hnm; rw [g1] at hq; exact hq); have HB3 := Lib.hid hB3; clear hM3 hB3)
            | (go_at_call 38; refine (hg _).mono ?_; rintro e w1 ⟨rfl, hw⟩; rw [hw]; clear hw w1))
          refine ⟨rfl, ((Bar.refl rb w).drewN).trans (Bar.of HB3.out), ?_⟩
          rw [HE.out]
          simp only
          rw [HP.out]
          trivial
        · have HP := Lib.hid (And.intro g2 (And.intro g3 g4))
          have HF : Hid (∀ u n, Below (w.drewN n).heap.size (w.drewN n) u → u.cell? ⟨rb, 0, none⟩ = some (.string (bs (91 :: 58 :: t))) ∧ u.frozen? ⟨rb, 0, none⟩ = false ∧ Bar rb w (u.setCell ⟨rb, 0, none⟩ (.string (bs (t.drop (k + 2))))) ∧ Rd (u.setCell ⟨rb, 0, none⟩ (.string (bs (t.drop (k + 2))))) rb (t.drop (k + 2)) ext fold last depth false pv ov made) := fun u n hu => by
            have hR1 : Rd u rb (91 :: 58 :: t) ext fold last depth false pv ov made := Rd.keep (w := w.drewN n) HR.out hu
            exact ⟨h_cell hR1 0 rfl, h_fz hR1 0, (((Bar.refl rb w).drewN).trans (Bar.of hu)).trans (Bar.set _ _ _ _), hR1.left _⟩
          clear g2 g3 g4
          go_enter Tryz.func81, Tryz.ntmps81
          go_wp2_with (first
            | (go_at_call 77; refine hp.mono ?_; rintro e w1 ⟨rfl, hw⟩; rw [hw]; clear hw w1)
            | (go_at_call 88; refine hcut.mono ?_; rintro e w1 ⟨rfl, nq, hw⟩; rw [hw]; clear hw w1)
            | (go_at_call 89; refine (hcls _).mono ?_; rintro e w3 ⟨rfl, hM3, hB3⟩; have hlk : (Instr.lookup 124 (.map (some w.heap.size)) (.string ⟨(t.take k).toArray⟩) true).run Tryz.prog w3 = .ok (.tuple #[.func (.func fn) #[] #[], .bool true]) w3 := (by have hq := hM3.look Tryz.underlying124 (zeroFn w3) (Kd.sb (t.take k)) hnm; rw [g1] at hq; exact hq); obtain ⟨k0, kz0, kb, kr⟩ := HF.out w3 nq hB3; have HZ := Lib.hid (And.intro kb kr); clear hM3 hB3 kb kr))
          go_ret
          refine ⟨HZ.out.1, ?_⟩
          rw [HE.out]
          simp only
          rw [HP.out.1]
          refine ⟨fn, rfl, ⟨fun c W hc => ?_, HP.out.2.2⟩, false, HZ.out.2, fun e => absurd e (by simp)⟩
          have := Kd.kind_at (HP.out.2.1 W) c hc
          show Calls Tryz.prog fn _ W fun e w' => e = .returned (.bool (p (UInt8.ofNat c).toNat)) ∧ w' = W
          rw [show (UInt8.ofNat c).toNat = c by simp; omega]
          exact this
end
end Go.Proofs.YtlekfdkahlobiaaGreat.Re

namespace Go.Proofs.YtlekfdkahlobiaaGreat.Re
open Go.Proofs.YtlekfdkahlobiaaGreat.Tr
open Go.RowKit

def spanG (c : UInt8) (r : List UInt8) : PartR :=
  if (begins [45] r && !begins [45, 93] r) = true then (endG (r.drop 1)).bind fun q => if q.1 < c then none else some ((fun d => decide (c ≤ d ∧ d ≤ q.1)), q.2)
  else some ((fun d => d == c), r)
def partG (l : List UInt8) : PartR :=
  match clsS l with
  | some q => (classP q.1).map fun p => ((fun c => p c.toNat), q.2)
  | none => match endS 61 l with
    | some q => some ((fun d => d == q.1), q.2)
    | none => (endG l).bind fun q => spanG q.1 q.2
def partsG : Nat → Bool → (UInt8 → Bool) → List UInt8 → PartR
  | 0, _, _, _ => none
  | f + 1, first, p, l => if first = false ∧ begins [93] l = true then some (p, l.drop 1) else (partG l).bind fun q => partsG f false (fun d => p d || q.1 d) q.2
theorem partsS_one (f : Nat) (p : UInt8 → Bool) : partsS f false p [45] = none := by
  cases f with
  | zero => rfl
  | succ f =>
    rw [partsS, if_neg (by decide)]
    cases f with
    | zero => cases partS [45] <;> rfl
    | succ f => rfl
theorem spanG_eq {c : UInt8} {r : List UInt8} : spanG c r = spanS c r ∨ (spanG c r = none ∧ ∃ p, spanS c r = some (p, [45])) := by
  unfold spanG spanS
  cases r with
  | nil => left; rfl
  | cons a r =>
    by_cases ha : a = 45
    · subst ha
      cases r with
      | nil => right; exact ⟨rfl, _, rfl⟩
      | cons b r =>
        left
        by_cases hb : b = 93
        · subst hb
          rfl
        · have h1 : (begins [45] (45 :: b :: r) && !begins [45, 93] (45 :: b :: r)) = true := by
            have h2 : begins [45, 93] (45 :: b :: r) = false := by
              rw [Bool.eq_false_iff]
              intro e
              have := (begins_two.1 e).2
              simp at this
              exact hb this
            rw [h2]; rfl
          rw [if_pos h1, if_pos ⟨rfl, by simp, by simpa using hb⟩]
          rfl
    · left
      have h1 : ¬ (begins [45] (a :: r) && !begins [45, 93] (a :: r)) = true := by
        intro e
        rw [Bool.and_eq_true] at e
        have := begins_one.1 e.1
        simp at this
        exact ha this
      rw [if_neg h1, if_neg (by rintro ⟨e, _⟩; simp at e; exact ha e)]
theorem partG_eq {l : List UInt8} (hl : l ≠ []) : partG l = partS l ∨ (partG l = none ∧ ∃ p, partS l = some (p, [45])) := by
  unfold partG partS
  cases clsS l with
  | some q => exact .inl rfl
  | none =>
    cases endS 61 l with
    | some q => exact .inl rfl
    | none =>
      have : endG l = some (fromS l) := if_neg hl
      rw [this]
      exact spanG_eq
theorem partsG_eq : ∀ (f : Nat) (first : Bool) (p : UInt8 → Bool) (l : List UInt8), partsG f first p l = partsS f first p l
  | 0, _, _, _ => rfl
  | f + 1, first, p, [] => by
    rw [partsG, partsS, if_neg (by rintro ⟨_, e⟩; cases e)]
    rfl
  | f + 1, first, p, c :: r => by
    rw [partsG, partsS]
    by_cases h : first = false ∧ c = 93
    · rw [if_pos ⟨h.1, begins_one.2 (by rw [h.2]; rfl)⟩, if_pos h]
      rfl
    · rw [if_neg (fun e => h ⟨e.1, by have := begins_one.1 e.2; simpa using this⟩), if_neg h]
      rcases partG_eq (l := c :: r) (by simp) with e | ⟨e, q, e2⟩
      · rw [e]
        cases partS (c :: r) with
        | none => rfl
        | some q => exact partsG_eq f false _ q.2
      · rw [e, e2]
        show none = partsS f false _ [45]
        rw [partsS_one]
/-- Of what was there nothing has turned but two blocks. -/
structure Bar2 (a b : Nat) (w w' : World) : Prop where
  os : w'.os = w.os
  tape : w'.tape = w.tape
  output : w'.output = w.output
  size : w.heap.size ≤ w'.heap.size
  block : ∀ j, j < w.heap.size → j ≠ a → j ≠ b → w'.heap[j]? = w.heap[j]?
theorem Bar2.refl (a b : Nat) (w : World) : Bar2 a b w w := ⟨rfl, rfl, rfl, Nat.le_refl _, fun _ _ _ _ => rfl⟩
theorem Bar2.trans {a b : Nat} {u v w : World} (h : Bar2 a b u v) (k : Bar2 a b v w) : Bar2 a b u w := ⟨k.os.trans h.os, k.tape.trans h.tape, k.output.trans h.output, Nat.le_trans h.size k.size, fun j hj h1 h2 => (k.block j (Nat.lt_of_lt_of_le hj h.size) h1 h2).trans (h.block j hj h1 h2)⟩
theorem Bar.two {a b : Nat} {w w' : World} (h : Bar a w w') : Bar2 a b w w' := ⟨h.os, h.tape, h.output, h.size, fun j hj h1 _ => h.block j hj h1⟩
theorem Bar2.set {a b : Nat} (i : Nat) (w : World) (v : Value) : Bar2 a b w (w.setCell ⟨b, i, none⟩ v) := ⟨rfl, rfl, rfl, by simp [World.setCell], fun j _ _ hb => Below.heap_setCell _ _ _ _ (fun e => hb (by simpa using e))⟩
theorem Bar2.drew {a b : Nat} {u w : World} (h : Bar2 a b u w) : Bar2 a b u w.drew := ⟨h.os, h.tape, h.output, h.size, h.block⟩
def orP (p q : UInt8 → Bool) : UInt8 → Bool := fun d => p d || q d
/-- What part leaves. -/
def PtO (rb hb : Nat) (p : UInt8 → Bool) (ext fold : Bool) (last depth : Int) (pv ov : Value) (made : Int) (w : World) (o : PartR) (e : Ending) (w' : World) : Prop :=
  Bar2 rb hb w w' ∧ match o with
    | none => e = .panicked gaveUp
    | some q => e = .returned (.tuple #[]) ∧ BlP w' hb (orP p q.1) ∧ ∃ cl, Rd w' rb q.2 ext fold last depth cl pv ov made ∧ (cl = true → ClsN q.2)
end Go.Proofs.YtlekfdkahlobiaaGreat.Re

namespace Go.Proofs.YtlekfdkahlobiaaGreat.Re
open Go.Proofs.YtlekfdkahlobiaaGreat.Tr
open Go.RowKit

/-- The bytes below one are as the class says besides. -/
def orU (p q : UInt8 → Bool) (k : Nat) : UInt8 → Bool := fun d => if d.toNat < k then p d || q d else p d
theorem orU_0 (p q : UInt8 → Bool) : orU p q 0 = p := by funext d; unfold orU; rw [if_neg (by omega)]
theorem orU_end (p q : UInt8 → Bool) : orU p q 256 = orP p q := by funext d; unfold orU orP; rw [if_pos d.toNat_lt]
theorem orU_at {p q : UInt8 → Bool} {k : Nat} (h : k < 256) : orU p q k (UInt8.ofNat k) = p (UInt8.ofNat k) := by unfold orU; rw [if_neg (by rw [hofNat_toNat h]; omega)]
theorem orU_next {p q : UInt8 → Bool} {k : Nat} : hsetP (orU p q k) k (p (UInt8.ofNat k) || q (UInt8.ofNat k)) = orU p q (k + 1) := by
  funext c
  unfold hsetP orU
  by_cases e : c.toNat = k
  · rw [if_pos e, if_pos (by omega), ← hof_toNat e]
  · rw [if_neg e]
    by_cases h2 : c.toNat < k
    · rw [if_pos h2, if_pos (by omega)]
    · rw [if_neg h2, if_neg (by omega)]
theorem fnv_neq (f : Fn) (x y : Array Value) (w : World) : (binOp .neq 109 (.func f x y) .nilFunc).run Tryz.prog w = .ok (.bool true) w := by kernel_rfl
theorem fnil_neq (w : World) : (binOp .neq 109 .nilFunc .nilFunc).run Tryz.prog w = .ok (.bool false) w := by kernel_rfl
section
variable {w : World} {rb hb : Nat} {l : List UInt8} {p : UInt8 → Bool} {ext fold cl : Bool} {last depth made : Int} {pv ov : Value}
theorem bl_bar {w' : World} (h : BlP w hb p) (hR : Rd w rb l ext fold last depth cl pv ov made) (hB : Bar rb w w') : BlP w' hb p := (hB.block hb (h_lt h) (fun e => by
  have h0 : w.heap[hb]? = _ := h
  have h1 : w.heap[rb]? = _ := hR
  rw [e, h1] at h0
  injection h0 with h0
  injection h0 with _ h2 _
  exact absurd h2 (by decide))).trans h
theorem rd_set (h : Rd w rb l ext fold last depth cl pv ov made) (hb' : BlP w hb p) (i : Nat) (v : Value) : Rd (w.setCell ⟨hb, i, none⟩ v) rb l ext fold last depth cl pv ov made := (Below.heap_setCell _ _ _ _ (fun e => by
  simp at e
  have h0 : w.heap[rb]? = _ := h
  have h1 : w.heap[hb]? = _ := hb'
  rw [e, h1] at h0
  injection h0 with h0
  injection h0 with _ h2 _
  exact absurd h2 (by decide))).trans h
set_option maxHeartbeats 4000000 in
set_option maxRecDepth 100000 in
theorem part_cls {m : Int} {q : List UInt8 × List UInt8} (hq : clsS l = some q) (h : Rd w rb l ext fold last depth cl pv ov made) (hcl : cl = true → ClsN l) (hm : w.cell? ⟨0, 0, none⟩ = some (.int .i64 m)) (hl : l.length ≤ 2097152) (hp : BlP w hb p) :
    Calls Tryz.prog 76 #[ptr rb, ptr hb] w (PtO rb hb p ext fold last depth pv ov made w (partG l)) := by
  have hc := class_c h hcl hm hl
  have HG : Hid (partG l = (classP q.1).map fun p => ((fun c => p c.toNat), q.2)) := by
    show _ = _
    unfold partG
    rw [hq]
  unfold ClO at hc
  rw [hq] at hc
  cases hP : classP q.1 with
  | none =>
    simp only [hP] at hc
    rw [hP] at HG
    rw [HG.out]
    clear h hcl hq hP
    go_enter Tryz.func76, Tryz.ntmps76
    go_wp2_with (go_at_call 81; refine hc.mono ?_; rintro e w1 ⟨hB1, rfl⟩)
    exact ⟨rfl, hB1.two, rfl⟩
  | some P =>
    simp only [hP] at hc
    rw [hP] at HG
    rw [HG.out]
    have HH := Lib.hid (And.intro h hp)
    have qn := fnv_neq
    clear h hcl hq hP hp
    go_enter Tryz.func76, Tryz.ntmps76
    go_wp2_with (go_at_call 81; refine hc.mono ?_; rintro e w1 ⟨hB1, fn, rfl, hK, cl1, hR1, hcl1⟩; have HS : Hid (BlP w1 hb p ∧ Bar2 rb hb w w1 ∧ Rd w1 rb q.2 ext fold last depth cl1 pv ov made ∧ (cl1 = true → ClsN q.2)) := ⟨bl_bar HH.out.2 HH.out.1 hB1, hB1.two, hR1, hcl1⟩; have hcf := hK.2; have HKc := Lib.hid hK.1; clear hB1 hR1 hcl1 hK)
    clear hc HH
    go_loopw [15] (fun v15 wr => ∃ k : Nat, k ≤ 256 ∧ v15 = .int .i64 (k : Int) ∧ Hid (BlP wr hb (orU p (fun c => P c.toNat) k) ∧ Bar2 rb hb w wr ∧ Rd wr rb q.2 ext fold last depth cl1 pv ov made)) (fun v15 _ => 256 - (intOf v15).toNat)
    case atStart => exact ⟨0, by omega, rfl, (show _ ∧ _ ∧ _ from ⟨by rw [orU_0]; exact HS.out.1, HS.out.2.1, HS.out.2.2.1⟩)⟩
    case round =>
      obtain ⟨k, hk, rfl, HI⟩ := hrel
      by_cases hlt : k < 256
      · have n1 : (k : Int) < 256 := by omega
        have hw8 : IntKind.u8.wrap (k : Int) = (k : Int) := IntWalk.u8_in _ (by omega)
        have c0 := h_cell HI.out.1 k (bl_at _ k hlt)
        rw [orU_at hlt] at c0
        have z0 := h_fz HI.out.1 k
        have hcall := HKc.out k wr.drew hlt
        have HN : Hid (∀ v : Bool, v = (p (UInt8.ofNat k) || P (UInt8.ofNat k).toNat) → BlP (wr.drew.setCell ⟨hb, k, none⟩ (.bool v)) hb (orU p (fun c => P c.toNat) (k + 1)) ∧ Bar2 rb hb w (wr.drew.setCell ⟨hb, k, none⟩ (.bool v)) ∧ Rd (wr.drew.setCell ⟨hb, k, none⟩ (.bool v)) rb q.2 ext fold last depth cl1 pv ov made) := fun v hv => by
          have hb1 : BlP wr.drew hb (orU p (fun c => P c.toNat) k) := HI.out.1
          refine ⟨?_, HI.out.2.1.drew.trans (Bar2.set _ _ _), rd_set (w := wr.drew) HI.out.2.2 hb1 _ _⟩
          have := bl_set hb1 k v
          rw [hv] at this ⊢
          rw [orU_next (q := fun c => P c.toNat)] at this
          exact this
        clear HI
        generalize hpk : p (UInt8.ofNat k) = pk at c0
        generalize hqk : P (UInt8.ofNat k).toNat = qk at hcall HN
        rw [hpk] at HN
        clear hpk hqk
        cases pk with
        | true =>
          go_upto_region 5 with fail
          go_region
          all_goals
            go_wp2_with fail
            exact ⟨⟨k + 1, by omega, by go_num, HN.out true rfl⟩, by simp [intOf]; omega⟩
        | false =>
          go_upto_region 5 with fail
          go_region_with (refine hcall.mono ?_; rintro e w1 ⟨rfl, hw⟩; rw [hw]; clear hw w1)
          all_goals
            go_wp2_with fail
            exact ⟨⟨k + 1, by omega, by go_num, HN.out qk rfl⟩, by simp [intOf]; omega⟩
      · obtain rfl : k = 256 := by omega
        rw [orU_end] at HI
        go_wp2_with fail
        refine bodyPost_ret (results_none rfl _ _ _) rfl ?_
        exact ⟨HI.out.2.1, rfl, HI.out.1, cl1, HI.out.2.2, HS.out.2.2.2⟩
end
end Go.Proofs.YtlekfdkahlobiaaGreat.Re
