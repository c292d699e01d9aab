/- The program's strings: bytes that stand there often, walked. -/
import Derived.Test.YtfkoehfkiommpaaGreatDoorZSet8a
namespace Go.Proofs.YtfkoehfkiommpaaGreatDoor.Tr
open Go.Proofs.YtfkoehfkiommpaaGreatDoor.Op
open Go.RowKit

section
variable {w w1 w2 : World} {rb : Nat} {l o : List UInt8} {ov : Value} {rest : Int} {cl : Bool}
set_option maxRecDepth 100000 in
set_option maxHeartbeats 4000000 in
theorem repeated_c (h : PAt w rb l o rest cl) (hcl : cl = true → shutS (l.drop 2) = none) (hl : l.length ≤ 2097152) (ho : o.length ≤ 1099511627776) (hr0 : -1 ≤ rest) (hr1 : rest ≤ 1099511627776) :
    Calls Tryz.prog 25 #[ptr rb] w (Took2 w rb l o rest (timesS l)) := by
  have c0 := h.cells.1
  have hrl := h.lt
  have HP := Lib.hid (And.intro h hcl)
  rcases pre1 91 l with ⟨t, rfl⟩ | ⟨hp, hn⟩
  · have hc1 := cutp_yes [91] t w
    rw [show [91] ++ t = 91 :: t from rfl] at hc1
    rcases t with _ | ⟨d, t⟩
    · have HC := rep_no h hcl (times_not (.inl (by simp)))
      have hs := cutSign_nil w
      have hct := cutTimes_c [] w (by simp)
      clear h hcl HP
      generalize Took2 w rb [91] o rest (timesS [91]) = T at HC ⊢
      go_enter Tryz.func25, Tryz.ntmps25
      go_wp2_with (first
        | (go_at_call 43; refine hc1.mono ?_; rintro e w1 ⟨rfl, hw1⟩; rw [hw1]; clear hw1 hc1)
        | (go_at_call 48; refine hs.mono ?_; rintro e w1 ⟨rfl, hw1⟩; rw [hw1]; clear hw1 hs)
        | (go_at_call 49; refine hct.mono ?_; rintro e w1 ⟨hw1, x, y, rfl⟩; rw [hw1]; clear hw1 hct))
      exact HC.out _ (Below.refl _ _)
    · have hs := cutSign_c (d :: t) w (by simp at hl ⊢; omega) (by simp)
      have hE := times_cut (d :: t) (by simp)
      have hul : (d :: t).length ≤ 2097151 := by simp at hl ⊢; omega
      generalize d :: t = u at *
      have hct := fun W => cutTimes_c (u.drop (signS u).2) W (by rw [List.length_drop]; omega)
      cases hq : cutTimesS (u.drop (signS u).2) with
      | none =>
        rw [hq] at hE hct
        have HC := rep_no h hcl hE
        clear h hcl HP hE hq
        generalize Took2 w rb (91 :: u) o rest (timesS (91 :: u)) = T at HC ⊢
        generalize (signS u).1 = c at *
        generalize u.drop (signS u).2 = v at *
        go_enter Tryz.func25, Tryz.ntmps25
        go_wp2_with (first
          | (go_at_call 43; refine hc1.mono ?_; rintro e w1 ⟨rfl, hw1⟩; rw [hw1]; clear hw1 hc1)
          | (go_at_call 48; refine hs.mono ?_; rintro e w1 ⟨rfl, hB1⟩; have HB1 := Lib.hid hB1; clear hB1 hs)
          | (go_at_call 49; refine (hct _).mono ?_; rintro e w2 ⟨hw2, x, y, rfl⟩; rw [hw2]; clear hw2 hct))
        exact HC.out _ HB1.out
      | some p =>
        obtain ⟨d, b⟩ := p
        rw [hq] at hE hct
        have hbh := cut_behind hq
        simp only [Option.map_some] at hE
        have hto := fun W => timesOf_c d W (by have := hbh.2; dsimp only at this; omega)
        have hnn := many_nn d
        have hle := many_le d
        have HE := Lib.hid (And.intro hE hbh.1)
        clear hE hbh hq
        generalize hQ : manyS d = Q at *
        obtain ⟨n, ok⟩ := Q
        dsimp only at hnn hle hto
        have hct2 : ∀ W, Calls Tryz.prog 49 #[.string (sb (u.drop (signS u).2))] W fun e w' => e = .returned (.tuple #[.string (sb d), .string (sb b), .bool true]) ∧ w' = W := fun W => (hct W).mono fun e w' h => ⟨h.2, h.1⟩
        clear hct hQ
        cases ok with
        | false =>
          have HC : Hid (∀ w', Below w.heap.size w w' → Took2 w rb (91 :: u) o rest (timesS (91 :: u)) (.returned (.int .i64 2)) w') := fun w' hB => took_bad HE.out.1 (by simp [timesX]) rfl (hB.mono (Nat.le_of_lt hrl))
          clear h hcl HP HE
          generalize Took2 w rb (91 :: u) o rest (timesS (91 :: u)) = T at HC ⊢
          generalize (signS u).1 = c at *
          generalize u.drop (signS u).2 = v at *
          go_enter Tryz.func25, Tryz.ntmps25
          go_wp2_with (first
            | (go_at_call 43; refine hc1.mono ?_; rintro e w1 ⟨rfl, hw1⟩; rw [hw1]; clear hw1 hc1)
            | (go_at_call 48; refine hs.mono ?_; rintro e w1 ⟨rfl, hB1⟩; have HB1 := Lib.hid hB1; clear hB1 hs)
            | (go_at_call 49; refine (hct2 _).mono ?_; rintro e w2 ⟨rfl, hw2⟩; rw [hw2]; clear hw2 hct2)
            | (go_at_call 50; refine (hto _).mono ?_; rintro e w3 ⟨rfl, hw3⟩; rw [hw3]; clear hw3 hto))
          exact HC.out _ HB1.out
        | true =>
          by_cases hn0 : n = 0
          · subst hn0
            by_cases hr : rest = -1
            · subst hr
              have HC : Hid (∀ w' e, e = .returned (.int .i64 1) → PAt w' rb b (o ++ [(signS u).1]) o.length cl → Below rb w w' → Took2 w rb (91 :: u) o (-1) (timesS (91 :: u)) e w') := fun w' e he hp hB => took_yes HE.out.1 (by simp [timesX]) he HE.out.2.symm (by simp [timesX]) (by simp [timesX]) hp hcl hB
              clear h hcl HE
              generalize Took2 w rb (91 :: u) o (-1) (timesS (91 :: u)) = T at HC ⊢
              generalize (signS u).1 = c at *
              generalize u.drop (signS u).2 = v at *
              go_enter Tryz.func25, Tryz.ntmps25
              go_wp2_with (first
                | (go_at_call 43; refine hc1.mono ?_; rintro e w1 ⟨rfl, hw1⟩; rw [hw1]; clear hw1 hc1)
                | (go_at_call 48; refine hs.mono ?_; rintro e w1 ⟨rfl, hB1⟩; have HB1 := Lib.hid hB1; have hp1 := HP.out.1.turn hB1; obtain ⟨x0, ⟨xa, xc, x1⟩, x2, z2⟩ := hp1.cells; have htk := take1_c b c (hp1.setRest o.length) ho; rw [show (w1.setCell ⟨rb, 2, none⟩ (.int .i64 (o.length : Int))).heap.size = w1.heap.size from (by simp)] at htk; clear hB1 hs hp1)
                | (go_at_call 49; refine (hct2 _).mono ?_; rintro e w2 ⟨rfl, hw2⟩; rw [hw2]; clear hw2 hct2)
                | (go_at_call 50; refine (hto _).mono ?_; rintro e w3 ⟨rfl, hw3⟩; rw [hw3]; clear hw3 hto)
                | (go_at_call 46; refine htk.mono ?_; rintro e w6 ⟨rfl, hp6, hB6⟩))
              exact HC.out _ _ rfl hp6 ((below_set (HB1.out.mono (Nat.le_of_lt hrl)) 2 _).trans hB6)
            · have HC : Hid (∀ w', Below w.heap.size w w' → Took2 w rb (91 :: u) o rest (timesS (91 :: u)) (.returned (.int .i64 2)) w') := fun w' hB => took_bad HE.out.1 (by simp [timesX, show 0 ≤ rest by omega]) rfl (hB.mono (Nat.le_of_lt hrl))
              have r1 : (rest == -1) = false := by rw [beq_eq_false_iff_ne]; exact hr
              clear h hcl HE
              generalize Took2 w rb (91 :: u) o rest (timesS (91 :: u)) = T at HC ⊢
              generalize (signS u).1 = c at *
              generalize u.drop (signS u).2 = v at *
              go_enter Tryz.func25, Tryz.ntmps25
              go_wp2_with (first
                | (go_at_call 43; refine hc1.mono ?_; rintro e w1 ⟨rfl, hw1⟩; rw [hw1]; clear hw1 hc1)
                | (go_at_call 48; refine hs.mono ?_; rintro e w1 ⟨rfl, hB1⟩; have HB1 := Lib.hid hB1; have x2 := (HP.out.1.turn hB1).cells.2.2.1; clear hB1 hs)
                | (go_at_call 49; refine (hct2 _).mono ?_; rintro e w2 ⟨rfl, hw2⟩; rw [hw2]; clear hw2 hct2)
                | (go_at_call 50; refine (hto _).mono ?_; rintro e w3 ⟨rfl, hw3⟩; rw [hw3]; clear hw3 hto))
              exact HC.out _ HB1.out
          · have HC : Hid (∀ w' e, e = .returned (.int .i64 1) → PAt w' rb b (o ++ List.replicate (min n.toNat 65536) (signS u).1) rest cl → Below rb w w' → Took2 w rb (91 :: u) o rest (timesS (91 :: u)) e w') := fun w' e he hp hB => took_yes HE.out.1 (by simp [timesX, hn0]) he HE.out.2.symm (by simp [timesX, hn0]) (by simp [timesX, hn0]) hp hcl hB
            have n1 : 0 < n := by omega
            obtain ⟨q, hq⟩ : ∃ q : Nat, q = min n.toNat 65536 := ⟨_, rfl⟩
            have hqi : min n 65536 = (q : Int) := by omega
            rw [← hq] at HC
            have q1 : 0 < q := by omega
            have q2 : q ≤ 65536 := by omega
            clear h hcl HE hq
            generalize Took2 w rb (91 :: u) o rest (timesS (91 :: u)) = T at HC ⊢
            generalize (signS u).1 = c at *
            generalize u.drop (signS u).2 = v at *
            go_enter Tryz.func25, Tryz.ntmps25
            go_wp2_with (first
              | (go_at_call 43; refine hc1.mono ?_; rintro e w1 ⟨rfl, hw1⟩; rw [hw1]; clear hw1 hc1)
              | (go_at_call 48; refine hs.mono ?_; rintro e w1 ⟨rfl, hB1⟩; have HB1 := Lib.hid hB1; have hrep := rep_c c q w1.heap.size 0 1 (w1.alloc (.cells #[.int .u8 (c.toNat : Int)] 5)) q1 (by omega) (box_new w1 _ _); clear hB1 hs)
              | (go_at_call 49; refine (hct2 _).mono ?_; rintro e w2 ⟨rfl, hw2⟩; rw [hw2]; clear hw2 hct2)
              | (go_at_call 50; refine (hto _).mono ?_; rintro e w3 ⟨rfl, hw3⟩; rw [hw3]; clear hw3 hto)
              | (go_at_call 51; refine hrep.mono ?_; rintro e w5 ⟨rv, rfl, hby5, hB5⟩; have htk := take_c b rv (List.replicate q c) (((HP.out.1.turn HB1.out).al _).turn hB5) hby5 (by intro e; have := congrArg List.length e; simp at this; omega) ho (by simp; omega); obtain ⟨bx, bc, hrv⟩ := hby5.shape; rw [List.length_replicate] at hrv; subst hrv; have HB5 := Lib.hid hB5; clear hB5 hby5 hrep)
              | (go_at_call 46; refine htk.mono ?_; rintro e w6 ⟨rfl, hp6, hB6⟩))
            exact HC.out _ _ rfl hp6 ((((HB1.out.alloc HB1.out.size _).mono (Nat.le_of_lt hrl)).trans (HB5.out.mono (by have := HB1.out.size; simp; omega))).trans hB6)
  · have hc1 := cutp_no [91] l w hp
    have HC := rep_no h hcl (times_not (.inr hn))
    clear h hcl hp hn HP
    generalize Took2 w rb l o rest (timesS l) = T at HC ⊢
    go_enter Tryz.func25, Tryz.ntmps25
    go_wp2_with (go_at_call 43; refine hc1.mono ?_; rintro e w1 ⟨rfl, hw1⟩; rw [hw1]; clear hw1)
    exact HC.out _ (Below.refl _ _)
end
end Go.Proofs.YtfkoehfkiommpaaGreatDoor.Tr

namespace Go.Proofs.YtfkoehfkiommpaaGreatDoor.Tr
open Go.Proofs.YtfkoehfkiommpaaGreatDoor.Op
open Go.RowKit

theorem step_span {s : List UInt8} {p : Nat × (St → St)} (h0 : classS s = none) (h1 : equalS s = none) (h2 : timesS s = none) (h : spanS s = some p) : stepS s = p := by rw [step_plain h0 h1 h2, plain_span, h]
theorem step_single {s : List UInt8} (h0 : classS s = none) (h1 : equalS s = none) (h2 : timesS s = none) (h : spanS s = none) : stepS s = ((signS s).2, addS (signS s).1) := by rw [step_plain h0 h1 h2, plain_span, h]
section
variable {w w1 w2 : World} {rb : Nat} {l o : List UInt8} {ov : Value} {rest : Int} {cl : Bool}
/-- What a piece comes to. -/
def NxtOut (w : World) (rb : Nat) (l o : List UInt8) (rest : Int) (p : Nat × (St → St)) (e : Ending) (w' : World) : Prop :=
  Below rb w w' ∧ if (p.2 ⟨o, rest, false⟩).bad = true then e = .returned (.bool false) else e = .returned (.bool true) ∧ ∃ cl, PAt w' rb (l.drop p.1) (p.2 ⟨o, rest, false⟩).out (p.2 ⟨o, rest, false⟩).rest cl ∧ (cl = true → shutS (l.drop 2) = none)
theorem took_bad2 {p : Nat × (St → St)} {e : Ending} {w' : World} (h : Took2 w rb l o rest (some p) e w') (hb : (p.2 ⟨o, rest, false⟩).bad = true) : e = .returned (.int .i64 2) ∧ Below rb w w' := by
  obtain ⟨h1, h2⟩ := h
  simp only [hb, if_true] at h2
  exact ⟨h2, h1⟩
theorem took_ok2 {p : Nat × (St → St)} {e : Ending} {w' : World} (h : Took2 w rb l o rest (some p) e w') (hb : (p.2 ⟨o, rest, false⟩).bad = false) : e = .returned (.int .i64 1) ∧ Below rb w w' ∧ ∃ cl, PAt w' rb (l.drop p.1) (p.2 ⟨o, rest, false⟩).out (p.2 ⟨o, rest, false⟩).rest cl ∧ (cl = true → shutS (l.drop 2) = none) := by
  obtain ⟨h1, h2⟩ := h
  simp only [hb, Bool.false_eq_true, if_false] at h2
  exact ⟨h2.1, h1, h2.2⟩
/-- The forms' functions. -/
def fnA (rb : Nat) : Array Value := #[.func (.func 23) #[ptr rb] #[], .func (.func 24) #[ptr rb] #[], .func (.func 25) #[ptr rb] #[], .func (.func 26) #[ptr rb] #[], .func (.func 27) #[ptr rb] #[]]
/-- Between two forms: the first k of them did not fit. -/
structure Nx (w : World) (rb fb : Nat) (l o : List UInt8) (rest : Int) (k : Nat) (wr : World) : Prop where
  at_ : ∃ cl, PAt wr rb l o rest cl ∧ (cl = true → shutS (l.drop 2) = none)
  fns : wr.heap[fb]? = some (.cells (fnA rb) 66)
  below : Below rb w wr
  no : (1 ≤ k → classS l = none) ∧ (2 ≤ k → equalS l = none) ∧ (3 ≤ k → timesS l = none) ∧ (4 ≤ k → spanS l = none)
set_option maxRecDepth 100000 in
set_option maxHeartbeats 8000000 in
theorem next_c (m : Int) (hm : w.cell? ⟨0, 0, none⟩ = some (.int .i64 m)) (hg : 0 < rb) (h : PAt w rb l o rest cl) (hcl : cl = true → shutS (l.drop 2) = none) (h0 : l ≠ []) (hl : l.length ≤ 2097152) (ho : o.length ≤ 1099511627776) (hr0 : -1 ≤ rest) (hr1 : rest ≤ 1099511627776) :
    Calls Tryz.prog 14 #[ptr rb] w (NxtOut w rb l o rest (stepS l)) := by
  have hmf : ∀ (fn : Fn) (first cap : Array Value) (w : World), (Instr.makeFunc fn first cap).run Tryz.prog w = .ok (.func fn first cap) w := fun _ _ _ _ => rfl
  have HM : Hid (∀ wr, Below rb w wr → wr.cell? ⟨0, 0, none⟩ = some (.int .i64 m)) := fun wr hB => (hB.cell (p := ⟨0, 0, none⟩) hg).trans hm
  have HBad : Hid (∀ p, stepS l = p → (p.2 ⟨o, rest, false⟩).bad = true → ∀ w', Below rb w w' → NxtOut w rb l o rest (stepS l) (.returned (.bool false)) w') := fun p hp hb w' hB => by
    rw [hp]
    exact ⟨hB, by rw [if_pos hb]⟩
  have HOk : Hid (∀ p, stepS l = p → (p.2 ⟨o, rest, false⟩).bad = false → ∀ w', Below rb w w' → (∃ cl, PAt w' rb (l.drop p.1) (p.2 ⟨o, rest, false⟩).out (p.2 ⟨o, rest, false⟩).rest cl ∧ (cl = true → shutS (l.drop 2) = none)) → NxtOut w rb l o rest (stepS l) (.returned (.bool true)) w') := fun p hp hb w' hB hx => by
    rw [hp]
    exact ⟨hB, by rw [if_neg (by rw [hb]; simp)]; exact ⟨rfl, hx⟩⟩
  have hrl := h.lt
  have HS : Hid (Nx w rb w.heap.size l o rest 0 (w.alloc (.cells (fnA rb) 66))) :=
    ⟨⟨cl, h.al _, hcl⟩, (by show (w.heap.push _)[w.heap.size]? = _; simp), (Below.refl rb w).alloc (Nat.le_of_lt hrl) _, by omega, by omega, by omega, by omega⟩
  have hf0 : ∀ wr k, Nx w rb w.heap.size l o rest k wr → wr.cell? ⟨w.heap.size, 0, none⟩ = some (.func (.func 23) #[ptr rb] #[]) := fun wr k h => h_cell h.fns 0 rfl
  have hf1 : ∀ wr k, Nx w rb w.heap.size l o rest k wr → wr.cell? ⟨w.heap.size, 1, none⟩ = some (.func (.func 24) #[ptr rb] #[]) := fun wr k h => h_cell h.fns 1 rfl
  have hf2 : ∀ wr k, Nx w rb w.heap.size l o rest k wr → wr.cell? ⟨w.heap.size, 2, none⟩ = some (.func (.func 25) #[ptr rb] #[]) := fun wr k h => h_cell h.fns 2 rfl
  have hf3 : ∀ wr k, Nx w rb w.heap.size l o rest k wr → wr.cell? ⟨w.heap.size, 3, none⟩ = some (.func (.func 26) #[ptr rb] #[]) := fun wr k h => h_cell h.fns 3 rfl
  have hf4 : ∀ wr k, Nx w rb w.heap.size l o rest k wr → wr.cell? ⟨w.heap.size, 4, none⟩ = some (.func (.func 27) #[ptr rb] #[]) := fun wr k h => h_cell h.fns 4 rfl
  have HF := Lib.hid (And.intro hf0 (And.intro hf1 (And.intro hf2 (And.intro hf3 hf4))))
  clear hf0 hf1 hf2 hf3 hf4 hm h hcl
  generalize NxtOut w rb l o rest (stepS l) = T at HBad HOk ⊢
  unfold fnA at HS
  go_enter Tryz.func14, Tryz.ntmps14
  go_wp2_with fail
  generalize hW : w.alloc (.cells #[.func (.func 23) #[ptr rb] #[], .func (.func 24) #[ptr rb] #[], .func (.func 25) #[ptr rb] #[], .func (.func 26) #[ptr rb] #[], .func (.func 27) #[ptr rb] #[]] 66) = W at HS ⊢
  clear hW
  go_loopw [18] (fun i wr => ∃ k : Nat, k ≤ 4 ∧ i = .int .i64 k ∧ Hid (Nx w rb w.heap.size l o rest k wr)) (fun i _ => 5 - (intOf i).toNat)
  case atStart => exact ⟨0, by omega, rfl, HS⟩
  case round =>
    obtain ⟨k, hk, rfl, HN⟩ := hrel
    clear HS
    have hBw := HN.out.below
    obtain ⟨cl0, hP0, hcl0⟩ := HN.out.at_
    have hB0 := hBw
    have HB := Lib.hid hBw
    clear hBw
    obtain rfl | rfl | rfl | rfl | rfl : k = 0 ∨ k = 1 ∨ k = 2 ∨ k = 3 ∨ k = 4 := by omega

    · have f0 := HF.out.1 wr 0 HN.out
      have hcf : ∀ (z : Array Value) (u : World), (callFunc 23 z).run Tryz.prog u = .ok (.enter 23 z) u := fun _ _ => by kernel_rfl
      have hF := class_c2 m (HM.out wr hB0) hP0 hcl0 hl ho
      cases hC : classS l with
      | none =>
        rw [hC] at hF
        have HK : Hid (∀ w1, Below rb wr w1 → Keep1 wr rb w1 → (∃ cl, PAt w1 rb l o rest cl ∧ (cl = true → shutS (l.drop 2) = none)) → Nx w rb w.heap.size l o rest 1 w1) := fun w1 hB1 hk1 hx => ⟨hx, (hk1 w.heap.size (h_lt HN.out.fns) (by omega)).trans HN.out.fns, HB.out.trans hB1, (fun _ => hC), (fun h => by omega), (fun h => by omega), (fun h => by omega)⟩
        clear hP0 hcl0 HN hC
        go_wp2_with (refine hF.mono ?_; rintro e w1 ⟨hB1, rfl, hk1, hx1⟩; have HR := Lib.hid (HK.out w1 hB1 hk1 hx1); clear hB1 hk1 hx1 hF)
        exact ⟨⟨1, by omega, rfl, HR⟩, by simp [intOf]⟩
      | some p =>
        rw [hC] at hF
        have HSt := Lib.hid (step_class hC)
        cases hb : (p.2 ⟨o, rest, false⟩).bad with
        | true =>
          have hF2 := hF.mono fun e w' h => took_bad2 h hb
          have HE := Lib.hid (HBad.out p HSt.out hb)
          clear hP0 hcl0 HN hC hF hb HSt
          go_wp2_with (refine hF2.mono ?_; rintro e w1 ⟨rfl, hB1⟩; have HR := Lib.hid hB1; clear hB1 hF2)
          exact HE.out _ (HB.out.trans HR.out)
        | false =>
          have hF2 := hF.mono fun e w' h => took_ok2 h hb
          have HE := Lib.hid (HOk.out p HSt.out hb)
          clear hP0 hcl0 HN hC hF hb HSt
          go_wp2_with (refine hF2.mono ?_; rintro e w1 ⟨rfl, hB1, hx1⟩; have HR := Lib.hid (And.intro hB1 hx1); clear hB1 hx1 hF2)
          exact HE.out _ (HB.out.trans HR.out.1) HR.out.2
    · have f0 := HF.out.2.1 wr 1 HN.out
      have hcf : ∀ (z : Array Value) (u : World), (callFunc 24 z).run Tryz.prog u = .ok (.enter 24 z) u := fun _ _ => by kernel_rfl
      have hF := equal_c hP0 hcl0 hl ho
      have HZ : Hid (classS l = none ∧ True) := ⟨HN.out.no.1 (by omega), trivial⟩
      cases hC : equalS l with
      | none =>
        rw [hC] at hF
        have HK : Hid (∀ w1, Below rb wr w1 → Keep1 wr rb w1 → (∃ cl, PAt w1 rb l o rest cl ∧ (cl = true → shutS (l.drop 2) = none)) → Nx w rb w.heap.size l o rest 2 w1) := fun w1 hB1 hk1 hx => ⟨hx, (hk1 w.heap.size (h_lt HN.out.fns) (by omega)).trans HN.out.fns, HB.out.trans hB1, (fun _ => HN.out.no.1 (by omega)), (fun _ => hC), (fun h => by omega), (fun h => by omega)⟩
        clear hP0 hcl0 HN hC
        go_wp2_with (refine hF.mono ?_; rintro e w1 ⟨hB1, rfl, hk1, hx1⟩; have HR := Lib.hid (HK.out w1 hB1 hk1 hx1); clear hB1 hk1 hx1 hF)
        exact ⟨⟨2, by omega, rfl, HR⟩, by simp [intOf]⟩
      | some p =>
        rw [hC] at hF
        have HSt := Lib.hid (step_equal HZ.out.1 hC)
        cases hb : (p.2 ⟨o, rest, false⟩).bad with
        | true =>
          have hF2 := hF.mono fun e w' h => took_bad2 h hb
          have HE := Lib.hid (HBad.out p HSt.out hb)
          clear hP0 hcl0 HN hC hF hb HSt
          go_wp2_with (refine hF2.mono ?_; rintro e w1 ⟨rfl, hB1⟩; have HR := Lib.hid hB1; clear hB1 hF2)
          exact HE.out _ (HB.out.trans HR.out)
        | false =>
          have hF2 := hF.mono fun e w' h => took_ok2 h hb
          have HE := Lib.hid (HOk.out p HSt.out hb)
          clear hP0 hcl0 HN hC hF hb HSt
          go_wp2_with (refine hF2.mono ?_; rintro e w1 ⟨rfl, hB1, hx1⟩; have HR := Lib.hid (And.intro hB1 hx1); clear hB1 hx1 hF2)
          exact HE.out _ (HB.out.trans HR.out.1) HR.out.2
    · have f0 := HF.out.2.2.1 wr 2 HN.out
      have hcf : ∀ (z : Array Value) (u : World), (callFunc 25 z).run Tryz.prog u = .ok (.enter 25 z) u := fun _ _ => by kernel_rfl
      have hF := repeated_c hP0 hcl0 hl ho hr0 hr1
      have HZ := Lib.hid (And.intro (HN.out.no.1 (by omega)) (HN.out.no.2.1 (by omega)))
      cases hC : timesS l with
      | none =>
        rw [hC] at hF
        have HK : Hid (∀ w1, Below rb wr w1 → Keep1 wr rb w1 → (∃ cl, PAt w1 rb l o rest cl ∧ (cl = true → shutS (l.drop 2) = none)) → Nx w rb w.heap.size l o rest 3 w1) := fun w1 hB1 hk1 hx => ⟨hx, (hk1 w.heap.size (h_lt HN.out.fns) (by omega)).trans HN.out.fns, HB.out.trans hB1, (fun _ => HN.out.no.1 (by omega)), (fun _ => HN.out.no.2.1 (by omega)), (fun _ => hC), (fun h => by omega)⟩
        clear hP0 hcl0 HN hC
        go_wp2_with (refine hF.mono ?_; rintro e w1 ⟨hB1, rfl, hk1, hx1⟩; have HR := Lib.hid (HK.out w1 hB1 hk1 hx1); clear hB1 hk1 hx1 hF)
        exact ⟨⟨3, by omega, rfl, HR⟩, by simp [intOf]⟩
      | some p =>
        rw [hC] at hF
        have HSt := Lib.hid (step_times HZ.out.1 HZ.out.2 hC)
        cases hb : (p.2 ⟨o, rest, false⟩).bad with
        | true =>
          have hF2 := hF.mono fun e w' h => took_bad2 h hb
          have HE := Lib.hid (HBad.out p HSt.out hb)
          clear hP0 hcl0 HN hC hF hb HSt
          go_wp2_with (refine hF2.mono ?_; rintro e w1 ⟨rfl, hB1⟩; have HR := Lib.hid hB1; clear hB1 hF2)
          exact HE.out _ (HB.out.trans HR.out)
        | false =>
          have hF2 := hF.mono fun e w' h => took_ok2 h hb
          have HE := Lib.hid (HOk.out p HSt.out hb)
          clear hP0 hcl0 HN hC hF hb HSt
          go_wp2_with (refine hF2.mono ?_; rintro e w1 ⟨rfl, hB1, hx1⟩; have HR := Lib.hid (And.intro hB1 hx1); clear hB1 hx1 hF2)
          exact HE.out _ (HB.out.trans HR.out.1) HR.out.2
    · have f0 := HF.out.2.2.2.1 wr 3 HN.out
      have hcf : ∀ (z : Array Value) (u : World), (callFunc 26 z).run Tryz.prog u = .ok (.enter 26 z) u := fun _ _ => by kernel_rfl
      have hF := span_c hP0 hcl0 h0 hl ho
      have HZ := Lib.hid (And.intro (HN.out.no.1 (by omega)) (And.intro (HN.out.no.2.1 (by omega)) (HN.out.no.2.2.1 (by omega))))
      cases hC : spanS l with
      | none =>
        rw [hC] at hF
        have HK : Hid (∀ w1, Below rb wr w1 → Keep1 wr rb w1 → (∃ cl, PAt w1 rb l o rest cl ∧ (cl = true → shutS (l.drop 2) = none)) → Nx w rb w.heap.size l o rest 4 w1) := fun w1 hB1 hk1 hx => ⟨hx, (hk1 w.heap.size (h_lt HN.out.fns) (by omega)).trans HN.out.fns, HB.out.trans hB1, (fun _ => HN.out.no.1 (by omega)), (fun _ => HN.out.no.2.1 (by omega)), (fun _ => HN.out.no.2.2.1 (by omega)), (fun _ => hC)⟩
        clear hP0 hcl0 HN hC
        go_wp2_with (refine hF.mono ?_; rintro e w1 ⟨hB1, rfl, hk1, hx1⟩; have HR := Lib.hid (HK.out w1 hB1 hk1 hx1); clear hB1 hk1 hx1 hF)
        exact ⟨⟨4, by omega, rfl, HR⟩, by simp [intOf]⟩
      | some p =>
        rw [hC] at hF
        have HSt := Lib.hid (step_span HZ.out.1 HZ.out.2.1 HZ.out.2.2 hC)
        cases hb : (p.2 ⟨o, rest, false⟩).bad with
        | true =>
          have hF2 := hF.mono fun e w' h => took_bad2 h hb
          have HE := Lib.hid (HBad.out p HSt.out hb)
          clear hP0 hcl0 HN hC hF hb HSt
          go_wp2_with (refine hF2.mono ?_; rintro e w1 ⟨rfl, hB1⟩; have HR := Lib.hid hB1; clear hB1 hF2)
          exact HE.out _ (HB.out.trans HR.out)
        | false =>
          have hF2 := hF.mono fun e w' h => took_ok2 h hb
          have HE := Lib.hid (HOk.out p HSt.out hb)
          clear hP0 hcl0 HN hC hF hb HSt
          go_wp2_with (refine hF2.mono ?_; rintro e w1 ⟨rfl, hB1, hx1⟩; have HR := Lib.hid (And.intro hB1 hx1); clear hB1 hx1 hF2)
          exact HE.out _ (HB.out.trans HR.out.1) HR.out.2
    · have f0 := HF.out.2.2.2.2 wr 4 HN.out
      have hcf : ∀ (z : Array Value) (u : World), (callFunc 27 z).run Tryz.prog u = .ok (.enter 27 z) u := fun _ _ => by kernel_rfl
      have hF := single_c hP0 hcl0 h0 hl ho
      have HSt := Lib.hid (step_single (HN.out.no.1 (by omega)) (HN.out.no.2.1 (by omega)) (HN.out.no.2.2.1 (by omega)) (HN.out.no.2.2.2 (by omega)))
      have hF2 := hF.mono fun e w' h => took_ok2 h rfl
      have HE := Lib.hid (HOk.out _ HSt.out rfl)
      clear hP0 hcl0 HN hF HSt
      go_wp2_with (refine hF2.mono ?_; rintro e w1 ⟨rfl, hB1, hx1⟩; have HR := Lib.hid (And.intro hB1 hx1); clear hB1 hx1 hF2)
      exact HE.out _ (HB.out.trans HR.out.1) HR.out.2
end
end Go.Proofs.YtfkoehfkiommpaaGreatDoor.Tr
