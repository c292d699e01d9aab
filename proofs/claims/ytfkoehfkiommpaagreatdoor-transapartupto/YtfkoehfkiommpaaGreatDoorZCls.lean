/- The program's strings: signs that stand for themselves, and spans. -/
import Derived.Test.YtfkoehfkiommpaaGreatDoorZSet3
import Derived.Test.YtfkoehfkiommpaaGreatDoorMSet
import Derived.Test.YtfkoehfkiommpaaGreatDoorZKindX
namespace Go.Proofs.YtfkoehfkiommpaaGreatDoor.Tr
open Go.Proofs.YtfkoehfkiommpaaGreatDoor.Op
open Go.RowKit

theorem cutp_yes (p t : List UInt8) (w : World) : Calls Tryz.prog 43 #[.string (sb (p ++ t)), .string (sb p)] w fun e w' => e = .returned (.tuple #[.string (sb t), .bool true]) ∧ w' = w := by
  have h := Tryz.strings_CutPrefix (sb (p ++ t)) (sb p) w
  have h1 : Lib.hasPrefix (p ++ t) p = true := by simp [Lib.hasPrefix]
  have h2 : Lib.trimPrefix (p ++ t) p = t := by simp [Lib.trimPrefix, h1]
  rw [sb_data, sb_data, h1, h2] at h
  exact h
theorem cutp_no (p l : List UInt8) (w : World) (hp : p.isPrefixOf l = false) : Calls Tryz.prog 43 #[.string (sb l), .string (sb p)] w fun e w' => e = .returned (.tuple #[.string (sb l), .bool false]) ∧ w' = w := by
  have h := Tryz.strings_CutPrefix (sb l) (sb p) w
  have h1 : Lib.hasPrefix l p = false := hp
  have h2 : Lib.trimPrefix l p = l := by simp [Lib.trimPrefix, h1]
  rw [sb_data, sb_data, h1, h2] at h
  exact h
theorem pre2 (a b : UInt8) (l : List UInt8) : (∃ t, l = a :: b :: t) ∨ (([a, b] : List UInt8).isPrefixOf l = false ∧ (l.length ≤ 1 ∨ l[0]? ≠ some a ∨ l[1]? ≠ some b)) := by
  rcases l with _ | ⟨x, _ | ⟨y, t⟩⟩
  · exact .inr ⟨rfl, .inl (by simp)⟩
  · exact .inr ⟨by simp [List.isPrefixOf], .inl (by simp)⟩
  · by_cases h1 : x = a
    · by_cases h2 : y = b
      · exact .inl ⟨t, by rw [h1, h2]⟩
      · exact .inr ⟨by simp [List.isPrefixOf, Ne.symm h2], .inr (.inr (by simpa using h2))⟩
    · exact .inr ⟨by simp [List.isPrefixOf, Ne.symm h1], .inr (.inl (by simpa using h1))⟩
theorem pre1 (a : UInt8) (l : List UInt8) : (∃ t, l = a :: t) ∨ (([a] : List UInt8).isPrefixOf l = false ∧ l[0]? ≠ some a) := by
  rcases l with _ | ⟨x, t⟩
  · exact .inr ⟨rfl, by simp⟩
  · by_cases h1 : x = a
    · exact .inl ⟨t, by rw [h1]⟩
    · exact .inr ⟨by simp [List.isPrefixOf, Ne.symm h1], by simpa using h1⟩
section
variable {w w1 w2 : World} {rb : Nat} {l o : List UInt8} {ov : Value} {rest : Int} {cl : Bool}
theorem took_no {r : Option (Nat × (St → St))} {w' : World} {e : Ending} (hr : r = none) (he : e = .returned (.int .i64 0)) (hp : PAt w' rb l o rest cl) (hcl : cl = true → shutS (l.drop 2) = none) (hb : Below rb w w') (hk : Keep1 w rb w') : Took2 w rb l o rest r e w' := by
  subst hr
  exact ⟨hb, he, hk, cl, hp, hcl⟩
theorem took_bad {r : Option (Nat × (St → St))} {p : Nat × (St → St)} {w' : World} {e : Ending} (hr : r = some p) (hbad : (p.2 ⟨o, rest, false⟩).bad = true) (he : e = .returned (.int .i64 2)) (hb : Below rb w w') : Took2 w rb l o rest r e w' := by
  subst hr
  exact ⟨hb, by simp only [hbad, if_true]; exact he⟩
theorem took_yes {r : Option (Nat × (St → St))} {p : Nat × (St → St)} {w' : World} {e : Ending} {b o2 : List UInt8} {rest2 : Int} (hr : r = some p) (hbad : (p.2 ⟨o, rest, false⟩).bad = false) (he : e = .returned (.int .i64 1)) (hx : b = l.drop p.1) (h1 : o2 = (p.2 ⟨o, rest, false⟩).out) (h2 : rest2 = (p.2 ⟨o, rest, false⟩).rest) (hp : PAt w' rb b o2 rest2 cl) (hcl : cl = true → shutS (l.drop 2) = none) (hb : Below rb w w') : Took2 w rb l o rest r e w' := by
  subst hr hx h1 h2
  exact ⟨hb, by simp only [hbad, Bool.false_eq_true, if_false]; exact ⟨he, cl, hp, hcl⟩⟩
theorem sb_two (a b : UInt8) (t : List UInt8) : a :: b :: t = [a, b] ++ t := rfl
set_option maxRecDepth 100000 in
set_option maxHeartbeats 2000000 in
theorem equal_c (h : PAt w rb l o rest cl) (hcl : cl = true → shutS (l.drop 2) = none) (hl : l.length ≤ 2097152) (ho : o.length ≤ 1099511627776) :
    Calls Tryz.prog 24 #[ptr rb] w (Took2 w rb l o rest (equalS l)) := by
  have c0 : w.cell? ⟨rb, 0, none⟩ = some (.string (sb l)) := by obtain ⟨ov, h1, _⟩ := h; exact h_cell h1 0 rfl
  have hrl := h.lt
  have HP := Lib.hid (And.intro h hcl)
  rcases pre2 91 61 l with ⟨t, rfl⟩ | ⟨hp, hn⟩
  · have hc1 := cutp_yes [91, 61] t w
    rw [← sb_two] at hc1
    rcases t with _ | ⟨d, t⟩
    · have HC : Hid (∀ (w' : World) (e : Ending), e = .returned (.int .i64 0) → Below w.heap.size w w' → Took2 w rb [91, 61] o rest (equalS [91, 61]) e w') := fun w' e he hb => took_no rfl he (h.turn hb) hcl (hb.mono (Nat.le_of_lt hrl)) (keep1_of hb)
      have hs := cutSign_nil w
      have hc2 := cutp_no [61, 93] [] w rfl
      clear h hcl HP
      generalize Took2 w rb [91, 61] o rest (equalS [91, 61]) = T at HC ⊢
      go_enter Tryz.func24, Tryz.ntmps24
      go_wp2_with (first
        | (go_at_call 43; refine hc1.mono ?_; rintro e w1 ⟨rfl, hw1⟩; rw [hw1]; clear hw1 hc1)
        | (go_at_call 48; refine hs.mono ?_; rintro e w1 ⟨rfl, hw1⟩; rw [hw1]; clear hw1)
        | (go_at_call 43; refine hc2.mono ?_; rintro e w1 ⟨rfl, hw1⟩; rw [hw1]; clear hw1))
      exact HC.out _ _ rfl (Below.refl _ _)
    · have hs := cutSign_c (d :: t) w (by simp at hl ⊢; omega) (by simp)
      have hE := equal_at (s := 91 :: 61 :: d :: t) rfl (by simp)
      generalize d :: t = u at *
      rcases pre2 61 93 (u.drop (signS u).2) with ⟨b, hb⟩ | ⟨hp2, hn2⟩
      · have hc2 := fun W => cutp_yes [61, 93] b W
        rw [← sb_two, ← hb] at hc2
        rw [if_pos (by rw [hb]; simp)] at hE
        have HC : Hid (∀ (w' : World) (e : Ending), e = .returned (.int .i64 1) → PAt w' rb b (o ++ [(signS u).1]) rest cl → Below rb w w' → Took2 w rb (91 :: 61 :: u) o rest (equalS (91 :: 61 :: u)) e w') := fun w' e he hp hb2 => took_yes hE rfl he (by
          have e2 : (91 :: 61 :: u).drop ((signS u).2 + 4) = (u.drop (signS u).2).drop 2 := by rw [show (signS u).2 + 4 = ((signS u).2 + 2) + 2 by omega]; simp only [List.drop_succ_cons, List.drop_drop]
          show b = (91 :: 61 :: u).drop ((signS u).2 + 4)
          rw [e2, hb]
          rfl) rfl rfl hp hcl hb2
        clear h hcl hE hb
        generalize Took2 w rb (91 :: 61 :: u) o rest (equalS (91 :: 61 :: u)) = T at HC ⊢
        generalize (signS u).1 = c at *
        generalize u.drop (signS u).2 = v at *
        go_enter Tryz.func24, Tryz.ntmps24
        go_wp2_with (first
          | (go_at_call 43; refine hc1.mono ?_; rintro e w1 ⟨rfl, hw1⟩; rw [hw1]; clear hw1 hc1)
          | (go_at_call 48; refine hs.mono ?_; rintro e w1 ⟨rfl, hB1⟩; have htk := take1_c b c (HP.out.1.turn hB1) ho; have HB1 := Lib.hid hB1; clear hB1 hs)
          | (go_at_call 43; refine (hc2 _).mono ?_; rintro e w2 ⟨rfl, hw2⟩; rw [hw2]; clear hw2)
          | (go_at_call 46; refine htk.mono ?_; rintro e w3 ⟨rfl, hp3, hB3⟩))
        exact HC.out _ _ rfl hp3 ((HB1.out.mono (Nat.le_of_lt hrl)).trans hB3)
      · have hc2 := fun W => cutp_no [61, 93] (u.drop (signS u).2) W hp2
        rw [if_neg (by
          rintro ⟨h1, h2⟩
          rcases hn2 with h | h | h
          · have := (List.getElem?_eq_some_iff.1 h2).1; omega
          · exact h h1
          · exact h h2)] at hE
        have HC : Hid (∀ (w' : World) (e : Ending), e = .returned (.int .i64 0) → Below w.heap.size w w' → Took2 w rb (91 :: 61 :: u) o rest (equalS (91 :: 61 :: u)) e w') := fun w' e he hb => took_no hE he (h.turn hb) hcl (hb.mono (Nat.le_of_lt hrl)) (keep1_of hb)
        clear h hcl hE hp2 hn2 HP
        generalize Took2 w rb (91 :: 61 :: u) o rest (equalS (91 :: 61 :: u)) = T at HC ⊢
        generalize (signS u).1 = c at *
        generalize u.drop (signS u).2 = v at *
        go_enter Tryz.func24, Tryz.ntmps24
        go_wp2_with (first
          | (go_at_call 43; refine hc1.mono ?_; rintro e w1 ⟨rfl, hw1⟩; rw [hw1]; clear hw1 hc1)
          | (go_at_call 48; refine hs.mono ?_; rintro e w1 ⟨rfl, hB1⟩; have HB1 := Lib.hid hB1; clear hB1 hs)
          | (go_at_call 43; refine (hc2 _).mono ?_; rintro e w2 ⟨rfl, hw2⟩; rw [hw2]; clear hw2))
        exact HC.out _ _ rfl HB1.out
  · have hc1 := cutp_no [91, 61] l w hp
    have HC : Hid (Took2 w rb l o rest (equalS l) (.returned (.int .i64 0)) w) := took_no (equal_not (hn.imp (fun h => by omega) id)) rfl h hcl (Below.refl _ _) (keep1_of (Below.refl _ _))
    clear h hcl hp hn HP
    generalize Took2 w rb l o rest (equalS l) = T at HC ⊢
    go_enter Tryz.func24, Tryz.ntmps24
    go_wp2_with (go_at_call 43; refine hc1.mono ?_; rintro e w1 ⟨rfl, hw1⟩; rw [hw1]; clear hw1 hc1)
    exact HC.out
end
end Go.Proofs.YtfkoehfkiommpaaGreatDoor.Tr

namespace Go.Proofs.YtfkoehfkiommpaaGreatDoor.Tr
open Go.Proofs.YtfkoehfkiommpaaGreatDoor.Op
open Go.RowKit

/-- A span, if it is one. -/
def spanS (l : List UInt8) : Option (Nat × (St → St)) :=
  if (l.drop (signS l).2)[0]? = some 45 ∧ 2 ≤ (l.drop (signS l).2).length then
    some ((signS l).2 + 1 + (signS ((l.drop (signS l).2).drop 1)).2, fun x => { x with out := x.out ++ spanL (signS l).1 (signS ((l.drop (signS l).2).drop 1)).1, bad := x.bad || decide ((signS ((l.drop (signS l).2).drop 1)).1.toNat < (signS l).1.toNat) })
  else none
theorem plain_span (l : List UInt8) : plainS l = match spanS l with | some r => r | none => ((signS l).2, addS (signS l).1) := by
  unfold plainS spanS
  simp only
  split <;> rfl
theorem bytes_span (a b : Nat) : ∀ n : Nat, bytesOf (within a b) n = (List.range (min n (b + 1) - a)).map fun i => UInt8.ofNat (a + i)
  | 0 => by simp [bytesOf]
  | n + 1 => by
    rw [bytesOf_succ, bytes_span a b n]
    unfold within
    by_cases h1 : a ≤ n
    · by_cases h2 : n ≤ b
      · rw [if_pos (by simp [h1, h2]), show min n (b + 1) - a = n - a by omega, show min (n + 1) (b + 1) - a = (n - a) + 1 by omega, List.range_succ, List.map_append, List.map_cons, List.map_nil, show a + (n - a) = n by omega]
      · rw [if_neg (by simp [h2]), show min n (b + 1) - a = min (n + 1) (b + 1) - a by omega, List.append_nil]
    · rw [if_neg (by simp [h1]), show min n (b + 1) - a = 0 by omega, show min (n + 1) (b + 1) - a = 0 by omega]
      rfl
theorem bytes_spanL (c d : UInt8) : bytesOf (within c.toNat d.toNat) 256 = spanL c d := by
  rw [bytes_span]
  unfold spanL
  have := d.toNat_lt
  rw [show min 256 (d.toNat + 1) - c.toNat = d.toNat + 1 - c.toNat by omega]
theorem spanL_ne {c d : UInt8} (h : ¬ d.toNat < c.toNat) : spanL c d ≠ [] := by
  unfold spanL
  intro e
  have := congrArg List.length e
  simp at this
  omega
section
variable {w w1 w2 : World} {rb : Nat} {l o : List UInt8} {ov : Value} {rest : Int} {cl : Bool}
set_option maxRecDepth 100000 in
set_option maxHeartbeats 2000000 in
theorem span1_c (A B : Nat) (a b : Nat) (w : World) (ha : w.cell? ⟨A, 0, none⟩ = some (.int .u8 (a : Int))) (hb : w.cell? ⟨B, 0, none⟩ = some (.int .u8 (b : Int))) : Kind 52 #[ptr A, ptr B] (within a b) w := by
  intro c hc
  have hP : ∃ P, P = within a b c := ⟨_, rfl⟩
  obtain ⟨P, hP⟩ := hP
  rw [← hP]
  have HP : Hid (P = true ↔ a ≤ c ∧ c ≤ b) := by
    show _ ↔ _
    rw [hP]
    simp [within]
  clear hP
  simp only [List.append_toArray, List.cons_append, List.nil_append]
  by_cases h1 : a ≤ c
  · have n1 : (a : Int) ≤ (c : Int) := by omega
    by_cases h2 : c ≤ b
    · have n2 : (c : Int) ≤ (b : Int) := by omega
      go_enter Tryz.func52, Tryz.ntmps52
      go_wp2
      go_ret
      exact ⟨ret_t (HP.out.2 ⟨h1, h2⟩), rfl⟩
    · have n2 : ¬ (c : Int) ≤ (b : Int) := by omega
      have d2 : decide ((c : Int) ≤ (b : Int)) = false := decide_eq_false n2
      go_enter Tryz.func52, Tryz.ntmps52
      go_wp2
      go_ret
      exact ⟨ret_f (fun h => h2 (HP.out.1 h).2), rfl⟩
  · have n1 : ¬ (a : Int) ≤ (c : Int) := by omega
    have d1 : decide ((a : Int) ≤ (c : Int)) = false := decide_eq_false n1
    go_enter Tryz.func52, Tryz.ntmps52
    go_wp2
    go_ret
    exact ⟨ret_f (fun h => h1 (HP.out.1 h).1), rfl⟩
theorem box_new (w : World) (v : Value) (T : Nat) : (w.alloc (.cells #[v] T)).cell? ⟨w.heap.size, 0, none⟩ = some v := by
  have hh : (w.alloc (.cells #[v] T)).heap[w.heap.size]? = some (.cells #[v] T) := by show (w.heap.push _)[w.heap.size]? = _; simp
  exact h_cell hh 0 rfl
set_option maxRecDepth 100000 in
set_option maxHeartbeats 4000000 in
theorem span_c (h : PAt w rb l o rest cl) (hcl : cl = true → shutS (l.drop 2) = none) (h0 : l ≠ []) (hl : l.length ≤ 2097152) (ho : o.length ≤ 1099511627776) :
    Calls Tryz.prog 26 #[ptr rb] w (Took2 w rb l o rest (spanS l)) := by
  have hmf : ∀ (fn : Fn) (first cap : Array Value) (w : World), (Instr.makeFunc fn first cap).run Tryz.prog w = .ok (.func fn first cap) w := fun _ _ _ _ => rfl
  have hs := cutSign_c l w hl h0
  have c0 : w.cell? ⟨rb, 0, none⟩ = some (.string (sb l)) := by obtain ⟨ov, h1, _⟩ := h; exact h_cell h1 0 rfl
  have hrl := h.lt
  have HP := Lib.hid (And.intro h hcl)
  have HN : Hid (spanS l = none → ∀ (w' : World) (e : Ending), e = .returned (.int .i64 0) → Below w.heap.size w w' → Took2 w rb l o rest (spanS l) e w') := fun hr w' e he hb => took_no hr he (h.turn hb) hcl (hb.mono (Nat.le_of_lt hrl)) (keep1_of hb)
  obtain ⟨S, hSe⟩ : ∃ S, spanS l = S := ⟨_, rfl⟩
  have hS := hSe
  unfold spanS at hS
  rcases pre1 45 (l.drop (signS l).2) with ⟨t, ht⟩ | ⟨hp, hn⟩
  · have hc1 := fun W => cutp_yes [45] t W
    rw [show [45] ++ t = 45 :: t from rfl, ← ht] at hc1
    have hlt : t.length + 1 ≤ l.length := by have := congrArg List.length ht; simp at this; omega
    rcases t with _ | ⟨x, t⟩
    · rw [if_neg (by rw [ht]; simp)] at hS
      have hN := Lib.hid (HN.out (hSe.trans hS.symm))
      clear h hcl HP HN hS hSe ht
      have hs2 := fun W => cutSign_nil W
      generalize Took2 w rb l o rest (spanS l) = T at hN ⊢
      generalize (signS l).1 = c at *
      generalize l.drop (signS l).2 = v at *
      go_enter Tryz.func26, Tryz.ntmps26
      go_wp2_with (first
        | (go_at_call 48; refine hs.mono ?_; rintro e w1 ⟨rfl, hB1⟩; have HB1 := Lib.hid hB1; clear hB1 hs)
        | (go_at_call 43; refine (hc1 _).mono ?_; rintro e w2 ⟨rfl, hw2⟩; rw [hw2]; clear hw2 hc1)
        | (go_at_call 48; refine (hs2 _).mono ?_; rintro e w3 ⟨rfl, hw3⟩; rw [hw3]; clear hw3))
      exact hN.out _ _ rfl ((HB1.out.alloc HB1.out.size _).alloc (by have := HB1.out.size; simp; omega) _)
    · rw [if_pos (by rw [ht]; simp), ht] at hS
      simp only [List.drop_succ_cons, List.drop_zero] at hS
      have hs2 := fun W => cutSign_c (x :: t) W (by simp at hlt ⊢; omega) (by simp)
      have hdr : l.drop ((signS l).2 + 1 + (signS (x :: t)).2) = (x :: t).drop (signS (x :: t)).2 := by
        rw [show (signS l).2 + 1 + (signS (x :: t)).2 = (signS l).2 + (1 + (signS (x :: t)).2) by omega, ← List.drop_drop, ht, ← List.drop_drop]
        rfl
      generalize x :: t = u at *
      have HD := Lib.hid hdr
      have HS := Lib.hid (hSe.trans hS.symm)
      clear hdr hS ht hlt hSe
      by_cases hb : (signS u).1.toNat < (signS l).1.toNat
      · have HC : Hid (∀ (w' : World) (e : Ending), e = .returned (.int .i64 2) → Below w.heap.size w w' → Took2 w rb l o rest (spanS l) e w') := fun w' e he hB => took_bad HS.out (by simp [hb]) he (hB.mono (Nat.le_of_lt hrl))
        have n1 : ((signS u).1.toNat : Int) < ((signS l).1.toNat : Int) := by omega
        clear h hcl HP HN HD HS
        generalize Took2 w rb l o rest (spanS l) = T at HC ⊢
        generalize (signS l).1 = c at *
        generalize l.drop (signS l).2 = v at *
        generalize (signS u).1 = d at *
        generalize u.drop (signS u).2 = v2 at *
        go_enter Tryz.func26, Tryz.ntmps26
        go_wp2_with (first
          | (go_at_call 48; refine hs.mono ?_; rintro e w1 ⟨rfl, hB1⟩; have HB1 := Lib.hid hB1; have b1 := box_new w1 (.int .u8 (c.toNat : Int)) 5; have s1 : w1.heap.size < (w1.alloc (.cells #[.int .u8 (c.toNat : Int)] 5)).heap.size := (by simp); clear hB1 hs)
          | (go_at_call 43; refine (hc1 _).mono ?_; rintro e w2 ⟨rfl, hw2⟩; rw [hw2]; clear hw2 hc1)
          | (go_at_call 48; refine (hs2 _).mono ?_; rintro e w3 ⟨rfl, hB3⟩; have HB3 := Lib.hid hB3; have b3 : w3.cell? ⟨w1.heap.size, 0, none⟩ = some (.int .u8 (c.toNat : Int)) := (hB3.cell (p := ⟨w1.heap.size, 0, none⟩) s1).trans b1; have hne : w1.heap.size < w3.heap.size := Nat.lt_of_lt_of_le s1 hB3.size; have b4 : (w3.alloc (.cells #[.int .u8 (d.toNat : Int)] 5)).cell? ⟨w1.heap.size, 0, none⟩ = some (.int .u8 (c.toNat : Int)) := ((((Below.refl _ w3).alloc (Nat.le_refl _) _).cell (p := ⟨w1.heap.size, 0, none⟩) hne).trans b3); have b5 := box_new w3 (.int .u8 (d.toNat : Int)) 5; clear hB3 hs2))
        exact HC.out _ _ rfl (((HB1.out.alloc HB1.out.size _).trans (HB3.out.mono (by have := HB1.out.size; simp; omega))).alloc (by have := HB1.out.size; omega) _)
      · have HC : Hid (∀ (w' : World) (e : Ending), e = .returned (.int .i64 1) → PAt w' rb (u.drop (signS u).2) (o ++ spanL (signS l).1 (signS u).1) rest cl → Below rb w w' → Took2 w rb l o rest (spanS l) e w') := fun w' e he hp hB => took_yes HS.out (by simp; omega) he HD.out.symm rfl rfl hp hcl hB
        have n1 : ¬ ((signS u).1.toNat : Int) < ((signS l).1.toNat : Int) := by omega
        have HE := Lib.hid (And.intro (spanL_ne hb) (And.intro (bytes_spanL (signS l).1 (signS u).1) (span_len (signS l).1 (signS u).1)))
        clear h hcl HN HD HS
        generalize Took2 w rb l o rest (spanS l) = T at HC ⊢
        generalize (signS l).1 = c at *
        generalize l.drop (signS l).2 = v at *
        generalize (signS u).1 = d at *
        generalize u.drop (signS u).2 = v2 at *
        generalize spanL c d = SP at *
        go_enter Tryz.func26, Tryz.ntmps26
        go_wp2_with (first
          | (go_at_call 48; refine hs.mono ?_; rintro e w1 ⟨rfl, hB1⟩; have HB1 := Lib.hid hB1; have b1 := box_new w1 (.int .u8 (c.toNat : Int)) 5; have s1 : w1.heap.size < (w1.alloc (.cells #[.int .u8 (c.toNat : Int)] 5)).heap.size := (by simp); clear hB1 hs)
          | (go_at_call 43; refine (hc1 _).mono ?_; rintro e w2 ⟨rfl, hw2⟩; rw [hw2]; clear hw2 hc1)
          | (go_at_call 48; refine (hs2 _).mono ?_; rintro e w3 ⟨rfl, hB3⟩; have HB3 := Lib.hid hB3; have b3 : w3.cell? ⟨w1.heap.size, 0, none⟩ = some (.int .u8 (c.toNat : Int)) := (hB3.cell (p := ⟨w1.heap.size, 0, none⟩) s1).trans b1; have hne : w1.heap.size < w3.heap.size := Nat.lt_of_lt_of_le s1 hB3.size; have b4 : (w3.alloc (.cells #[.int .u8 (d.toNat : Int)] 5)).cell? ⟨w1.heap.size, 0, none⟩ = some (.int .u8 (c.toNat : Int)) := ((((Below.refl _ w3).alloc (Nat.le_refl _) _).cell (p := ⟨w1.heap.size, 0, none⟩) hne).trans b3); have b5 := box_new w3 (.int .u8 (d.toNat : Int)) 5; have HB4 : Hid (Below w.heap.size w (w3.alloc (.cells #[.int .u8 (d.toNat : Int)] 5))) := Lib.hid (((HB1.out.alloc HB1.out.size _).trans (hB3.mono (by have := HB1.out.size; simp; omega))).alloc (by have := HB1.out.size; omega) _); have hby := bytesOf_c 52 #[ptr w1.heap.size, ptr w3.heap.size] (within c.toNat d.toNat) (w3.alloc (.cells #[.int .u8 (d.toNat : Int)] 5)) (fun _ _ => by kernel_rfl) (fun W hW => span1_c w1.heap.size w3.heap.size c.toNat d.toNat W ((hW.cell (p := ⟨w1.heap.size, 0, none⟩) (by simp; omega)).trans b4) ((hW.cell (p := ⟨w3.heap.size, 0, none⟩) (by simp)).trans b5)); clear hB3 hs2)
          | (go_at_call 47; refine hby.mono ?_; rintro e w5 ⟨bv, rfl, hr5, hB5⟩; rw [HE.out.2.1] at hr5; have htk := take_c v2 bv SP ((HP.out.1.turn HB4.out).turn hB5) (row_by hr5) HE.out.1 ho (by have := HE.out.2.2; omega); obtain ⟨bx, bc, rfl⟩ := own_slice2 hr5; have HB5 := Lib.hid hB5; clear hB5 hr5 hby)
          | (go_at_call 46; refine htk.mono ?_; rintro e w6 ⟨rfl, hp6, hB6⟩))
        exact HC.out _ _ rfl hp6 (((HB4.out.mono (Nat.le_of_lt hrl)).trans (HB5.out.mono (by have := HB4.out.size; omega))).trans hB6)
  · rw [if_neg (fun h => hn h.1)] at hS
    have hN := Lib.hid (HN.out (hSe.trans hS.symm))
    have hc1 := fun W => cutp_no [45] _ W hp
    clear h hcl HP HN hS hSe hp hn
    generalize Took2 w rb l o rest (spanS l) = T at hN ⊢
    generalize (signS l).1 = c at *
    generalize l.drop (signS l).2 = v at *
    go_enter Tryz.func26, Tryz.ntmps26
    go_wp2_with (first
      | (go_at_call 48; refine hs.mono ?_; rintro e w1 ⟨rfl, hB1⟩; have HB1 := Lib.hid hB1; clear hB1 hs)
      | (go_at_call 43; refine (hc1 _).mono ?_; rintro e w2 ⟨rfl, hw2⟩; rw [hw2]; clear hw2 hc1))
    exact hN.out _ _ rfl (HB1.out.alloc HB1.out.size _)
end
end Go.Proofs.YtfkoehfkiommpaaGreatDoor.Tr

namespace Go.Proofs.YtfkoehfkiommpaaGreatDoor.Tr
open Go.Proofs.YtfkoehfkiommpaaGreatDoor.Op
open Go.RowKit

def cls0 : ByteArray → Option Value := fun _ => none
def cls1 : ByteArray → Option Value := fun d => if d = ⟨#[97, 108, 110, 117, 109]⟩ then some (.func (.func 78) #[] #[]) else cls0 d
def cls2 : ByteArray → Option Value := fun d => if d = ⟨#[97, 108, 112, 104, 97]⟩ then some (.func (.func 79) #[] #[]) else cls1 d
def cls3 : ByteArray → Option Value := fun d => if d = ⟨#[98, 108, 97, 110, 107]⟩ then some (.func (.func 80) #[] #[]) else cls2 d
def cls4 : ByteArray → Option Value := fun d => if d = ⟨#[99, 110, 116, 114, 108]⟩ then some (.func (.func 81) #[] #[]) else cls3 d
def cls5 : ByteArray → Option Value := fun d => if d = ⟨#[100, 105, 103, 105, 116]⟩ then some (.func (.func 82) #[] #[]) else cls4 d
def cls6 : ByteArray → Option Value := fun d => if d = ⟨#[103, 114, 97, 112, 104]⟩ then some (.func (.func 83) #[] #[]) else cls5 d
def cls7 : ByteArray → Option Value := fun d => if d = ⟨#[108, 111, 119, 101, 114]⟩ then some (.func (.func 84) #[] #[]) else cls6 d
def cls8 : ByteArray → Option Value := fun d => if d = ⟨#[112, 114, 105, 110, 116]⟩ then some (.func (.func 85) #[] #[]) else cls7 d
def cls9 : ByteArray → Option Value := fun d => if d = ⟨#[112, 117, 110, 99, 116]⟩ then some (.func (.func 86) #[] #[]) else cls8 d
def cls10 : ByteArray → Option Value := fun d => if d = ⟨#[115, 112, 97, 99, 101]⟩ then some (.func (.func 87) #[] #[]) else cls9 d
def cls11 : ByteArray → Option Value := fun d => if d = ⟨#[117, 112, 112, 101, 114]⟩ then some (.func (.func 88) #[] #[]) else cls10 d
def cls12 : ByteArray → Option Value := fun d => if d = ⟨#[120, 100, 105, 103, 105, 116]⟩ then some (.func (.func 89) #[] #[]) else cls11 d
set_option maxRecDepth 100000 in
set_option maxHeartbeats 4000000 in
theorem classes_p (w : World) : Calls Tryz.prog 45 #[] w fun e w' => e = .returned (.map (some w.heap.size)) ∧ MapS w' w.heap.size 12 cls12 ∧ Below w.heap.size w w' := by
  have hT := Tryz.underlying92
  have hmk : (Instr.makeMap 92 none).run Tryz.prog w = .ok (.map (some w.heap.size)) (w.alloc (.map #[] 0)) := run_makeMap ..
  have hm0 : MapS (w.alloc (.map #[] 0)) w.heap.size 0 cls0 := MapS.made w
  have hB0 : Below w.heap.size w (w.alloc (.map #[] 0)) := (Below.refl _ w).alloc (Nat.le_refl _) _
  obtain ⟨w1, hu1, hm1, hg1⟩ := hm0.put hT (by decide) ⟨#[97, 108, 110, 117, 109]⟩ (by decide) (.func (.func 78) #[] #[])
  have hB1 : Below w.heap.size w w1 := hB0.grown hg1 (by have := hB0.size; omega) (fun j ej => by have e : w.heap.size = j := (by simpa using ej); omega)
  obtain ⟨w2, hu2, hm2, hg2⟩ := hm1.put hT (by decide) ⟨#[97, 108, 112, 104, 97]⟩ (by decide) (.func (.func 79) #[] #[])
  have hB2 : Below w.heap.size w w2 := hB1.grown hg2 (by have := hB1.size; omega) (fun j ej => by have e : w.heap.size = j := (by simpa using ej); omega)
  obtain ⟨w3, hu3, hm3, hg3⟩ := hm2.put hT (by decide) ⟨#[98, 108, 97, 110, 107]⟩ (by decide) (.func (.func 80) #[] #[])
  have hB3 : Below w.heap.size w w3 := hB2.grown hg3 (by have := hB2.size; omega) (fun j ej => by have e : w.heap.size = j := (by simpa using ej); omega)
  obtain ⟨w4, hu4, hm4, hg4⟩ := hm3.put hT (by decide) ⟨#[99, 110, 116, 114, 108]⟩ (by decide) (.func (.func 81) #[] #[])
  have hB4 : Below w.heap.size w w4 := hB3.grown hg4 (by have := hB3.size; omega) (fun j ej => by have e : w.heap.size = j := (by simpa using ej); omega)
  obtain ⟨w5, hu5, hm5, hg5⟩ := hm4.put hT (by decide) ⟨#[100, 105, 103, 105, 116]⟩ (by decide) (.func (.func 82) #[] #[])
  have hB5 : Below w.heap.size w w5 := hB4.grown hg5 (by have := hB4.size; omega) (fun j ej => by have e : w.heap.size = j := (by simpa using ej); omega)
  obtain ⟨w6, hu6, hm6, hg6⟩ := hm5.put hT (by decide) ⟨#[103, 114, 97, 112, 104]⟩ (by decide) (.func (.func 83) #[] #[])
  have hB6 : Below w.heap.size w w6 := hB5.grown hg6 (by have := hB5.size; omega) (fun j ej => by have e : w.heap.size = j := (by simpa using ej); omega)
  obtain ⟨w7, hu7, hm7, hg7⟩ := hm6.put hT (by decide) ⟨#[108, 111, 119, 101, 114]⟩ (by decide) (.func (.func 84) #[] #[])
  have hB7 : Below w.heap.size w w7 := hB6.grown hg7 (by have := hB6.size; omega) (fun j ej => by have e : w.heap.size = j := (by simpa using ej); omega)
  obtain ⟨w8, hu8, hm8, hg8⟩ := hm7.put hT (by decide) ⟨#[112, 114, 105, 110, 116]⟩ (by decide) (.func (.func 85) #[] #[])
  have hB8 : Below w.heap.size w w8 := hB7.grown hg8 (by have := hB7.size; omega) (fun j ej => by have e : w.heap.size = j := (by simpa using ej); omega)
  obtain ⟨w9, hu9, hm9, hg9⟩ := hm8.put hT (by decide) ⟨#[112, 117, 110, 99, 116]⟩ (by decide) (.func (.func 86) #[] #[])
  have hB9 : Below w.heap.size w w9 := hB8.grown hg9 (by have := hB8.size; omega) (fun j ej => by have e : w.heap.size = j := (by simpa using ej); omega)
  obtain ⟨w10, hu10, hm10, hg10⟩ := hm9.put hT (by decide) ⟨#[115, 112, 97, 99, 101]⟩ (by decide) (.func (.func 87) #[] #[])
  have hB10 : Below w.heap.size w w10 := hB9.grown hg10 (by have := hB9.size; omega) (fun j ej => by have e : w.heap.size = j := (by simpa using ej); omega)
  obtain ⟨w11, hu11, hm11, hg11⟩ := hm10.put hT (by decide) ⟨#[117, 112, 112, 101, 114]⟩ (by decide) (.func (.func 88) #[] #[])
  have hB11 : Below w.heap.size w w11 := hB10.grown hg11 (by have := hB10.size; omega) (fun j ej => by have e : w.heap.size = j := (by simpa using ej); omega)
  obtain ⟨w12, hu12, hm12, hg12⟩ := hm11.put hT (by decide) ⟨#[120, 100, 105, 103, 105, 116]⟩ (by decide) (.func (.func 89) #[] #[])
  have hB12 : Below w.heap.size w w12 := hB11.grown hg12 (by have := hB11.size; omega) (fun j ej => by have e : w.heap.size = j := (by simpa using ej); omega)
  have HX := Lib.hid (And.intro hm12 hB12)
  clear hm0 hB0 hm1 hB1 hm2 hB2 hm3 hB3 hm4 hB4 hm5 hB5 hm6 hB6 hm7 hB7 hm8 hB8 hm9 hB9 hm10 hB10 hm11 hB11 hm12 hB12 hg1 hg2 hg3 hg4 hg5 hg6 hg7 hg8 hg9 hg10 hg11 hg12
  go_enter Tryz.func45, Tryz.ntmps45
  go_wp2
  go_ret
  exact ⟨rfl, HX.out.1, HX.out.2⟩
/-- What the table says of a name. -/
def ClsOk (name : List UInt8) : Prop := (cls12 (sb name) = none ∧ classP name = none) ∨ ∃ f p, cls12 (sb name) = some (.func (.func f) #[] #[]) ∧ classP name = some p ∧ (∀ W, Kind f #[] p W) ∧ (∀ (z : Array Value) (u : World), (callFunc f z).run Tryz.prog u = .ok (.enter f z) u) ∧ bytesOf p 256 ≠ []
theorem sb_ne {a b : List UInt8} (h : a ≠ b) : ¬ sb a = sb b := fun e => h (by have := congrArg (fun s : ByteArray => s.data.toList) e; simpa using this)
set_option maxRecDepth 100000 in
set_option maxHeartbeats 4000000 in
theorem cls_ok (name : List UInt8) : ClsOk name := by
  by_cases h0 : name = [97, 108, 110, 117, 109]
  · subst h0
    exact .inr ⟨78, (fun c => upperB c || lowerB c || digitB c), rfl, rfl, fun W => isAlnum_c W, fun _ _ => by kernel_rfl, by decide +kernel⟩
  by_cases h1 : name = [97, 108, 112, 104, 97]
  · subst h1
    exact .inr ⟨79, (fun c => upperB c || lowerB c), rfl, rfl, fun W => isAlpha_c W, fun _ _ => by kernel_rfl, by decide +kernel⟩
  by_cases h2 : name = [98, 108, 97, 110, 107]
  · subst h2
    exact .inr ⟨80, (fun c => c == 9 || c == 32), rfl, rfl, fun W => blank_c W, fun _ _ => by kernel_rfl, by decide +kernel⟩
  by_cases h3 : name = [99, 110, 116, 114, 108]
  · subst h3
    exact .inr ⟨81, (fun c => decide (c < 32) || c == 127), rfl, rfl, fun W => cntrl_c W, fun _ _ => by kernel_rfl, by decide +kernel⟩
  by_cases h4 : name = [100, 105, 103, 105, 116]
  · subst h4
    exact .inr ⟨82, (digitB), rfl, rfl, fun W => isDigit_c W, fun _ _ => by kernel_rfl, by decide +kernel⟩
  by_cases h5 : name = [103, 114, 97, 112, 104]
  · subst h5
    exact .inr ⟨83, (fun c => within 33 126 c), rfl, rfl, fun W => isGraph_c W, fun _ _ => by kernel_rfl, by decide +kernel⟩
  by_cases h6 : name = [108, 111, 119, 101, 114]
  · subst h6
    exact .inr ⟨84, (lowerB), rfl, rfl, fun W => isLower_c W, fun _ _ => by kernel_rfl, by decide +kernel⟩
  by_cases h7 : name = [112, 114, 105, 110, 116]
  · subst h7
    exact .inr ⟨85, (fun c => within 32 126 c), rfl, rfl, fun W => print_c W, fun _ _ => by kernel_rfl, by decide +kernel⟩
  by_cases h8 : name = [112, 117, 110, 99, 116]
  · subst h8
    exact .inr ⟨86, (fun c => within 33 126 c && !upperB c && !lowerB c && !digitB c), rfl, rfl, fun W => punct_c W, fun _ _ => by kernel_rfl, by decide +kernel⟩
  by_cases h9 : name = [115, 112, 97, 99, 101]
  · subst h9
    exact .inr ⟨87, (fun c => within 9 13 c || c == 32), rfl, rfl, fun W => space_c W, fun _ _ => by kernel_rfl, by decide +kernel⟩
  by_cases h10 : name = [117, 112, 112, 101, 114]
  · subst h10
    exact .inr ⟨88, (upperB), rfl, rfl, fun W => isUpper_c W, fun _ _ => by kernel_rfl, by decide +kernel⟩
  by_cases h11 : name = [120, 100, 105, 103, 105, 116]
  · subst h11
    exact .inr ⟨89, (fun c => digitB c || within 65 70 c || within 97 102 c), rfl, rfl, fun W => xdigit_c W, fun _ _ => by kernel_rfl, by decide +kernel⟩
  have hn : name ∉ classN := by simp [classN, h0, h1, h2, h3, h4, h5, h6, h7, h8, h9, h10, h11]
  refine .inl ⟨?_, ?_⟩
  · simp only [cls12, cls11, cls10, cls9, cls8, cls7, cls6, cls5, cls4, cls3, cls2, cls1, cls0, if_neg (sb_ne h0), if_neg (sb_ne h1), if_neg (sb_ne h2), if_neg (sb_ne h3), if_neg (sb_ne h4), if_neg (sb_ne h5), if_neg (sb_ne h6), if_neg (sb_ne h7), if_neg (sb_ne h8), if_neg (sb_ne h9), if_neg (sb_ne h10), if_neg (sb_ne h11)]
  · have := classN_none hn
    simpa using this
end Go.Proofs.YtfkoehfkiommpaaGreatDoor.Tr
