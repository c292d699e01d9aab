/- The program's strings: classes. -/
import Derived.Test.YtfkoehfkiommpaaGreatDoorZCls
import Derived.Lib.SlBuf
import Derived.Lib.MakeNoZero
import Derived.Laws.Externs
import Derived.Deep.Draws
import Derived.Deep.LoopGhost
import Derived.Laws.CopyOwn
namespace Go.Proofs.YtfkoehfkiommpaaGreatDoor.Tr
open Go.Proofs.YtfkoehfkiommpaaGreatDoor.Op
open Go.RowKit

section
variable {w w1 w2 : World} {rb : Nat} {l o : List UInt8} {ov : Value} {rest : Int} {cl : Bool}
theorem zeroFn (w : World) : (zeroValue 90).run Tryz.prog w = .ok .nilFunc w := by kernel_rfl
theorem cutm_c (t : List UInt8) (m : Int) (w : World) (hl : t.length ≤ 2097152) (hm : w.cell? ⟨0, 0, none⟩ = some (.int .i64 m)) :
    Calls Tryz.prog 44 #[.string (sb t), .string ⟨#[58, 93]⟩] w fun e w' => e = .returned (match shutS t with | some k => .tuple #[.string (sb (t.take k)), .string (sb (t.drop (k + 2))), .bool true] | none => .tuple #[.string (sb t), .string (sb []), .bool false]) ∧ Below w.heap.size w w' := by
  have h := Tryz.strings_Cut (sb t) ⟨#[58, 93]⟩ m w (by rw [sb_size]; omega) hm
  rw [sb_data, show (⟨#[58, 93]⟩ : ByteArray).data.toList = [58, 93] from rfl, cut_shut] at h
  refine h.mono ?_
  rintro e w' ⟨rfl, n, rfl⟩
  refine ⟨?_, below_drewN⟩
  cases shutS t <;> rfl
theorem PAt.shut (h : PAt w rb l o rest cl) : PAt (w.setCell ⟨rb, 3, none⟩ (.bool true)) rb l o rest true := by
  obtain ⟨ov, h1, h2⟩ := h
  exact ⟨ov, by simpa using h_set h1 3 (.bool true), row_set h2 3 _⟩
set_option maxRecDepth 100000 in
set_option maxHeartbeats 4000000 in
theorem class_c2 (m : Int) (hm : w.cell? ⟨0, 0, none⟩ = some (.int .i64 m)) (h : PAt w rb l o rest cl) (hcl : cl = true → shutS (l.drop 2) = none) (hl : l.length ≤ 2097152) (ho : o.length ≤ 1099511627776) :
    Calls Tryz.prog 23 #[ptr rb] w (Took2 w rb l o rest (classS l)) := by
  have hcs : w.cell? ⟨rb, 0, none⟩ = some (.string (sb l)) ∧ w.cell? ⟨rb, 3, none⟩ = some (.bool cl) ∧ w.frozen? ⟨rb, 3, none⟩ = false := by obtain ⟨ov, h1, _⟩ := h; exact ⟨h_cell h1 0 rfl, h_cell h1 3 rfl, h_fz h1 3⟩
  obtain ⟨c0, c3, z3⟩ := hcs
  have hrl := h.lt
  have HP := Lib.hid (And.intro h hcl)
  rcases pre2 91 58 l with ⟨t, rfl⟩ | ⟨hp, hn⟩
  · have hc1 := cutp_yes [91, 58] t w
    rw [← sb_two] at hc1
    have hC := class_is (s := 91 :: 58 :: t) rfl
    cases cl with
    | true =>
      have hsh : shutS t = none := hcl rfl
      rw [hsh] at hC
      have HC : Hid (Took2 w rb (91 :: 58 :: t) o rest (classS (91 :: 58 :: t)) (.returned (.int .i64 0)) w) := took_no hC rfl h hcl (Below.refl _ _) (keep1_of (Below.refl _ _))
      clear h hcl HP hC hsh
      generalize Took2 w rb (91 :: 58 :: t) o rest (classS (91 :: 58 :: t)) = T at HC ⊢
      go_enter Tryz.func23, Tryz.ntmps23
      go_wp2_with (go_at_call 43; refine hc1.mono ?_; rintro e w1 ⟨rfl, hw1⟩; rw [hw1]; clear hw1 hc1)
      exact HC.out
    | false =>
      have hct := cutm_c t m w (by simp at hl; omega) hm
      cases hsh : shutS t with
      | none =>
        rw [hsh] at hC hct
        have HC : Hid (∀ w', Below w.heap.size w w' → Took2 w rb (91 :: 58 :: t) o rest (classS (91 :: 58 :: t)) (.returned (.int .i64 0)) (w'.setCell ⟨rb, 3, none⟩ (.bool true))) := fun w' hB => took_no hC rfl (h.turn hB).shut (fun _ => hsh) (below_set (hB.mono (Nat.le_of_lt hrl)) 3 _) (keep1_set hB)
        clear h hcl HP hC hsh
        generalize Took2 w rb (91 :: 58 :: t) o rest (classS (91 :: 58 :: t)) = T at HC ⊢
        go_enter Tryz.func23, Tryz.ntmps23
        go_wp2_with (first
          | (go_at_call 43; refine hc1.mono ?_; rintro e w1 ⟨rfl, hw1⟩; rw [hw1]; clear hw1 hc1)
          | (go_at_call 44; refine hct.mono ?_; rintro e w2 ⟨rfl, hB2⟩; have d3 : w2.cell? ⟨rb, 3, none⟩ = some (.bool false) := (hB2.cell (p := ⟨rb, 3, none⟩) hrl).trans c3; have y3 : w2.frozen? ⟨rb, 3, none⟩ = false := (by rw [World.frozen?, hB2.block rb hrl]; exact z3); have HB2 := Lib.hid hB2; clear hB2 hct))
        exact HC.out _ HB2.out
      | some k =>
        rw [hsh] at hC hct
        simp only [Option.map_some] at hC
        dsimp only at hct
        rcases cls_ok (t.take k) with ⟨g1, g2⟩ | ⟨f, p, g1, g2, g3, g4, g5⟩
        · have HC : Hid (∀ w', Below w.heap.size w w' → Took2 w rb (91 :: 58 :: t) o rest (classS (91 :: 58 :: t)) (.returned (.int .i64 2)) w') := fun w' hB => took_bad hC (by simp [g2]) rfl (hB.mono (Nat.le_of_lt hrl))
          have hlen : (sb (t.take k)).size ≤ maxLen := by rw [sb_size, List.length_take]; unfold maxLen; simp at hl; omega
          clear h hcl HP hC hsh g2
          generalize Took2 w rb (91 :: 58 :: t) o rest (classS (91 :: 58 :: t)) = T at HC ⊢
          generalize sb (t.take k) = nm at *
          go_enter Tryz.func23, Tryz.ntmps23
          go_wp2_with (first
            | (go_at_call 43; refine hc1.mono ?_; rintro e w1 ⟨rfl, hw1⟩; rw [hw1]; clear hw1 hc1)
            | (go_at_call 44; refine hct.mono ?_; rintro e w2 ⟨rfl, hB2⟩; have hcl2 := classes_p w2; have HB2 := Lib.hid hB2; clear hB2 hct)
            | (go_at_call 45; refine hcl2.mono ?_; rintro e w3 ⟨rfl, hM3, hB3⟩; have hlk : (Instr.lookup 92 (.map (some w2.heap.size)) (.string nm) true).run Tryz.prog w3 = .ok (.tuple #[.nilFunc, .bool false]) w3 := (by have hq := hM3.look Tryz.underlying92 (zeroFn w3) nm hlen; rw [g1] at hq; exact hq); have HB3 := Lib.hid hB3; clear hB3 hM3 hcl2))
          exact HC.out _ (HB2.out.trans (HB3.out.mono HB2.out.size))
        · have HC : Hid (∀ w' e, e = .returned (.int .i64 1) → PAt w' rb (t.drop (k + 2)) (o ++ bytesOf p 256) rest false → Below rb w w' → Took2 w rb (91 :: 58 :: t) o rest (classS (91 :: 58 :: t)) e w') := fun w' e he hp hB => took_yes hC (by simp [g2]) he (by
            show _ = (91 :: 58 :: t).drop (k + 4)
            rw [show k + 4 = (k + 2) + 2 by omega]
            rfl) (by simp [classL, g2]) rfl hp (by simp) hB
          have hlen : (sb (t.take k)).size ≤ maxLen := by rw [sb_size, List.length_take]; unfold maxLen; simp at hl; omega
          have HE := Lib.hid (And.intro g5 (bytesOf_len p 256))
          have G3 := Lib.hid g3
          clear h hcl hC hsh g2 g3 g5
          generalize Took2 w rb (91 :: 58 :: t) o rest (classS (91 :: 58 :: t)) = T at HC ⊢
          generalize sb (t.take k) = nm at *
          generalize t.drop (k + 2) = bh at *
          go_enter Tryz.func23, Tryz.ntmps23
          go_wp2_with (first
            | (go_at_call 43; refine hc1.mono ?_; rintro e w1 ⟨rfl, hw1⟩; rw [hw1]; clear hw1 hc1)
            | (go_at_call 44; refine hct.mono ?_; rintro e w2 ⟨rfl, hB2⟩; have hcl2 := classes_p w2; have HB2 := Lib.hid hB2; clear hB2 hct)
            | (go_at_call 45; refine hcl2.mono ?_; rintro e w3 ⟨rfl, hM3, hB3⟩; have hlk : (Instr.lookup 92 (.map (some w2.heap.size)) (.string nm) true).run Tryz.prog w3 = .ok (.tuple #[.func (.func f) #[] #[], .bool true]) w3 := (by have hq := hM3.look Tryz.underlying92 (zeroFn w3) nm hlen; rw [g1] at hq; exact hq); have HB3 : Hid (Below w.heap.size w w3) := Lib.hid (HB2.out.trans (hB3.mono HB2.out.size)); have hby := bytesOf_c f #[] p w3 g4 (fun W _ => G3.out W); clear hB3 hM3 hcl2)
            | (go_at_call 47; refine hby.mono ?_; rintro e w5 ⟨bv, rfl, hr5, hB5⟩; have htk := take_c bh bv (bytesOf p 256) ((HP.out.1.turn HB3.out).turn hB5) (row_by hr5) HE.out.1 ho (by have := HE.out.2; omega); obtain ⟨bx, bc, rfl⟩ := own_slice2 hr5; have HB5 := Lib.hid hB5; clear hB5 hr5 hby)
            | (go_at_call 46; refine htk.mono ?_; rintro e w6 ⟨rfl, hp6, hB6⟩))
          exact HC.out _ _ rfl hp6 (((HB3.out.mono (Nat.le_of_lt hrl)).trans (HB5.out.mono (by have := HB3.out.size; omega))).trans hB6)
  · have hc1 := cutp_no [91, 58] l w hp
    have HC : Hid (Took2 w rb l o rest (classS l) (.returned (.int .i64 0)) w) := took_no (class_not hn) rfl h hcl (Below.refl _ _) (keep1_of (Below.refl _ _))
    clear h hcl hp hn HP
    generalize Took2 w rb l o rest (classS l) = T at HC ⊢
    go_enter Tryz.func23, Tryz.ntmps23
    go_wp2_with (go_at_call 43; refine hc1.mono ?_; rintro e w1 ⟨rfl, hw1⟩; rw [hw1]; clear hw1)
    exact HC.out
end
end Go.Proofs.YtfkoehfkiommpaaGreatDoor.Tr

namespace Go.Proofs.YtfkoehfkiommpaaGreatDoor.Tr
open Go.Proofs.YtfkoehfkiommpaaGreatDoor.Op
open Go.RowKit

theorem run_dec (l : List UInt8) : run digitB l = (l.takeWhile isDec).length := rfl
/-- A star, digits, a bracket: the digits, and what stands behind. -/
def cutTimesS (l : List UInt8) : Option (List UInt8 × List UInt8) :=
  match l with
  | c :: u => if c = 42 ∧ (u.drop (u.takeWhile isDec).length)[0]? = some 93 then some (u.takeWhile isDec, u.drop ((u.takeWhile isDec).length + 1)) else none
  | [] => none
theorem cutTimesS_not {l : List UInt8} (h : l[0]? ≠ some 42) : cutTimesS l = none := by
  cases l with
  | nil => rfl
  | cons c u => rw [cutTimesS, if_neg (fun e => h (by simp [e.1]))]
/-- What cutTimes answers. -/
def CtOut (w : World) (r : Option (List UInt8 × List UInt8)) (e : Ending) (w' : World) : Prop := w' = w ∧ match r with
  | some p => e = .returned (.tuple #[.string (sb p.1), .string (sb p.2), .bool true])
  | none => ∃ x y, e = .returned (.tuple #[.string x, .string y, .bool false])
set_option maxRecDepth 100000 in
set_option maxHeartbeats 2000000 in
theorem cutTimes_c (l : List UInt8) (w : World) (hl : l.length ≤ 2097152) : Calls Tryz.prog 49 #[.string (sb l)] w (CtOut w (cutTimesS l)) := by
  rcases pre1 42 l with ⟨u, rfl⟩ | ⟨hp, hn⟩
  · have hc1 := cutp_yes [42] u w
    rw [show [42] ++ u = 42 :: u from rfl] at hc1
    have hcnt := countOf_c 82 digitB u w (by simp at hl; omega) (fun _ _ => by kernel_rfl) (isDigit_c w)
    have hS : cutTimesS (42 :: u) = if (u.drop (u.takeWhile isDec).length)[0]? = some 93 then some (u.takeWhile isDec, u.drop ((u.takeWhile isDec).length + 1)) else none := by simp [cutTimesS]
    rw [run_dec] at hcnt
    obtain ⟨s1, hs1⟩ : ∃ s, s = sb u := ⟨_, rfl⟩
    have HS1 : Hid (Str s1 u) := by rw [hs1]; exact str_sb _
    rw [← hs1] at hc1 hcnt
    have hn1 : (u.takeWhile isDec).length ≤ s1.size := by rw [HS1.out.size]; exact (List.takeWhile_sublist _).length_le
    have hz1 : s1.size ≤ 2097152 := by rw [HS1.out.size]; simp at hl; omega
    have hx : s1.extract (u.takeWhile isDec).length s1.size = sb (u.drop (u.takeWhile isDec).length) := HS1.out.from_ _
    have HY : Hid (s1.extract 0 (u.takeWhile isDec).length = sb (u.takeWhile isDec)) := by
      show _ = _
      rw [HS1.out.sub, List.drop_zero, Nat.sub_zero, take_takeWhile]
    clear hs1
    rcases pre1 93 (u.drop (u.takeWhile isDec).length) with ⟨b, hb⟩ | ⟨hp2, hn2⟩
    · rw [if_pos (by rw [hb]; rfl)] at hS
      have hbb : u.drop ((u.takeWhile isDec).length + 1) = b := by rw [← List.drop_drop, hb]; rfl
      rw [hbb] at hS
      have hc2 := cutp_yes [93] b w
      rw [show [93] ++ b = 93 :: b from rfl, ← hb, ← hx] at hc2
      have HC : Hid (∀ e, e = .returned (.tuple #[.string (s1.extract 0 (u.takeWhile isDec).length), .string (sb b), .bool true]) → CtOut w (cutTimesS (42 :: u)) e w) := fun e he => ⟨rfl, by rw [hS]; exact he.trans (by rw [HY.out])⟩
      clear hS hx hb hbb
      generalize CtOut w (cutTimesS (42 :: u)) = T at HC ⊢
      generalize (u.takeWhile isDec).length = n at *
      go_enter Tryz.func49, Tryz.ntmps49
      go_wp2_with (first
        | (go_at_call 43; refine hc1.mono ?_; rintro e w1 ⟨rfl, hw1⟩; rw [hw1]; clear hw1 hc1)
        | (go_at_call 90; refine hcnt.mono ?_; rintro e w1 ⟨rfl, hw1⟩; rw [hw1]; clear hw1 hcnt)
        | (go_at_call 43; refine hc2.mono ?_; rintro e w1 ⟨rfl, hw1⟩; rw [hw1]; clear hw1 hc2))
      go_ret3
      exact HC.out _ rfl
    · rw [if_neg hn2] at hS
      have hc2 := cutp_no [93] _ w hp2
      rw [← hx] at hc2
      have HC : Hid (∀ e x y, e = .returned (.tuple #[.string x, .string y, .bool false]) → CtOut w (cutTimesS (42 :: u)) e w) := fun e x y he => ⟨rfl, by rw [hS]; exact ⟨x, y, he⟩⟩
      clear hS hx hp2 hn2
      generalize CtOut w (cutTimesS (42 :: u)) = T at HC ⊢
      generalize (u.takeWhile isDec).length = n at *
      go_enter Tryz.func49, Tryz.ntmps49
      go_wp2_with (first
        | (go_at_call 43; refine hc1.mono ?_; rintro e w1 ⟨rfl, hw1⟩; rw [hw1]; clear hw1 hc1)
        | (go_at_call 90; refine hcnt.mono ?_; rintro e w1 ⟨rfl, hw1⟩; rw [hw1]; clear hw1 hcnt)
        | (go_at_call 43; refine hc2.mono ?_; rintro e w1 ⟨rfl, hw1⟩; rw [hw1]; clear hw1 hc2))
      go_ret3
      exact HC.out _ _ _ rfl
  · have hc1 := cutp_no [42] l w hp
    have HC : Hid (∀ e x y, e = .returned (.tuple #[.string x, .string y, .bool false]) → CtOut w (cutTimesS l) e w) := fun e x y he => ⟨rfl, by rw [cutTimesS_not hn]; exact ⟨x, y, he⟩⟩
    generalize CtOut w (cutTimesS l) = T at HC ⊢
    go_enter Tryz.func49, Tryz.ntmps49
    go_wp2_with (go_at_call 43; refine hc1.mono ?_; rintro e w1 ⟨rfl, hw1⟩; rw [hw1]; clear hw1 hc1)
    go_ret3
    exact HC.out _ _ _ rfl
set_option maxRecDepth 100000 in
set_option maxHeartbeats 2000000 in
theorem timesOf_c (d : List UInt8) (w : World) (hl : d.length ≤ 2097152) : Calls Tryz.prog 50 #[.string (sb d)] w fun e w' => e = .returned (.tuple #[.int .i64 (manyS d).1, .bool (manyS d).2]) ∧ w' = w := by
  obtain ⟨s, hs⟩ : ∃ s, s = sb d := ⟨_, rfl⟩
  have hdd : d = s.data.toList := by rw [hs, sb_data]
  have hsz : s.size ≤ 2097152 := by rw [hs, sb_size]; exact hl
  rw [← hs, hdd]
  clear hs hdd hl
  by_cases h0 : s.size = 0
  · rw [many_nil h0]
    have hem := isEmpty_true s h0
    clear h0
    go_enter Tryz.func50, Tryz.ntmps50
    go_wp2
    go_ret2
    exact ⟨rfl, rfl⟩
  · have hp : 0 < s.size := by omega
    have hem := isEmpty_false s h0
    clear h0
    by_cases h1 : s[0] = 48
    · rw [many_oct hp h1]
      have hoc := octal_any s 2147483647 w (by unfold maxLen; omega) (by omega) (by omega)
      generalize rdAll 8 2147483647 s.data.toList = R at *
      have e0 : ((s[0].toNat : Int) == 48) = true := u8_yes 48 (by omega) h1
      have n0 : (s[0].toNat : Int) = 48 := by simpa using e0
      clear h1
      go_enter Tryz.func50, Tryz.ntmps50
      go_wp2_with (go_at_call 92; refine hoc.mono ?_; rintro e w1 ⟨rfl, hw1⟩; rw [hw1]; clear hw1)
      go_ret2
      exact ⟨rfl, rfl⟩
    · rw [many_dec hp h1]
      have hoc := number_any s 2147483647 w (by unfold maxLen; omega) (by omega) (by omega)
      generalize rdAll 10 2147483647 s.data.toList = R at *
      have e0 : ((s[0].toNat : Int) == 48) = false := u8_no 48 (by omega) h1
      have n0 : ¬ (s[0].toNat : Int) = 48 := by simpa using e0
      clear h1
      go_enter Tryz.func50, Tryz.ntmps50
      go_wp2_with (go_at_call 94; refine hoc.mono ?_; rintro e w1 ⟨rfl, hw1⟩; rw [hw1]; clear hw1)
      go_ret2
      exact ⟨rfl, rfl⟩
end Go.Proofs.YtfkoehfkiommpaaGreatDoor.Tr

namespace Go.Proofs.YtfkoehfkiommpaaGreatDoor.Tr
open Go.Proofs.YtfkoehfkiommpaaGreatDoor.Op
open Go.RowKit

/-- A buffer is filled on by its own beginning. -/
theorem copy_self {P : Program} {w0 wr : World} {h N chunk cap : Nat} {acc : List UInt8} {t ty e : TypeId} (hu : P.underlying t = some (.slice e)) (hs : (P.info? e).map (·.size) = some 1)
    (hb : Lib.Buf w0 wr h N acc) (hc : chunk ≤ acc.length) (hN : acc.length < N) :
    ∃ wr', (Builtin.copy_ #[t, t] ty #[.slice (some ⟨h, acc.length, none⟩) (N - acc.length) (N - acc.length), .slice (some ⟨h, 0, none⟩) chunk cap]).run P wr = .ok (.int .i64 ((min chunk (N - acc.length) : Nat) : Int)) wr' ∧ Lib.Buf w0 wr' h N (acc ++ acc.take (min chunk (N - acc.length))) := by
  have hm : min chunk (N - acc.length) ≤ acc.length := by omega
  generalize hmm : min chunk (N - acc.length) = m at hm
  have hml : (acc.take m).length = m := by rw [List.length_take]; omega
  have hr := Go.run_copy_cells (P := P) wr t t ty e h acc.length (N - acc.length) (N - acc.length) ⟨h, 0, none⟩ chunk cap ((acc.take m).map fun x => Value.int .u8 (x.toNat : Int)) hu hs (by rw [List.length_map, hml, ← hmm])
    (fun j u hj => by
      rw [List.getElem?_map] at hj
      obtain ⟨x, hx, rfl⟩ := Option.map_eq_some_iff.1 hj
      have hjm : j < m := by have := (List.getElem?_eq_some_iff.1 hx).1; rw [hml] at this; exact this
      rw [List.getElem?_take, if_pos hjm] at hx
      have := hb.holds j x hx
      rw [Addr.add_lit, Nat.zero_add]
      exact this)
    (fun j hj => by rw [List.length_map, hml] at hj; exact hb.there _ (by omega)) (fun j hj => by rw [List.length_map, hml] at hj; exact hb.free _ (by omega))
    (fun u hu' => by obtain ⟨x, _, rfl⟩ := List.mem_map.1 hu'; rfl)
  rw [List.length_map, hml] at hr
  refine ⟨_, hr, ?_⟩
  have hin := World.cell?_setCells_in h ((acc.take m).map fun x => Value.int .u8 (x.toNat : Int)) acc.length wr (fun j hj => by rw [List.length_map, hml] at hj; exact hb.there _ (by omega))
  have hout := World.cell?_setCells_out h ((acc.take m).map fun x => Value.int .u8 (x.toNat : Int)) acc.length wr
  refine ⟨?_, ?_, ?_, ?_, by rw [List.length_append, hml]; omega⟩
  · exact Lib.below_setCells h (Nat.le_refl _) _ _ hb.below
  · intro j hj
    by_cases h1 : acc.length ≤ j ∧ j < acc.length + m
    · obtain ⟨d, rfl⟩ : ∃ d, j = acc.length + d := ⟨j - acc.length, by omega⟩
      rw [hin d (by rw [List.length_map, hml]; omega)]
      rfl
    · rw [hout ⟨h, j, none⟩ (fun _ _ => by rw [List.length_map, hml]; show j < _ ∨ _ ≤ j; omega)]
      exact hb.there j hj
  · intro j hj
    rw [World.frozen?_setCells]
    exact hb.free j hj
  · intro j x hx
    by_cases h1 : j < acc.length
    · rw [List.getElem?_append_left h1] at hx
      rw [hout ⟨h, j, none⟩ (fun _ _ => Or.inl h1)]
      exact hb.holds j x hx
    · rw [List.getElem?_append_right (by omega)] at hx
      obtain ⟨d, rfl⟩ : ∃ d, j = acc.length + d := ⟨j - acc.length, by omega⟩
      rw [Nat.add_sub_cancel_left] at hx
      have hd : d < (acc.take m).length := (List.getElem?_eq_some_iff.1 hx).1
      rw [hin d (by rw [List.length_map]; exact hd), List.getElem_map, (List.getElem?_eq_some_iff.1 hx).2]
theorem rep_more (k m : Nat) (c : UInt8) (h : m ≤ k) : List.replicate k c ++ (List.replicate k c).take m = List.replicate (k + m) c := by
  rw [List.take_replicate, Nat.min_eq_left h, List.replicate_append_replicate]
theorem step_copy_run {P : Program} {ops : Array Oper} {w : World} {o : Oper} {a : Act} {K : Act → World → Prop} {Q : Exit → Act → World → Prop} {E : Prop} (hgd : o.guard = none) (d s : Operand) (t t' : TypeId)
    (ho : o.op = .call { callee := .builtin .copy, args := #[d, s], argTypes := #[t, t'] }) (v u : Value) (hd : a.eval d = v) (hs : a.eval s = u) {v' : Value} {w' : World}
    (hr : (Builtin.copy_ #[t, t'] o.type #[v, u]).run P w = .ok v' w') (h : K (a.put o.dst v') w') : if Region.wanted o (yielded ops a.tmps) = true then Oper.wp P o a w K Q else E := by
  have hw : Region.wanted o (yielded ops a.tmps) = true := by simp [Region.wanted, hgd]
  rw [if_pos hw]
  exact Lib.wp_copy_run w d s t t' ho v u hd hs hr h
theorem buf_drew {w0 wr : World} {h N : Nat} {acc : List UInt8} (hb : Lib.Buf w0 wr h N acc) : Lib.Buf w0 wr.drew h N acc := ⟨below_drew hb.below, hb.there, hb.free, hb.holds, hb.fits⟩
theorem sl_from (b n k : Nat) (hk : k < n) (u : World) : (Instr.slice 23 (.slice (some ⟨b, 0, none⟩) n n) (some (.int .i64 (k : Int))) none none).run Tryz.prog u = .ok (.slice (some ⟨b, k, none⟩) (n - k) (n - k)) u := by
  have := Lib.run_slice_tailV (P := Tryz.prog) u 23 5 Tryz.underlying23 Tryz.sizeOf5 b n k (by omega)
  rw [Lib.tailV, if_neg (by omega)] at this
  exact this
theorem sl_to (b n q : Nat) (hq : q ≤ n) (u : World) : (Instr.slice 23 (.slice (some ⟨b, 0, none⟩) n n) none (some (.int .i64 (q : Int))) none).run Tryz.prog u = .ok (.slice (some ⟨b, 0, none⟩) q n) u := by
  have u22 := Tryz.underlying23
  have z5 := Tryz.sizeOf5
  have e1 : (q : Int) ≤ (n : Int) := by omega
  simp [Instr.slice, go_sem, z5, e1]
theorem infoU8 : (Tryz.prog.info? 5).map (·.size) = some 1 := by kernel_rfl
theorem buf_by {w0 wr : World} {N : Nat} {acc : List UInt8} (hb : Lib.Buf w0 wr w0.heap.size N acc) (hN : acc.length = N) (h0 : 0 < N) (hm : N ≤ 1099511627776) : ByAt wr (.slice (some ⟨w0.heap.size, 0, none⟩) N N) acc := by
  subst hN
  refine .inr ⟨w0.heap.size, 0, acc.length, rfl, by omega, ?_, fun j hj => ?_⟩
  · have := hb.there 0 h0
    rw [Option.isSome_iff_exists] at this
    obtain ⟨v, hv⟩ := this
    exact World.block_lt_of_cell? _ _ hv
  · rw [Nat.zero_add, hb.holds j acc[j] (List.getElem?_eq_getElem hj)]
    simp [hj]
set_option maxRecDepth 100000 in
set_option maxHeartbeats 4000000 in
theorem rep_c (c : UInt8) (n : Nat) (vb off cap : Nat) (w : World) (h0 : 0 < n) (hn : n ≤ 1048576) (hc : w.cell? ⟨vb, off, none⟩ = some (.int .u8 (c.toNat : Int))) :
    Calls Tryz.prog 51 #[.slice (some ⟨vb, off, none⟩) 1 cap, .int .i64 (n : Int)] w fun e w' => ∃ v, e = .returned v ∧ ByAt w' v (List.replicate n c) ∧ Below w.heap.size w w' := by
  have hmul := Tryz.bits_Mul 1 n (by omega) (by omega) w
  have e1 : (1 * n / 18446744073709551616 : Nat) = 0 := by omega
  have e2 : (1 * n % 18446744073709551616 : Nat) = n := by omega
  rw [e1, e2] at hmul
  clear e1 e2
  obtain ⟨cs, hrunM, hle, _⟩ := Lib.run_makeNoZero (P := Tryz.prog) w #[3] 23 5 Tryz.underlying23 n (by omega)
  have hcall : (callFunc 96 #[.int .i64 (n : Int)]).run Tryz.prog w = .ok (.value (.slice (some ⟨w.heap.size, 0, none⟩) n cs.size)) ((w.alloc (.cells cs 5)).drewN 2) := by
    rw [run_callFunc_extern Tryz.func96 (by kernel_rfl) (by kernel_rfl) (by kernel_rfl) (e := Extern.BytealgMakeNoZero.makeNoZero #[3] #[23]) (by kernel_rfl), hrunM]
    rfl
  clear hrunM
  have B0 := Lib.Buf.start w cs 5 n 2 hle
  obtain ⟨w1, hr1, B1⟩ := Lib.copy_part (P := Tryz.prog) w _ w.heap.size n [] [c] (.slice (some ⟨vb, off, none⟩) 1 cap) 23 3 5 Tryz.underlying23 infoU8 (Nat.le_refl _) B0 ⟨_, cap, rfl, by simp, fun a ha j x hx => by
    cases ha
    have hj : j = 0 := by have := (List.getElem?_eq_some_iff.1 hx).1; simpa using this
    subst hj
    have hx' : c = x := by simpa using hx
    rw [← hx', Addr.add_lit, Nat.add_zero]
    exact hc⟩ (by simp; omega)
  rw [List.length_nil, Lib.tailV_zero, List.length_singleton] at hr1
  rw [List.nil_append] at B1
  have i0 : (0 : Int) < (n : Int) := by omega
  have i1 : (n : Int) ≤ (cs.size : Int) := by omega
  have iz : ((n : Int) == 0) = false := by rw [beq_eq_false_iff_ne]; omega
  have HB1 : Hid (Lib.Buf w w1 w.heap.size n (List.replicate 1 c)) := B1
  clear B1 B0 hc
  by_cases hbig : 8192 < n
  · have g0 : (8192 : Int) < (n : Int) := by omega
    have g1 : decide ((8192 : Int) < (n : Int)) = true := decide_eq_true g0
    have j0 : ¬ (n : Int) < 0 := by omega
    have j1 : ¬ (9223372036854775807 : Int) < (n : Int) := by omega
    have j2 : decide ((n : Int) < 0) = false := decide_eq_false j0
    have j3 : decide ((9223372036854775807 : Int) < (n : Int)) = false := decide_eq_false j1
    go_enter Tryz.func51, Tryz.ntmps51
    go_wp2_with (first
      | (go_at_call 95; refine hmul.mono ?_; rintro e w2 ⟨rfl, hw2⟩; rw [hw2]; clear hw2 hmul)
      | (at_builtin; refine Lib.wpList_copy_run _ rfl _ _ 23 23 rfl _ _ rfl rfl hr1 ?_))
    go_loopw [10] (fun bp wr => ∃ k : Nat, 1 ≤ k ∧ k ≤ n ∧ bp = .int .i64 k ∧ Hid (Lib.Buf w wr w.heap.size n (List.replicate k c))) (fun bp _ => n - (intOf bp).toNat)
    case atStart => exact ⟨1, by omega, by omega, rfl, HB1⟩
    case round =>
      obtain ⟨k, hk1, hk2, rfl, HB⟩ := hrel
      clear HB1 hr1 hcall
      by_cases hlt : k < n
      · have n1 : (k : Int) < (n : Int) := by omega
        obtain ⟨q, hq⟩ : ∃ q : Nat, q = min k 8192 := ⟨_, rfl⟩
        have hqi : min (k : Int) 8192 = (q : Int) := by omega
        have q1 : 1 ≤ q := by omega
        have q2 : q ≤ k := by omega
        obtain ⟨w2, hr2, B2⟩ := copy_self (P := Tryz.prog) (chunk := q) (cap := n) (ty := 3) Tryz.underlying23 infoU8 (buf_drew HB.out) (by simp; omega) (by simp; omega)
        rw [List.length_replicate] at hr2 B2
        rw [rep_more k _ c (by omega)] at B2
        obtain ⟨m, hm⟩ : ∃ m : Nat, m = min q (n - k) := ⟨_, rfl⟩
        rw [← hm] at hr2 B2
        have m1 : 1 ≤ m := by omega
        have m2 : k + m ≤ n := by omega
        have HB2 := Lib.hid B2
        have HQ := Lib.hid (And.intro hq hm)
        clear hq hm B2 HB
        have hwr : IntKind.i64.wrap ((k : Int) + (m : Int)) = (k : Int) + (m : Int) := IntWalk.i64_in _ (by omega)
        have hs1 := sl_from w.heap.size n k hlt
        have hs2 := sl_to w.heap.size n q (by omega)
        go_wp2_with fail
        go_region_law (refine step_copy_run rfl (.tmp 70) (.tmp 73) 23 23 rfl (.slice (some ⟨w.heap.size, k, none⟩) (n - k) (n - k)) (.slice (some ⟨w.heap.size, 0, none⟩) q n) (by simp [Act.eval, Act.put]) (by simp [Act.eval, Act.put]) hr2 ?_)
        simp only [Act.put, List.getElem_toArray, List.getElem_cons_succ, List.getElem_cons_zero, List.setIfInBounds_toArray, List.set_cons_succ, List.set_cons_zero]
        go_wp2_with fail
        exact ⟨⟨k + m, by omega, by omega, by go_num, HB2⟩, by simp [intOf]; omega⟩
      · obtain rfl : k = n := by omega
        go_wp2_with fail
        go_ret
        exact ⟨_, rfl, buf_by HB.out (by simp) h0 (by omega), HB.out.below⟩
  · have g0 : ¬ (8192 : Int) < (n : Int) := by omega
    have g1 : decide ((8192 : Int) < (n : Int)) = false := decide_eq_false g0
    have j0 : ¬ (n : Int) < 0 := by omega
    have j1 : ¬ (9223372036854775807 : Int) < (n : Int) := by omega
    have j2 : decide ((n : Int) < 0) = false := decide_eq_false j0
    have j3 : decide ((9223372036854775807 : Int) < (n : Int)) = false := decide_eq_false j1
    go_enter Tryz.func51, Tryz.ntmps51
    go_wp2_with (first
      | (go_at_call 95; refine hmul.mono ?_; rintro e w2 ⟨rfl, hw2⟩; rw [hw2]; clear hw2 hmul)
      | (at_builtin; refine Lib.wpList_copy_run _ rfl _ _ 23 23 rfl _ _ rfl rfl hr1 ?_))
    go_loopw [10] (fun bp wr => ∃ k : Nat, 1 ≤ k ∧ k ≤ n ∧ bp = .int .i64 k ∧ Hid (Lib.Buf w wr w.heap.size n (List.replicate k c))) (fun bp _ => n - (intOf bp).toNat)
    case atStart => exact ⟨1, by omega, by omega, rfl, HB1⟩
    case round =>
      obtain ⟨k, hk1, hk2, rfl, HB⟩ := hrel
      clear HB1 hr1 hcall
      by_cases hlt : k < n
      · have n1 : (k : Int) < (n : Int) := by omega
        obtain ⟨q, hq⟩ : ∃ q : Nat, q = k := ⟨_, rfl⟩
        have hqi : min (k : Int) (n : Int) = (q : Int) := by omega
        have q1 : 1 ≤ q := by omega
        have q2 : q ≤ k := by omega
        obtain ⟨w2, hr2, B2⟩ := copy_self (P := Tryz.prog) (chunk := q) (cap := n) (ty := 3) Tryz.underlying23 infoU8 (buf_drew HB.out) (by simp; omega) (by simp; omega)
        rw [List.length_replicate] at hr2 B2
        rw [rep_more k _ c (by omega)] at B2
        obtain ⟨m, hm⟩ : ∃ m : Nat, m = min q (n - k) := ⟨_, rfl⟩
        rw [← hm] at hr2 B2
        have m1 : 1 ≤ m := by omega
        have m2 : k + m ≤ n := by omega
        have HB2 := Lib.hid B2
        have HQ := Lib.hid (And.intro hq hm)
        clear hq hm B2 HB
        have hwr : IntKind.i64.wrap ((k : Int) + (m : Int)) = (k : Int) + (m : Int) := IntWalk.i64_in _ (by omega)
        have hs1 := sl_from w.heap.size n k hlt
        have hs2 := sl_to w.heap.size n q (by omega)
        go_wp2_with fail
        go_region_law (refine step_copy_run rfl (.tmp 70) (.tmp 73) 23 23 rfl (.slice (some ⟨w.heap.size, k, none⟩) (n - k) (n - k)) (.slice (some ⟨w.heap.size, 0, none⟩) q n) (by simp [Act.eval, Act.put]) (by simp [Act.eval, Act.put]) hr2 ?_)
        simp only [Act.put, List.getElem_toArray, List.getElem_cons_succ, List.getElem_cons_zero, List.setIfInBounds_toArray, List.set_cons_succ, List.set_cons_zero]
        go_wp2_with fail
        exact ⟨⟨k + m, by omega, by omega, by go_num, HB2⟩, by simp [intOf]; omega⟩
      · obtain rfl : k = n := by omega
        go_wp2_with fail
        go_ret
        exact ⟨_, rfl, buf_by HB.out (by simp) h0 (by omega), HB.out.below⟩
end Go.Proofs.YtfkoehfkiommpaaGreatDoor.Tr

namespace Go.Proofs.YtfkoehfkiommpaaGreatDoor.Tr
open Go.Proofs.YtfkoehfkiommpaaGreatDoor.Op
open Go.RowKit

theorem times_cut (t : List UInt8) (ht : 0 < t.length) : timesS (91 :: t) = (cutTimesS (t.drop (signS t).2)).map fun p => ((signS t).2 + p.1.length + 3, timesX (signS t).1 (manyS p.1)) := by
  rw [times_at rfl ht]
  cases hv : t.drop (signS t).2 with
  | nil => rw [if_neg (by simp)]; rfl
  | cons a u =>
    have hu : t.drop ((signS t).2 + 1) = u := by rw [← List.drop_drop, hv]; rfl
    rw [cutTimesS, hu]
    by_cases ha : a = 42
    · subst ha
      simp only [List.getElem?_cons_zero, if_true, true_and]
      split
      · rfl
      · rfl
    · rw [if_neg (by simpa using ha), if_neg (fun h => ha h.1)]
      rfl
theorem cut_behind {t : List UInt8} {n : Nat} {p : List UInt8 × List UInt8} (h : cutTimesS (t.drop n) = some p) : (91 :: t).drop (n + p.1.length + 3) = p.2 ∧ p.1.length ≤ t.length := by
  cases hv : t.drop n with
  | nil => rw [hv] at h; cases h
  | cons a u =>
    rw [hv, cutTimesS] at h
    split at h
    · cases h
      have h1 : t.drop (n + 1) = u := by rw [← List.drop_drop, hv]; rfl
      have h2 : u.length ≤ t.length := by rw [← h1, List.length_drop]; omega
      have h3 : (u.takeWhile isDec).length ≤ u.length := (List.takeWhile_sublist _).length_le
      refine ⟨?_, Nat.le_trans h3 h2⟩
      show (91 :: t).drop (n + (u.takeWhile isDec).length + 3) = u.drop ((u.takeWhile isDec).length + 1)
      rw [show n + (u.takeWhile isDec).length + 3 = ((n + 1) + ((u.takeWhile isDec).length + 1)) + 1 by omega, List.drop_succ_cons, ← List.drop_drop, h1]
    · cases h
theorem many_le (d : List UInt8) : (manyS d).1 ≤ 2147483647 := by
  have key : ∀ (b : Int), 0 < b → ∀ (l : List UInt8) (n : Int), n ≤ 2147483647 → (rd b 2147483647 l n).1 ≤ 2147483647 := by
    intro b hb l
    induction l with
    | nil => intro n hn; exact hn
    | cons c r ih =>
      intro n hn
      rw [rd]
      split
      · decide
      · rename_i hc
        refine ih _ ?_
        have hdiv : ¬ (2147483647 - ((c.toNat : Int) - 48)) / b < n := fun h => hc (.inr (.inr (.inr h)))
        have h2 : n * b ≤ (2147483647 - ((c.toNat : Int) - 48)) := by
          have h3 : n ≤ (2147483647 - ((c.toNat : Int) - 48)) / b := by omega
          exact Int.le_trans (Int.mul_le_mul_of_nonneg_right h3 (by omega)) (Int.ediv_mul_le _ (by omega))
        omega
  unfold manyS
  split
  · decide
  · split
    · unfold rdAll; split
      · decide
      · exact key 8 (by decide) _ _ (by decide)
    · unfold rdAll; split
      · decide
      · exact key 10 (by decide) _ _ (by decide)
section
variable {w w1 w2 : World} {rb : Nat} {l o : List UInt8} {ov : Value} {rest : Int} {cl : Bool}
theorem PAt.setRest (h : PAt w rb l o rest cl) (r2 : Int) : PAt (w.setCell ⟨rb, 2, none⟩ (.int .i64 r2)) rb l o r2 cl := by
  obtain ⟨ov, h1, h2⟩ := h
  exact ⟨ov, by simpa using h_set h1 2 (.int .i64 r2), row_set h2 2 _⟩
theorem PAt.cells (h : PAt w rb l o rest cl) : w.cell? ⟨rb, 0, none⟩ = some (.string (sb l)) ∧ (∃ a c, w.cell? ⟨rb, 1, none⟩ = some (.slice a o.length c)) ∧ w.cell? ⟨rb, 2, none⟩ = some (.int .i64 rest) ∧ w.frozen? ⟨rb, 2, none⟩ = false := by
  obtain ⟨ov, h1, h2⟩ := h
  obtain ⟨a, c, rfl⟩ := own_slice2 h2
  exact ⟨h_cell h1 0 rfl, ⟨a, c, h_cell h1 1 rfl⟩, h_cell h1 2 rfl, h_fz h1 2⟩
/-- A form that does not fit. -/
theorem rep_no (h : PAt w rb l o rest cl) (hcl : cl = true → shutS (l.drop 2) = none) (hr : timesS l = none) : Hid (∀ w', Below w.heap.size w w' → Took2 w rb l o rest (timesS l) (.returned (.int .i64 0)) w') := fun _ hB => took_no hr rfl (h.turn hB) hcl (hB.mono (Nat.le_of_lt h.lt)) (keep1_of hB)
end
end Go.Proofs.YtfkoehfkiommpaaGreatDoor.Tr
