/- tr: what is asked for, wherever the laws ask. -/
import Derived.Test.YtfkoehfkiommpaaGreatDoorZAsk4
import Derived.Test.YtfkoehfkiommpaaGreatDoorZAsk5
import Derived.Test.YtfkoehfkiommpaaGreatDoorWpF
import Derived.Test.YtfkoehfkiommpaaGreatDoorZTr2
import Derived.Test.YtfkoehfkiommpaaGreatDoorMNewP
import Derived.Test.YtfkoehfkiommpaaGreatDoorZAsk1
namespace Go.Proofs.YtfkoehfkiommpaaGreatDoor.Tr
open Go.Proofs.YtfkoehfkiommpaaGreatDoor.Op
open Go.RowKit

theorem set_neg {s : List UInt8} (h : ¬ 0 ≤ (setS s).2.1) : (setS s).2.1 = -1 := (set_low s).resolve_right h
/-- All that is to be known of what is asked for. -/
structure AskAll (l : Opts) (r : List ByteArray) (t : Tr) : Prop where
  one : t.one.length ≤ 1099511627776
  two : t.two.length ≤ 1099511627776
  mv : t.move = true → t.one ≠ [] → t.two ≠ []
  ask : ∀ (base : Nat) (lv ov : Value) (m : Int) (w : World), l.length ≤ 2097152 → OptsAt w base lv l → StrsAt w ov r → w.cell? ⟨0, 0, none⟩ = some (.int .i64 m) → Calls Tryz.prog 181 #[lv, ov] w (AskOut w t)
theorem one_len (l : Opts) (a : ByteArray) (ha : a.size ≤ 4096) : (oneOf l a).length ≤ 1099511627776 := by
  have h1 := set_len a.data.toList
  have h : a.data.toList.length ≤ 4096 := ha
  unfold oneOf
  split
  · exact Nat.le_trans (bytesOf_len _ 256) (by omega)
  · omega
theorem ask_all (l : Opts) (r : List ByteArray) (t : Tr) (hT : trS l (r.map fun a => a.data.toList) = some t) (hp : plainR l r = true) (hs : ∀ a ∈ r, a.size ≤ 4096) : AskAll l r t := by
  rcases r with _ | ⟨a, _ | ⟨b, _ | ⟨c, r⟩⟩⟩
  · cases hp
  · have h67 : hasO l 67 = false := by simpa [plainR] using hp
    have ha := hs a (by simp)
    simp only [trS, List.map_cons, List.map_nil, List.length_cons, List.length_nil, Nat.zero_add, or_true, and_true, List.getElem?_cons_zero, Option.getD_some] at hT
    by_cases hd : hasO l 100 ≠ hasO l 115
    · simp only [if_pos hd, ne_eq, not_true_eq_false, if_false] at hT
      by_cases hb : (setS a.data.toList).2.2 = false ∨ 0 ≤ (setS a.data.toList).2.1
      · rw [if_pos hb] at hT; cases hT
      · rw [if_neg hb] at hT
        simp only [if_true, h67, Bool.false_eq_true, or_false, Option.some.injEq] at hT
        have e1 : (if hasO l 99 = true then othersS (setS a.data.toList).1 else (setS a.data.toList).1) = oneOf l a := rfl
        rw [e1] at hT
        subst hT
        have hr2 : (setS a.data.toList).2.2 = true := by simpa using fun h => hb (.inl h)
        have hr1 := set_neg (fun h => hb (.inr h))
        refine ⟨one_len l a ha, one_len l a ha, (fun h => by cases h), fun base lv ov m w hl hO hS hm => ?_⟩
        have hds : (hasO l 100 != hasO l 115) = true := by simpa using hd
        cases h99 : hasO l 99 with
        | false => exact asked1 base lv ov l a m _ _ hl hO hS hm (by omega) rfl rfl h99 h67 hds hr1 hr2
        | true => exact asked1c base lv ov l a m _ _ hl hO hS hm (by omega) rfl rfl h99 h67 hds hr1 hr2
    · simp only [if_neg hd] at hT
      simp at hT
  · have ha := hs a (by simp)
    have hb := hs b (by simp)
    simp only [plainR, Bool.and_eq_true, Bool.not_eq_true'] at hp
    obtain ⟨⟨h67, h100⟩, hq⟩ := hp
    simp only [trS, List.map_cons, List.map_nil, List.length_cons, List.length_nil, Nat.zero_add, Nat.reduceAdd, h100, h67, Bool.false_eq_true, List.getElem?_cons_zero, List.getElem?_cons_succ, Option.getD_some, or_false, Nat.reduceEqDiff, and_false, if_false, ne_eq, not_true_eq_false, true_and] at hT
    by_cases hb1 : (setS a.data.toList).2.2 = false ∨ 0 ≤ (setS a.data.toList).2.1
    · rw [if_pos hb1] at hT; cases hT
    · rw [if_neg hb1] at hT
      by_cases hb2 : (setS b.data.toList).2.2 = false
      · rw [if_pos hb2] at hT; cases hT
      · rw [if_neg hb2] at hT
        have e1 : (if hasO l 99 = true then othersS (setS a.data.toList).1 else (setS a.data.toList).1) = oneOf l a := rfl
        rw [e1] at hT
        by_cases hb3 : fillS (setS b.data.toList).1 (setS b.data.toList).2.1 (oneOf l a).length = [] ∧ ¬ oneOf l a = []
        · rw [if_pos hb3] at hT; cases hT
        · rw [if_neg hb3] at hT
          simp only [Option.some.injEq, Bool.not_false] at hT
          have hr2 : (setS a.data.toList).2.2 = true := by simpa using fun h => hb1 (.inl h)
          have hr1 := set_neg (fun h => hb1 (.inr h))
          have hr4 : (setS b.data.toList).2.2 = true := by simpa using hb2
          have hl1 := one_len l a ha
          have hsl := set_len b.data.toList
          have hbl : b.data.toList.length ≤ 4096 := hb
          cases h99 : hasO l 99 with
          | false =>
            rw [h99] at hq
            simp only [Bool.false_eq_true, if_false, decide_eq_true_eq] at hq
            have hr3 := set_neg (s := b.data.toList) (by omega)
            have ef : fillS (setS b.data.toList).1 (setS b.data.toList).2.1 (oneOf l a).length = (setS b.data.toList).1 := by rw [fillS, if_pos hq]
            rw [ef] at hT hb3
            subst hT
            have hon : oneOf l a = [] ∨ (setS b.data.toList).1 ≠ [] := by
              by_cases h : oneOf l a = []
              · exact .inl h
              · exact .inr fun e => hb3 ⟨e, h⟩
            exact ⟨hl1, by show (setS b.data.toList).1.length ≤ _; omega, fun _ h => hon.resolve_left h, fun base lv ov m w hl hO hS hm => asked2 base lv ov l a b m _ hl hO hS hm (by omega) (by omega) h100 rfl h99 h67 hr1 hr2 hr4 hr3 hon⟩
          | true =>
            rw [h99] at hq
            simp only [if_true, Bool.and_eq_true, decide_eq_true_eq, beq_iff_eq, Bool.not_eq_true', List.isEmpty_eq_false_iff] at hq
            obtain ⟨⟨hr3, hr5⟩, hne⟩ := hq
            obtain ⟨d, hd⟩ := List.length_eq_one_iff.1 hr5
            have eo : oneOf l a = othersS (setS a.data.toList).1 := by rw [oneOf, if_pos h99]
            have ef : fillS (setS b.data.toList).1 (setS b.data.toList).2.1 (oneOf l a).length = List.replicate (oneOf l a).length d := by
              rw [fillS, hr3, hd, if_neg (by omega)]
              simp
            rw [ef] at hT
            subst hT
            have hpos : 0 < (othersS (setS a.data.toList).1).length := List.length_pos_iff.2 hne
            exact ⟨hl1, by show (List.replicate (oneOf l a).length d).length ≤ _; rw [List.length_replicate]; exact hl1, fun _ h e => by
              have := congrArg List.length e
              rw [List.length_replicate] at this
              exact h (List.length_eq_zero_iff.1 this), fun base lv ov m w hl hO hS hm => asked2c base lv ov l a b m _ hl hO hS hm (by omega) (by omega) h100 rfl h99 h67 hr1 hr2 hr4 d hd hr3 hpos⟩
  · cases hp
end Go.Proofs.YtfkoehfkiommpaaGreatDoor.Tr

namespace Go.Proofs.YtfkoehfkiommpaaGreatDoor
open Go.RowKit Go.Shelf Go.Maps

section
variable {w : World} {ins : List UInt8} {sa : List ByteArray} {l1 l2 l3 : Int} {buf : Nat} {t : Tr.Tr} {m : Int}
/-- What a run of tr comes to. -/
def TrQ (t : Tr.Tr) (ins : List UInt8) (_ : Int) (s : Sx) : Prop := s.k.out = t.all ins ∧ s.k.err = []
abbrev trU : Value := .agg #[.string Tr.trSpec, .func (.func 120) #[] #[]]
theorem tot_mem : ∀ (l : List ByteArray) (a : ByteArray), a ∈ l → a.size ≤ Op.tot l := by
  intro l a h
  induction l with
  | nil => cases h
  | cons b r ih =>
    rcases List.mem_cons.1 h with rfl | h
    · simp [Op.tot]
    · have := ih h
      simp [Op.tot] at this ⊢
      omega
theorem parse_tot (spec : ByteArray) : ∀ (n : Nat) (l : Op.Opts) (args : List ByteArray) (p : Op.Opts × List ByteArray), args.length ≤ n → Op.parseS spec l args = some p → Op.tot p.2 ≤ Op.tot args
  | n, l, [], p, _, h => by rw [Op.parseS_nil, Option.some.injEq] at h; rw [← h]; exact Nat.le_refl _
  | n + 1, l, a :: rest, p, hn, h => by
    rw [Op.tot_cons]
    by_cases h1 : a = Op.dashes
    · rw [Op.parseS_dd _ _ _ _ h1, Option.some.injEq] at h; rw [← h]; exact Nat.le_add_left _ _
    by_cases h2 : a.size < 2 ∨ a.data.toList.head? ≠ some 45
    · rw [Op.parseS_stop _ _ _ _ h1 h2, Option.some.injEq] at h; rw [← h]; exact Nat.le_refl _
    rw [Op.parseS_go _ _ _ _ h1 h2] at h
    cases hg : Op.groupS spec l (a.data.toList.drop 1) rest with
    | none => rw [hg] at h; cases h
    | some q =>
      rw [hg] at h
      have h3 := Op.groupS_le _ _ _ _ _ hg
      have h4 := (Op.group_le _ _ _ _ _ hg).2
      have h5 := parse_tot spec n q.1 q.2 p (by simp at hn; omega) h
      omega
theorem tr_main (hm : w.cell? ⟨0, 0, none⟩ = some (.int .i64 m)) (hT : Tr.trA sa = some t) (hpl : Tr.plainA sa = true) (hl : sa.length ≤ 3) (htt : Op.tot sa ≤ 4096) (hbuf : l1 = buf) (hb1 : 1 ≤ buf) (hb2 : buf ≤ 1099511627776) (hin : ins.length ≤ 1048576) :
    HMain w ins (Tr.trName :: sa) [] l1 l2 l3 (.read buf) trU (TrQ t ins) := by
  intro E md u hp _ hc0 hfl hlm hA _ hcl
  unfold Tr.trA at hT
  unfold Tr.plainA at hpl
  cases hpa : Op.parseS Tr.trSpec [] sa with
  | none => rw [hpa] at hpl; cases hpl
  | some p =>
    obtain ⟨o, rest⟩ := p
    rw [hpa] at hT hpl
    have hT : Tr.trS o (rest.map fun a => a.data.toList) = some t := hT
    have hrt := parse_tot _ _ _ _ _ (Nat.le_refl _) hpa
    have hol := (Op.parse_le _ _ _ _ _ (Nat.le_refl _) hpa).1
    have hall := Tr.ask_all o rest t hT hpl (fun a ha => Nat.le_trans (tot_mem rest a ha) (by dsimp only at hrt; omega))
    have hE1 : E.G.l1 = (buf : Int) := hlm.1.trans hbuf
    refine umain_c hp (Tr.trName :: sa) (by simp) (by simp; omega) (by simpa using Nat.le_trans htt (by omega)) hA Tr.trSpec (by decide) 120 o rest (by simpa using hpa) (fun _ _ => by kernel_rfl) ?_
    intro tk lv ov w1 htk hp1 ht1 hO1 hR1 hB1
    have hp2 : PS E md w1 (s0 ins) (tk :: []) := hp1.own (Turn.refl [] w1) (by simp) (fun b hb => .inl (by simp at hb; simp [hb]))
    have hmu := hcl _ _ hm
    have hm1 : w1.cell? ⟨0, 0, none⟩ = some (.int .i64 m) := (hB1.cell (p := ⟨0, 0, none⟩) (World.block_lt_of_cell? _ _ hmu)).trans hmu
    have hol2 : o.length ≤ 2097152 := by simp at hol; omega
    have hfat : ∀ W, Below w1.heap.size w1 W → Calls Tryz.prog 144 #[lv, ov] W fun e W' => e = .returned (.tuple #[.agg (faT t), .bool true]) ∧ Below W.heap.size W W' := fun W hW =>
      Tr.fates_c lv ov t W (let ⟨a, c, h⟩ := Op.own_slice2 hO1; ⟨a, _, c, h⟩) (let ⟨a, c, h⟩ := Op.strs_slice hR1.1; ⟨a, _, c, h⟩) hall.one hall.two hall.mv (fun W2 hW2 => hall.ask u.heap.size lv ov m W2 hol2 (Op.own_below (Op.own_below hO1 hW) hW2) ((hR1.1.below hW).below hW2) ((hW2.cell (p := ⟨0, 0, none⟩) (Nat.lt_of_lt_of_le (World.block_lt_of_cell? _ _ hm1) hW.size)).trans ((hW.cell (p := ⟨0, 0, none⟩) (World.block_lt_of_cell? _ _ hm1)).trans hm1)))
    have hw0 := hp.since.size
    have hdo := tr_do (t := t) hp2 ht1 (by simp) (by omega) (let ⟨a, c, h⟩ := Op.own_slice2 hO1; ⟨a, _, c, h⟩) (let ⟨a, c, h⟩ := Op.strs_slice hR1.1; ⟨a, _, c, h⟩) hfat hE1 hb1 hin (show (0 : Nat) ≤ 1073741824 ∧ (0 : Nat) ≤ 1073741824 by decide) (show (0 : Int) ≤ 1099511627776 by decide) (show (0 : Int) ≤ 1099511627776 by decide) (by rw [hfl]; exact Nat.zero_le _) hb2 (by rw [hfl]; exact Nat.le_refl 0) (fun _ => hc0)
    refine hdo.mono ?_
    rintro e w2 (h | ⟨h1, v, st, s2, h2, h3, h4, h5, _, h6, h7⟩)
    · exact .inl h
    · refine .inr ⟨h1, v, st, s2, h2, h3, h4, h5, ?_, h7⟩
      rw [Tr.emits_all t hall.mv]
      simpa using h6
set_option maxRecDepth 100000 in
set_option maxHeartbeats 2000000 in
theorem utils_c (w : World) : Calls Tryz.prog 75 #[] w fun e w' => e = .returned (.map (some w.heap.size)) ∧ MapS w' w.heap.size 1 (fun d => if d = Tr.trName then some trU else none) ∧ Below w.heap.size w w' := by
  have hmk : (Instr.makeMap 140 none).run Tryz.prog w = .ok (.map (some w.heap.size)) (w.alloc (.map #[] 0)) := run_makeMap ..
  have hm0 : MapS (w.alloc (.map #[] 0)) w.heap.size 0 (fun _ => none) := MapS.made w
  have hB0 : Below w.heap.size w (w.alloc (.map #[] 0)) := (Below.refl _ w).alloc (Nat.le_refl _) _
  obtain ⟨w1, hu1, hm1, hg1⟩ := hm0.put Tryz.underlying140 (by decide) Tr.trName (by decide) trU
  have hB1 : Below w.heap.size w w1 := hB0.grown hg1 (by have := hB0.size; omega) (fun j ej => by have e : w.heap.size = j := (by simpa using ej); omega)
  have HX := Lib.hid (And.intro hm1 hB1)
  clear hm0 hm1 hB0 hB1 hg1
  unfold trU Tr.trName Tr.trSpec at hu1
  go_enter Tryz.func75, Tryz.ntmps75
  go_wp2
  go_ret
  exact ⟨rfl, HX.out.1, HX.out.2⟩
theorem Rdy.below {G : Gh} {u u1 : World} {rv : Value} {sb : List ByteArray} (h : Rdy G u ins sb rv) (hB : Below u.heap.size u u1) : Rdy G u1 ins sb rv :=
  ⟨(Turn.below (S := []) hB).ob h.pr (by simp), h.ki.al hB, own_turn h.av (Turn.below (S := []) hB) (by simp), ⟨Nat.lt_of_lt_of_le h.lt.1 hB.size, Nat.lt_of_lt_of_le h.lt.2.1 hB.size, Nat.lt_of_lt_of_le h.lt.2.2.1 hB.size, Nat.lt_of_lt_of_le h.lt.2.2.2.1 hB.size, Nat.lt_of_lt_of_le h.lt.2.2.2.2.1 hB.size, Nat.lt_of_lt_of_le h.lt.2.2.2.2.2.1 hB.size, Nat.lt_of_lt_of_le h.lt.2.2.2.2.2.2.1 hB.size, Nat.lt_of_lt_of_le h.lt.2.2.2.2.2.2.2.1 hB.size, Nat.lt_of_lt_of_le h.lt.2.2.2.2.2.2.2.2 hB.size⟩, h.fm, h.cw⟩
set_option maxRecDepth 100000 in
set_option maxHeartbeats 2000000 in
theorem trStart_c {G : Gh} {u : World} {rv : Value} (h : HMain w ins (Tr.trName :: sa) [] l1 l2 l3 (.read buf) trU (TrQ t ins)) (hl : sa.length ≤ 3) (hR : Rdy G u ins (Tr.trName :: sa) rv) (e1 : G.faults = []) (e2 : G.l1 = l1 ∧ G.l2 = l2 ∧ G.l3 = l3) (hT : Turn [] w u) :
    Calls Tryz.prog 42 #[ptr G.p] u (Started G u 119 trU (.read buf)) := by
  have hut := utils_c u
  have HS : Hid (∀ u1, MapS u1 u.heap.size 1 (fun d => if d = Tr.trName then some trU else none) → Below u.heap.size u u1 → Rdy G u1 ins (Tr.trName :: sa) rv → Calls Tryz.prog 74 #[ptr G.p, .map (some u.heap.size)] u1 (Started G u1 119 trU (.read buf))) := fun u1 hm1 hB1 hR1 =>
    tstart_c h Tr.trName rfl (by decide) (by simp; omega) hR1 e1 e2 (hT.trans (Turn.below hB1)) hm1 (by rw [if_pos rfl]) (fun _ _ => by kernel_rfl)
  have HR := Lib.hid hR
  clear h hR
  go_enter Tryz.func42, Tryz.ntmps42
  go_wp2_with (go_at_call 75; refine hut.mono ?_; rintro e u1 ⟨rfl, hm1, hB1⟩; have hst := HS.out u1 hm1 hB1 (HR.out.below hB1); have HB1 := Lib.hid hB1; clear hm1 hB1 hut)
  refine hst.mono ?_
  rintro e u2 h2
  obtain ⟨m1, h3⟩ : ∃ m1, e = .returned (ptr m1) := let ⟨m1, _, _, h, _⟩ := h2; ⟨m1, h⟩
  subst h3
  go_wp2_with fail
  go_ret
  exact h2.from HB1.out
end
end Go.Proofs.YtfkoehfkiommpaaGreatDoor

namespace Go.Proofs.YtfkoehfkiommpaaGreatDoor
open Go.RowKit Go.Shelf Go.Maps

/-- What is known of the library's own variable. -/
def AmbT (w : World) : Prop := ∃ m, w.cell? ⟨0, 0, none⟩ = some (.int .i64 m)
theorem amb_keep (w w' : World) (h : AmbT w) (hB : Below w.heap.size w w') : AmbT w' := let ⟨m, hm⟩ := h; ⟨m, (hB.cell (p := ⟨0, 0, none⟩) (World.block_lt_of_cell? _ _ hm)).trans hm⟩
theorem pnew_says : PNewSays := fun k av ev sa se cwd l1 l2 l3 w => pnew_c k av ev sa se cwd l1 l2 l3 w
set_option maxRecDepth 100000 in
set_option maxHeartbeats 4000000 in
theorem trRun_c (av iv : Value) (sa : List ByteArray) (ins : List UInt8) (l1 l2 l3 : Int) (t : Tr.Tr) (w : World) (hA : AmbT w) (hS : Op.StrsAt w av (Tr.trName :: sa)) (hI : Tr.ByAt w iv ins) (hin : ins.length ≤ 1048576) (hl : sa.length ≤ 3) (htt : Op.tot sa ≤ 4096) (hlm : Tr.LimOk l1 l2 l3) (hT : Tr.trA sa = some t) (hpl : Tr.plainA sa = true) :
    Calls Tryz.prog 22 #[Tr.jobT av iv l1 l2 l3] w (Tr.RunT w (t.all ins)) := by
  obtain ⟨m, hm⟩ := hA
  obtain ⟨⟨h1a, h1b⟩, h2a, h23, h3b⟩ := hlm
  obtain ⟨buf, hbuf⟩ : ∃ buf : Nat, l1 = (buf : Int) := ⟨l1.toNat, by omega⟩
  subst hbuf
  have hrun : ∀ W, Below w.heap.size w W → Calls Tryz.prog 41 #[jobV av (.slice none 0 0) iv (buf : Int) l2 l3 (.slice none 0 0) 0 (.slice none 0 0), .func (.func 42) #[] #[]] W (RunOut W (TrQ t ins)) := fun W hB => by
    have hmW : W.cell? ⟨0, 0, none⟩ = some (.int .i64 m) := (hB.cell (p := ⟨0, 0, none⟩) (World.block_lt_of_cell? _ _ hm)).trans hm
    have hM : HMain W ins (Tr.trName :: sa) [] (buf : Int) l2 l3 (.read buf) trU (TrQ t ins) := tr_main hmW hT hpl hl htt rfl (by omega) (by omega) hin
    refine util_run (u0 := trU) (c0 := .read buf) pnew_says av (.slice none 0 0) iv (.slice none 0 0) 0 [] (Tr.trName :: sa) [] ins (buf : Int) l2 l3 0 m 42 W hmW (hS.below hB) (.inl ⟨rfl, rfl⟩) (hI.below hB) ?_ (by simp) (by simp; omega) (by simp) hin (by simp) ⟨h1a, h1b⟩ ⟨h2a, by omega⟩ ⟨by omega, h3b⟩ h23 (by decide) ?_ ?_ (fun st s2 hq => ?_) (fun _ _ => by kernel_rfl) (fun _ _ => by kernel_rfl) hM (fun G u rv hR e1 e2 hTu => trStart_c hM hl hR e1 e2 hTu)
    · exact ⟨none, 0, rfl, Nat.le_refl _, by simp, .inl ⟨rfl, rfl, rfl⟩⟩
    · simp [Mild]
    · exact ⟨fun _ => by show 1 ≤ buf; omega, fun h => by cases h⟩
    · obtain ⟨q1, q2⟩ := hq
      rw [q1, q2]
      exact ⟨Nat.le_trans (Tr.all_len t ins) hin, by simp⟩
  obtain ⟨xa, ca, rfl⟩ : ∃ a c, av = .slice a (sa.length + 1) c := Op.strs_slice hS
  obtain ⟨xi, ci, rfl⟩ := hI.shape
  have hJB : Below w.heap.size w ((w.alloc (.cells #[.slice xa (sa.length + 1) ca, .slice none 0 0, .string ⟨#[]⟩, .slice xi ins.length ci, .slice none 0 0, .int .i64 (buf : Int), .int .i64 l2, .int .i64 l3, .slice none 0 0, .int .i64 0, .slice none 0 0] 36)).alloc (.cells Tr.res0 38)) := ((Below.refl _ w).alloc (Nat.le_refl _) _).alloc (by simp) _
  have hr1 := hrun _ hJB
  have hres : ((w.alloc (.cells #[.slice xa (sa.length + 1) ca, .slice none 0 0, .string ⟨#[]⟩, .slice xi ins.length ci, .slice none 0 0, .int .i64 (buf : Int), .int .i64 l2, .int .i64 l3, .slice none 0 0, .int .i64 0, .slice none 0 0] 36)).alloc (.cells Tr.res0 38)).heap[w.heap.size + 1]? = some (.cells Tr.res0 38 (0, 0)) := al_new _ _ (by simp)
  unfold Tr.res0 at hJB hr1 hres
  unfold jobV sE at hr1
  have HR := Lib.hid (And.intro hJB hres)
  clear hrun hm hS hI hT hpl hJB hres
  go_enter Tryz.func22, Tryz.ntmps22
  go_wp2_with (go_at_call 41; refine hr1.mono ?_; rintro e w3 ⟨ov, ev, st, s2, rfl, ho3, he3, hq3, hB3⟩; obtain ⟨oa, oc, rfl⟩ := Op.own_slice2 ho3; obtain ⟨ea, ec, rfl⟩ := Op.own_slice2 he3; have hR3 := (hB3.block (w.heap.size + 1) (h_lt HR.out.2)).trans HR.out.2; have v0 := h_cell hR3 0 rfl; have v1 := h_cell hR3 1 rfl; have v2 := h_cell hR3 2 rfl; have v3 := h_cell hR3 3 rfl; have v4 := h_cell hR3 4 rfl; have v5 := h_cell hR3 5 rfl; have v6 := h_cell hR3 6 rfl; have y0 := h_fz hR3 0; have y1 := h_fz hR3 1; have y2 := h_fz hR3 2; have y3 := h_fz hR3 3; have y4 := h_fz hR3 4; have y5 := h_fz hR3 5; have y6 := h_fz hR3 6; have HO := Lib.hid (And.intro ho3 (And.intro hq3 (And.intro hB3 hR3))); clear ho3 he3 hq3 hB3 hR3 hr1)
  refine bodyPost_ret (Tr.results_rs rfl rfl (Tr.set7 HO.out.2.2.2 _ _ _ _ _ _ _) rfl) rfl ?_
  have hrow : Tr.Row w3 (w.heap.size + 1 + 1) (.slice oa s2.k.out.length oc) s2.k.out := by
    have h := HO.out.1
    simp only [World.size_alloc] at h
    exact h
  have hfin := Tr.row7 hrow (.slice oa s2.k.out.length oc) (.slice ea s2.k.err.length ec) (.int .i64 st) (.slice none 0 0) (.int .i64 s2.steps) (.int .i64 s2.peak) (.int .i64 s2.k.used)
  have hqo := HO.out.2.1.1
  refine ⟨_, ea, s2.k.err.length, ec, st, s2.steps, s2.peak, s2.k.used, rfl, ?_, Tr.below7 (HR.out.1.trans (HO.out.2.2.1.mono HR.out.1.size)) (Nat.le_succ _) _ _ _ _ _ _ _⟩
  have h2 := Tr.row_low hfin (B' := w.heap.size) (by omega)
  rw [← hqo]
  exact h2
/-- What was asked of the program, the landed one keeps. -/
theorem says_tr : Tr.Says AmbT := ⟨amb_keep, fun s w ⟨m, hm⟩ hs => Tr.set_c s w m hm hs, fun av iv sa ins l1 l2 l3 t w hA hS hI hin hl htt hlm hT hpl => trRun_c av iv sa ins l1 l2 l3 t w hA hS hI hin hl htt hlm hT hpl⟩
end Go.Proofs.YtfkoehfkiommpaaGreatDoor

namespace Go.Proofs.YtfkoehfkiommpaaGreatDoor.Tr
open Go.Proofs.YtfkoehfkiommpaaGreatDoor.Op
open Go.RowKit

theorem plain_d (x : List UInt8) : plainA [⟨#[45, 100]⟩, ⟨(codeL x).toArray⟩] = true := by
  rw [plainA, parse_d]
  simp [plainR, hasO]
theorem plain_s (x : List UInt8) : plainA [⟨#[45, 115]⟩, ⟨(codeL x).toArray⟩] = true := by
  rw [plainA, parse_s]
  simp [plainR, hasO]
theorem plain_cd (x : List UInt8) : plainA [⟨#[45, 99, 100]⟩, ⟨(codeL x).toArray⟩] = true := by
  rw [plainA, parse_cd]
  simp [plainR, hasO]
theorem plain_two (x y : List UInt8) : plainA [⟨(codeL x).toArray⟩, ⟨(codeL y).toArray⟩] = true := by
  rw [plainA, parse_ops _ _ _ (code_head x)]
  simp [plainR, hasO, set_code]
end Go.Proofs.YtfkoehfkiommpaaGreatDoor.Tr
