/- The landed Read, Keys and Compare say what the document says. -/
import Derived.Test.YtdgnbcbcfgfkmaaDoorR14
namespace Go.Proofs.YtdgnbcbcfgfkmaaDoor
open Go.RowKit Go.Shelf

theorem whole_cmp (x : Nat) (hx : x < 64) : cmpF (x &&& 32) = fun a b => flip1 ((fgOf x x).r) (cmpL a b) := by
  have h1 : ∀ x, x < 64 → (x &&& 32).testBit 5 = x.testBit 5 ∧ (x &&& 32).testBit 4 = false ∧ ((x &&& 32).testBit 1 || (x &&& 32).testBit 2 || (x &&& 32).testBit 3) = false := by decide +kernel
  obtain ⟨e1, e2, e3⟩ := h1 x hx
  funext a b
  unfold cmpF
  rw [e1, e2, kept_all _ e3, kept_all _ e3]
  have : (fgOf x x).r = x.testBit 5 := by simp [fgOf]
  rw [this]
  rfl
theorem and_lt (x : Nat) (hx : x < 64) : x &&& 32 < 64 := Nat.lt_of_le_of_lt Nat.and_le_left hx
set_option maxHeartbeats 2000000 in
set_option maxRecDepth 100000 in
theorem readL_c (v : Value) (l : Opts) (w : World) (hl : l.length ≤ 2097152) (hq : ∀ q ∈ l, q.2.size ≤ 2097152) (hO : OpAt w v l) :
    Calls Tryd.prog 8 #[v] w fun e w' => (match readS l with
      | none => e = .returned (.tuple #[.pointer none, .bool false])
      | some o => ∃ p, e = .returned (.tuple #[.pointer (some ⟨p, 0, none⟩), .bool true]) ∧ OrdL w' p o) ∧ Below w.heap.size w w' := by
  have h1 := partingOf_c v l w hl hq hO
  have H2 := Lib.hid (fun u (h : OpAt u v l) => flagsOf_c v l u hl h)
  have hall := flagsN_lt l 0 (by omega)
  have H3 := Lib.hid (fun u (h : OpAt u v l) => keysOf_c v l (flagsN l 0) u hl hq hall h)
  have hfg : flagsS l fg0 = fgOf (flagsN l 0) (flagsN l 0) := by rw [fg0_of, flagsS_fg]
  have HS : Hid (readS l = (keysS (fgOf (flagsN l 0) (flagsN l 0)) l []).bind fun ks => match lastS l 116 with | none => some ⟨fgOf (flagsN l 0) (flagsN l 0), none, orOne (fgOf (flagsN l 0) (flagsN l 0)) ks⟩ | some a => if a.size = 1 then some ⟨fgOf (flagsN l 0) (flagsN l 0), a.data.toList.head?, orOne (fgOf (flagsN l 0) (flagsN l 0)) ks⟩ else none) := by
    show _ = _
    unfold readS
    rw [hfg]
    rfl
  have HO := Lib.hid hO
  obtain ⟨x, cp, rfl⟩ := hO.shape
  have HW := Lib.hid (whole_cmp (flagsN l 0) hall)
  have hand : bits .and .u64 (flagsN l 0 : Int) (32 : Int) = ((flagsN l 0 &&& 32 : Nat) : Int) := bits_and_u64_nat (flagsN l 0) 32 (by omega) (by omega)
  have hcm := fun u => comparing_c (flagsN l 0 &&& 32) (and_lt _ hall) u
  clear hO hfg hq
  generalize flagsN l 0 = ALL at *
  generalize fgOf ALL ALL = g at *
  obtain ⟨RS, hRS⟩ : ∃ R, readS l = R := ⟨_, rfl⟩
  rw [hRS] at HS ⊢
  clear hRS
  generalize keysS g l [] = KS at *
  generalize lastS l 116 = LT at *
  go_enter Tryd.func8, Tryd.ntmps8
  go_wp2_with fail
  refine h1.mono ?_
  rintro e w1 ⟨⟨f, first, sep, ok, rfl, hfl, hsp⟩, hb1⟩
  have HFL := Lib.hid hfl
  have HSP := Lib.hid hsp
  have HB1 := Lib.hid hb1
  unfold partV
  have hsf := store_fn20 w1
  have hbA : Hid (∀ o, Below w.heap.size w (w1.alloc o)) := fun o => HB1.out.alloc HB1.out.size o
  clear h1 hfl hsp hb1
  cases ok with
  | false =>
    have hn : RS = none := by
      rw [HS.out]
      have hs := HSP.out
      cases LT with
      | none => exact absurd hs.2 (by simp)
      | some a =>
        have h2 : a.size ≠ 1 := fun e => absurd (hs.1 e).1 (by simp)
        cases KS with
        | none => rfl
        | some ks => show (if a.size = 1 then _ else none) = none; rw [if_neg h2]
    subst hn
    clear HS
    go_wp2_with fail
    go_ret2
    exact ⟨rfl, hbA.out _⟩
  | true =>
    have HS2 : Hid (RS = KS.bind fun ks => some ⟨g, sep, orOne g ks⟩) := by
      show _ = _
      rw [HS.out]
      have hs := HSP.out
      cases LT with
      | none => obtain ⟨rfl, _⟩ := hs; rfl
      | some a =>
        have h2 : a.size = 1 := by
          rcases Nat.decEq a.size 1 with h | h
          · exact absurd (hs.2 h) (by simp)
          · exact h
        rw [(hs.1 h2).2]
        simp only [if_pos h2]
    clear HS HSP
    have h2 := H2.out (w1.alloc (.cells #[.func (.func f) first #[], .int .i64 (btw sep : Int)] 44)) (HO.out.below (hbA.out _))
    go_wp2_with fail
    refine h2.mono ?_
    rintro e w2 ⟨rfl, hb2⟩
    have hP2 : w2.heap[w1.heap.size]? = some (.cells #[.func (.func f) first #[], .int .i64 (btw sep : Int)] 44) := (hb2.block w1.heap.size (by simp)).trans (by show (w1.heap.push _)[w1.heap.size]? = _; simp)
    have HB2 := Lib.hid (And.intro (below_then (hbA.out _) hb2) hP2)
    have h3 := H3.out w2 (HO.out.below HB2.out.1)
    clear h2 H2 H3 hb2 hP2 hsf hbA HB1
    go_wp2_with fail
    refine h3.mono ?_
    rintro e w3 ⟨hr3, hb3⟩
    have HB3 : Hid (Below w.heap.size w w3 ∧ w3.heap[w1.heap.size]? = some (.cells #[.func (.func f) first #[], .int .i64 (btw sep : Int)] 44)) := ⟨below_then HB2.out.1 hb3, (hb3.block _ (Array.getElem?_eq_some_iff.1 HB2.out.2).1).trans HB2.out.2⟩
    clear h3 hb3 HB2
    cases KS with
    | none =>
      have hn : RS = none := HS2.out
      subst hn
      have hr3' : e = .returned (.tuple #[.slice none 0 0, .bool false]) := hr3
      subst hr3'
      clear hr3 HS2
      go_wp2_with fail
      go_ret2
      exact ⟨rfl, HB3.out.1⟩
    | some ks =>
      obtain ⟨kv, rs, he, hrow, hrl, hok, hmx⟩ : ∃ kv rs, e = .returned (.tuple #[kv, .bool true]) ∧ w3.ownsRow 0 74 7 kv rs.length (krCells rs) ∧ rs.length = (orOne g ks).length ∧ (∀ i (h : i < (orOne g ks).length) (h' : i < rs.length), KOk (orOne g ks)[i] rs[i]) ∧ rs.length ≤ 2097153 := hr3
      subst he
      have hn : RS = some ⟨g, sep, orOne g ks⟩ := HS2.out
      subst hn
      obtain ⟨xk, ck, rfl⟩ := own_slice2 hrow
      have HR := Lib.hid (And.intro hrow (And.intro hrl (And.intro hok hmx)))
      have hd2 : w3.cell? ⟨w1.heap.size, 0, none⟩ = some (.func (.func f) first #[]) := cell_of HB3.out.2 0 rfl
      have hd3 : w3.cell? ⟨w1.heap.size, 1, none⟩ = some (.int .i64 (btw sep : Int)) := cell_of HB3.out.2 1 rfl
      have d0 : w3.drew.cell? ⟨w1.heap.size, 0, none⟩ = some (.func (.func f) first #[]) := hd2
      have d1 : w3.drew.cell? ⟨w1.heap.size, 1, none⟩ = some (.int .i64 (btw sep : Int)) := hd3
      have HE : Hid (∀ wf wfirst, FnC (.func (.func wf) wfirst #[]) (cmpF (ALL &&& 32)) → OrdL (w3.drew.alloc (.cells #[.func (.func f) first #[], .int .i64 (btw sep : Int), .slice xk rs.length ck, .func (.func wf) wfirst #[]] 56)) w3.heap.size ⟨g, sep, orOne g ks⟩) := by
        intro wf wfirst hw
        rw [HW.out] at hw
        have hbn : Below w3.heap.size w3 (w3.drew.alloc (.cells #[.func (.func f) first #[], .int .i64 (btw sep : Int), .slice xk rs.length ck, .func (.func wf) wfirst #[]] 56)) := (Below.refl w3.heap.size w3).drew.alloc (Nat.le_refl _) _
        exact ⟨⟨f, first, _, wf, wfirst, rs, by rw [heap_al]; exact if_pos rfl, HFL.out, hw, own_below HR.out.1 hbn, HR.out.2.1, HR.out.2.2.1, HR.out.2.2.2⟩⟩
      have HBn : Hid (∀ o, Below w.heap.size w (w3.drew.alloc o)) := fun o => below_then HB3.out.1 ((Below.refl w3.heap.size w3).drew.alloc (Nat.le_refl _) o)
      clear hrow hrl hok hmx hr3 HS2 HW HFL
      go_wp2_with fail
      go_region_with (go_at_call 22; refine (hcm _).mono ?_; rintro e w' ⟨⟨v, rfl, hv⟩, hw'⟩; rw [hw']; clear hw'; have HV := Lib.hid hv; obtain ⟨wf, wfirst, rfl, hg1, hg2⟩ := hv.ex; clear hg1 hg2 hv)
      all_goals
        go_wp2_with fail
        go_ret2
        exact ⟨⟨_, rfl, HE.out _ _ HV.out⟩, HBn.out _⟩
theorem says_order : Says OrdL where
  keep := OrdL.keep
  read := fun v l w h1 h2 h3 => readL_c v l w h1 h2 h3
  keys := fun p o va vb a b w hO ha hb hA hB => (keys_c p o va vb a b w hO ha hb hA hB).mono fun e w' ⟨h1, h2⟩ => ⟨_, h1, by have := o.cmK.rng a b; omega, sgI_of (o.cmK.rng a b), h2⟩
  cmp := fun p o va vb a b w hO ha hb hA hB => (compare_c p o va vb a b w hO ha hb hA hB).mono fun e w' ⟨h1, h2⟩ => ⟨_, h1, by have := o.cmC.rng a b; omega, sgI_of (o.cmC.rng a b), h2⟩
end Go.Proofs.YtdgnbcbcfgfkmaaDoor
