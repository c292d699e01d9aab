/- Two numbers compared, by the reference. -/
import Derived.Test.YtdgnbcbcfgfkmaaDoorQNum2
namespace Go.Proofs.YtdgnbcbcfgfkmaaDoor
open Go.RowKit

set_option maxHeartbeats 1000000 in
set_option maxRecDepth 100000 in
theorem number_nil (w : World) : Calls Tryd.prog 44 #[.slice none 0 0] w fun e w' => e = .returned (.tuple #[.bool (numN []), .string ⟨(numD []).toArray⟩]) ∧ Below w.heap.size w w' := by
  have hcv := conv_nil
  have hdg : Calls Tryd.prog 56 #[.string ⟨#[]⟩] w fun e w' => e = .returned (.int .i64 0) ∧ w' = w := digits_c ⟨#[]⟩ w (by decide)
  go_enter Tryd.func44, Tryd.ntmps44
  go_wp2_with fail
  go_loop [4] (fun i => i = .int .i64 0) (fun _ => 0)
  case atStart => exact rfl
  case round =>
    subst hrel
    go_wp2_with fail
    go_loop [4] (fun i => i = .int .i64 0) (fun _ => 0)
    case atStart => exact rfl
    case round =>
      subst hrel
      go_wp2_with (go_at_call 56; refine hdg.mono ?_; rintro e w' ⟨rfl, hw'⟩; rw [hw']; clear hw')
      go_region
      go_wp2_with fail
      go_ret2
      exact ⟨rfl, (Below.refl w.heap.size w).drew⟩
theorem number_c (v : Value) (d : List UInt8) (w : World) (hd : d.length ≤ 2097152) (hB : ByAt w v d) :
    Calls Tryd.prog 44 #[v] w fun e w' => e = .returned (.tuple #[.bool (numN d), .string ⟨(numD d).toArray⟩]) ∧ Below w.heap.size w w' := by
  rcases hB with ⟨rfl, rfl⟩ | ⟨b, off, cap, rfl, h2, h3, h4⟩
  · exact number_nil w
  · exact number_s b off cap d w hd h2.1 h2.2 h3 (fun j hj => by rw [h4 j hj]; simp [hj])

set_option maxHeartbeats 2000000 in
set_option maxRecDepth 100000 in
theorem nums_c (va vb : Value) (a b : List UInt8) (w : World) (ha : a.length ≤ 2097152) (hb : b.length ≤ 2097152) (hA : ByAt w va a) (hB : ByAt w vb b) :
    Calls Tryd.prog 29 #[va, vb] w fun e w' => e = .returned (.int .i64 (numsS a b)) ∧ Below w.heap.size w w' := by
  have h1 := number_c va a w ha hA
  have h2 := fun u (hu : Below w.heap.size w u) => number_c vb b u hb (hB.below hu)
  have H2 := Lib.hid h2
  have HR := Lib.hid (show numsS a b = if numN a = numN b then (if numN a then -cmpD (numD a) (numD b) else cmpD (numD a) (numD b)) else if numN a then -1 else 1 from rfl)
  have hrg := cmpL_rng (numD a) (numD b)
  have HCD := Lib.hid (show cmpD (numD a) (numD b) = if (numD a).length < (numD b).length then -1 else if (numD b).length < (numD a).length then 1 else cmpL (numD a) (numD b) from rfl)
  have ht := fun u => texts_c ⟨(numD a).toArray⟩ ⟨(numD b).toArray⟩ u
  generalize numsS a b = R at HR ⊢
  generalize cmpD (numD a) (numD b) = D at HR HCD
  clear h2 hA hB ha hb
  have ht2 : ∀ u, Calls Tryd.prog 27 #[.string ⟨(numD a).toArray⟩, .string ⟨(numD b).toArray⟩] u fun e w' => e = .returned (.int .i64 (cmpL (numD a) (numD b))) ∧ w' = u := ht
  clear ht
  generalize numD a = x at *
  generalize numD b = y at *
  generalize numN a = p at *
  generalize numN b = q at *
  go_enter Tryd.func29, Tryd.ntmps29
  go_wp2_with fail
  refine h1.mono ?_
  rintro e w1 ⟨rfl, hb1⟩
  have h2 := H2.out w1 hb1
  clear h1 H2
  go_wp2_with fail
  refine h2.mono ?_
  rintro e w2 ⟨rfl, hb2⟩
  have HB : Hid (Below w.heap.size w w2) := hb1.trans (hb2.mono hb1.size)
  clear h2 hb1 hb2
  cases p <;> cases q
  · have ht3 := ht2 w2
    generalize cmpL x y = L at *
    rcases (show x.length < y.length ∨ (¬ x.length < y.length ∧ y.length < x.length) ∨ (¬ x.length < y.length ∧ ¬ y.length < x.length) by omega) with k1 | ⟨k1, k2⟩ | ⟨k1, k2⟩
    all_goals
      go_wp2_with (go_at_call 27; refine ht3.mono ?_; rintro e w' ⟨rfl, hw'⟩; rw [hw']; clear hw')
      go_ret
      refine ⟨?_, HB.out⟩
      have e1 := HR.out
      have e2 := HCD.out
      simp at e1
      first
        | (rw [if_pos k1] at e2; subst e2; subst e1; rfl)
        | (rw [if_neg k1, if_pos k2] at e2; subst e2; subst e1; rfl)
        | (rw [if_neg k1, if_neg k2] at e2; subst e2; subst e1; rfl)
  · go_wp2_with fail
    go_ret
    exact ⟨by have e1 := HR.out; simp at e1; subst e1; rfl, HB.out⟩
  · go_wp2_with fail
    go_ret
    exact ⟨by have e1 := HR.out; simp at e1; subst e1; rfl, HB.out⟩
  · have ht3 := ht2 w2
    generalize cmpL x y = L at *
    have hwr : IntKind.i64.wrap (-L) = -L := IntWalk.i64_in _ (by omega)
    rcases (show x.length < y.length ∨ (¬ x.length < y.length ∧ y.length < x.length) ∨ (¬ x.length < y.length ∧ ¬ y.length < x.length) by omega) with k1 | ⟨k1, k2⟩ | ⟨k1, k2⟩
    all_goals
      go_wp2_with (go_at_call 27; refine ht3.mono ?_; rintro e w' ⟨rfl, hw'⟩; rw [hw']; clear hw')
      go_ret
      refine ⟨?_, HB.out⟩
      have e1 := HR.out
      have e2 := HCD.out
      simp at e1
      first
        | (rw [if_pos k1] at e2; subst e2; subst e1; rfl)
        | (rw [if_neg k1, if_pos k2] at e2; subst e2; subst e1; rfl)
        | (rw [if_neg k1, if_neg k2] at e2; subst e2; subst e1; rfl)
end Go.Proofs.YtdgnbcbcfgfkmaaDoor
