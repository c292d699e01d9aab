/- The contracts of what a path leads to: find, Find, Stat. -/
import Derived.Test.YtbbmihlabllliaaGreatDoorRemove
namespace Go.Proofs.YtbbmihlabllliaaGreatDoor
open Go.RowKit Go.Shelf Go.Maps

def findF (g : Graph) (root home : Nat) (s : ByteArray) : Except Int Nat :=
  if s.toList.isEmpty = true then .error 1
  else if isEnd s = true then toDir g (if isAbs s = true then root else home) s
  else leadF g (if isAbs s = true then root else home) (ptsOf s)

set_option maxRecDepth 100000 in
set_option maxHeartbeats 4000000 in
theorem findFrom_c (g : Graph) (hcl : Closed g) (t root home : Nat) (fm nm la : Value) (s : ByteArray) (m : Int) (w : World) (hs : s.size ≤ 2147483648) (hA : Amb g m w) (hT : TrAt w t (ptr root) fm nm la) (h0 : (g root).isSome = true) (h1 : (g home).isSome = true) (hne : s.toList.isEmpty = false) :
    Calls Tryz.prog 110 #[.pointer (some ⟨t, 0, none⟩), .pointer (some ⟨home, 0, none⟩), .string s] w fun e w' => e = .returned (leadV (findF g root home s)) ∧ Below w.heap.size w w' := by
  obtain ⟨st, hst⟩ : ∃ st, (if isAbs s = true then root else home) = st := ⟨_, rfl⟩
  have hst1 : (g st).isSome = true := by rw [← hst]; split <;> assumption
  have hstart := start_c t root home fm nm la s w hT
  rw [hst] at hstart
  simp only [ptr] at hstart
  rw [findF, if_neg (by rw [hne]; decide), hst]
  have hends := ends_c s w (by omega)
  cases hr : isEnd s with
  | true =>
    rw [hr] at hends
    rw [if_pos rfl]
    have hl := toDir_c g hcl st s m w hs hA hst1
    clear hA hT
    cases hv : toDir g st s with
    | error e =>
      rw [hv] at hl
      simp only [leadV] at hl
      go_enter Tryz.func110, Tryz.ntmps110
      go_wp2_with (first
        | (go_at_call 147; refine hstart.mono ?_; rintro e w2 ⟨rfl, hw⟩; rw [hw])
        | (go_at_call 148; refine hends.mono ?_; rintro e w2 ⟨rfl, hw⟩; rw [hw])
        | (go_at_call 146; refine hl.mono ?_; rintro e w2 ⟨rfl, hB⟩))
      refine bodyPost_ret (results_tmp2 rfl _ _ _) rfl ?_
      exact ⟨rfl, hB⟩
    | ok b =>
      rw [hv] at hl
      simp only [leadV] at hl
      go_enter Tryz.func110, Tryz.ntmps110
      go_wp2_with (first
        | (go_at_call 147; refine hstart.mono ?_; rintro e w2 ⟨rfl, hw⟩; rw [hw])
        | (go_at_call 148; refine hends.mono ?_; rintro e w2 ⟨rfl, hw⟩; rw [hw])
        | (go_at_call 146; refine hl.mono ?_; rintro e w2 ⟨rfl, hB⟩))
      refine bodyPost_ret (results_tmp2 rfl _ _ _) rfl ?_
      exact ⟨rfl, hB⟩
  | false =>
    rw [hr] at hends
    rw [if_neg (by decide)]
    have hl := lead_c name_says g hcl st s m w hs hA.m hA.gr hst1
    clear hA hT
    cases hv : leadF g st (ptsOf s) with
    | error e =>
      rw [hv] at hl
      simp only [leadV] at hl
      go_enter Tryz.func110, Tryz.ntmps110
      go_wp2_with (first
        | (go_at_call 147; refine hstart.mono ?_; rintro e w2 ⟨rfl, hw⟩; rw [hw])
        | (go_at_call 148; refine hends.mono ?_; rintro e w2 ⟨rfl, hw⟩; rw [hw])
        | (go_at_call 149; refine hl.mono ?_; rintro e w2 ⟨rfl, hB⟩))
      refine bodyPost_ret (results_tmp2 rfl _ _ _) rfl ?_
      exact ⟨rfl, hB⟩
    | ok b =>
      rw [hv] at hl
      simp only [leadV] at hl
      go_enter Tryz.func110, Tryz.ntmps110
      go_wp2_with (first
        | (go_at_call 147; refine hstart.mono ?_; rintro e w2 ⟨rfl, hw⟩; rw [hw])
        | (go_at_call 148; refine hends.mono ?_; rintro e w2 ⟨rfl, hw⟩; rw [hw])
        | (go_at_call 149; refine hl.mono ?_; rintro e w2 ⟨rfl, hB⟩))
      refine bodyPost_ret (results_tmp2 rfl _ _ _) rfl ?_
      exact ⟨rfl, hB⟩

set_option maxRecDepth 100000 in
set_option maxHeartbeats 4000000 in
theorem find_c (g : Graph) (hcl : Closed g) (t root home : Nat) (fm nm la : Value) (cwd s : ByteArray) (m : Int) (w : World) (hcs : cwd.size ≤ 2147483648) (hs : s.size ≤ 2147483648) (hA : Amb g m w) (hT : TrAt w t (ptr root) fm nm la) (h0 : (g root).isSome = true) (h1 : (g home).isSome = true) (hne : s.toList.isEmpty = false) (hh : toDir g root cwd = .ok home) :
    Calls Tryz.prog 56 #[.pointer (some ⟨t, 0, none⟩), .string cwd, .string s] w fun e w' => e = .returned (leadV (findF g root home s)) ∧ Below w.heap.size w w' := by
  have hho := home_c g hcl t root fm nm la cwd m w hcs hA hT h0
  rw [hh] at hho
  simp only [leadV] at hho
  have HV : Hid (∀ w2, Below w.heap.size w w2 → Calls Tryz.prog 110 #[.pointer (some ⟨t, 0, none⟩), .pointer (some ⟨home, 0, none⟩), .string s] w2 fun e w' => e = .returned (leadV (findF g root home s)) ∧ Below w2.heap.size w2 w') :=
    fun w2 hB => findFrom_c g hcl t root home fm nm la s m w2 hs (hA.below hB) (hT.below hB hT.lt) h0 h1 hne
  clear hA hT
  cases hv : findF g root home s with
  | error e =>
    rw [hv] at HV
    simp only [leadV] at HV
    go_enter Tryz.func56, Tryz.ntmps56
    go_wp2_with (first
      | (go_at_call 109; refine hho.mono ?_; rintro r w2 ⟨rfl, hB2⟩; have hvv := HV.out w2 hB2)
      | (go_at_call 110; refine hvv.mono ?_; rintro e w3 ⟨rfl, hB3⟩))
    refine bodyPost_ret (results_tmp2 rfl _ _ _) rfl ?_
    exact ⟨rfl, hB2.trans (hB3.mono hB2.size)⟩
  | ok b =>
    rw [hv] at HV
    simp only [leadV] at HV
    go_enter Tryz.func56, Tryz.ntmps56
    go_wp2_with (first
      | (go_at_call 109; refine hho.mono ?_; rintro r w2 ⟨rfl, hB2⟩; have hvv := HV.out w2 hB2)
      | (go_at_call 110; refine hvv.mono ?_; rintro e w3 ⟨rfl, hB3⟩))
    refine bodyPost_ret (results_tmp2 rfl _ _ _) rfl ?_
    exact ⟨rfl, hB2.trans (hB3.mono hB2.size)⟩

end Go.Proofs.YtbbmihlabllliaaGreatDoor
