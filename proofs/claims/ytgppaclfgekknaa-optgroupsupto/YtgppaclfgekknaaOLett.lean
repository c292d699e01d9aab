/- The program's letters of a spec, in a map. -/
import Derived.Test.YtgppaclfgekknaaOPref
namespace Go.Proofs.Ytgppaclfgekknaa
open Go.RowKit Go.Maps

/-- What a map of letters holds behind the first k bytes of a spec. -/
def letF (spec : ByteArray) (k : Nat) (c : UInt8) : Option Value := if c = 58 ∨ c = 45 then none else if c ∈ spec.data.toList.take k then some (.int .i64 (kindL c spec.data.toList)) else none
theorem letF_all (spec : ByteArray) (c : UInt8) : letF spec spec.size c = if kindS spec c = 0 then none else some (.int .i64 (kindS spec c)) := by
  unfold letF kindS
  by_cases h : c = 58 ∨ c = 45
  · rw [if_pos h, if_pos h]; rfl
  · rw [if_neg h, if_neg h, List.take_of_length_le (show spec.data.toList.length ≤ spec.size from Nat.le_refl _)]
    by_cases hm : c ∈ spec.data.toList
    · rw [if_pos hm, if_neg (kindL_mem hm)]
    · rw [if_neg hm, if_pos (kindL_not hm)]
theorem letF_no {spec : ByteArray} {k : Nat} (h : k < spec.size) (hc : spec[k] = 58 ∨ spec[k] = 45) : letF spec (k + 1) = letF spec k := by
  funext c
  unfold letF
  by_cases h2 : c = 58 ∨ c = 45
  · rw [if_pos h2, if_pos h2]
  · rw [if_neg h2, if_neg h2, List.take_succ_eq_append_getElem (show k < spec.data.toList.length from h)]
    have : c ≠ spec[k] := fun e => h2 (by rw [e]; exact hc)
    have e : c ∈ spec.data.toList.take k ++ [spec.data.toList[k]'h] ↔ c ∈ spec.data.toList.take k := by
      rw [List.mem_append, List.mem_singleton]
      exact ⟨fun h => h.resolve_right this, .inl⟩
    simp only [e]
theorem letF_again {spec : ByteArray} {k : Nat} (h : k < spec.size) (hs : (letF spec k spec[k]).isSome = true) : letF spec (k + 1) = letF spec k := by
  funext c
  unfold letF at *
  by_cases h2 : c = 58 ∨ c = 45
  · rw [if_pos h2, if_pos h2]
  · rw [if_neg h2, if_neg h2, List.take_succ_eq_append_getElem (show k < spec.data.toList.length from h)]
    have hm : spec[k] ∈ spec.data.toList.take k := by
      by_cases h3 : spec[k] = 58 ∨ spec[k] = 45
      · rw [if_pos h3] at hs; cases hs
      · rw [if_neg h3] at hs
        by_cases h4 : spec[k] ∈ spec.data.toList.take k
        · exact h4
        · rw [if_neg h4] at hs; cases hs
    have e : c ∈ spec.data.toList.take k ++ [spec.data.toList[k]'h] ↔ c ∈ spec.data.toList.take k := by
      rw [List.mem_append, List.mem_singleton]
      exact ⟨fun h => h.elim id fun e => by rw [e]; exact hm, .inl⟩
    simp only [e]
theorem letF_new {spec : ByteArray} {k : Nat} (h : k < spec.size) (hc : ¬ (spec[k] = 58 ∨ spec[k] = 45)) :
    letF spec (k + 1) = fun d => if d = spec[k] then some (.int .i64 (kindL spec[k] spec.data.toList)) else letF spec k d := by
  funext c
  by_cases e : c = spec[k]
  · rw [if_pos e, e]
    unfold letF
    rw [if_neg hc, if_pos]
    rw [List.take_succ_eq_append_getElem (show k < spec.data.toList.length from h)]
    exact List.mem_append.2 (.inr (List.mem_singleton.2 rfl))
  · rw [if_neg e]
    unfold letF
    by_cases h2 : c = 58 ∨ c = 45
    · rw [if_pos h2, if_pos h2]
    · rw [if_neg h2, if_neg h2, List.take_succ_eq_append_getElem (show k < spec.data.toList.length from h)]
      have e3 : c ∈ spec.data.toList.take k ++ [spec.data.toList[k]'h] ↔ c ∈ spec.data.toList.take k := by
        rw [List.mem_append, List.mem_singleton]
        exact ⟨fun h => h.resolve_right e, .inl⟩
      simp only [e3]
theorem letF_val {spec : ByteArray} {k : Nat} (h : k < spec.size) (hs : (letF spec k spec[k]).isSome = false) (hc : ¬ (spec[k] = 58 ∨ spec[k] = 45)) : kindL spec[k] spec.data.toList = if (spec.data.toList.drop (k + 1)).head? = some 58 then 2 else 1 := by
  unfold letF at hs
  rw [if_neg hc] at hs
  have hm : spec[k] ∉ spec.data.toList.take k := fun hm => by rw [if_pos hm] at hs; cases hs
  rw [kindL_at spec[k] spec.data.toList k (fun j hj e => hm (by
    have := List.mem_iff_getElem?.2 ⟨j, (List.getElem?_take (l := spec.data.toList) (i := k) (j := j)).trans (by rw [if_pos hj]; exact e)⟩
    exact this)), by_drop spec k h, kindL, if_pos rfl]

theorem zeroKind (w : World) : (zeroValue 40).run Try.prog w = .ok (.int .i64 0) w := by kernel_rfl
theorem letF_kind {spec : ByteArray} {k : Nat} (h : k < spec.size) (hs : (letF spec k spec[k]).isSome = true) : ∃ m : Nat, m ≠ 0 ∧ m ≤ 2 ∧ letF spec k spec[k] = some (.int .i64 m) := by
  unfold letF at *
  by_cases h3 : spec[k] = 58 ∨ spec[k] = 45
  · rw [if_pos h3] at hs; cases hs
  · rw [if_neg h3] at hs ⊢
    by_cases h4 : spec[k] ∈ spec.data.toList.take k
    · rw [if_pos h4]
      exact ⟨_, kindL_mem (List.mem_of_mem_take h4), kindL_le _ _, rfl⟩
    · rw [if_neg h4] at hs; cases hs
theorem two_puts {f : UInt8 → Option Value} {c : UInt8} {v v' : Value} : (fun d => if d = c then some v' else (fun d => if d = c then some v else f d) d) = fun d => if d = c then some v' else f d := by
  funext d
  by_cases h : d = c <;> simp [h]

set_option maxHeartbeats 2000000 in
set_option maxRecDepth 100000 in
theorem letters_c (spec : ByteArray) (w : World) (hs : spec.size ≤ 2097152) :
    Calls Try.prog 13 #[.string spec] w fun e w' => e = .returned (.map (some w.heap.size)) ∧ (∃ n, MapAt w' w.heap.size n (letF spec spec.size)) ∧ Below w.heap.size w w' := by
  have HT := Lib.hid Try.underlying37
  have hmk : ∀ u : World, (Instr.makeMap 37 none).run Try.prog u = .ok (.map (some u.heap.size)) (u.alloc (.map #[] 0)) := fun _ => rfl
  go_enter Try.func13, Try.ntmps13
  go_wp2
  go_loopw [9] (fun i wr => ∃ (k n : Nat), k ≤ spec.size ∧ n ≤ 2 * k ∧ i = .int .i64 k ∧ Hid (MapAt wr w.heap.size n (letF spec k)) ∧ Below w.heap.size w wr) (fun i _ => spec.size - (intOf i).toNat)
  case atStart => exact ⟨0, 0, by omega, by omega, rfl, by have := MapAt.made w; rwa [show (fun _ => none) = letF spec 0 from funext fun c => by simp [letF]] at this, (Below.refl _ _).alloc (Nat.le_refl _) _⟩
  case round =>
    obtain ⟨k, n, hk, hn, rfl, HM, hbl⟩ := hrel
    by_cases hlt : k < spec.size
    · by_cases hc : spec[k] = 58 ∨ spec[k] = 45
      · have HM2 := HM.out
        rw [← letF_no hlt hc] at HM2
        have HM3 := Lib.hid HM2
        clear HM2
        rcases hc with h | h
        · have b1 : ((spec[k].toNat : Int) == 58) = true := by rw [h]; rfl
          clear h
          go_wp2
          exact ⟨⟨k + 1, n, by omega, by omega, by go_num, HM3, hbl⟩, by simp [intOf]; omega⟩
        · have b1 : ((spec[k].toNat : Int) == 58) = false := by rw [h]; rfl
          have b2 : ((spec[k].toNat : Int) == 45) = true := by rw [h]; rfl
          clear h
          go_wp2
          exact ⟨⟨k + 1, n, by omega, by omega, by go_num, HM3, hbl⟩, by simp [intOf]; omega⟩
      · have b1 : ((spec[k].toNat : Int) == 58) = false := u8_no 58 (by omega) (fun e => hc (.inl e))
        have b2 : ((spec[k].toNat : Int) == 45) = false := u8_no 45 (by omega) (fun e => hc (.inr e))
        have hlk := HM.out.look1 HT.out (zeroKind wr) spec[k]
        by_cases hso : (letF spec k spec[k]).isSome = true
        · have HM2 := HM.out
          rw [← letF_again hlt hso] at HM2
          have HM3 := Lib.hid HM2
          obtain ⟨m, hm0, hm2, hmm⟩ := letF_kind hlt hso
          rw [hmm, Option.getD_some] at hlk
          have b3 : ((m : Int) != 0) = true := by simp; omega
          clear HM2 hso hc hmm
          go_wp2
          exact ⟨⟨k + 1, n, by omega, by omega, by go_num, HM3, hbl⟩, by simp [intOf]; omega⟩
        · have hso' : (letF spec k spec[k]).isSome = false := by simpa using hso
          have hno : letF spec k spec[k] = none := by simpa using hso'
          rw [hno, Option.getD_none] at hlk
          have hval := letF_val hlt hso' hc
          have hnew := letF_new hlt hc
          obtain ⟨w2, hup, hm2, hg2⟩ := HM.out.put HT.out (by unfold maxLen; omega) spec[k] (.int .i64 1)
          have hbl2 : Below w.heap.size w w2 := hbl.grown hg2 hbl.size (fun j ej => by cases ej; exact Nat.le_refl _)
          have hpr := fun u => pref2_c (spec.extract (k + 1) spec.size) 58 u (by simp; omega)
          have hex : (spec.extract (k + 1) spec.size).data.toList = spec.data.toList.drop (k + 1) := by rw [by_tail]
          rw [hex] at hpr
          have hw1 : IntKind.i64.wrap ((k : Int) + 1) = (k : Int) + 1 := IntWalk.i64_in _ (by omega)
          by_cases hy : (spec.data.toList.drop (k + 1)).head? = some 58
          · rw [if_pos hy] at hval
            rw [hval] at hnew
            simp only [hy, decide_true] at hpr
            obtain ⟨w3, hup3, hm3, hg3⟩ := hm2.put HT.out (by unfold maxLen; omega) spec[k] (.int .i64 2)
            rw [two_puts] at hm3
            have HM3 : Hid (MapAt w3 w.heap.size (n + 1 + 1) (letF spec (k + 1))) := by show MapAt _ _ _ _; rw [hnew]; exact hm3
            have hbl3 : Below w.heap.size w w3 := hbl2.grown hg3 hbl2.size (fun j ej => by cases ej; exact Nat.le_refl _)
            clear hy hval hnew hm2 hg2 hso hso' hc hm3 hg3 hno hex
            go_wp2_with (go_at_call 16; refine (hpr _).mono ?_; rintro e w1 ⟨rfl, rfl⟩)
            exact ⟨⟨k + 1, n + 1 + 1, by omega, by omega, by go_num, HM3, hbl3⟩, by simp [intOf]; omega⟩
          · rw [if_neg hy] at hval
            rw [hval] at hnew
            simp only [hy, decide_false] at hpr
            have HM3 : Hid (MapAt w2 w.heap.size (n + 1) (letF spec (k + 1))) := by show MapAt _ _ _ _; rw [hnew]; exact hm2
            clear hy hval hnew hm2 hg2 hso hso' hc hno hex
            go_wp2_with (go_at_call 16; refine (hpr _).mono ?_; rintro e w1 ⟨rfl, rfl⟩)
            exact ⟨⟨k + 1, n + 1, by omega, by omega, by go_num, HM3, hbl2⟩, by simp [intOf]; omega⟩
    · obtain rfl : k = spec.size := by omega
      have hkI : ¬ ((spec.size : Int) < (spec.size : Int)) := by omega
      go_wp2
      go_ret
      exact ⟨rfl, ⟨n, HM.out⟩, hbl⟩
end Go.Proofs.Ytgppaclfgekknaa
