/- The program's own small functions of options: a prefix of one byte, whether an argument is an operand; Last and Has. -/
import Derived.Test.YteimilnecahifaaGreatDoorYMap
import Derived.WalkMore
import Derived.Deep.LoopGhost
namespace Go.Proofs.YteimilnecahifaaGreatDoor.Op
open Go.RowKit Go.Maps

theorem head_false {s : ByteArray} {c : UInt8} (h : s.size = 0) : s.data.toList.head? ≠ some c := by
  have : s.data.toList = [] := List.eq_nil_of_length_eq_zero h
  rw [this]; simp
theorem head_at {s : ByteArray} (h : 0 < s.size) : s.data.toList.head? = some s[0] := by
  have := by_drop s 0 h
  rw [List.drop_zero] at this
  rw [this]; rfl
theorem one_toList (s : ByteArray) (h : 0 < s.size) : (s.extract 0 1).toList = [s[0]] := by
  have e : s.extract 0 1 = ⟨#[s[0]]⟩ := by
    apply ByteArray.ext
    rw [ByteArray.data_extract]
    have h1 : (s.data.extract 0 1).size = 1 := by simp; omega
    apply Array.ext (by rw [h1]; rfl)
    intro i hi hi2
    have : i = 0 := by simp at hi2; omega
    subst this
    simp; rfl
  rw [e, ByteArray.toList_eq]

set_option maxHeartbeats 1000000 in
theorem pref_c (s : ByteArray) (c : UInt8) (w : World) (hs : s.size ≤ 4194304) :
    Calls Tryz.prog 184 #[.string s, .string ⟨#[c]⟩] w fun e w' => e = .returned (.bool (decide (s.data.toList.head? = some c))) ∧ w' = w := by
  have h1 : (⟨#[c]⟩ : ByteArray).size = 1 := rfl
  by_cases h0 : 0 < s.size
  · have e1 := one_toList s h0
    have e2 := head_at h0
    have e3 : (⟨#[c]⟩ : ByteArray).toList = [c] := by rw [ByteArray.toList_eq]
    go_enter Tryz.func184, Tryz.ntmps184
    go_wp2
    go_ret
    rw [e2]
    exact ⟨by show Ending.returned (.bool (s[0] == c)) = _; by_cases h : s[0] = c <;> simp [h], rfl⟩
  · have e2 := head_false (c := c) (show s.size = 0 by omega)
    go_enter Tryz.func184, Tryz.ntmps184
    go_wp2
    go_ret
    exact ⟨rfl, rfl⟩
theorem pref2_c (s : ByteArray) (c : UInt8) (w : World) (hs : s.size ≤ 4194304) :
    Calls Tryz.prog 152 #[.string s, .string ⟨#[c]⟩] w fun e w' => e = .returned (.bool (decide (s.data.toList.head? = some c))) ∧ w' = w := by
  go_enter Tryz.func152, Tryz.ntmps152
  go_wp2_with (go_at_call 184; refine (pref_c s c w hs).mono ?_; rintro e w1 ⟨rfl, rfl⟩)
  go_ret
  exact ⟨rfl, rfl⟩

/-- An argument that is an operand. -/
abbrev IsOp (a : ByteArray) : Prop := a.size < 2 ∨ a.data.toList.head? ≠ some 45
theorem isOp_dash {a : ByteArray} (h : (a.toList == [45]) = true) : IsOp a := by
  have : a.toList = [45] := by simpa using h
  rw [ByteArray.toList_eq] at this
  refine .inl ?_
  have e : a.size = a.data.toList.length := rfl
  rw [e, this]; decide
theorem isOp_head {a : ByteArray} (h : (a.toList == [45]) = false) (h2 : a.data.toList.head? = some 45) : ¬ IsOp a := by
  have h1 : a.data.toList ≠ [45] := by
    rw [beq_eq_false_iff_ne, ByteArray.toList_eq] at h; exact h
  intro ho
  rcases ho with ho | ho
  · have e : a.size = a.data.toList.length := rfl
    rw [e] at ho
    generalize a.data.toList = l at *
    match l, h1, h2, ho with
    | [x], h1, h2, _ => simp at h2; subst h2; exact h1 rfl
    | _ :: _ :: _, _, _, ho => simp at ho; omega
  · exact ho h2

set_option maxHeartbeats 1000000 in
theorem isOp_c (a : ByteArray) (w : World) (hs : a.size ≤ 4194304) :
    Calls Tryz.prog 179 #[.string a] w fun e w' => e = .returned (.bool (decide (IsOp a))) ∧ w' = w := by
  cases h1 : (a.toList == [45]) with
  | true =>
    have ho := isOp_dash h1
    go_enter Tryz.func179, Tryz.ntmps179
    go_wp2
    go_ret
    exact ⟨by simp [ho], rfl⟩
  | false =>
    by_cases h2 : a.data.toList.head? = some 45
    · have ho := isOp_head h1 h2
      go_enter Tryz.func179, Tryz.ntmps179
      go_wp2_with (go_at_call 152; refine (pref2_c a 45 w hs).mono ?_; rintro e w1 ⟨rfl, rfl⟩)
      go_ret
      exact ⟨by simp [ho], rfl⟩
    · have ho : IsOp a := .inr h2
      go_enter Tryz.func179, Tryz.ntmps179
      go_wp2_with (go_at_call 152; refine (pref2_c a 45 w hs).mono ?_; rintro e w1 ⟨rfl, rfl⟩)
      go_ret
      exact ⟨by simp [ho], rfl⟩

end Go.Proofs.YteimilnecahifaaGreatDoor.Op

namespace Go.Proofs.YteimilnecahifaaGreatDoor.Op
open Go.RowKit Go.Maps

/-- What a map of letters holds behind the first k bytes of a spec. -/
def letF (spec : ByteArray) (k : Nat) (c : UInt8) : Option Value := if c = 58 ∨ c = 45 then none else if c ∈ spec.data.toList.take k then some (.int .i64 (kindL c spec.data.toList)) else none
theorem letF_all (spec : ByteArray) (c : UInt8) : letF spec spec.size c = if kindS spec c = 0 then none else some (.int .i64 (kindS spec c)) := by
  unfold letF kindS
  by_cases h : c = 58 ∨ c = 45
  · rw [if_pos h, if_pos h]; rfl
  · rw [if_neg h, if_neg h, List.take_of_length_le (show spec.data.toList.length ≤ spec.size from Nat.le_refl _)]
    by_cases hm : c ∈ spec.data.toList
    · rw [if_pos hm, if_neg (kindL_mem hm)]
    · rw [if_neg hm, if_pos (kindL_not hm)]
theorem letF_no {spec : ByteArray} {k : Nat} (h : k < spec.size) (hc : spec[k] = 58 ∨ spec[k] = 45) : letF spec (k + 1) = letF spec k := by
  funext c
  unfold letF
  by_cases h2 : c = 58 ∨ c = 45
  · rw [if_pos h2, if_pos h2]
  · rw [if_neg h2, if_neg h2, List.take_succ_eq_append_getElem (show k < spec.data.toList.length from h)]
    have : c ≠ spec[k] := fun e => h2 (by rw [e]; exact hc)
    have e : c ∈ spec.data.toList.take k ++ [spec.data.toList[k]'h] ↔ c ∈ spec.data.toList.take k := by
      rw [List.mem_append, List.mem_singleton]
      exact ⟨fun h => h.resolve_right this, .inl⟩
    simp only [e]
theorem letF_again {spec : ByteArray} {k : Nat} (h : k < spec.size) (hs : (letF spec k spec[k]).isSome = true) : letF spec (k + 1) = letF spec k := by
  funext c
  unfold letF at *
  by_cases h2 : c = 58 ∨ c = 45
  · rw [if_pos h2, if_pos h2]
  · rw [if_neg h2, if_neg h2, List.take_succ_eq_append_getElem (show k < spec.data.toList.length from h)]
    have hm : spec[k] ∈ spec.data.toList.take k := by
      by_cases h3 : spec[k] = 58 ∨ spec[k] = 45
      · rw [if_pos h3] at hs; cases hs
      · rw [if_neg h3] at hs
        by_cases h4 : spec[k] ∈ spec.data.toList.take k
        · exact h4
        · rw [if_neg h4] at hs; cases hs
    have e : c ∈ spec.data.toList.take k ++ [spec.data.toList[k]'h] ↔ c ∈ spec.data.toList.take k := by
      rw [List.mem_append, List.mem_singleton]
      exact ⟨fun h => h.elim id fun e => by rw [e]; exact hm, .inl⟩
    simp only [e]
theorem letF_new {spec : ByteArray} {k : Nat} (h : k < spec.size) (hc : ¬ (spec[k] = 58 ∨ spec[k] = 45)) :
    letF spec (k + 1) = fun d => if d = spec[k] then some (.int .i64 (kindL spec[k] spec.data.toList)) else letF spec k d := by
  funext c
  by_cases e : c = spec[k]
  · rw [if_pos e, e]
    unfold letF
    rw [if_neg hc, if_pos]
    rw [List.take_succ_eq_append_getElem (show k < spec.data.toList.length from h)]
    exact List.mem_append.2 (.inr (List.mem_singleton.2 rfl))
  · rw [if_neg e]
    unfold letF
    by_cases h2 : c = 58 ∨ c = 45
    · rw [if_pos h2, if_pos h2]
    · rw [if_neg h2, if_neg h2, List.take_succ_eq_append_getElem (show k < spec.data.toList.length from h)]
      have e3 : c ∈ spec.data.toList.take k ++ [spec.data.toList[k]'h] ↔ c ∈ spec.data.toList.take k := by
        rw [List.mem_append, List.mem_singleton]
        exact ⟨fun h => h.resolve_right e, .inl⟩
      simp only [e3]
theorem letF_val {spec : ByteArray} {k : Nat} (h : k < spec.size) (hs : (letF spec k spec[k]).isSome = false) (hc : ¬ (spec[k] = 58 ∨ spec[k] = 45)) : kindL spec[k] spec.data.toList = if (spec.data.toList.drop (k + 1)).head? = some 58 then 2 else 1 := by
  unfold letF at hs
  rw [if_neg hc] at hs
  have hm : spec[k] ∉ spec.data.toList.take k := fun hm => by rw [if_pos hm] at hs; cases hs
  rw [kindL_at spec[k] spec.data.toList k (fun j hj e => hm (by
    have := List.mem_iff_getElem?.2 ⟨j, (List.getElem?_take (l := spec.data.toList) (i := k) (j := j)).trans (by rw [if_pos hj]; exact e)⟩
    exact this)), by_drop spec k h, kindL, if_pos rfl]

theorem zeroKind (w : World) : (zeroValue 278).run Tryz.prog w = .ok (.int .i64 0) w := by kernel_rfl
theorem letF_kind {spec : ByteArray} {k : Nat} (h : k < spec.size) (hs : (letF spec k spec[k]).isSome = true) : ∃ m : Nat, m ≠ 0 ∧ m ≤ 2 ∧ letF spec k spec[k] = some (.int .i64 m) := by
  unfold letF at *
  by_cases h3 : spec[k] = 58 ∨ spec[k] = 45
  · rw [if_pos h3] at hs; cases hs
  · rw [if_neg h3] at hs ⊢
    by_cases h4 : spec[k] ∈ spec.data.toList.take k
    · rw [if_pos h4]
      exact ⟨_, kindL_mem (List.mem_of_mem_take h4), kindL_le _ _, rfl⟩
    · rw [if_neg h4] at hs; cases hs
theorem two_puts {f : UInt8 → Option Value} {c : UInt8} {v v' : Value} : (fun d => if d = c then some v' else (fun d => if d = c then some v else f d) d) = fun d => if d = c then some v' else f d := by
  funext d
  by_cases h : d = c <;> simp [h]

set_option maxHeartbeats 2000000 in
set_option maxRecDepth 100000 in
theorem letters_c (spec : ByteArray) (w : World) (hs : spec.size ≤ 2097152) :
    Calls Tryz.prog 178 #[.string spec] w fun e w' => e = .returned (.map (some w.heap.size)) ∧ (∃ n, MapAt w' w.heap.size n (letF spec spec.size)) ∧ Below w.heap.size w w' := by
  have HT := Lib.hid Tryz.underlying276
  have hmk : ∀ u : World, (Instr.makeMap 276 none).run Tryz.prog u = .ok (.map (some u.heap.size)) (u.alloc (.map #[] 0)) := fun _ => rfl
  go_enter Tryz.func178, Tryz.ntmps178
  go_wp2
  go_loopw [9] (fun i wr => ∃ (k n : Nat), k ≤ spec.size ∧ n ≤ 2 * k ∧ i = .int .i64 k ∧ Hid (MapAt wr w.heap.size n (letF spec k)) ∧ Below w.heap.size w wr) (fun i _ => spec.size - (intOf i).toNat)
  case atStart => exact ⟨0, 0, by omega, by omega, rfl, by have := MapAt.made w; rwa [show (fun _ => none) = letF spec 0 from funext fun c => by simp [letF]] at this, (Below.refl _ _).alloc (Nat.le_refl _) _⟩
  case round =>
    obtain ⟨k, n, hk, hn, rfl, HM, hbl⟩ := hrel
    by_cases hlt : k < spec.size
    · by_cases hc : spec[k] = 58 ∨ spec[k] = 45
      · have HM2 := HM.out
        rw [← letF_no hlt hc] at HM2
        have HM3 := Lib.hid HM2
        clear HM2
        rcases hc with h | h
        · have b1 : ((spec[k].toNat : Int) == 58) = true := by rw [h]; rfl
          clear h
          go_wp2
          exact ⟨⟨k + 1, n, by omega, by omega, by go_num, HM3, hbl⟩, by simp [intOf]; omega⟩
        · have b1 : ((spec[k].toNat : Int) == 58) = false := by rw [h]; rfl
          have b2 : ((spec[k].toNat : Int) == 45) = true := by rw [h]; rfl
          clear h
          go_wp2
          exact ⟨⟨k + 1, n, by omega, by omega, by go_num, HM3, hbl⟩, by simp [intOf]; omega⟩
      · have b1 : ((spec[k].toNat : Int) == 58) = false := u8_no 58 (by omega) (fun e => hc (.inl e))
        have b2 : ((spec[k].toNat : Int) == 45) = false := u8_no 45 (by omega) (fun e => hc (.inr e))
        have hlk := HM.out.look1 HT.out (zeroKind wr) spec[k]
        by_cases hso : (letF spec k spec[k]).isSome = true
        · have HM2 := HM.out
          rw [← letF_again hlt hso] at HM2
          have HM3 := Lib.hid HM2
          obtain ⟨m, hm0, hm2, hmm⟩ := letF_kind hlt hso
          rw [hmm, Option.getD_some] at hlk
          have b3 : ((m : Int) != 0) = true := by simp; omega
          clear HM2 hso hc hmm
          go_wp2
          exact ⟨⟨k + 1, n, by omega, by omega, by go_num, HM3, hbl⟩, by simp [intOf]; omega⟩
        · have hso' : (letF spec k spec[k]).isSome = false := by simpa using hso
          have hno : letF spec k spec[k] = none := by simpa using hso'
          rw [hno, Option.getD_none] at hlk
          have hval := letF_val hlt hso' hc
          have hnew := letF_new hlt hc
          obtain ⟨w2, hup, hm2, hg2⟩ := HM.out.put HT.out (by unfold maxLen; omega) spec[k] (.int .i64 1)
          have hbl2 : Below w.heap.size w w2 := hbl.grown hg2 hbl.size (fun j ej => by cases ej; exact Nat.le_refl _)
          have hpr := fun u => pref2_c (spec.extract (k + 1) spec.size) 58 u (by simp; omega)
          have hex : (spec.extract (k + 1) spec.size).data.toList = spec.data.toList.drop (k + 1) := by rw [by_tail]
          rw [hex] at hpr
          have hw1 : IntKind.i64.wrap ((k : Int) + 1) = (k : Int) + 1 := IntWalk.i64_in _ (by omega)
          by_cases hy : (spec.data.toList.drop (k + 1)).head? = some 58
          · rw [if_pos hy] at hval
            rw [hval] at hnew
            simp only [hy, decide_true] at hpr
            obtain ⟨w3, hup3, hm3, hg3⟩ := hm2.put HT.out (by unfold maxLen; omega) spec[k] (.int .i64 2)
            rw [two_puts] at hm3
            have HM3 : Hid (MapAt w3 w.heap.size (n + 1 + 1) (letF spec (k + 1))) := by show MapAt _ _ _ _; rw [hnew]; exact hm3
            have hbl3 : Below w.heap.size w w3 := hbl2.grown hg3 hbl2.size (fun j ej => by cases ej; exact Nat.le_refl _)
            clear hy hval hnew hm2 hg2 hso hso' hc hm3 hg3 hno hex
            go_wp2_with (go_at_call 152; refine (hpr _).mono ?_; rintro e w1 ⟨rfl, rfl⟩)
            exact ⟨⟨k + 1, n + 1 + 1, by omega, by omega, by go_num, HM3, hbl3⟩, by simp [intOf]; omega⟩
          · rw [if_neg hy] at hval
            rw [hval] at hnew
            simp only [hy, decide_false] at hpr
            have HM3 : Hid (MapAt w2 w.heap.size (n + 1) (letF spec (k + 1))) := by show MapAt _ _ _ _; rw [hnew]; exact hm2
            clear hy hval hnew hm2 hg2 hso hso' hc hno hex
            go_wp2_with (go_at_call 152; refine (hpr _).mono ?_; rintro e w1 ⟨rfl, rfl⟩)
            exact ⟨⟨k + 1, n + 1, by omega, by omega, by go_num, HM3, hbl2⟩, by simp [intOf]; omega⟩
    · obtain rfl : k = spec.size := by omega
      have hkI : ¬ ((spec.size : Int) < (spec.size : Int)) := by omega
      go_wp2
      go_ret
      exact ⟨rfl, ⟨n, HM.out⟩, hbl⟩
end Go.Proofs.YteimilnecahifaaGreatDoor.Op

namespace Go.Proofs.YteimilnecahifaaGreatDoor.Op
open Go.RowKit Go.Maps

theorem own_less {w : World} {base base' e s n : Nat} {v : Value} {xs : List Value} (h : w.ownsRow base e s v n xs) (hb : base' ≤ base) : w.ownsRow base' e s v n xs := by
  refine ⟨h.1, ?_⟩
  rcases h.2 with h | ⟨g, cap, cur, h1, h2, h3⟩
  · exact .inl h
  · exact .inr ⟨g, cap, cur, h1, Nat.le_trans hb h2, h3⟩
theorem told_end {w w1 wr w2 : World} {lv ov : Value} {l : Opts} {o : List ByteArray} (hb1 : Below w.heap.size w w1) (hb : Below w1.heap.size w1 wr) (hO : OptsAt wr w1.heap.size lv l) (hr : w2.ownsRow wr.heap.size 9 1 ov (0 + o.length) ([] ++ o.map .string)) (hg : wr.grownBy w2 none) :
    ToldC w (some (l, o)) (.returned (.tuple #[lv, ov, .int .i64 0])) w2 ∧ Below w.heap.size w w2 := by
  have h1 := hb1.size
  have h2 := hb.size
  have hb2 : Below wr.heap.size wr w2 := (Below.refl _ _).grown hg (Nat.le_refl _) (fun j ej => by cases ej)
  have hr' : w2.ownsRow wr.heap.size 9 1 ov o.length (o.map .string) := by simpa using hr
  exact ⟨⟨lv, ov, rfl, own_less (own_below hO hb2) h1, strs_own hr', .inr (own_less hr' (by omega))⟩, (hb1.trans (hb.mono h1)).trans (hb2.mono (by omega))⟩
theorem strs_slice {w : World} {v : Value} {ss : List ByteArray} (h : StrsAt w v ss) : ∃ x c, v = .slice x ss.length c := by
  rcases h with ⟨rfl, rfl⟩ | ⟨b, off, cap, rfl, _⟩
  · exact ⟨none, 0, rfl⟩
  · exact ⟨_, cap, rfl⟩
theorem strs_nth {w : World} {x : Option Addr} {n c k : Nat} {ss : List ByteArray} (h : StrsAt w (.slice x n c) ss) (hk : k < n) : ∃ b off, x = some ⟨b, off, none⟩ ∧ n ≤ c ∧ c ≤ 9223372036854775807 ∧ b < w.heap.size ∧ w.cell? ⟨b, off + k, none⟩ = some (.string (nth ss k)) := by
  rcases h with ⟨h, rfl⟩ | ⟨b, off, cap, h, h2, h3, h4⟩
  · cases h; omega
  · cases h; exact ⟨b, off, rfl, h2.1, h2.2, h3, h4 k hk⟩
theorem slice_from {w : World} {x : Option Addr} {n cv k : Nat} {ss : List ByteArray} (hn : n = ss.length) (h : StrsAt w (.slice x n cv) ss) (hk : k ≤ n) :
    ∃ y c, (∀ u : World, (Instr.sliceAt 32 (.slice x n cv) (some (.int .i64 k)) none none).run Tryz.prog u = .ok (.slice y (n - k) c) u) ∧ StrsAt w (.slice y (n - k) c) (ss.drop k) := by
  have u22 := Tryz.underlying32
  have z9 := Tryz.sizeOf9
  rcases h with ⟨h, rfl⟩ | ⟨b, off, cap, h, ⟨h1, h2⟩, h3, h4⟩
  · cases h
    obtain rfl : k = 0 := by omega
    refine ⟨none, 0, fun u => ?_, .inl ⟨by simp, by simp⟩⟩
    simp [Instr.sliceAt, go_sem, z9]
  · cases h
    by_cases hc : cv = k
    · subst hc
      have e : ss.length - cv = 0 := by omega
      have e1 : cv = ss.length := by omega
      refine ⟨some ⟨b, off, none⟩, 0, fun u => ?_, ?_⟩
      · subst e1
        simp [Instr.sliceAt, go_sem, z9]
      · rw [e]
        exact strs_end rfl (by omega) h3
    · refine ⟨some ⟨b, off + k, none⟩, cv - k, fun u => ?_, strs_cut rfl hk h1 h2 h3 h4⟩
      have e2 : (k : Int) ≤ (ss.length : Int) := by omega
      have e3 : ¬ cv - k = 0 := by omega
      simp [Instr.sliceAt, go_sem, z9, e2, hc]
theorem tot_drop (l : List ByteArray) (k : Nat) (h : k < l.length) : tot (l.drop k) = (nth l k).size + tot (l.drop (k + 1)) := by rw [drop_nth l k h, tot_cons]
theorem isOp_ne {a : ByteArray} (h : IsOp a) : a ≠ dashes := by
  rintro rfl
  rcases h with h | h
  · exact absurd h (by decide)
  · exact h rfl
theorem ne_dash {a : ByteArray} (h : a.data.toList ≠ [45]) : (a.toList == [45]) = false := by rw [beq_eq_false_iff_ne, ByteArray.toList_eq]; exact h
theorem dashes_of {a : ByteArray} (h0 : a.data.toList.head? = some 45) (h : a.data.toList.drop 1 = [45]) : a = dashes := by
  cases a with | mk d =>
  simp only [dashes]; congr; rw [← Array.toList_inj]
  generalize d.toList = l at *
  match l, h0, h with
  | x :: r, h0, h => simp at h0 h; rw [h0, h]

set_option maxHeartbeats 4000000 in
set_option maxRecDepth 100000 in
theorem parse_c (v : Value) (args : List ByteArray) (spec : ByteArray) (w : World) (hs : spec.size ≤ 2097152) (ht : tot args ≤ 2097152) (hlen : args.length ≤ 2097152) (hA : StrsAt w v args) :
    Calls Tryz.prog 147 #[v, .string spec] w fun e w' => ToldC w (parseS spec [] args) e w' ∧ Below w.heap.size w w' := by
  obtain ⟨i0, hi, hz0, hz1, hz2⟩ := info_parts2 info_opt
  obtain ⟨R, hR⟩ : ∃ R, R = parseS spec [] args := ⟨_, rfl⟩
  rw [← hR]
  obtain ⟨xv, cv, rfl⟩ := strs_slice hA
  have HR : Hid (R = parseS spec [] (args.drop 0)) := by rw [List.drop_zero]; exact Lib.hid hR
  have HT : Hid (([] : Opts).length + tot (args.drop 0) ≤ 2097152) := by rw [List.drop_zero]; exact Lib.hid (by simpa using ht)
  have HU := Lib.hid Tryz.underlying276
  have HA := Lib.hid hA
  generalize hn : args.length = n at hlen HA ⊢
  have HN := Lib.hid hn
  clear ht hA hR hn
  go_enter Tryz.func147, Tryz.ntmps147
  go_wp2_with fail
  go_step3
  go_wp2_with (go_at_call 178; refine (letters_c spec w hs).mono ?_; rintro e w1 ⟨rfl, ⟨nm, hM1⟩, hb1⟩)
  go_step3
  go_wp2_with fail
  have HM1 := Lib.hid hM1
  have HB1 := Lib.hid hb1
  have HA1 : Hid (StrsAt w1 (.slice xv n cv) args) := HA.out.below hb1
  clear hM1 hb1 HA
  go_loopw [8, 9] (fun lv kv wr => ∃ (l : Opts) (k : Nat), k ≤ n ∧ kv = .int .i64 k ∧ Hid (R = parseS spec l (args.drop k)) ∧ Hid (l.length + tot (args.drop k) ≤ 2097152) ∧ Hid (OptsAt wr w1.heap.size lv l) ∧ Hid (Below w1.heap.size w1 wr)) (fun _ kv _ => n - (intOf kv).toNat)
  case atStart => exact ⟨[], 0, by omega, rfl, HR, HT, World.ownsRow_nil _ _ _ _, Below.refl _ _⟩
  case round =>
    obtain ⟨l, k, hk, rfl, HI, HTl, HO, HB⟩ := hrel
    clear HR HT
    obtain ⟨x2, c2, hsl, hS2⟩ := slice_from HN.out.symm HA1.out hk
    have HS2 : Hid (StrsAt wr (.slice x2 (n - k) c2) (args.drop k)) := hS2.below HB.out
    clear hS2
    by_cases hlt : k < n
    · obtain ⟨b, off, rfl, hle, hcap, hbw, hc0⟩ := strs_nth HA1.out hlt
      have hcx : wr.cell? ⟨b, off + k, none⟩ = some (.string (nth args k)) := (HB.out.cell (p := ⟨b, off + k, none⟩) hbw).trans hc0
      have HJ := HI.out
      have HTt := HTl.out
      rw [tot_drop args k (by rw [HN.out]; exact hlt)] at HTt
      rw [drop_nth args k (by rw [HN.out]; exact hlt)] at HJ
      clear hc0 HI HTl
      have hda := drop_nth args k (by rw [HN.out]; exact hlt)
      generalize nth args k = a at hcx HJ HTt hda
      have hop := isOp_c a wr (by omega)
      by_cases ho : IsOp a
      · rw [parseS_stop _ _ _ _ (isOp_ne ho) ho, ← hda] at HJ
        have HJ' := Lib.hid HJ
        simp only [ho, decide_true] at hop
        clear HJ HTt ho hda
        go_wp2_with (first | (go_at_call 179; refine hop.mono ?_; rintro e wr ⟨rfl, rfl⟩) | (at_builtin; refine wpList_append_strs rfl _ _ rfl wr.heap.size _ 0 [] rfl (World.ownsRow_nil _ _ _ _) _ (args.drop k) rfl HS2.out (by rw [List.length_drop, HN.out]; omega) (Nat.le_refl _) ?_; intro v2 w2 hown2 hgrow2))
        rw [Exit.noGoto_ret]
        go_ret3
        have e := HJ'.out; subst e
        exact told_end HB1.out HB.out HO.out hown2 hgrow2
      · simp only [ho, decide_false] at hop
        have h2 : ¬ a.size < 2 := fun h => ho (.inl h)
        have hh : a.data.toList.head? = some 45 := Classical.byContradiction fun h => ho (.inr h)
        obtain ⟨k', hk'⟩ : ∃ k', k' = k + 1 := ⟨_, rfl⟩
        have HK : Hid (((k : Int) + 1) = (k' : Int)) := Lib.hid (by omega)
        rw [← hk'] at hda HJ HTt
        have hkn : k' ≤ n := by omega
        obtain ⟨x3, c3, hsl3, hS3⟩ := slice_from HN.out.symm HA1.out hkn
        have HS3 : Hid (StrsAt wr (.slice x3 (n - k') c3) (args.drop k')) := hS3.below HB.out
        clear hS3 HS2 hsl
        have hgl : (a.extract 1 a.size).data.toList = a.data.toList.drop 1 := by rw [by_tail]
        have hgz : (a.extract 1 a.size).size = a.size - 1 := by simp
        have hex : (1 : Int) ≤ (a.size : Int) := by omega
        rw [← HK.out] at hsl3
        have HKK := Lib.hid hk'
        have HGZ := Lib.hid hgz
        clear hk'
        by_cases hdd : a = dashes
        · rw [parseS_dd _ _ _ _ hdd] at HJ
          have HJ' := Lib.hid HJ
          have hge : ((a.extract 1 a.size).toList == [45]) = true := by rw [ByteArray.toList_eq, hgl, hdd]; rfl
          clear HJ HTt ho hda hh hgl hdd hgz
          go_wp2_with (first | (go_at_call 179; refine hop.mono ?_; rintro e wr ⟨rfl, rfl⟩) | (at_builtin; refine wpList_append_strs rfl _ _ rfl wr.heap.size _ 0 [] rfl (World.ownsRow_nil _ _ _ _) _ (args.drop k') rfl HS3.out (by rw [List.length_drop, HN.out]; omega) (Nat.le_refl _) ?_; intro v2 w2 hown2 hgrow2))
          rw [Exit.noGoto_ret]
          go_ret3
          have e := HJ'.out; subst e
          exact told_end HB1.out HB.out HO.out hown2 hgrow2
        · have hge : ((a.extract 1 a.size).toList == [45]) = false := ne_dash (fun e => hdd (dashes_of hh (hgl ▸ e)))
          rw [parseS_go _ _ _ _ hdd ho, ← hgl] at HJ
          have HTg : l.length + (a.extract 1 a.size).size + tot (args.drop k') ≤ 2097152 := by rw [hgz]; omega
          clear HTt ho hda hh hgl hdd hgz HS3 hsl3
          go_wp2_with (go_at_call 179; refine hop.mono ?_; rintro e wr ⟨rfl, rfl⟩)
          rw [← HGZ.out, HK.out]
          clear HGZ
          generalize a.extract 1 a.size = g at *
          have HJ' : Hid (R = goS spec l (g.data.toList.drop 0) (args.drop k')) := HJ
          have HT' : Hid (l.length + (g.size - 0) + tot (args.drop k') ≤ 2097152) := HTg
          have hgs : g.size ≤ 2097152 := by omega
          clear HJ HTg hop hge hcx
          go_loopw [8, 9, 36] (fun lv kv mv wi => ∃ (m : Nat) (l' : Opts), m ≤ g.size ∧ mv = .int .i64 m ∧ kv = .int .i64 k' ∧ Hid (R = goS spec l' (g.data.toList.drop m) (args.drop k')) ∧ Hid (l'.length + (g.size - m) + tot (args.drop k') ≤ 2097152) ∧ Hid (OptsAt wi w1.heap.size lv l') ∧ Hid (Below w1.heap.size w1 wi)) (fun _ _ mv _ => g.size - (intOf mv).toNat)
          case atStart => exact ⟨0, l, by omega, rfl, rfl, HJ', HT', HO, HB⟩
          case round =>
            obtain ⟨m, l', hm, rfl, rfl, HI, HM, HO2, HB2⟩ := hrel
            clear HJ' HT' HO HB
            by_cases hml : m < g.size
            · have HJ := HI.out
              have HT := HM.out
              rw [by_drop g m hml] at HJ
              have hll : l'.length ≤ 2097152 := by omega
              clear HI HM
              have hlk := (HM1.out.below HB2.out).look1 HU.out (zeroKind wr) g[m]
              rw [letF_all] at hlk
              by_cases hk0 : kindS spec g[m] = 0
              · rw [goS_0 hk0] at HJ
                rw [hk0] at hlk
                simp only [if_pos, Option.getD_none] at hlk
                have HJ' := Lib.hid HJ
                clear HJ HT hk0
                go_wp2_with fail
                rw [Exit.noGoto_ret]
                go_ret3
                have e := HJ'.out; subst e
                exact ⟨⟨_, _, rfl, World.ownsRow_nil _ _ _ _, .inl ⟨rfl, rfl⟩, .inl rfl⟩, HB1.out.trans (HB2.out.mono HB1.out.size)⟩
              by_cases hk1 : kindS spec g[m] = 1
              · rw [goS_1 hk1] at HJ
                rw [hk1] at hlk
                simp only [Nat.one_ne_zero, if_false, Option.getD_some] at hlk
                have HJ' := Lib.hid HJ
                have HT' : Hid ((l' ++ [(g[m], (⟨#[]⟩ : ByteArray))]).length + (g.size - (m + 1)) + tot (args.drop k') ≤ 2097152) := by show _ ≤ _; rw [List.length_append, List.length_singleton]; omega
                clear HJ HT hk0 hk1
                go_wp2_with (at_builtin; refine wpList_append_own _ rfl _ _ 175 rfl w1.heap.size 280 i0 (.agg #[.int .u8 0, .string ⟨#[]⟩]) 2 24 Tryz.underlying175 hi hz0 hz1 hz2 rfl (by decide) _ _ _ rfl (HO2.out.alloc _) ⟨wr.heap.size, 0, none⟩ 1 1 [.int .u8 (g[m].toNat : Int), .string ⟨#[]⟩] rfl rfl (cell_two_new _ _ _ _) (by simp [Value.oneCell']) (by unfold maxLen; omega) (by omega) (by have := HB2.out.size; simp; omega) ?_; intro v2 w2 hown2 hgrow2 _)
                have hbw2 : Below w1.heap.size w1 w2 := (HB2.out.alloc HB2.out.size _).grown hgrow2 (by have := HB2.out.size; simp; omega) (fun j ej => own_ge2 HO2.out j ej)
                exact ⟨⟨m + 1, _, by omega, by go_num, rfl, HJ', HT', opts_snoc hown2, hbw2⟩, by simp [intOf]; omega⟩
              · have hk2 : kindS spec g[m] = 2 := by have := kindS_le spec g[m]; omega
                rw [hk2] at hlk
                simp only [if_false, Option.getD_some, show ¬ (2 : Nat) = 0 from by decide] at hlk
                have hm1 : IntKind.i64.wrap ((m : Int) + 1) = (m : Int) + 1 := IntWalk.i64_in _ (by omega)
                by_cases hm2 : m + 1 < g.size
                · rw [goS_2 hk0 hk1 (by rw [by_drop g (m + 1) hm2]; simp), ← by_tail g (m + 1)] at HJ
                  have HJ' := Lib.hid HJ
                  have HT' : Hid ((l' ++ [(g[m], g.extract (m + 1) g.size)]).length + tot (args.drop k') ≤ 2097152) := by show _ ≤ _; rw [List.length_append, List.length_singleton]; omega
                  have hne : ((g.extract (m + 1) g.size).toList == []) = false := by
                    rw [beq_eq_false_iff_ne, ByteArray.toList_eq, by_tail]
                    show g.data.toList.drop (m + 1) ≠ []
                    rw [by_drop g (m + 1) hm2]; simp
                  have hw2 : 0 ≤ (m : Int) + 1 ∧ (m : Int) + 1 ≤ (g.size : Int) := by omega
                  have hw3 : ((m : Int) + 1).toNat = m + 1 := by omega
                  clear HJ HT hk0 hk1 hk2
                  go_wp2_with (at_builtin; refine wpList_append_own _ rfl _ _ 175 rfl w1.heap.size 280 i0 (.agg #[.int .u8 0, .string ⟨#[]⟩]) 2 24 Tryz.underlying175 hi hz0 hz1 hz2 rfl (by decide) _ _ _ rfl (HO2.out.alloc _) ⟨wr.heap.size, 0, none⟩ 1 1 [.int .u8 (g[m].toNat : Int), .string (g.extract (m + 1) g.size)] rfl rfl (cell_two_new _ _ _ _) (by simp [Value.oneCell']) (by unfold maxLen; omega) (by omega) (by have := HB2.out.size; simp; omega) ?_; intro v2 w2 hown2 hgrow2 _)
                  have hbw2 : Below w1.heap.size w1 w2 := (HB2.out.alloc HB2.out.size _).grown hgrow2 (by have := HB2.out.size; simp; omega) (fun j ej => own_ge2 HO2.out j ej)
                  exact ⟨⟨_, k', hkn, rfl, HJ', HT', opts_snoc hown2, hbw2⟩, by have := HKK.out; simp [intOf]; omega⟩
                · have hme : m + 1 = g.size := by omega
                  rw [by_drop_end g (m + 1) (by omega)] at HJ
                  have hemp : ((g.extract (m + 1) g.size).toList == []) = true := by
                    rw [ByteArray.toList_eq, by_tail]
                    show (g.data.toList.drop (m + 1) == []) = true
                    rw [by_drop_end g (m + 1) (by omega)]; rfl
                  have hw2 : 0 ≤ (m : Int) + 1 ∧ (m : Int) + 1 ≤ (g.size : Int) := by omega
                  have hw3 : ((m : Int) + 1).toNat = m + 1 := by omega
                  by_cases hkl : k' < n
                  · obtain ⟨b2, off2, hx, _, _, _, hc2⟩ := strs_nth HA1.out hkl
                    cases hx
                    have hcx2 : wr.cell? ⟨b, off + k', none⟩ = some (.string (nth args k')) := (HB2.out.cell (p := ⟨b, off + k', none⟩) hbw).trans hc2
                    rw [drop_nth args k' (by rw [HN.out]; exact hkl), goS_4 hk0 hk1] at HJ
                    rw [tot_drop args k' (by rw [HN.out]; exact hkl)] at HT
                    clear hc2
                    generalize nth args k' = sj at hcx2 HJ HT
                    have HJ' := Lib.hid HJ
                    have HT' : Hid ((l' ++ [(g[m], sj)]).length + tot (args.drop (k' + 1)) ≤ 2097152) := by show _ ≤ _; rw [List.length_append, List.length_singleton]; omega
                    have hkq : ¬ ((k' : Int) = (n : Int)) := by omega
                    clear HJ HT hk0 hk1 hk2 hme
                    go_wp2_with (at_builtin; refine wpList_append_own _ rfl _ _ 175 rfl w1.heap.size 280 i0 (.agg #[.int .u8 0, .string ⟨#[]⟩]) 2 24 Tryz.underlying175 hi hz0 hz1 hz2 rfl (by decide) _ _ _ rfl (HO2.out.alloc _) ⟨wr.heap.size, 0, none⟩ 1 1 [.int .u8 (g[m].toNat : Int), .string sj] rfl rfl (cell_two_new _ _ _ _) (by simp [Value.oneCell']) (by unfold maxLen; omega) (by omega) (by have := HB2.out.size; simp; omega) ?_; intro v2 w2 hown2 hgrow2 _)
                    have hbw2 : Below w1.heap.size w1 w2 := (HB2.out.alloc HB2.out.size _).grown hgrow2 (by have := HB2.out.size; simp; omega) (fun j ej => own_ge2 HO2.out j ej)
                    exact ⟨⟨_, k' + 1, hkl, by go_num, HJ', HT', opts_snoc hown2, hbw2⟩, by have := HKK.out; simp [intOf]; omega⟩
                  · obtain rfl : k' = n := by omega
                    rw [List.drop_eq_nil_of_le (by rw [HN.out]; omega), goS_3 hk0 hk1] at HJ
                    have HJ' := Lib.hid HJ
                    clear HJ HT hk0 hk1 hk2 hme
                    go_wp2_with fail
                    rw [Exit.noGoto_ret]
                    go_ret3
                    have e := HJ'.out; subst e
                    exact ⟨⟨_, _, rfl, World.ownsRow_nil _ _ _ _, .inl ⟨rfl, rfl⟩, .inl rfl⟩, HB1.out.trans (HB2.out.mono HB1.out.size)⟩
            · have HJ := HI.out
              have HT := HM.out
              obtain rfl : m = g.size := by omega
              rw [by_drop_end g g.size (Nat.le_refl _), goS_nil] at HJ
              have HJ' := Lib.hid HJ
              have HT' : Hid (l'.length + tot (args.drop k') ≤ 2097152) := by show _ ≤ _; omega
              have hI : ¬ ((g.size : Int) < (g.size : Int)) := by omega
              clear HI HM HJ HT
              go_wp2
              exact ⟨⟨l', k', hkn, rfl, HJ', HT', HO2, HB2⟩, by have := HKK.out; simp [intOf]; omega⟩
    · obtain rfl : k = n := by omega
      have HJ : Hid (R = some (l, args.drop k)) := by have := HI.out; rw [List.drop_eq_nil_of_le (by rw [HN.out]; omega), parseS_nil] at this; rw [List.drop_eq_nil_of_le (by rw [HN.out]; omega)]; exact Lib.hid this
      have hI : ¬ ((k : Int) < (k : Int)) := by omega
      rw [Nat.sub_self] at hsl
      have HS3 : Hid (StrsAt wr (.slice x2 0 c2) (args.drop k)) := by have := HS2.out; rw [Nat.sub_self] at this; exact this
      clear HI HTl HS2
      go_wp2_with (at_builtin; refine wpList_append_strs rfl _ _ rfl wr.heap.size _ 0 [] rfl (World.ownsRow_nil _ _ _ _) _ (args.drop k) rfl HS3.out (by rw [List.length_drop, HN.out]; omega) (Nat.le_refl _) ?_; intro v2 w2 hown2 hgrow2)
      go_ret3
      have e := HJ.out; subst e
      exact told_end HB1.out HB.out HO.out hown2 hgrow2
end Go.Proofs.YteimilnecahifaaGreatDoor.Op
