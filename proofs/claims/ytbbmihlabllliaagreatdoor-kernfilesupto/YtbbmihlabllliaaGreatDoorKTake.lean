/- Bytes that are taken out of a pipe, or off a source. -/
import Derived.Lib.OwnBridge
import Derived.Deep.DeepFit
import Derived.Test.YtbbmihlabllliaaGreatDoorKMay
import Derived.Test.YtbbmihlabllliaaGreatDoorFile
namespace Go.Proofs.YtbbmihlabllliaaGreatDoor
open Go.RowKit Go.Shelf Go.Maps

theorem Turn.put {α : Type} [Inhabited α] (enc : α → Value) (w : World) (q g : Nat) (d : Array α) : Turn [g] w (Sort.putRow enc (Sort.ahead w q) g 0 d) :=
  ⟨rfl, rfl, rfl, by simp [Sort.putRow, Sort.mapBlock, Sort.ahead], fun k _ hk => by
    have hne : g ≠ k := fun e => hk (by simp [e])
    simp [Sort.putRow, Sort.mapBlock, Sort.ahead, Array.getElem?_modify, hne]⟩
theorem info5s : ∃ i0, Tryz.prog.info? 5 = some i0 ∧ i0.size = 1 := by
  have h := infosz5
  cases hj : Tryz.prog.info? 5 with
  | none => rw [hj] at h; cases h
  | some j => rw [hj] at h; exact ⟨j, rfl, by simpa using h⟩

theorem del_c (base g cap n : Nat) (d : List UInt8) (w : World) (ho : w.ownsRow base 5 1 (.slice (some ⟨g, 0, none⟩) d.length cap) d.length (u8s d)) (hn : n ≤ d.length) :
    Calls Tryz.prog 142 #[.slice (some ⟨g, 0, none⟩) d.length cap, .int .i64 0, .int .i64 n] w fun e w' => e = .returned (.slice (some ⟨g, 0, none⟩) (d.length - n) cap) ∧ w'.ownsRow base 5 1 (.slice (some ⟨g, 0, none⟩) (d.length - n) cap) (d.length - n) (u8s (d.drop n)) ∧ Turn [g] w w' := by
  obtain ⟨i0, hi0, hz1⟩ := info5s
  obtain ⟨g', cap', e0, hb, hlt, hn1, hm, hl, hH⟩ := Lib.holds_of_ownsRow (zs := d) (enc := fun c => Value.int .u8 (c.toNat : Int)) ho (by simp)
  obtain ⟨rfl, rfl⟩ : g = g' ∧ cap = cap' := by injection e0 with e1 _ e3; injection e1 with e1; injection e1 with e1; exact ⟨e1, e3⟩
  refine (AnyE.slices_Delete Tryz.delB (fun c : UInt8 => Value.int .u8 (c.toNat : Int)) (fun _ => rfl) 0 Tryz.zeroValue5 i0 hi0 hz1 g 0 cap 0 n d.toArray w hH (by simpa using hn1) hm (Nat.zero_le _) (by simpa using hn)).mono ?_
  rintro e w' ⟨rfl, q, rfl⟩
  refine ⟨by simp, ?_, Turn.put _ w q g _⟩
  have h := Lib.ownsRow_putRow (q := q) (k := d.length - n) (ys := d.drop n ++ List.replicate n 0) ho (by simp; omega) (by omega)
  have e1 : (d.drop n ++ List.replicate n 0).take (d.length - n) = d.drop n := by
    rw [List.take_append_of_le_length (by simp), List.take_of_length_le (by simp)]
  rw [e1] at h
  simpa [u8s] using h

set_option maxHeartbeats 1000000 in
theorem del_nil (w : World) :
    Calls Tryz.prog 142 #[.slice none 0 0, .int .i64 0, .int .i64 0] w fun e w' => e = .returned (.slice none 0 0) ∧ w' = w := by
  go_enter Tryz.func142, Tryz.ntmps142
  go_wp2
  go_ret
  exact ⟨rfl, rfl⟩

/-- A copy of the first bytes of a slice. -/
theorem bclone_c (b o n c : Nat) (d : List UInt8) (w : World) (hd : d.length = n) (hn : n ≤ 1073741824) (hc : ∀ j, j < n → w.cell? ⟨b, o + j, none⟩ = some (.int .u8 ((d[j]?.getD 0).toNat : Int))) :
    Calls Tryz.prog 57 #[.slice (some ⟨b, o, none⟩) n c] w fun e w' => ∃ v', e = .returned v' ∧ w'.ownsRow w.heap.size 5 1 v' n (u8s d) ∧ Below w.heap.size w w' := by
  refine (Tryz.bytes_Clone_at ⟨b, o, none⟩ n c (d.map fun x => (x.toNat : Int)) w (by simpa using hd) (by omega) (fun i hi => ?_)).mono ?_
  · rw [Addr.add_lit, hc i hi]
    simp [List.getD, show i < d.length by omega]
  · rintro e w' ⟨v', rfl, h1, _, h3⟩
    refine ⟨v', rfl, ?_, h3⟩
    have : (d.map fun x => (x.toNat : Int)).map (Value.int .u8) = u8s d := by simp [u8s, Function.comp_def]
    rw [← this]; exact h1

theorem row_split {w : World} {base n : Nat} {v : Value} {d : List UInt8} (h : w.ownsRow base 5 1 v n (u8s d)) : d.length = n ∧ ((v = .slice none 0 0 ∧ n = 0) ∨ ∃ g cap, v = .slice (some ⟨g, 0, none⟩) n cap ∧ base ≤ g ∧ g < w.heap.size ∧ n ≤ cap ∧ cap ≤ maxLen ∧ ∀ j, j < n → w.cell? ⟨g, j, none⟩ = some (.int .u8 ((d[j]?.getD 0).toNat : Int))) := by
  have hl : d.length = n := by have := h.1; rw [u8s_length] at this; omega
  refine ⟨hl, ?_⟩
  rcases h.2 with ⟨e0, h0⟩ | ⟨g, cap, cur, rfl, hb, hg, hn, hm, hs, ht⟩
  · exact .inl ⟨e0, h0⟩
  · refine .inr ⟨g, cap, rfl, hb, h_lt hg, hn, hm, fun j hj => h_cell hg j ?_⟩
    have e1 : (cur.toList.take (n * 1))[j]? = (u8s d)[j]? := by rw [ht]
    rw [List.getElem?_take, if_pos (by omega), Array.getElem?_toList] at e1
    rw [e1]
    simp [u8s, show j < d.length by omega]

set_option maxRecDepth 100000 in
set_option maxHeartbeats 400000 in
theorem take_re (k re we p base m : Nat) (v : Value) (rc : Int) (d : List UInt8) (w : World) (hR : ReAt w re rc p) (hP : PpAt w p v re we) (ho : w.ownsRow base 5 1 v d.length (u8s d)) (hd : d.length ≤ 64) (hm : m ≤ 1073741824) (hm0 : 0 < m) :
    Calls Tryz.prog 106 #[ptr k, iRe re, .int .i64 m] w fun e w' => ∃ v1 v2, e = .returned v1 ∧ w'.ownsRow w.heap.size 5 1 v1 (d.take m).length (u8s (d.take m)) ∧ PpAt w' p v2 re we ∧ w'.ownsRow base 5 1 v2 (d.drop m).length (u8s (d.drop m)) ∧ v2.ownBlock = v.ownBlock ∧ Turn (p :: v.ownBlock.toList) w w' := by
  have hr1 := h_cell hR 1 rfl
  have hp0 := h_cell hP 0 rfl
  have hpl := h_lt hP
  have hbp : v.ownBlock ≠ some p := row_ne ho hP (by decide)
  have t1 := ta_re_so; have t2 := ta_re_re
  rcases (row_split ho).2 with ⟨rfl, h0⟩ | ⟨g, cap, rfl, hb, hg, hn, hcm, hc⟩
  · obtain rfl : d = [] := List.eq_nil_of_length_eq_zero h0
    have hmin : min (m : Int) 0 = 0 := by omega
    have z0 := h_fz hP 0
    have HP := Lib.hid hP
    clear hP hR ho
    go_enter Tryz.func106, Tryz.ntmps106
    go_wp2_with (first
      | (go_at_call 57; refine (Tryz.bytes_Clone_nil _ _ _).mono ?_; rintro e w2 ⟨rfl, hw2⟩; rw [hw2]; clear hw2)
      | (go_at_call 142; refine (del_nil _).mono ?_; rintro e w3 ⟨rfl, hw3⟩; rw [hw3]; clear hw3))
    go_ret
    have hs := h_set HP.out 0 (.slice none 0 0)
    refine ⟨_, .slice none 0 0, rfl, ?_, by simpa using hs, ?_, rfl, Turn.set w p 0 _ (by simp)⟩
    · simpa [u8s] using World.ownsRow_nil _ _ _ _
    · simpa [u8s] using World.ownsRow_nil _ _ _ _
  · obtain ⟨n, hnd⟩ : ∃ n, n = min m d.length := ⟨_, rfl⟩
    obtain ⟨L, hL⟩ : ∃ L, d.length = L := ⟨_, rfl⟩
    rw [hL] at hn hc hp0 hbp hd hnd
    have hmin : min (m : Int) (L : Int) = (n : Int) := by omega
    have HND := Lib.hid hnd
    have hnL : n ≤ L := by omega
    have hbg : g ≠ p := fun e => hbp (by rw [e]; rfl)
    have H2 : ∀ w2, Below w.heap.size w w2 → PpAt w2 p (.slice (some ⟨g, 0, none⟩) L cap) re we ∧ w2.ownsRow base 5 1 (.slice (some ⟨g, 0, none⟩) L cap) L (u8s d) := fun w2 h2 => ⟨(h2.block p hpl).trans (by rw [hL] at hP; exact hP), by rw [hL] at ho; exact own_turn (S := []) ho (Turn.below h2) (by simp)⟩
    have HH2 := Lib.hid H2
    have hcl := bclone_c g 0 n cap (d.take n) w (by rw [List.length_take]; omega) (by omega) (fun j hj => by rw [Nat.zero_add, hc j (by omega), List.getElem?_take, if_pos hj])
    have HD := Lib.hid (fun w2 (h : w2.ownsRow base 5 1 (.slice (some ⟨g, 0, none⟩) L cap) L (u8s d)) => (show Calls Tryz.prog 142 #[.slice (some ⟨g, 0, none⟩) L cap, .int .i64 0, .int .i64 n] w2 _ from by have := del_c base g cap n d w2 (by rw [hL]; exact h) (by omega); rw [hL] at this; exact this))
    clear hP hR ho H2 hc hnd
    have hnc : ¬ (cap : Int) < (n : Int) := by omega
    go_enter Tryz.func106, Tryz.ntmps106
    go_wp2_with (first
      | (go_at_call 57; refine hcl.mono ?_; rintro e w2 ⟨v1, rfl, ho1, hB2⟩; obtain ⟨hP2, ho2⟩ := HH2.out w2 hB2; have p02 := h_cell hP2 0 rfl; have hdl := HD.out w2 ho2)
      | (go_at_call 142; refine hdl.mono ?_; rintro e w3 ⟨rfl, ho3, hT3⟩; have hP3 := hT3.ob hP2 (by simpa using fun e => hbg e.symm); have p03 := h_cell hP3 0 rfl; have z03 := h_fz hP3 0))
    go_ret
    have hnd := HND.out
    have htk : d.take m = d.take n := by
      by_cases h : m ≤ L
      · rw [show n = m by omega]
      · rw [List.take_of_length_le (by omega), List.take_of_length_le (by omega)]
    have hdr : d.drop m = d.drop n := by
      by_cases h : m ≤ L
      · rw [show n = m by omega]
      · rw [List.drop_eq_nil_of_le (by omega), List.drop_eq_nil_of_le (by omega)]
    have hU : Turn [p] w3 (w3.setCell ⟨p, 0, none⟩ (.slice (some ⟨g, 0, none⟩) (L - n) cap)) := Turn.set w3 p 0 _ (by simp)
    have hs := h_set hP3 0 (.slice (some ⟨g, 0, none⟩) (L - n) cap)
    have l1 : (d.take n).length = n := by rw [List.length_take]; omega
    have l2 : (d.drop n).length = L - n := by rw [List.length_drop]; omega
    refine ⟨v1, .slice (some ⟨g, 0, none⟩) (L - n) cap, rfl, ?_, by simpa using hs, ?_, rfl, ?_⟩
    · rw [htk, l1]
      refine own_turn (own_turn ho1 hT3 (fun g' hg' e => ?_)) hU (fun g' hg' e => ?_)
      · have := own_ge ho1 hg'; simp at e; omega
      · have := own_ge ho1 hg'; simp at e; omega
    · rw [hdr, l2]
      exact own_turn ho3 hU (fun g' hg' e => by simp [Value.ownBlock] at hg'; simp at e; omega)
    · have hS : Turn [p, g] w w3 := (Turn.below hB2).trans (hT3.mono (by simp))
      exact (hS.trans (hU.mono (by simp))).mono (by simp [Value.ownBlock])
end Go.Proofs.YtbbmihlabllliaaGreatDoor
